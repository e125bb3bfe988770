import PyProof.Rows.All
import Wide.All
import OpenK.AllK
import Wide.FinOn
import Lean
import PyProof.EqAt
import PyProof.EqKinds
import PyProof.TupleCall
import PyProof.AttrMissHeap
import PySem.Challenge.RW_smallrooms_k04_whole_measures
set_option Elab.async false
set_option linter.all false
set_option maxRecDepth 100000
set_option Elab.async false
set_option linter.all false
set_option maxRecDepth 100000
/-! THE HAND LAYER, for ints, bools, texts, own classes, LISTS and tuples (index, slices, in, append, pop ..), calls, loops. Paste it whole ahead of your own text; what your proof does not reach may be deleted. -/
namespace L2
open PySem PySem.Spec PyProof.Rows

/-- a key: an int or a str -/
abbrev Key := Sum Int Str
def keyIs : Key → Value → Bool
  | .inl k, v => Value.isInt k v
  | .inr x, v => Value.isStrOf x v
def keyH (w : World) : Key → Int
  | .inl k => hashInt k
  | .inr x => hashStr w x
theorem keyIs_shape : ∀ {k : Key} {v : Value}, keyIs k v = true → (∃ i t, k = Sum.inl i ∧ v = Value.int i t) ∨ (∃ x t, k = Sum.inr x ∧ v = Value.str x t)
  | .inl i, v, h => by
    obtain ⟨t, e⟩ := Value.isInt_shape (k := i) (v := v) h
    exact .inl ⟨i, t, rfl, e⟩
  | .inr x, v, h => by
    obtain ⟨t, e⟩ := Value.isStrOf_shape (x := x) (v := v) h
    exact .inr ⟨x, t, rfl, e⟩
theorem keyIs_int (i : Int) (t : Tok) : keyIs (.inl i) (.int i t) = true := by simp [keyIs, Value.isInt]
theorem keyIs_str (x : Str) (t : Tok) : keyIs (.inr x) (.str x t) = true := by simp [keyIs, Value.isStrOf]
theorem key_ll (a b : Int) : decide ((Sum.inl a : Key) = Sum.inl b) = (a == b) := by
  by_cases e : a = b
  · subst e; simp
  · have h : ¬ (Sum.inl a : Key) = Sum.inl b := fun q => e (Sum.inl.inj q)
    rw [decide_eq_false h]
    exact (beq_eq_false_iff_ne.mpr e).symm
theorem key_rr (a b : Str) : decide ((Sum.inr a : Key) = Sum.inr b) = decide (a = b) := by
  by_cases e : a = b
  · subst e; simp
  · have h : ¬ (Sum.inr a : Key) = Sum.inr b := fun q => e (Sum.inr.inj q)
    rw [decide_eq_false h, decide_eq_false e]
theorem key_lr (a : Int) (b : Str) : decide ((Sum.inl a : Key) = Sum.inr b) = false := decide_eq_false (fun q => nomatch q)
theorem key_rl (a : Str) (b : Int) : decide ((Sum.inr a : Key) = Sum.inl b) = false := decide_eq_false (fun q => nomatch q)

def mixKind (prog : Program) (w : World) : PySem.KeyKind prog w Key where
  is := keyIs
  hash := keyH w
  inj := fun v a b ha hb => by
    rcases keyIs_shape ha with ⟨i, t, rfl, rfl⟩ | ⟨x, t, rfl, rfl⟩
    · rcases keyIs_shape hb with ⟨j, u, rfl, e⟩ | ⟨y, u, rfl, e⟩
      · injection e with e1 _; rw [e1]
      · exact nomatch e
    · rcases keyIs_shape hb with ⟨j, u, rfl, e⟩ | ⟨y, u, rfl, e⟩
      · exact nomatch e
      · injection e with e1 _; rw [e1]
  byValue := fun k v h => by
    rcases keyIs_shape h with ⟨i, t, rfl, rfl⟩ | ⟨x, t, rfl, rfl⟩ <;> rfl
  pyHash := fun hv h => by
    rcases keyIs_shape hv with ⟨i, t, rfl, rfl⟩ | ⟨x, t, rfl, rfl⟩
    · exact wpAny_pyHash_int h
    · exact wpAny_pyHash_str h
  eqBool := fun hu hv h => by
    rcases keyIs_shape hu with ⟨i, t, rfl, rfl⟩ | ⟨x, t, rfl, rfl⟩
    · rcases keyIs_shape hv with ⟨j, u, rfl, rfl⟩ | ⟨y, u, rfl, rfl⟩
      · rw [key_ll] at h; exact wpAny_eqBool_int h
      · rw [key_lr] at h; exact SeqAt.EqAt.int_str i t y u _ _ _ _ h
    · rcases keyIs_shape hv with ⟨j, u, rfl, rfl⟩ | ⟨y, u, rfl, rfl⟩
      · rw [key_rl] at h; exact SeqAt.EqAt.str_int x t j u _ _ _ _ h
      · rw [key_rr] at h; exact wpAny_eqBool_str h
  «strs» := fun k x t v h => by
    rcases keyIs_shape h with ⟨i, u, rfl, e⟩ | ⟨y, u, rfl, e⟩
    · exact nomatch e
    · injection e with e1 _
      subst e1
      cases v <;> rfl

theorem mixKind_int (prog : Program) (w : World) (i : Int) (t : Tok) : (mixKind prog w).is (.inl i) (.int i t) = true := keyIs_int i t
theorem mixKind_str (prog : Program) (w : World) (x : Str) (t : Tok) : (mixKind prog w).is (.inr x) (.str x t) = true := keyIs_str x t
end L2

namespace L2
open PySem PySem.Spec PyProof.Rows

/-- a value, without the heap -/
inductive V where
  | non | bl (b : Bool) | int (i : Int) | str (x : Str) | byt (b : Array UInt8) | flt (b : UInt64) | ref (a : Addr) | ty (n : String)
  deriving DecidableEq

def RelV : V → Value → Prop
  | .non, u => u = Value.none
  | .bl b, u => u = Value.bool b
  | .int i, u => ∃ t, u = Value.int i t
  | .str x, u => ∃ t, u = Value.str x t
  | .byt b, u => ∃ t, u = Value.bytes b t
  | .flt b, u => ∃ t, u = Value.float b t
  | .ref a, u => u = Value.ref a
  | .ty n, u => u = Value.type n

abbrev Vals : List V → List Value → Prop := Paired RelV
theorem Vals.length {xs : List V} {us : List Value} (r : Vals xs us) : xs.length = us.length := Paired.length r
theorem Vals.get : ∀ {xs : List V} {us : List Value} {i : Nat} {x : V}, Vals xs us → xs[i]? = some x → ∃ u, us[i]? = some u ∧ RelV x u
  | _, _, _, _, .nil, e => by simp at e
  | _, _, 0, _, .cons r _, e => by simp at e; subst e; exact ⟨_, rfl, r⟩
  | _, _, i + 1, x, .cons _ t, e => by
    obtain ⟨u, h1, h2⟩ := Vals.get (i := i) (x := x) t (by simpa using e)
    exact ⟨u, by simpa using h1, h2⟩
theorem Vals.set {x : V} {u : Value} (r : RelV x u) : ∀ {xs : List V} {us : List Value} (i : Nat), Vals xs us → Vals (xs.set i x) (us.set i u)
  | _, _, _, .nil => .nil
  | _, _, 0, .cons _ t => .cons r t
  | _, _, i + 1, .cons q t => .cons q (Vals.set r i t)
theorem Vals.append : ∀ {xs ys : List V} {us ws : List Value}, Vals xs us → Vals ys ws → Vals (xs ++ ys) (us ++ ws)
  | _, _, _, _, .nil, s => s
  | _, _, _, _, .cons r t, s => .cons r (Vals.append t s)
theorem Vals.take : ∀ {xs : List V} {us : List Value} (n : Nat), Vals xs us → Vals (xs.take n) (us.take n)
  | _, _, 0, _ => .nil
  | _, _, _ + 1, .nil => .nil
  | _, _, n + 1, .cons r t => .cons r (Vals.take n t)
theorem Vals.drop : ∀ {xs : List V} {us : List Value} (n : Nat), Vals xs us → Vals (xs.drop n) (us.drop n)
  | _, _, 0, r => r
  | _, _, _ + 1, .nil => .nil
  | _, _, n + 1, .cons _ t => Vals.drop n t
def RelO : Option V → Option Value → Prop
  | some v, some u => RelV v u
  | none, none => True
  | _, _ => False
def KV {κ : Type} : List (κ × V) → List (κ × Value) → Prop := Paired fun (p : κ × V) (q : κ × Value) => p.1 = q.1 ∧ RelV p.2 q.2

/-- a key of a dict (00_mix): an int or a text -/
def kV : Key → V
  | .inl i => .int i
  | .inr x => .str x

/-- what stands at a tracked address -/
inductive HO where
  /-- a list -/
  | lst (xs : List V)
  /-- a tuple (never changes) -/
  | tup (xs : List V)
  /-- a dict whose keys are ints and texts; one whose keys are tuples of ints and texts (the empty one is both) -/
  | dK (kvs : List (Key × V)) | dT (kvs : List (List Key × V))
  /-- a set of ints: its members, its size -/
  | set (S : Int → Bool) (n : Nat)
  /-- an instance of the class at C, its dict at dx, its attributes -/
  | ins (C dx : Addr) (fs : List (Str × V))
  /-- the dict of the instance at x -/
  | own (x : Addr)
  /-- the dict of an exception -/
  | xd (fs : List (Str × V))
  /-- a bound method, f of x -/
  | met (f x : Addr)
  /-- a range object lo, lo + 1, .. below hi -/
  | rng (lo hi : Int)
  /-- a thing that is known to the object (the script; a dict while a loop walks it): read, never written while it is so -/
  | frz (o : Obj) (u : HO)
  /-- a code object's table -/
  | tbl (ps : Array Value)
  /-- any other thing, by what is true of its one object (a def of one's own: SetO a S n := HO.ext fun h => ..) -/
  | ext (φ : Heap → Prop)

abbrev Hp := Addr → Option HO
def upd (H : Hp) (a : Addr) (o : HO) : Hp := fun b => if b = a then some o else H b
theorem upd_same {H : Hp} {a : Addr} {o : HO} : upd H a o a = some o := by unfold upd; rw [if_pos rfl]
theorem upd_ne {H : Hp} {a b : Addr} {o : HO} (h : b ≠ a) : upd H a o b = H b := by unfold upd; rw [if_neg h]
/-- two objects of different content stand apart -/
theorem ne_of {H : Hp} {a b : Addr} {o u : HO} (h : H a = some o) (h' : H b = some u) (d : o ≠ u) : a ≠ b := by
  intro e; subst e; rw [h] at h'; exact d (Option.some.inj h')
theorem ne_of_none {H : Hp} {a b : Addr} {o : HO} (h : H a = some o) (h' : H b = none) : a ≠ b := by
  intro e; subst e; rw [h] at h'; cases h'

section
variable (P : Program) (w : World)
def ObjOk (H : Hp) (h : Heap) (a : Addr) : HO → Prop
  | .lst xs => xs.length ≤ sizeLine ∧ ∃ (its : List Value) (n : Nat), Vals xs its ∧ h.get? a = some { cls := .type "list", data := .seq its.toArray n }
  | .tup xs => xs.length ≤ sizeLine ∧ ∃ its : List Value, Vals xs its ∧ IsTup h a its.toArray
  | .dK kvs => kvs.length ≤ sizeLine ∧ (a == sysModules) = false ∧ ∃ vs, KV kvs vs ∧ h.DictOf (mixKind P w) a vs
  | .dT kvs => kvs.length ≤ sizeLine ∧ (a == sysModules) = false ∧ ∃ xs : List (List Key × Addr × Value),
      Paired (fun (p : List Key × V) (q : List Key × Addr × Value) => p.1 = q.1 ∧ H q.2.1 = some (.tup (p.1.map kV)) ∧ RelV p.2 q.2.2) kvs xs ∧
      ∃ o es ep, h.get? a = some o ∧ o.ExactDict ∧ o.data = .dict es ep ∧ es.toList = xs.map (entryOfKey (tupleKind (mixKind P w))) ∧ (xs.map (·.1)).Nodup
  | .set S n => h.SetOf (intKind P w) a S n
  | .ins C dx fs => H dx = some (.own a) ∧ fs.length ≤ 1000 ∧ dx ≠ a ∧ h.get? a = some (PySem.W.instObj C dx) ∧
      ∃ mA, h.Ns1 dx mA ∧ (∀ f, RelO (fs.lookup f) (mA f)) ∧ PySem.Within mA (fs.map (·.1))
  | .own _ => ∃ o, h.get? a = some o
  | .xd fs => ∃ mA, h.Ns1 a mA ∧ ∀ f, RelO (fs.lookup f) (mA f)
  | .rng lo hi => ∃ t u v, h.get? a = some { cls := .type "range", data := .fields #[.int lo t, .int hi u, .int 1 v] }
  | .frz o u => h.get? a = some o ∧ ObjOk H h a u
  | .tbl ps => h.get? a = some { cls := .none, data := .fields ps }
  | .met f x => h.get? a = some (PySem.W.methodObj (.ref f) (.ref x))
  | .ext φ => φ h ∧ (∃ o, h.get? a = some o) ∧ ∀ h1 h2 : Heap, φ h1 → (∀ o, h1.get? a = some o → h2.get? a = some o) → φ h2
/-- the abstract heap is held -/
def HOk (H : Hp) (h : Heap) : Prop := ∀ a o, H a = some o → ObjOk P w H h a o
end

section
variable {P : Program} {w : World} {H H' : Hp} {h h' : Heap} {a : Addr} {o : HO}
theorem ObjOk.lt (x : ObjOk P w H h a o) : a < h.objs.size := by
  cases o with
  | lst xs => obtain ⟨_, _, _, _, e⟩ := x; exact Heap.lt_size e
  | tup xs => obtain ⟨_, _, _, p⟩ := x; exact p.lt
  | dK kvs => obtain ⟨_, _, _, _, o, _, _, e, _⟩ := x; exact Heap.lt_size e
  | dT kvs => obtain ⟨_, _, _, _, o, _, _, e, _⟩ := x; exact Heap.lt_size e
  | set S n => obtain ⟨o, _, _, _, e, _⟩ := x; exact Heap.lt_size e
  | ins C dx fs => obtain ⟨_, _, _, e, _⟩ := x; exact Heap.lt_size e
  | own y => obtain ⟨_, e⟩ := x; exact Heap.lt_size e
  | xd fs => obtain ⟨_, ⟨_, _, _, e, _⟩, _⟩ := x; exact Heap.lt_size e
  | rng lo hi => obtain ⟨_, _, _, e⟩ := x; exact Heap.lt_size e
  | frz ob u => obtain ⟨e, _⟩ := x; exact Heap.lt_size e
  | tbl ps => exact Heap.lt_size (show h.get? a = some _ from x)
  | met f y => exact Heap.lt_size (show h.get? a = some _ from x)
  | ext φ => obtain ⟨_, ⟨_, e⟩, _⟩ := x; exact Heap.lt_size e
theorem Paired.mapP {α β : Type} {F G : α → β → Prop} : ∀ {l₁ : List α} {l₂ : List β}, Paired F l₁ l₂ → (∀ a b, F a b → G a b) → Paired G l₁ l₂
  | _, _, .nil, _ => .nil
  | _, _, .cons r t, f => .cons (f _ _ r) (Paired.mapP t f)
/-- what an object's description leans on: its own object, its own dict, the tuples -/
theorem ObjOk.stay (x : ObjOk P w H h a o) (k : ∀ b u, (b = a ∨ H b = some (.own a)) → h.get? b = some u → h'.get? b = some u)
    (ho : ∀ b, H b = some (.own a) → H' b = some (.own a)) (ht : ∀ b xs, H b = some (.tup xs) → H' b = some (.tup xs)) : ObjOk P w H' h' a o := by
  induction o with
  | lst xs => obtain ⟨z, its, n, r, e⟩ := x; exact ⟨z, its, n, r, k _ _ (.inl rfl) e⟩
  | tup xs => obtain ⟨z, its, r, ob, e, c⟩ := x; exact ⟨z, its, r, ob, k _ _ (.inl rfl) e, c⟩
  | dK kvs => obtain ⟨z, y, vs, r, ob, es, ep, e, c⟩ := x; exact ⟨z, y, vs, r, ob, es, ep, k _ _ (.inl rfl) e, c⟩
  | dT kvs =>
    obtain ⟨z, y, xs, r, ob, es, ep, e, c⟩ := x
    exact ⟨z, y, xs, Paired.mapP r fun p q z => ⟨z.1, ht _ _ z.2.1, z.2.2⟩, ob, es, ep, k _ _ (.inl rfl) e, c⟩
  | set S n => obtain ⟨ob, es, ep, t, e, c⟩ := x; exact ⟨ob, es, ep, t, k _ _ (.inl rfl) e, c⟩
  | ins C dx fs =>
    obtain ⟨d, z, ne, e, mA, ⟨od, es, ep, e2, c⟩, r⟩ := x
    exact ⟨ho _ d, z, ne, k _ _ (.inl rfl) e, mA, ⟨od, es, ep, k _ _ (.inr d) e2, c⟩, r⟩
  | own y => obtain ⟨ob, e⟩ := x; exact ⟨ob, k _ _ (.inl rfl) e⟩
  | xd fs => obtain ⟨mA, ⟨od, es, ep, e, c⟩, r⟩ := x; exact ⟨mA, ⟨od, es, ep, k _ _ (.inl rfl) e, c⟩, r⟩
  | rng lo hi => obtain ⟨t, u, v, e⟩ := x; exact ⟨t, u, v, k _ _ (.inl rfl) e⟩
  | frz ob u ih => obtain ⟨e, q⟩ := x; exact ⟨k _ _ (.inl rfl) e, ih q⟩
  | tbl ps =>
    have e : h.get? a = some { cls := .none, data := .fields ps } := x
    show h'.get? a = some { cls := .none, data := .fields ps }
    exact k a _ (.inl rfl) e
  | met f y =>
    have e : h.get? a = some (PySem.W.methodObj (.ref f) (.ref y)) := x
    show h'.get? a = some (PySem.W.methodObj (.ref f) (.ref y))
    exact k a _ (.inl rfl) e
  | ext φ => obtain ⟨p, ⟨o, e⟩, st⟩ := x; exact ⟨st _ _ p fun o q => k _ _ (.inl rfl) q, ⟨o, k _ _ (.inl rfl) e⟩, st⟩
theorem HOk.lt (x : HOk P w H h) (e : H a = some o) : a < h.objs.size := (x a o e).lt
theorem HOk.fresh (x : HOk P w H h) (e : h.objs.size ≤ a) : H a = none := by
  cases q : H a with
  | none => rfl
  | some u => exact absurd (Nat.lt_of_lt_of_le (x.lt q) e) (Nat.lt_irrefl _)
/-- every object of the heap is kept -/
theorem HOk.kept (x : HOk P w H h) (k : ∀ b u, h.get? b = some u → h'.get? b = some u) : HOk P w H h' := fun a o e =>
  (x a o e).stay (fun b u _ q => k b u q) (fun _ q => q) fun _ _ q => q
/-- a new object is laid and tracked -/
theorem HOk.laid (x : HOk P w H h) (k : ∀ b u, h.get? b = some u → h'.get? b = some u) (hp : h.objs.size ≤ a) (new : ObjOk P w (upd H a o) h' a o) : HOk P w (upd H a o) h' := fun b u e => by
  have hn := x.fresh hp
  by_cases hb : b = a
  · subst hb; rw [upd_same] at e; cases e; exact new
  · rw [upd_ne hb] at e
    exact (x b u e).stay (fun c v _ q => k c v q) (fun c q => by rw [upd_ne (ne_of_none q hn)]; exact q) fun c xs q => by rw [upd_ne (ne_of_none q hn)]; exact q
end

/-- what may be read as u: it is u, or a known u -/
def Rd (H : Hp) (a : Addr) (u : HO) : Prop := H a = some u ∨ ∃ o, H a = some (.frz o u)
theorem Rd.of {H : Hp} {a : Addr} {u : HO} (h : H a = some u) : Rd H a u := .inl h
theorem Rd.ok {P : Program} {w : World} {H : Hp} {h : Heap} {a : Addr} {u : HO} (r : Rd H a u) (x : HOk P w H h) : ObjOk P w H h a u := by
  rcases r with r | ⟨o, r⟩
  · exact x a u r
  · obtain ⟨_, q⟩ := x a _ r
    exact q
/-- what may be written -/
def Mut : Option HO → Prop
  | some (.lst _) => True
  | some (.dK _) => True
  | some (.dT _) => True
  | some (.set _ _) => True
  | some (.ins _ _ _) => True
  | some (.ext _) => True
  | _ => False
section
variable {P : Program} {w : World} {H : Hp} {h h' : Heap} {x e : Addr} {o' : HO}
/-- the object at e is changed: x itself, or the dict of the instance x -/
theorem HOk.write (ok : HOk P w H h) (mu : Mut (H x)) (he : e = x ∨ H e = some (.own x)) (k : ∀ b u, b ≠ e → h.get? b = some u → h'.get? b = some u) (heo : ∃ u, h'.get? e = some u)
    (new : ObjOk P w (upd H x o') h' x o') : HOk P w (upd H x o') h' := fun b u q => by
  have nown : ∀ c y, H c = some (.own y) → c ≠ x := fun c y r z => by subst z; rw [r] at mu; exact mu
  have ntup : ∀ c xs, H c = some (.tup xs) → c ≠ x := fun c xs r z => by subst z; rw [r] at mu; exact mu
  by_cases hb : b = x
  · subst hb; rw [upd_same] at q; cases q; exact new
  · rw [upd_ne hb] at q
    by_cases hbe : b = e
    · have q' : H b = some (.own x) := by
        rcases he with z | z
        · exact absurd (hbe.trans z) hb
        · rw [hbe]; exact z
      rw [q] at q'; cases q'
      obtain ⟨v, hv⟩ := heo
      exact ⟨v, by rw [hbe]; exact hv⟩
    · refine (ok b u q).stay (fun c v hc r => k c v ?_ r) (fun c r => by rw [upd_ne (nown c b r)]; exact r) fun c xs r => by rw [upd_ne (ntup c xs r)]; exact r
      rcases hc with rfl | hc
      · exact hbe
      · rintro rfl
        rcases he with z | z
        · exact nown c b hc z
        · rw [hc] at z; cases z; exact hb rfl
end

/-! ### kept unless tracked; of the frames at fs (the callers') the slots may change (an exception that passes writes there); of the records at ex (iterators) nothing is said -/
structure Un (fs ex : List Addr) (H H' : Hp) (h h' : Heap) : Prop where
  keep : ∀ b o, h.get? b = some o → H b = none → b ∉ fs → b ∉ ex → h'.get? b = some o
  slot : ∀ b o, h.get? b = some o → H b = none → b ∈ fs → b ∉ ex → ∃ sl, h'.get? b = some { o with slots := sl }
  free : ∀ b o, h.get? b = some o → H b = none → b ∉ ex → H' b = none
  there : ∀ b o, h.get? b = some o → b ∉ ex → ∃ o', h'.get? b = some o'
  tups : ∀ b xs, H b = some (.tup xs) → H' b = some (.tup xs)
  frzs : ∀ b o u, H b = some (.frz o u) → H' b = some (.frz o u)
  tbls : ∀ b ps, H b = some (.tbl ps) → ∃ more, H' b = some (.tbl (ps ++ more))
section
variable {fs fs' ex ex' : List Addr} {H H1 H2 : Hp} {h h1 h2 h' : Heap} {a x e : Addr} {o : HO}
theorem Un.any (u : Un fs ex H H1 h h1) {b : Addr} {ob : Obj} (q : h.get? b = some ob) (n : H b = none) (hx : b ∉ ex) : ∃ sl, h1.get? b = some { ob with slots := sl } := by
  by_cases hb : b ∈ fs
  · exact u.slot b ob q n hb hx
  · exact ⟨ob.slots, u.keep b ob q n hb hx⟩
theorem Un.trans (a : Un fs ex H H1 h h1) (b : Un fs ex H1 H2 h1 h2) : Un fs ex H H2 h h2 where
  keep := fun c ob q n hc hx => b.keep c ob (a.keep c ob q n hc hx) (a.free c ob q n hx) hc hx
  slot := fun c ob q n hc hx => by
    obtain ⟨sl, e1⟩ := a.slot c ob q n hc hx
    obtain ⟨sl', e2⟩ := b.slot c _ e1 (a.free c ob q n hx) hc hx
    exact ⟨sl', e2⟩
  free := fun c ob q n hx => by
    obtain ⟨o', e1⟩ := a.there c ob q hx
    exact b.free c o' e1 (a.free c ob q n hx) hx
  there := fun c ob q hx => by
    obtain ⟨o', e1⟩ := a.there c ob q hx
    exact b.there c o' e1 hx
  tups := fun c xs q => b.tups c xs (a.tups c xs q)
  frzs := fun c ob xs q => b.frzs c ob xs (a.frzs c ob xs q)
  tbls := fun c ps q => by
    obtain ⟨m1, e1⟩ := a.tbls c ps q
    obtain ⟨m2, e2⟩ := b.tbls c _ e1
    exact ⟨m1 ++ m2, by rw [e2, Array.append_assoc]⟩
theorem Un.kept (k : ∀ b u, h.get? b = some u → h'.get? b = some u) : Un fs ex H H h h' :=
  ⟨fun b ob q _ _ _ => k b ob q, fun b ob q _ _ _ => ⟨ob.slots, k b ob q⟩, fun _ _ _ n _ => n, fun b ob q _ => ⟨ob, k b ob q⟩, fun _ _ q => q, fun _ _ _ q => q, fun _ ps q => ⟨#[], by rw [q]; simp⟩⟩
theorem Un.refl : Un fs ex H H h h := Un.kept fun _ _ q => q
theorem Un.laid (k : ∀ b u, h.get? b = some u → h'.get? b = some u) (hp : h.objs.size ≤ a) (hn : H a = none) : Un fs ex H (upd H a o) h h' where
  keep := fun b u q _ _ _ => k b u q
  slot := fun b u q _ _ _ => ⟨u.slots, k b u q⟩
  free := fun b u q n _ => by rw [upd_ne (Nat.ne_of_lt (Nat.lt_of_lt_of_le (Heap.lt_size q) hp))]; exact n
  there := fun b u q _ => ⟨u, k b u q⟩
  tups := fun b xs q => by rw [upd_ne (ne_of_none q hn)]; exact q
  frzs := fun b u xs q => by rw [upd_ne (ne_of_none q hn)]; exact q
  tbls := fun b ps q => ⟨#[], by rw [upd_ne (ne_of_none q hn), q]; simp⟩
theorem Un.write (mu : Mut (H x)) (he : e = x ∨ H e = some (.own x)) (k : ∀ b u, b ≠ e → h.get? b = some u → h'.get? b = some u) (heo : ∃ u, h'.get? e = some u) : Un fs ex H (upd H x o) h h' := by
  have hx : ∀ b, H b = none → b ≠ x := fun b n z => by subst z; rw [n] at mu; exact mu
  have hb : ∀ b, H b = none → b ≠ e := fun b n z => by
    subst z
    rcases he with r | r
    · exact hx b n r
    · rw [n] at r; cases r
  have hm : ∀ b u, H b = some u → ¬ Mut (some u) → b ≠ x := fun b u q nm z => by subst z; rw [q] at mu; exact nm mu
  refine ⟨fun b u q n _ _ => k b u (hb b n) q, fun b u q n _ _ => ⟨u.slots, k b u (hb b n) q⟩, fun b u q n _ => by rw [upd_ne (hx b n)]; exact n, fun b u q _ => ?_,
    fun b xs q => by rw [upd_ne (hm b _ q fun z => z)]; exact q, fun b u xs q => by rw [upd_ne (hm b _ q fun z => z)]; exact q, fun b ps q => ⟨#[], by rw [upd_ne (hm b _ q fun z => z), q]; simp⟩⟩
  by_cases hbe : b = e
  · subst hbe; exact heo
  · exact ⟨u, k b u hbe q⟩
theorem Un.mono (u : Un fs ex H H1 h h1) (hs : ∀ b ∈ fs, b ∈ fs') (hx : ∀ b ∈ ex, b ∈ ex') : Un fs' ex' H H1 h h1 :=
  ⟨fun b ob q n hb he => u.keep b ob q n (fun z => hb (hs b z)) fun z => he (hx b z), fun _ _ q n _ he => u.any q n fun z => he (hx _ z), fun b ob q n he => u.free b ob q n fun z => he (hx b z), fun b ob q he => u.there b ob q fun z => he (hx b z), u.tups, u.frzs, u.tbls⟩
end

/-! ### the heap without what is tracked -/
def trk (h : Heap) (H : Hp) : List Addr := (List.range h.objs.size).filter fun a => (H a).isSome
def hidT (h : Heap) (H : Hp) : Heap := PySem.W.hideAll h (trk h H)
theorem hidT_size (h : Heap) (H : Hp) : (hidT h H).objs.size = h.objs.size := PySem.W.hideAll_size _ _
theorem hidT_get {h : Heap} {H : Hp} {b : Addr} {o : Obj} (e : h.get? b = some o) (n : H b = none) : (hidT h H).get? b = some o :=
  PySem.W.hideAll_get _ e fun hm => by
    have q : (H b).isSome = true := (List.mem_filter.mp hm).2
    rw [n] at q; simp at q
theorem of_hidT {h : Heap} {H : Hp} {b : Addr} {o : Obj} (e : (hidT h H).get? b = some o) : h.get? b = some o ∧ H b = none := by
  have e' : h.get? b = some o := PySem.W.of_hideAll (trk h H) e
  refine ⟨e', ?_⟩
  cases q : H b with
  | none => rfl
  | some x =>
    have hm : b ∈ trk h H := List.mem_filter.mpr ⟨List.mem_range.mpr (Heap.lt_size e'), by simp [q]⟩
    have z : (hidT h H).get? b = none := PySem.W.hideAll_none (trk h H) hm
    rw [z] at e; cases e

/-! ### OpenK's ledger, filled with every new object but one -/
def allNews (g h : Heap) (L : Addr) : List (Addr × Obj) := (List.range h.objs.size).filterMap fun a => if a = L ∨ (g.get? a).isSome = true then none else (h.get? a).map fun o => (a, o)
def rest (g h : Heap) (L d : Addr) : List (Addr × Obj) := (allNews g h L).filter fun p => decide (p.1 ≠ d)
end L2

namespace L2
open PySem PySem.Spec PyProof.Rows

/-- the module's facts, over the base: the heap at the law's entry without what is tracked there -/
structure Mod (K : PySem.W.Frag) (mg : Str → Option Value) (base : Heap) : Prop where
  kin : K.In base
  glob : base.Ns mainGlobals mg
  blt : ∃ mb, base.Ns builtinsNs mb ∧ ∀ x : Str, x ≠ "__name__" → mb x = bootBuiltins x
  nolimit : base.NoLimit

/-- the context: a def's body (or a comprehension's block) running. base: fixed through the whole law; s₀, H₀: the entry; outer: the frames whose slots others may change (a def's callers); stack: all frames that run;
   ex: iterators that were made ahead of the entry and are walked here (a comprehension's); fn: the names whose cells were made at the entry (a def: all; a comprehension's block: its own); calm: not within an except suite; pn: pins that every state bears; xe: what is wanted of an exception that leaves the code -/
structure Cx where
  prog : Program
  w : World
  K : PySem.W.Frag
  mg : Str → Option Value
  base : Heap
  A : Around
  N : List Str
  s₀ : Shared
  H₀ : Hp
  env : Env
  outer : List Env
  stack : List Env
  ex : List Addr
  fn : Str → Bool
  calm : Bool
  pn : List (Addr × Obj)
  xe : Value → Shared → Prop
/-- the callers' frames -/
def frs (l : List Env) : List Addr := l.filterMap (·.frame)
abbrev Cx.fs (X : Cx) : List Addr := frs X.outer

def Vis (sc : Scope) (x : Str) : Prop := sc.names.lookup x = some .local ∨ sc.names.lookup x = some .cell ∨ sc.names.lookup x = some .free
def Loc (sc : Scope) (x : Str) : Prop := sc.names.lookup x = some .local ∨ sc.names.lookup x = some .cell
def Look (env : Env) (h : Heap) (m : Str → Option Value) (x : Str) (u : Value) : Prop :=
  (env.kindOf x = some .local ∧ m x = some u) ∨ ((env.kindOf x = some .cell ∨ env.kindOf x = some .free) ∧ ∃ c, env.cells.lookup x = some c ∧ h.IsCell c (some u))

structure Cx.Ok (X : Cx) : Prop where
  mod : Mod X.K X.mg X.base
  kind : X.env.scope.kind = .function
  glob : X.env.globals = mainGlobals
  blt : X.env.builtins = builtinsNs
  above : X.s₀.heap.objs.size ≤ X.env.locals
  inj : ∀ x y c, X.env.cells.lookup x = some c → X.env.cells.lookup y = some c → x = y
  has : ∀ x, (X.env.kindOf x = some .cell ∨ X.env.kindOf x = some .free) → ∃ c, X.env.cells.lookup x = some c
  cab : ∀ x c, X.fn x = true → X.env.cells.lookup x = some c → X.s₀.heap.objs.size ≤ c
  hd : X.calm = true → X.A.handled = none
  frames : X.A.frames = some X.stack
  stk : X.stack = X.outer ∨ (X.stack = X.env :: X.outer ∧ X.env.frame = some X.env.locals)
  exf : ∀ b ∈ X.ex, b ≠ X.env.locals ∧ ∀ x c, X.env.cells.lookup x = some c → c ≠ b
  bs : ∀ b o, X.base.get? b = some o → X.s₀.heap.get? b = some o ∧ X.H₀ b = none
  bsz : X.base.objs.size ≤ X.s₀.heap.objs.size
  noex : ∀ b o, X.base.get? b = some o → b ∉ X.ex
  exfs : ∀ b ∈ X.ex, b ∉ X.fs
  funs : X.s₀.heap.FunFrames X.base X.outer
  frf : ∀ b ∈ X.fs, X.H₀ b = none

structure Inv (X : Cx) (pins : List (Addr × Obj)) (σ : List (Option V)) (H : Hp) (s : Shared) : Prop where
  ok : X.Ok
  os : s.os = X.s₀.os
  bare : AllBare s.gens
  base : Un X.fs X.ex X.H₀ H X.s₀.heap s.heap
  loc : ∃ m, s.heap.Ns X.env.locals m ∧ ∀ (i : Nat) (x : Str) (v : V), X.N[i]? = some x → σ[i]? = some (some v) → Vis X.env.scope x → ∃ u, RelV v u ∧ Look X.env s.heap m x u
  cell : ∀ x c, X.env.cells.lookup x = some c → ∃ v, s.heap.IsCell c v
  free : H X.env.locals = none
  freeC : ∀ x c, X.env.cells.lookup x = some c → H c = none
  pin : ∀ p ∈ X.pn ++ pins, s.heap.get? p.1 = some p.2 ∧ H p.1 = none ∧ p.1 ≠ X.env.locals ∧ p.1 ∉ X.fs ∧ ∀ v, p.2.data ≠ .cell v
  hok : HOk X.prog X.w H s.heap
  len : σ.length = X.N.length

section
variable {X : Cx} {pins : List (Addr × Obj)} {σ : List (Option V)} {H H' : Hp} {s : Shared} {h' : Heap}

theorem Cx.Ok.nofr (ok : X.Ok) {b : Addr} {o : Obj} (e : X.base.get? b = some o) : b ∉ X.fs := fun hb => by
  have := (ok.funs.mem hb).1
  rw [e] at this; cases this
theorem Inv.bs (I : Inv X pins σ H s) : ∀ b o, X.base.get? b = some o → s.heap.get? b = some o ∧ H b = none := fun b o e =>
  ⟨I.base.keep b o (I.ok.bs b o e).1 (I.ok.bs b o e).2 (I.ok.nofr e) (I.ok.noex b o e), I.base.free b o (I.ok.bs b o e).1 (I.ok.bs b o e).2 (I.ok.noex b o e)⟩
theorem Inv.bk (I : Inv X pins σ H s) : ∀ b o, X.base.get? b = some o → s.heap.get? b = some o := fun b o e => (I.bs b o e).1
theorem Inv.mod (I : Inv X pins σ H s) : Mod X.K X.mg X.base := I.ok.mod
theorem Inv.kIn (I : Inv X pins σ H s) : X.K.In s.heap := I.ok.mod.kin.keeps I.bk
theorem Inv.nolimit (I : Inv X pins σ H s) : s.heap.NoLimit := I.ok.mod.nolimit.keeps I.bk
theorem Inv.lt (I : Inv X pins σ H s) : X.env.locals < s.heap.objs.size := let ⟨_, hn, _⟩ := I.loc; hn.lt
theorem Inv.sz (I : Inv X pins σ H s) : X.s₀.heap.objs.size ≤ s.heap.objs.size := Nat.le_trans I.ok.above (Nat.le_of_lt I.lt)
theorem Inv.nofs (I : Inv X pins σ H s) {a : Addr} (h : s.heap.objs.size ≤ a) : a ∉ X.fs := fun hb => by
  obtain ⟨_, o, ho, _⟩ := I.ok.funs.mem hb
  exact absurd (Nat.lt_of_lt_of_le (Heap.lt_size ho) (Nat.le_trans I.sz h)) (Nat.lt_irrefl _)
theorem Inv.cne (I : Inv X pins σ H s) : ∀ x c, X.env.cells.lookup x = some c → c ≠ X.env.locals := fun x c e z => by
  obtain ⟨v, o, ho, hd⟩ := I.cell x c e
  obtain ⟨m, ⟨o', es, ep, ho', hd', _⟩, _⟩ := I.loc
  rw [z, ho'] at ho; cases ho; rw [hd'] at hd; cases hd
theorem Inv.funs (I : Inv X pins σ H s) : s.heap.FunFrames X.base X.outer := by
  have all : ∀ (l : List Env), (∀ b ∈ frs l, b ∈ X.fs) → X.s₀.heap.FunFrames X.base l → s.heap.FunFrames X.base l := by
    intro l
    induction l with
    | nil => intro _ _; trivial
    | cons env r ih =>
      intro hs hl
      obtain ⟨hk, ⟨L, o, hf, hn, ho, hd⟩, hr⟩ := hl
      have hL : L ∈ X.fs := hs L (by unfold frs; rw [List.filterMap_cons, hf]; exact List.mem_cons_self)
      obtain ⟨sl, e⟩ := I.base.slot L o ho (I.ok.frf L hL) hL fun z => I.ok.exfs L z hL
      exact ⟨hk, ⟨L, _, hf, hn, e, hd⟩, ih (fun b hb => hs b (by unfold frs; rw [List.filterMap_cons, hf]; exact List.mem_cons_of_mem _ hb)) hr⟩
  exact all X.outer (fun _ hb => hb) I.ok.funs

/-- the frames that run, for a call -/
theorem Inv.stack (I : Inv X pins σ H s) : s.heap.FunFrames X.base X.stack := by
  rcases I.ok.stk with e | ⟨e, hf⟩
  · rw [e]; exact I.funs
  · rw [e]
    obtain ⟨m, hn, _⟩ := I.loc
    refine .cons (by rw [I.ok.kind]; decide) hf hn ?_ I.funs
    exact Heap.get?_none_of_le (Nat.le_trans I.ok.bsz I.ok.above)
theorem Inv.stkSub (I : Inv X pins σ H s) : ∀ b ∈ frs X.stack, b ∈ X.env.locals :: X.fs := fun b hb => by
  rcases I.ok.stk with e | ⟨e, hf⟩
  · rw [e] at hb; exact List.mem_cons_of_mem _ hb
  · rw [e] at hb
    unfold frs at hb
    rw [List.filterMap_cons, hf] at hb
    exact hb
theorem Inv.stkFree (I : Inv X pins σ H s) : ∀ b ∈ frs X.stack, H b = none := fun b hb => by
  rcases List.mem_cons.mp (I.stkSub b hb) with e | hb
  · rw [e]; exact I.free
  · obtain ⟨_, o, ho, _⟩ := I.ok.funs.mem hb
    exact I.base.free b o ho (I.ok.frf b hb) fun z => I.ok.exfs b z hb

/-- THE STEP: the untracked objects but the frame and the records at ch are kept (the callers' frames up to slots), the frame's map is kept, the new abstract heap is held -/
theorem Inv.step {g' : Array GenState} {t' : Nat} {d' : Drawn} {ch : List Addr} (I : Inv X pins σ H s)
    (hch : ∀ b ∈ ch, (b ∈ X.ex ∨ X.s₀.heap.objs.size ≤ b) ∧ b ≠ X.env.locals ∧ (∀ x c, X.env.cells.lookup x = some c → c ≠ b) ∧ ∀ p ∈ X.pn ++ pins, p.1 ≠ b)
    (keep : ∀ b o, b ≠ X.env.locals → b ∉ X.fs → b ∉ ch → s.heap.get? b = some o → H b = none → h'.get? b = some o)
    (slot : ∀ b o, b ≠ X.env.locals → b ∈ X.fs → b ∉ ch → s.heap.get? b = some o → H b = none → ∃ sl, h'.get? b = some { o with slots := sl }) (free : ∀ b o, b ∉ ch → s.heap.get? b = some o → H b = none → H' b = none)
    (there : ∀ b o, b ∉ ch → s.heap.get? b = some o → ∃ o', h'.get? b = some o')
    (tups : ∀ b xs, H b = some (.tup xs) → H' b = some (.tup xs)) (frzs : ∀ b o u, H b = some (.frz o u) → H' b = some (.frz o u)) (tbls : ∀ b ps, H b = some (.tbl ps) → ∃ more, H' b = some (.tbl (ps ++ more)))
    (ns : ∀ m, s.heap.Ns X.env.locals m → h'.Ns X.env.locals m) (hok : HOk X.prog X.w H' h') (hg : AllBare g') :
    Inv X pins σ H' { s with heap := h', gens := g', drawn := d', toks := t' } := by
  have neL : ∀ b o, X.s₀.heap.get? b = some o → b ≠ X.env.locals := fun b o e => Nat.ne_of_lt (Nat.lt_of_lt_of_le (Heap.lt_size e) I.ok.above)
  have neC : ∀ b o, X.s₀.heap.get? b = some o → b ∉ X.ex → b ∉ ch := fun b o e hx hb => by
    rcases (hch b hb).1 with z | z
    · exact hx z
    · exact absurd (Nat.lt_of_lt_of_le (Heap.lt_size e) z) (Nat.lt_irrefl _)
  have cellK : ∀ x c, X.env.cells.lookup x = some c → ∀ v, s.heap.IsCell c v → h'.IsCell c v := fun x c e v ⟨o, ho, hd⟩ => by
    have nch : c ∉ ch := fun z => (hch c z).2.2.1 x c e rfl
    by_cases hc : c ∈ X.fs
    · obtain ⟨sl, q⟩ := slot c o (I.cne x c e) hc nch ho (I.freeC x c e)
      exact ⟨_, q, hd⟩
    · exact ⟨o, keep c o (I.cne x c e) hc nch ho (I.freeC x c e), hd⟩
  refine ⟨I.ok, I.os, hg, ⟨fun b o e n hb hx => ?_, fun b o e n hb hx => ?_, fun b o e n hx => ?_, fun b o e hx => ?_, fun b xs e => tups b xs (I.base.tups b xs e), fun b o xs e => frzs b o xs (I.base.frzs b o xs e), fun b ps e => ?_⟩, ?_, fun x c e => ?_, ?_, fun x c e => ?_, fun p hp => ?_, hok, I.len⟩
  · exact keep b o (neL b o e) hb (neC b o e hx) (I.base.keep b o e n hb hx) (I.base.free b o e n hx)
  · obtain ⟨sl, e1⟩ := I.base.slot b o e n hb hx
    obtain ⟨sl', e2⟩ := slot b _ (neL b o e) hb (neC b o e hx) e1 (I.base.free b o e n hx)
    exact ⟨sl', e2⟩
  · obtain ⟨o', e1⟩ := I.base.there b o e hx
    exact free b o' (neC b o e hx) e1 (I.base.free b o e n hx)
  · obtain ⟨o', e1⟩ := I.base.there b o e hx
    exact there b o' (neC b o e hx) e1
  · obtain ⟨m1, e1⟩ := I.base.tbls b ps e
    obtain ⟨m2, e2⟩ := tbls b _ e1
    exact ⟨m1 ++ m2, by rw [e2, Array.append_assoc]⟩
  · obtain ⟨m, hn, hl⟩ := I.loc
    refine ⟨m, ns m hn, fun i x v e1 e2 e3 => ?_⟩
    obtain ⟨u, r, l⟩ := hl i x v e1 e2 e3
    refine ⟨u, r, ?_⟩
    rcases l with l | ⟨k, c, e, z⟩
    · exact .inl l
    · exact .inr ⟨k, c, e, cellK x c e _ z⟩
  · obtain ⟨v, z⟩ := I.cell x c e
    exact ⟨v, cellK x c e v z⟩
  · obtain ⟨m, ⟨o, _, _, ho, _⟩, _⟩ := I.loc
    exact free _ o (fun z => (hch _ z).2.1 rfl) ho I.free
  · obtain ⟨v, o, ho, hd⟩ := I.cell x c e
    exact free c o (fun z => (hch c z).2.2.1 x c e rfl) ho (I.freeC x c e)
  · obtain ⟨e, n, ne, nf, d⟩ := I.pin p hp
    have nch : p.1 ∉ ch := fun z => (hch p.1 z).2.2.2 p hp rfl
    exact ⟨keep p.1 p.2 ne nf nch e n, free p.1 p.2 nch e n, ne, nf, d⟩
/-- .. where the frame's own object is kept too -/
theorem Inv.un {t' : Nat} (I : Inv X pins σ H s) (u : Un X.fs [] H H' s.heap h') (hok : HOk X.prog X.w H' h') : Inv X pins σ H' { s with heap := h', toks := t' } := by
  obtain ⟨m, ⟨o, es, ep, ho, r⟩, _⟩ := id I.loc
  obtain ⟨sl, hL⟩ := u.any ho I.free (by simp)
  exact I.step (g' := s.gens) (d' := s.drawn) (ch := []) (fun _ z => nomatch z) (fun b o _ hb _ e n => u.keep b o e n hb (by simp)) (fun b o _ hb _ e n => u.slot b o e n hb (by simp)) (fun b o _ e n => u.free b o e n (by simp)) (fun b o _ e => u.there b o e (by simp)) u.tups u.frzs u.tbls (fun m' hm => by
    obtain ⟨o', es', ep', ho', r'⟩ := hm
    rw [ho] at ho'; cases ho'
    exact ⟨_, es', ep', hL, r'⟩) hok I.bare
/-- behind a call (or a comprehension's block): the slots of this frame may have changed too, the records at ch may have turned -/
theorem Inv.call {g' : Array GenState} {t' : Nat} {d' : Drawn} {ch : List Addr} (I : Inv X pins σ H s) (u : Un (frs X.stack) ch H H' s.heap h') (hok : HOk X.prog X.w H' h') (hg : AllBare g')
    (hch : ∀ b ∈ ch, (b ∈ X.ex ∨ X.s₀.heap.objs.size ≤ b) ∧ b ≠ X.env.locals ∧ (∀ x c, X.env.cells.lookup x = some c → c ≠ b) ∧ ∀ p ∈ X.pn ++ pins, p.1 ≠ b) :
    Inv X pins σ H' { s with heap := h', gens := g', drawn := d', toks := t' } := by
  obtain ⟨m, ⟨o, es, ep, ho, r⟩, _⟩ := id I.loc
  obtain ⟨sl, hL⟩ := u.any ho I.free fun z => (hch _ z).2.1 rfl
  exact I.step (ch := ch) hch (fun b o hL hb hc e n => u.keep b o e n (fun z => (List.mem_cons.mp (I.stkSub b z)).elim hL hb) hc) (fun b o _ _ hc e n => u.any e n hc) (fun b o hc e n => u.free b o e n hc) (fun b o hc e => u.there b o e hc) u.tups u.frzs u.tbls (fun m' hm => by
    obtain ⟨o', es', ep', ho', r'⟩ := hm
    rw [ho] at ho'; cases ho'
    exact ⟨_, es', ep', hL, r'⟩) hok hg
/-- an untracked record of ours (an iterator) has turned -/
theorem Inv.turned {t' : Nat} {it : Addr} (I : Inv X pins σ H s) (k : ∀ b o, b ≠ it → s.heap.get? b = some o → h'.get? b = some o) (hn : H it = none) (hL : it ≠ X.env.locals)
    (h1 : it ∈ X.ex ∨ X.s₀.heap.objs.size ≤ it) (h2 : ∀ x c, X.env.cells.lookup x = some c → c ≠ it) (h3 : ∀ p ∈ X.pn ++ pins, p.1 ≠ it) : Inv X pins σ H { s with heap := h', toks := t' } := by
  have nit : ∀ b u, H b = some u → b ≠ it := fun b u e z => by rw [z, hn] at e; cases e
  refine I.step (g' := s.gens) (d' := s.drawn) (ch := [it]) (fun b hb => ?_) (fun b o _ _ hc e _ => k b o (fun z => hc (by simp [z])) e) (fun b o _ _ hc e _ => ⟨o.slots, k b o (fun z => hc (by simp [z])) e⟩) (fun _ _ _ _ n => n)
    (fun b o hc e => ⟨o, k b o (fun z => hc (by simp [z])) e⟩) (fun _ _ e => e) (fun _ _ _ e => e) (fun b ps e => ⟨#[], by rw [e]; simp⟩) (fun m hm => ?_) (fun b u e => ?_) I.bare
  · have e : b = it := by simpa using hb
    subst e
    exact ⟨h1, hL, h2, h3⟩
  · obtain ⟨o, es, ep, ho, r⟩ := hm
    exact ⟨o, es, ep, k _ o (Ne.symm hL) ho, r⟩
  · refine (I.hok b u e).stay (fun c v hc q => k c v ?_ q) (fun _ q => q) fun _ _ q => q
    rcases hc with z | z
    · rw [z]; exact nit b u e
    · exact nit c _ z
theorem Inv.tok (I : Inv X pins σ H s) (t : Nat) : Inv X pins σ H { s with toks := t } := I.un (h' := s.heap) (t' := t) Un.refl I.hok
/-- all objects kept -/
theorem Inv.kept {t' : Nat} (I : Inv X pins σ H s) (k : ∀ b u, s.heap.get? b = some u → h'.get? b = some u) : Inv X pins σ H { s with heap := h', toks := t' } := I.un (Un.kept k) (I.hok.kept k)
/-- a new object laid and tracked -/
theorem Inv.laid {a : Addr} {o : HO} {t' : Nat} (I : Inv X pins σ H s) (k : ∀ b u, s.heap.get? b = some u → h'.get? b = some u) (hp : s.heap.objs.size ≤ a) (new : ObjOk X.prog X.w (upd H a o) h' a o) :
    Inv X pins σ (upd H a o) { s with heap := h', toks := t' } := I.un (Un.laid k hp (I.hok.fresh hp)) (I.hok.laid k hp new)
/-- an object written -/
theorem Inv.write {x e : Addr} {o : HO} {t' : Nat} (I : Inv X pins σ H s) (mu : Mut (H x)) (he : e = x ∨ H e = some (.own x)) (k : ∀ b u, b ≠ e → s.heap.get? b = some u → h'.get? b = some u) (heo : ∃ u, h'.get? e = some u)
    (new : ObjOk X.prog X.w (upd H x o) h' x o) : Inv X pins σ (upd H x o) { s with heap := h', toks := t' } := I.un (Un.write mu he k heo) (I.hok.write mu he k heo new)
theorem Inv.pins_of {pins' : List (Addr × Obj)} (I : Inv X pins σ H s) (h : ∀ p ∈ pins', s.heap.get? p.1 = some p.2 ∧ H p.1 = none ∧ p.1 ≠ X.env.locals ∧ p.1 ∉ X.fs ∧ ∀ v, p.2.data ≠ .cell v) : Inv X pins' σ H s :=
  ⟨I.ok, I.os, I.bare, I.base, I.loc, I.cell, I.free, I.freeC, fun p hp => (List.mem_append.mp hp).elim (fun z => I.pin p (List.mem_append_left _ z)) (h p), I.hok, I.len⟩

theorem nodup_ix {N : List Str} (hN : N.Nodup) {i j : Nat} {x : Str} (a : N[i]? = some x) (b : N[j]? = some x) : i = j := by
  obtain ⟨h1, e1⟩ := List.getElem?_eq_some_iff.mp a
  obtain ⟨h2, e2⟩ := List.getElem?_eq_some_iff.mp b
  exact (List.getElem_inj hN).mp (e1.trans e2.symm)

/-- a name is stored; what changed -/
theorem store_ok2 {M : Model} {A : Around} {E : Value → Shared → Prop} {i : Nat} {x : Str} {v : V} {u : Value} {Q : Unit → Shared → Prop} (I : Inv X pins σ H s) (hN : X.N.Nodup) (hi : X.N[i]? = some x) (hx : Loc X.env.scope x) (r : RelV v u)
    (h : ∀ s', Inv X pins (σ.set i (some v)) H s' → (∃ a, Heap.SameBut a s.heap s'.heap ∧ (a = X.env.locals ∨ X.env.cells.lookup x = some a)) → Q () s') (hf : X.fn x = true ∨ X.env.scope.names.lookup x = some .local := by first | exact .inl rfl | exact .inr rfl | assumption) : wpAny M A (storeName X.env x u) Q E s := by
  obtain ⟨m, hn, hl⟩ := id I.loc
  have hcls : (X.env.scope.kind == .class || (X.env.scope.kind == .module && X.env.locals != X.env.globals)) = false := by rw [I.ok.kind]; rfl
  have hiσ : i < σ.length := by rw [I.len]; exact (List.getElem?_eq_some_iff.mp hi).1
  have cne := I.cne
  have tracked : ∀ {a : Addr} {h' : Heap}, (∃ o, s.heap.get? a = some o ∧ H a = none) → Heap.SameBut a s.heap h' → HOk X.prog X.w H h' := fun {a h'} ha hs b ob e => by
    obtain ⟨_, _, hfree⟩ := ha
    refine (I.hok b ob e).stay (fun c w' hc q => (hs.2 c ?_).trans q) (fun _ q => q) fun _ _ q => q
    rintro rfl
    rcases hc with rfl | hc
    · rw [hfree] at e; cases e
    · rw [hfree] at hc; cases hc
  rcases hx with hk | hk
  · refine wpAny_storeName_local hk hn (fun h' hn' hs => ?_) hcls
    obtain ⟨oL, _, _, hoL, _⟩ := id hn
    refine h _ ⟨I.ok, I.os, I.bare, ⟨fun b o e n hb hx => ?_, fun b o e n hb hx => ?_, I.base.free, fun b o e hx => ?_, I.base.tups, I.base.frzs, I.base.tbls⟩, ⟨_, hn', fun j y v' e1 e2 e3 => ?_⟩, fun y c e => ?_, I.free, I.freeC, fun p hp => ?_, tracked ⟨oL, hoL, I.free⟩ hs, by simpa using I.len⟩ ⟨_, hs, .inl rfl⟩
    · exact (hs.2 b (Nat.ne_of_lt (Nat.lt_of_lt_of_le (Heap.lt_size e) I.ok.above))).trans (I.base.keep b o e n hb hx)
    · obtain ⟨sl, e1⟩ := I.base.slot b o e n hb hx
      exact ⟨sl, (hs.2 b (Nat.ne_of_lt (Nat.lt_of_lt_of_le (Heap.lt_size e) I.ok.above))).trans e1⟩
    · obtain ⟨o', e1⟩ := I.base.there b o e hx
      exact ⟨o', (hs.2 b (Nat.ne_of_lt (Nat.lt_of_lt_of_le (Heap.lt_size e) I.ok.above))).trans e1⟩
    · by_cases hj : j = i
      · subst hj
        rw [hi] at e1; cases e1
        rw [List.getElem?_set_self hiσ] at e2
        cases e2
        exact ⟨u, r, .inl ⟨hk, by simp⟩⟩
      · rw [List.getElem?_set_ne (Ne.symm hj)] at e2
        obtain ⟨u', r', q⟩ := hl j y v' e1 e2 e3
        refine ⟨u', r', ?_⟩
        rcases q with ⟨k, e⟩ | ⟨k, c, e, z⟩
        · refine .inl ⟨k, ?_⟩
          have : y ≠ x := fun e => hj (nodup_ix hN e1 (e ▸ hi))
          simp [this, e]
        · exact .inr ⟨k, c, e, z.sameBut hs (cne y c e)⟩
    · obtain ⟨w', z⟩ := I.cell y c e
      exact ⟨w', z.sameBut hs (cne y c e)⟩
    · obtain ⟨e, n, ne, nf, d⟩ := I.pin p hp
      exact ⟨(hs.2 p.1 ne).trans e, n, ne, nf, d⟩
  · have hfn : X.fn x = true := by
      rcases hf with z | z
      · exact z
      · rw [z] at hk; cases hk
    obtain ⟨c, hc⟩ := I.ok.has x (.inl hk)
    obtain ⟨w', z⟩ := I.cell x c hc
    refine wpAny_storeName_cell I.ok.kind hk hc z (fun h' hc' hs => ?_)
    obtain ⟨oc, hoc, hocd⟩ := id z
    refine h { s with heap := h' } ⟨I.ok, I.os, I.bare, ⟨fun b o e n hb hx => ?_, fun b o e n hb hx => ?_, I.base.free, fun b o e hx => ?_, I.base.tups, I.base.frzs, I.base.tbls⟩, ⟨m, hn.sameBut hs (Ne.symm (cne x c hc)), fun j y v' e1 e2 e3 => ?_⟩, fun y c' e => ?_, I.free, I.freeC, fun p hp => ?_, tracked ⟨oc, hoc, I.freeC x c hc⟩ hs, by simpa using I.len⟩ ⟨c, hs, .inr hc⟩
    · exact (hs.2 b (Nat.ne_of_lt (Nat.lt_of_lt_of_le (Heap.lt_size e) (I.ok.cab x c hfn hc)))).trans (I.base.keep b o e n hb hx)
    · obtain ⟨sl, e1⟩ := I.base.slot b o e n hb hx
      exact ⟨sl, (hs.2 b (Nat.ne_of_lt (Nat.lt_of_lt_of_le (Heap.lt_size e) (I.ok.cab x c hfn hc)))).trans e1⟩
    · obtain ⟨o', e1⟩ := I.base.there b o e hx
      exact ⟨o', (hs.2 b (Nat.ne_of_lt (Nat.lt_of_lt_of_le (Heap.lt_size e) (I.ok.cab x c hfn hc)))).trans e1⟩
    · by_cases hj : j = i
      · subst hj
        rw [hi] at e1; cases e1
        rw [List.getElem?_set_self hiσ] at e2
        cases e2
        exact ⟨u, r, .inr ⟨.inl hk, c, hc, hc'⟩⟩
      · rw [List.getElem?_set_ne (Ne.symm hj)] at e2
        obtain ⟨u', r', q⟩ := hl j y v' e1 e2 e3
        refine ⟨u', r', ?_⟩
        rcases q with q | ⟨k, c', e, z'⟩
        · exact .inl q
        · refine .inr ⟨k, c', e, z'.sameBut hs ?_⟩
          rintro rfl
          exact hj (nodup_ix hN e1 (I.ok.inj _ _ _ e hc ▸ hi))
    · by_cases hcc : c' = c
      · subst hcc; exact ⟨_, hc'⟩
      · obtain ⟨w2, z2⟩ := I.cell y c' e
        exact ⟨w2, z2.sameBut hs hcc⟩
    · obtain ⟨e, n, ne, nf, d⟩ := I.pin p hp
      refine ⟨(hs.2 p.1 ?_).trans e, n, ne, nf, d⟩
      intro q
      rw [q, hoc] at e
      have q' : oc = p.2 := Option.some.inj e
      exact d w' (by rw [← q']; exact hocd)
theorem store_ok {M : Model} {A : Around} {E : Value → Shared → Prop} {i : Nat} {x : Str} {v : V} {u : Value} {Q : Unit → Shared → Prop} (I : Inv X pins σ H s) (hN : X.N.Nodup) (hi : X.N[i]? = some x) (hx : Loc X.env.scope x) (r : RelV v u)
    (h : ∀ s', Inv X pins (σ.set i (some v)) H s' → Q () s') (hf : X.fn x = true ∨ X.env.scope.names.lookup x = some .local := by first | exact .inl rfl | exact .inr rfl | assumption) : wpAny M A (storeName X.env x u) Q E s :=
  store_ok2 I hN hi hx r (fun s' I' _ => h s' I') hf
/-- behind a call or a block, the state as it is -/
theorem Inv.call' {s' : Shared} {ch : List Addr} (I : Inv X pins σ H s) (ho : s'.os = s.os) (u : Un (frs X.stack) ch H H' s.heap s'.heap) (hok : HOk X.prog X.w H' s'.heap) (hg : AllBare s'.gens)
    (hch : ∀ b ∈ ch, (b ∈ X.ex ∨ X.s₀.heap.objs.size ≤ b) ∧ b ≠ X.env.locals ∧ (∀ x c, X.env.cells.lookup x = some c → c ≠ b) ∧ ∀ p ∈ X.pn ++ pins, p.1 ≠ b) : Inv X pins σ H' s' := by
  obtain ⟨h', g', d', t', o'⟩ := s'
  have e : o' = s.os := ho
  subst e
  exact I.call (g' := g') (t' := t') (d' := d') u hok hg hch
end

/-! ### the judgements -/
/-- an exception: its class, its own dict's address (where it has one), the abstract heap behind it -/
abbrev XK := Value → Option Addr → Hp → Prop
abbrev St := List (Option V)
abbrev VK := V → Hp → Prop
/-- an expression's reading; a test's; an argument list's -/
abbrev TE := St → Hp → VK → Prop
abbrev TT := St → Hp → (Bool → Hp → Prop) → Prop
abbrev TA := St → Hp → (List V → Hp → Prop) → Prop
/-- what is wanted behind a statement -/
structure Ends where
  nx : St → Hp → Prop
  rt : VK
  bk : St → Hp → Prop := fun _ _ => False
  ct : St → Hp → Prop := fun _ _ => False
abbrev TS := Ends → St → Hp → Prop

def EP (X : Cx) (pins : List (Addr × Obj)) (σ : St) (Q : VK) (u : Value) (s' : Shared) : Prop := ∃ v H', Inv X pins σ H' s' ∧ RelV v u ∧ Q v H'
def TP (X : Cx) (pins : List (Addr × Obj)) (σ : St) (Q : Bool → Hp → Prop) (b : Bool) (s' : Shared) : Prop := ∃ H', Inv X pins σ H' s' ∧ Q b H'
def AP (X : Cx) (pins : List (Addr × Obj)) (σ : St) (Q : List V → Hp → Prop) (us : List Value) (s' : Shared) : Prop := ∃ vs H', Inv X pins σ H' s' ∧ Vals vs us ∧ Q vs H'
def SP (X : Cx) (pins : List (Addr × Obj)) (D : Ends) (f : Flow) (s' : Shared) : Prop :=
  match f with
  | .next => ∃ σ' H', Inv X pins σ' H' s' ∧ D.nx σ' H'
  | .brk => ∃ σ' H', Inv X pins σ' H' s' ∧ D.bk σ' H'
  | .cont => ∃ σ' H', Inv X pins σ' H' s' ∧ D.ct σ' H'
  | .ret u => ∃ v σ' H', Inv X pins σ' H' s' ∧ RelV v u ∧ D.rt v H'

def PE (X : Cx) (e : Expr) (t : TE) : Prop :=
  ∀ (pins : List (Addr × Obj)) (s : Shared) (σ : St) (H : Hp) (Q : VK), Inv X pins σ H s → t σ H Q → wpAny (model X.prog X.w) X.A (eval e X.env) (EP X pins σ Q) X.xe s
def PT (X : Cx) (e : Expr) (t : TT) : Prop :=
  ∀ (pins : List (Addr × Obj)) (s : Shared) (σ : St) (H : Hp) (Q : Bool → Hp → Prop), Inv X pins σ H s → t σ H Q → wpAny (model X.prog X.w) X.A (isTrue e X.env (eval e X.env)) (TP X pins σ Q) X.xe s
/-- a test whatever its 'whole' is (and, or) -/
def PW (X : Cx) (e : Expr) (t : TT) : Prop :=
  ∀ (whole : Sem Value) (pins : List (Addr × Obj)) (s : Shared) (σ : St) (H : Hp) (Q : Bool → Hp → Prop), Inv X pins σ H s → t σ H Q → wpAny (model X.prog X.w) X.A (isTrue e X.env whole) (TP X pins σ Q) X.xe s
theorem PW.pt {X : Cx} {e : Expr} {t : TT} (h : PW X e t) : PT X e t := h _
/-- an argument list (no star), from the left -/
def PA (X : Cx) (es : List Expr) (t : TA) : Prop :=
  ∀ (pos : Pos) (pins : List (Addr × Obj)) (s : Shared) (σ : St) (H : Hp) (Q : List V → Hp → Prop), Inv X pins σ H s → t σ H Q → wpAny (model X.prog X.w) X.A (spliced (backTo pos (starEach es X.env))) (AP X pins σ Q) X.xe s
def PS (X : Cx) (st : Stmt) (t : TS) : Prop :=
  ∀ (pins : List (Addr × Obj)) (s : Shared) (σ : St) (H : Hp) (D : Ends), Inv X pins σ H s → t D σ H → wpAny (model X.prog X.w) X.A (exec st X.env) (SP X pins D) X.xe s
def PSs (X : Cx) (st : List Stmt) (t : TS) : Prop :=
  ∀ (pins : List (Addr × Obj)) (s : Shared) (σ : St) (H : Hp) (D : Ends), Inv X pins σ H s → t D σ H → wpAny (model X.prog X.w) X.A (execs st X.env) (SP X pins D) X.xe s
/-- weaken the end -/
theorem thn {α : Type} {t : Sem α} {Q Q' : α → Shared → Prop} {M : Model} {A : Around} {E : Value → Shared → Prop} {s : Shared} (h : wpAny M A t Q E s) (hQ : ∀ a s, Q a s → Q' a s) : wpAny M A t Q' E s := wpAny_mono h hQ fun _ _ x => x
end L2

namespace L2
open PySem PySem.Spec PyProof.Rows
section
variable {X : Cx}

/-! ### names and constants -/
def tVar (i : Nat) : TE := fun σ H Q => ∃ v, σ[i]? = some (some v) ∧ Q v H
def tC (v : V) : TE := fun _ H Q => Q v H
theorem pe_var {i : Nat} {x : Str} {pos : Pos} (hN : X.N[i]? = some x) (hv : Vis X.env.scope x) (hd : (x == ("__debug__" : Str)) = false := by decide) (hcd : (x == ("__classdict__" : Str)) = false := by decide) : PE X (.Name x pos) (tVar i) := by
  intro pins s σ H Q I h
  obtain ⟨v, e, h⟩ := h
  obtain ⟨m, hn, hl⟩ := I.loc
  obtain ⟨u, r, l⟩ := hl i x v hN e hv
  have fin : EP X pins σ Q u s := ⟨v, H, I, r, h⟩
  rcases l with ⟨hk, hm⟩ | ⟨hk, c, hc, hcell⟩
  · exact wpAny_Name (wpAny_loadName_local I.ok.kind hk hn hm fin) hd
  · rcases hk with hk | hk
    · exact wpAny_Name (wpAny_loadName_cell I.ok.kind hk hc hcell fin) hd
    · exact wpAny_Name (wpAny_loadName_free I.ok.kind hk hc hcell fin hcd) hd
theorem pe_int {i j pos} : PE X (.Constant (.int i) j pos) (tC (.int i)) := fun _ _ _ H _ I h => wpAny_Constant_int ⟨.int i, H, I.tok _, ⟨_, rfl⟩, h⟩
theorem pe_bl {b j pos} : PE X (.Constant (.bool b) j pos) (tC (.bl b)) := fun _ _ _ H _ I h => Constant_bool ⟨.bl b, H, I, rfl, h⟩
theorem pe_non {j pos} : PE X (.Constant .none j pos) (tC .non) := fun _ _ _ H _ I h => Constant_none ⟨.non, H, I, rfl, h⟩
theorem pe_str {x j pos} : PE X (.Constant (.str x) j pos) (tC (.str x)) := fun _ _ _ H _ I h => Calls.Constant_str ⟨.str x, H, I.tok _, ⟨_, rfl⟩, h⟩

/-- a global name of the def -/
def Gl (X : Cx) (x : Str) : Prop := X.env.kindOf x = some .globalImplicit
theorem ld_glob {E : Value → Shared → Prop} {pins : List (Addr × Obj)} {s : Shared} {σ : St} {H : Hp} {x : Str} {u : Value} {pos : Pos} {Q : Value → Shared → Prop} (I : Inv X pins σ H s) (hg : Gl X x) (hm : X.mg x = some u) (h : Q u s)
    (hd : (x == ("__debug__" : Str)) = false := by decide) : wpAny (model X.prog X.w) X.A (eval (.Name x pos) X.env) Q E s :=
  Calls.Name_function_global I.ok.kind hg (Calls.loadGlobal_global (by rw [I.ok.glob]; exact I.mod.glob.keeps I.bk) hm h) hd
theorem ld_blt {E : Value → Shared → Prop} {pins : List (Addr × Obj)} {s : Shared} {σ : St} {H : Hp} {x : Str} {u : Value} {pos : Pos} {Q : Value → Shared → Prop} (I : Inv X pins σ H s) (hg : Gl X x) (hm : X.mg x = none) (hv : bootBuiltins x = some u) (h : Q u s)
    (hn : x ≠ "__name__" := by decide) (hd : (x == ("__debug__" : Str)) = false := by decide) : wpAny (model X.prog X.w) X.A (eval (.Name x pos) X.env) Q E s := by
  obtain ⟨mb, h1, h2⟩ := I.mod.blt
  exact Calls.Name_function_global I.ok.kind hg (Calls.loadGlobal_builtin (by rw [I.ok.glob]; exact I.mod.glob.keeps I.bk) hm (by rw [I.ok.blt]; exact h1.keeps I.bk) ((h2 x hn).trans hv) h) hd
/-- a module's constant, a class, a function, as a value -/
theorem pe_glob {x : Str} {v : V} {u : Value} {pos : Pos} (hg : Gl X x) (hm : X.mg x = some u) (r : RelV v u) (hd : (x == ("__debug__" : Str)) = false := by decide) : PE X (.Name x pos) (tC v) :=
  fun _ _ _ H _ I h => ld_glob I hg hm ⟨v, H, I, r, h⟩ hd
theorem pe_bltn {x : Str} {v : V} {u : Value} {pos : Pos} (hg : Gl X x) (hm : X.mg x = none) (hv : bootBuiltins x = some u) (r : RelV v u) (hn : x ≠ "__name__" := by decide) (hd : (x == ("__debug__" : Str)) = false := by decide) : PE X (.Name x pos) (tC v) :=
  fun _ _ _ H _ I h => ld_blt I hg hm hv ⟨v, H, I, r, h⟩ hn hd

/-! ### arithmetic -/
variable {a b : Expr} {ta tb : TE} {pos : Pos}
/-! ### comparisons -/
/-- a comparison as a value, as a test -/
def tB (t : TE) : TT := fun σ H Q => t σ H fun x H1 => ∃ c, x = .bl c ∧ Q c H1
/-- an expression whose value is a bool, as a test -/
theorem pt_val {e : Expr} {t : TE} (h : PE X e t) (he : ∀ whole, isTrue e X.env whole = (do let v ← whole; standAt e.pos; holding [v] (truthy v)) := by intro _; rfl) : PT X e (tB t) := by
  intro pins s σ H Q I hw
  refine isTrue_plain (thn (h pins s σ H _ I hw) fun v s1 ⟨x, H1, I1, r1, q1⟩ => ?_) (he _)
  obtain ⟨d, rfl, q⟩ := q1
  cases r1
  exact wpAny_truthy_bool ⟨H1, I1, q⟩

/-! ### and, or, not -/
variable {tA tB' : TT} {rest : List Expr}
def tAnd (t u : TT) : TT := fun σ H Q => t σ H fun c H1 => if c = true then u σ H1 Q else Q false H1
def tOr (t u : TT) : TT := fun σ H Q => t σ H fun c H1 => if c = true then Q true H1 else u σ H1 Q
def tNot (t : TT) : TT := fun σ H Q => t σ H fun c H1 => Q (!c) H1
theorem pw_and1 (ha : PT X a tA) : PW X (.BoolOp .And [a] pos) tA := by
  intro wh pins s σ H Q I h
  refine isTrue_and (thn (ha pins s σ H Q I h) fun c s1 e => ?_)
  cases c with
  | true => exact isTrue_and_nil e
  | false => exact e
theorem pw_or1 (ha : PT X a tA) : PW X (.BoolOp .Or [a] pos) tA := by
  intro wh pins s σ H Q I h
  refine isTrue_or (thn (ha pins s σ H Q I h) fun c s1 e => ?_)
  cases c with
  | false => exact isTrue_or_nil e
  | true => exact e
theorem pw_and (ha : PT X a tA) (hb : PW X (.BoolOp .And (b :: rest) pos) tB') : PW X (.BoolOp .And (a :: b :: rest) pos) (tAnd tA tB') := by
  intro wh pins s σ H Q I h
  refine isTrue_and (thn (ha pins s σ H _ I h) fun c s1 ⟨H1, I1, q1⟩ => ?_)
  cases c with
  | true => exact hb wh pins s1 σ H1 Q I1 q1
  | false => exact ⟨H1, I1, q1⟩
theorem pw_or (ha : PT X a tA) (hb : PW X (.BoolOp .Or (b :: rest) pos) tB') : PW X (.BoolOp .Or (a :: b :: rest) pos) (tOr tA tB') := by
  intro wh pins s σ H Q I h
  refine isTrue_or (thn (ha pins s σ H _ I h) fun c s1 ⟨H1, I1, q1⟩ => ?_)
  cases c with
  | true => exact ⟨H1, I1, q1⟩
  | false => exact hb wh pins s1 σ H1 Q I1 q1
/-- .. as values (bools) -/
def tAndV (ta tb : TE) : TE := fun σ H Q => ta σ H fun x H1 => ∃ c, x = .bl c ∧ if c = true then tb σ H1 Q else Q (.bl false) H1
def tOrV (ta tb : TE) : TE := fun σ H Q => ta σ H fun x H1 => ∃ c, x = .bl c ∧ if c = true then Q (.bl true) H1 else tb σ H1 Q
def tNotV (ta : TE) : TE := fun σ H Q => ta σ H fun x H1 => ∃ c, x = .bl c ∧ Q (.bl (!c)) H1
theorem pe_one {op} {t : TE} (h : PE X a t) : PE X (.BoolOp op [a] pos) t := fun pins s σ H Q I hw => BoolOp_one (h pins s σ H Q I hw)
theorem pe_and (ha : PE X a ta) (hb : PE X (.BoolOp .And (b :: rest) pos) tb) : PE X (.BoolOp .And (a :: b :: rest) pos) (tAndV ta tb) := by
  intro pins s σ H Q I h
  refine BoolOp_and (thn (ha pins s σ H _ I h) fun v s1 ⟨x, H1, I1, r1, q1⟩ => ?_)
  obtain ⟨c, rfl, q1⟩ := q1
  cases r1
  refine wpAny_truthy_bool ?_
  cases c with
  | true => exact hb pins s1 σ H1 Q I1 q1
  | false => exact ⟨.bl false, H1, I1, rfl, q1⟩
/-- a if t else b -/
def tIf (t : TT) (ta tb : TE) : TE := fun σ H Q => t σ H fun c H1 => if c = true then ta σ H1 Q else tb σ H1 Q
theorem pe_ifExp {c : Expr} (hc : PT X c tA) (ha : PE X a ta) (hb : PE X b tb) : PE X (.IfExp c a b pos) (tIf tA ta tb) := by
  intro pins s σ H Q I h
  refine wpAny_IfExp (thn (hc pins s σ H _ I h) fun d s1 ⟨H1, I1, q1⟩ => ?_)
  cases d with
  | true => exact ha pins s1 σ H1 Q I1 q1
  | false => exact hb pins s1 σ H1 Q I1 q1
end
end L2

namespace L2
open PySem PySem.Spec PyProof.Rows

/-! ### a list, a tuple that is read: tracked, frozen, or an object of the module -/
def SqL (K : PySem.W.Frag) (H : Hp) (a : Addr) (xs : List V) : Prop :=
  Rd H a (.lst xs) ∨
    ∃ (o : Obj) (its : Array Value) (n : Nat), K.lookup a = some o ∧ o.cls = .type "list" ∧ o.dict = none ∧ o.data = .seq its n ∧ its.size ≤ sizeLine ∧ Vals xs its.toList
def SqT (K : PySem.W.Frag) (H : Hp) (a : Addr) (xs : List V) : Prop :=
  Rd H a (.tup xs) ∨
    ∃ (o : Obj) (its : Array Value) (n : Nat), K.lookup a = some o ∧ o.cls = .type "tuple" ∧ o.data = .seq its n ∧ its.size ≤ sizeLine ∧ Vals xs its.toList
def absV : Value → Option V
  | .none => some .non
  | .bool b => some (.bl b)
  | .int i _ => some (.int i)
  | .str x _ => some (.str x)
  | .bytes b _ => some (.byt b)
  | .float b _ => some (.flt b)
  | .ref a => some (.ref a)
  | .type n => some (.ty n)
  | _ => none
theorem RelV.abs {x : V} {u : Value} (r : RelV x u) : absV u = some x := by
  cases x with
  | non => cases r; rfl
  | bl _ => cases r; rfl
  | int _ => obtain ⟨t, rfl⟩ := r; rfl
  | str _ => obtain ⟨t, rfl⟩ := r; rfl
  | byt _ => obtain ⟨t, rfl⟩ := r; rfl
  | flt _ => obtain ⟨t, rfl⟩ := r; rfl
  | ref _ => cases r; rfl
  | ty _ => cases r; rfl
theorem RelV.inj {x y : V} {u : Value} (r : RelV x u) (q : RelV y u) : x = y := Option.some.inj (r.abs.symm.trans q.abs)
theorem Vals.inj : ∀ {xs ys : List V} {us : List Value}, Vals xs us → Vals ys us → xs = ys
  | _, _, _, .nil, .nil => rfl
  | _, _, _, .cons r t, .cons r' t' => by rw [r.inj r', Vals.inj t t']
section
variable {X : Cx} {pins : List (Addr × Obj)} {σ : St} {H : Hp} {s : Shared} {a : Addr} {xs ys : List V}
theorem SqL.of {K : PySem.W.Frag} (h : H a = some (.lst xs)) : SqL K H a xs := .inl (.inl h)
theorem SqT.of {K : PySem.W.Frag} (h : H a = some (.tup xs)) : SqT K H a xs := .inl (.inl h)
theorem Inv.list (I : Inv X pins σ H s) (h : SqL X.K H a xs) : ∃ its : List Value, Vals xs its ∧ PlainL s.heap a its.toArray ∧ xs.length ≤ sizeLine := by
  rcases h with h | ⟨o, its, n, hk, hc, hd, hs, hz, r⟩
  · obtain ⟨z, its, n, r, e⟩ := h.ok I.hok
    exact ⟨its, r, ⟨_, n, e, rfl, rfl, rfl⟩, z⟩
  · refine ⟨its.toList, r, ⟨o, n, I.kIn a o hk, hc, hd, by simpa using hs⟩, ?_⟩
    have e := r.length
    simp only [Array.length_toList] at e
    omega
theorem Inv.tuple (I : Inv X pins σ H s) (h : SqT X.K H a xs) : ∃ its : List Value, Vals xs its ∧ IsTup s.heap a its.toArray ∧ xs.length ≤ sizeLine := by
  rcases h with h | ⟨o, its, n, hk, hc, hs, hz, r⟩
  · obtain ⟨z, its, r, p⟩ := h.ok I.hok
    exact ⟨its, r, p, z⟩
  · refine ⟨its.toList, r, ⟨o, I.kIn a o hk, hc, n, by simpa using hs⟩, ?_⟩
    have e := r.length
    simp only [Array.length_toList] at e
    omega
theorem Inv.list_inj (I : Inv X pins σ H s) (h : SqL X.K H a xs) (h' : SqL X.K H a ys) : xs = ys := by
  obtain ⟨its, r, ⟨o, n, e, _, _, d⟩, _⟩ := I.list h
  obtain ⟨its', r', ⟨o', n', e', _, _, d'⟩, _⟩ := I.list h'
  rw [e] at e'; cases e'
  rw [d] at d'
  injection d' with d1 _
  have : its = its' := by simpa using congrArg Array.toList d1
  subst this
  exact r.inj r'
theorem Inv.tuple_inj (I : Inv X pins σ H s) (h : SqT X.K H a xs) (h' : SqT X.K H a ys) : xs = ys := by
  obtain ⟨its, r, ⟨o, e, _, n, d⟩, _⟩ := I.tuple h
  obtain ⟨its', r', ⟨o', e', _, n', d'⟩, _⟩ := I.tuple h'
  rw [e] at e'; cases e'
  rw [d] at d'
  injection d' with d1 _
  have : its = its' := by simpa using congrArg Array.toList d1
  subst this
  exact r.inj r'
end

/-! ### another wish about exceptions -/
abbrev Cx.wish (X : Cx) (E : Value → Shared → Prop) : Cx := { X with xe := E }
/-- no exception leaves -/
abbrev Cx.nox (X : Cx) : Cx := X.wish fun _ _ => False
theorem Cx.Ok.wish {X : Cx} (ok : X.Ok) (E : Value → Shared → Prop) : (X.wish E).Ok :=
  ⟨ok.mod, ok.kind, ok.glob, ok.blt, ok.above, ok.inj, ok.has, ok.cab, ok.hd, ok.frames, ok.stk, ok.exf, ok.bs, ok.bsz, ok.noex, ok.exfs, ok.funs, ok.frf⟩
theorem Cx.Ok.unwish {X : Cx} {E : Value → Shared → Prop} (ok : (X.wish E).Ok) : X.Ok :=
  ⟨ok.mod, ok.kind, ok.glob, ok.blt, ok.above, ok.inj, ok.has, ok.cab, ok.hd, ok.frames, ok.stk, ok.exf, ok.bs, ok.bsz, ok.noex, ok.exfs, ok.funs, ok.frf⟩
section
variable {X : Cx} {pins : List (Addr × Obj)} {σ : St} {H : Hp} {s : Shared} {E : Value → Shared → Prop}
theorem Inv.wish (I : Inv X pins σ H s) (E : Value → Shared → Prop) : Inv (X.wish E) pins σ H s := ⟨I.ok.wish E, I.os, I.bare, I.base, I.loc, I.cell, I.free, I.freeC, I.pin, I.hok, I.len⟩
theorem Inv.unwish (I : Inv (X.wish E) pins σ H s) : Inv X pins σ H s := ⟨I.ok.unwish, I.os, I.bare, I.base, I.loc, I.cell, I.free, I.freeC, I.pin, I.hok, I.len⟩
theorem SP.unwish {D : Ends} {f : Flow} {s' : Shared} (h : SP (X.wish E) pins D f s') : SP X pins D f s' := by
  cases f with
  | next => obtain ⟨σ', H', I, q⟩ := h; exact ⟨σ', H', I.unwish, q⟩
  | brk => obtain ⟨σ', H', I, q⟩ := h; exact ⟨σ', H', I.unwish, q⟩
  | cont => obtain ⟨σ', H', I, q⟩ := h; exact ⟨σ', H', I.unwish, q⟩
  | ret u => obtain ⟨v, σ', H', I, r, q⟩ := h; exact ⟨v, σ', H', I.unwish, r, q⟩
theorem PE.nox {e : Expr} {t : TE} (h : PE X.nox e t) : PE X e t := fun pins s σ H Q I hw =>
  wpAny_mono (h pins s σ H Q (I.wish _) hw) (fun _ _ ⟨v, H', I', r, q⟩ => ⟨v, H', I'.unwish, r, q⟩) fun _ _ z => False.elim z
theorem PT.nox {e : Expr} {t : TT} (h : PT X.nox e t) : PT X e t := fun pins s σ H Q I hw =>
  wpAny_mono (h pins s σ H Q (I.wish _) hw) (fun _ _ ⟨H', I', q⟩ => ⟨H', I'.unwish, q⟩) fun _ _ z => False.elim z
theorem PSs.nox {st : List Stmt} {t : TS} (h : PSs X.nox st t) : PSs X st t := fun pins s σ H D I hw =>
  wpAny_mono (h pins s σ H D (I.wish _) hw) (fun _ _ q => q.unwish) fun _ _ z => False.elim z
end

/-! ### blocks and small statements -/
section
variable {X : Cx} {st : Stmt} {rest : List Stmt} {t u : TS} {e : Expr} {te : TE} {pos : Pos}
def tNext : TS := fun D σ H => D.nx σ H
def tSeq (t u : TS) : TS := fun D σ H => t { D with nx := u D } σ H
theorem pss_nil : PSs X [] tNext := fun _ _ σ H _ I h => wpAny_execs_nil ⟨σ, H, I, h⟩
theorem pss_cons (h1 : PS X st t) (h2 : PSs X rest u) : PSs X (st :: rest) (tSeq t u) := by
  intro pins s σ H D I h
  refine wpAny_execs_cons (thn (h1 pins s σ H { D with nx := u D } I h) fun f s1 q => ?_)
  cases f with
  | next =>
    obtain ⟨σ', H', I', q⟩ := q
    exact h2 pins s1 σ' H' D I' q
  | ret v => exact q
  | brk => exact q
  | cont => exact q
theorem pss_one (h1 : PS X st t) : PSs X [st] t := by
  intro pins s σ H D I h
  refine wpAny_execs_cons (thn (h1 pins s σ H D I h) fun f s1 q => ?_)
  cases f with
  | next => exact wpAny_execs_nil q
  | ret v => exact q
  | brk => exact q
  | cont => exact q
def tBreak : TS := fun D σ H => D.bk σ H
def tCont : TS := fun D σ H => D.ct σ H
/-- in a def's body nothing is shown -/
theorem Inv.quiet {pins : List (Addr × Obj)} {σ : St} {H : Hp} {s : Shared} (I : Inv X pins σ H s) : interactive X.env = false := by simp [interactive, I.ok.kind]
/-- an expression whose value is dropped -/
def tDrop (te : TE) : TS := fun D σ H => te σ H fun _ H1 => D.nx σ H1
theorem ps_expr (he : PE X e te) (hs : swapsWith e none pos.line X.env = pure false := by rfl) : PS X (.Expr e pos) (tDrop te) := by
  intro pins s σ H D I h
  exact wpAny_Expr_any (thn (he pins s σ H _ I h) fun v s1 ⟨x, H1, I1, r1, q1⟩ => ⟨σ, H1, I1, q1⟩) I.quiet hs
def tRet (te : TE) : TS := fun D σ H => te σ H D.rt
theorem ps_ret (he : PE X e te) : PS X (.Return (some e) pos) (tRet te) := by
  intro pins s σ H D I h
  exact wpAny_Return_some (thn (he pins s σ H _ I h) fun v s1 ⟨x, H1, I1, r1, q1⟩ => ⟨x, σ, H1, I1, r1, q1⟩)
def tRetN : TS := fun D _ H => D.rt .non H
def tIfS (c : TT) (t u : TS) : TS := fun D σ H => c σ H fun b H1 => if b = true then t D σ H1 else u D σ H1
theorem ps_if {c : Expr} {a b : List Stmt} {tc : TT} (hc : PT X c tc) (ha : PSs X a t) (hb : PSs X b u) : PS X (.If c a b pos) (tIfS tc t u) := by
  intro pins s σ H D I h
  refine wpAny_If (thn (hc pins s σ H _ I h) fun d s1 ⟨H1, I1, q1⟩ => ?_)
  cases d with
  | true => exact ha pins s1 σ H1 D I1 q1
  | false => exact hb pins s1 σ H1 D I1 q1
/-- code that the proof never comes to -/
def tNever : TS := fun _ _ _ => False
end

/-! ### targets -/
abbrev TG := V → St → Hp → (St → Hp → Prop) → Prop
abbrev TGs := List V → St → Hp → (St → Hp → Prop) → Prop
def PG (X : Cx) (target : Expr) (t : TG) : Prop :=
  ∀ (pins : List (Addr × Obj)) (s : Shared) (σ : St) (H : Hp) (v : V) (u : Value) (Q : St → Hp → Prop), Inv X pins σ H s → RelV v u → t v σ H Q →
    wpAny (model X.prog X.w) X.A (assign target X.env u) (fun _ s' => ∃ σ' H', Inv X pins σ' H' s' ∧ Q σ' H') X.xe s
/-- several targets, one after another -/
def PGs (X : Cx) (ts : List Expr) (t : TGs) : Prop :=
  ∀ (pins : List (Addr × Obj)) (s : Shared) (σ : St) (H : Hp) (vs : List V) (us : List Value) (Q : St → Hp → Prop), Inv X pins σ H s → Vals vs us → t vs σ H Q →
    wpAny (model X.prog X.w) X.A (assignInOrder ((assignEach ts X.env).map (·.2)) us) (fun _ s' => ∃ σ' H', Inv X pins σ' H' s' ∧ Q σ' H') X.xe s
section
variable {X : Cx} {pos : Pos}
def gName (i : Nat) : TG := fun v σ H Q => Q (σ.set i (some v)) H
theorem pg_name {i : Nat} {x : Str} (hN : X.N.Nodup) (hi : X.N[i]? = some x) (hx : Loc X.env.scope x) (hf : X.fn x = true ∨ X.env.scope.names.lookup x = some .local := by first | exact .inl rfl | exact .inr rfl | assumption) : PG X (.Name x pos) (gName i) := by
  intro pins s σ H v u Q I r h
  exact wpAny_assign_Name (store_ok I hN hi hx r (fun s' I' => ⟨_, H, I', h⟩) hf)
def gNil : TGs := fun vs σ H Q => vs = [] ∧ Q σ H
def gCons (t : TG) (u : TGs) : TGs := fun vs σ H Q => ∃ v r, vs = v :: r ∧ t v σ H fun σ' H' => u r σ' H' Q
theorem pgs_nil : PGs X [] gNil := by
  intro pins s σ H vs us Q I r h
  obtain ⟨e, h⟩ := h
  subst e
  cases r
  exact assignInOrder_nil ⟨σ, H, I, h⟩
theorem pgs_cons {e : Expr} {es : List Expr} {t : TG} {u : TGs} (h1 : PG X e t) (h2 : PGs X es u)
    (hs : (assignEach (e :: es) X.env).map (·.2) = assign e X.env :: (assignEach es X.env).map (·.2) := by rfl) : PGs X (e :: es) (gCons t u) := by
  intro pins s σ H vs us Q I r h
  obtain ⟨v, vr, e1, h⟩ := h
  subst e1
  cases r with
  | cons r rr =>
    rw [hs]
    refine assignInOrder_cons (thn (h1 pins s σ H _ _ _ I r h) fun _ s1 ⟨σ1, H1, I1, q1⟩ => ?_)
    exact h2 pins s1 σ1 H1 _ _ Q I1 rr q1
/-- (a, b, ..) = a tuple of that length -/
def gTup (K : PySem.W.Frag) (n : Nat) (t : TGs) : TG := fun v σ H Q => ∃ a xs, v = .ref a ∧ SqT K H a xs ∧ xs.length = n ∧ t xs σ H Q
theorem pg_tup {es : List Expr} {k : Nat} {t : TGs} {n : Nat} (hc : X.calm = true) (h : PGs X es t)
    (hn : (assignEach es X.env).length = n := by rfl) (hst : (assignEach es X.env).findIdx? (·.1) = none := by rfl) : PG X (.Tuple es k pos) (gTup X.K n t) := by
  intro pins s σ H v u Q I r hw
  obtain ⟨a, xs, e1, hq, hl, hw⟩ := hw
  subst e1
  cases r
  obtain ⟨its, rv, ht, hz⟩ := I.tuple hq
  refine assign_Tuple_tuple (I.ok.hd hc) ht (by simp [hn, ← hl, rv.length]) hst fun h' hx => ?_
  have I1 : Inv X pins σ H { s with heap := h' } := I.kept (t' := s.toks) fun b o e => hx b o (Nat.ne_of_lt (Heap.lt_size e)) e
  exact h pins _ σ H xs _ Q I1 (by simpa using rv) hw
/-- target = value -/
def tAsg (te : TE) (g : TG) : TS := fun D σ H => te σ H fun x H1 => g x σ H1 D.nx
theorem ps_asg {tg e : Expr} {te : TE} {g : TG} (he : PE X e te) (hg : PG X tg g) (hs : swapsWithSole [tg] e pos.line X.env = pure false := by rfl) (hw : swappedStores [tg] e X.env = pure none := by rfl)
    (h1 : (assignEach [tg] X.env).map (·.2) = [assign tg X.env] := by rfl) : PS X (.Assign [tg] e pos) (tAsg te g) := by
  intro pins s σ H D I h
  refine wpAny_Assign_stores (thn (he pins s σ H _ I h) fun v s1 ⟨x, H1, I1, r1, q1⟩ => ?_) hs hw
  rw [h1]
  exact thn (hg pins s1 σ H1 x v _ I1 r1 q1) fun _ s2 q => q
/-- name = value -/
theorem ps_set {i : Nat} {x : Str} {e : Expr} {te : TE} {pos' : Pos} (hN : X.N.Nodup) (hi : X.N[i]? = some x) (hx : Loc X.env.scope x) (he : PE X e te) (hs : swapsWith e (some (.Name x pos')) pos.line X.env = pure false := by rfl) (hf : X.fn x = true ∨ X.env.scope.names.lookup x = some .local := by first | exact .inl rfl | exact .inr rfl | assumption) :
    PS X (.Assign [.Name x pos'] e pos) (tAsg te (gName i)) := by
  intro pins s σ H D I h
  refine wpAny_Assign_Name (thn (he pins s σ H _ I h) fun v s1 ⟨y, H1, I1, r1, q1⟩ => ?_) hs
  exact store_ok I1 hN hi hx r1 (fun s2 I2 => ⟨_, H1, I2, q1⟩) hf
end

/-! ### while -/
section
variable {X : Cx} {pos : Pos}
end

/-! ### what a loop or a comprehension walks -/
/-- at turn i: it yields x (the heap may grow), or it stops -/
structure It where
  go : Nat → Hp → Prop
  yld : Nat → Hp → V → Hp → Prop
  stop : Nat → Hp → Prop
/-- the iterator's own objects may turn: they are not the frame's, not pinned, younger than the entry (or a comprehension's own) -/
def FpOk (X : Cx) (pins : List (Addr × Obj)) (H : Hp) (b : Addr) : Prop :=
  H b = none ∧ b ≠ X.env.locals ∧ b ∉ X.fs ∧ (b ∈ X.ex ∨ X.s₀.heap.objs.size ≤ b) ∧ (∀ x c, X.env.cells.lookup x = some c → c ≠ b) ∧ ∀ p ∈ X.pn ++ pins, p.1 ≠ b
theorem Inv.fpOk {X : Cx} {pins : List (Addr × Obj)} {σ : St} {H H' : Hp} {s : Shared} {b : Addr} (I : Inv X pins σ H s) (hb : s.heap.objs.size ≤ b) (hn : H' b = none) : FpOk X pins H' b := by
  refine ⟨hn, Nat.ne_of_gt (Nat.lt_of_lt_of_le I.lt hb), I.nofs hb, .inr (Nat.le_trans I.sz hb), fun x c e z => ?_, fun p hp z => ?_⟩
  · obtain ⟨v, q⟩ := I.cell x c e
    exact absurd (Nat.lt_of_lt_of_le q.lt (by rw [z]; exact hb)) (Nat.lt_irrefl _)
  · exact absurd (Nat.lt_of_lt_of_le (Heap.lt_size (I.pin p hp).1) (by rw [z]; exact hb)) (Nat.lt_irrefl _)
structure Turn (P : Program) (w : World) (K : PySem.W.Frag) (tg : Expr) (J : It) (fp : List Addr) (it : Addr) (tn : Nat → Heap → Prop) : Prop where
  mem : it ∈ fp
  obj : ∀ i h, tn i h → ∀ b ∈ fp, ∃ o, h.get? b = some o ∧ ∀ v, o.data ≠ .cell v
  keep : ∀ i h h', tn i h → (∀ b ∈ fp, ∀ o, h.get? b = some o → h'.get? b = some o) → tn i h'
  item : ∀ (X : Cx), X.prog = P → X.w = w → X.K = K → X.calm = true → ∀ (i : Nat) (pins : List (Addr × Obj)) (s : Shared) (σ : St) (H : Hp) (E : Value → Shared → Prop), Inv X pins σ H s → (∀ b ∈ fp, FpOk X pins H b) → tn i s.heap → J.go i H →
    wpAny (model P w) X.A (pyNext (.ref it)) (fun r s1 => ∃ u, r = some u ∧
      wpAny (model P w) X.A (letOwnedTupleGo tg (.ref it) u) (fun _ s2 => ∃ x H', Inv X pins σ H' s2 ∧ RelV x u ∧ J.yld i H x H' ∧ tn (i + 1) s2.heap ∧ ∀ b ∈ fp, H' b = none) E s1) E s
  done : ∀ (X : Cx), X.prog = P → X.w = w → X.K = K → X.calm = true → ∀ (i : Nat) (pins : List (Addr × Obj)) (s : Shared) (σ : St) (H : Hp) (E : Value → Shared → Prop), Inv X pins σ H s → (∀ b ∈ fp, FpOk X pins H b) → tn i s.heap → J.stop i H →
    wpAny (model P w) X.A (pyNext (.ref it)) (fun r s1 => r = none ∧ Inv X pins σ H s1) E s
  self : ∀ (A : Around) (i : Nat) (s : Shared) (Q : Value → Shared → Prop) (E : Value → Shared → Prop), tn i s.heap → Q (.ref it) s → wpAny (model P w) A (pyIter (.ref it)) Q E s
abbrev TI := St → Hp → (It → Hp → Prop) → Prop
/-- an iterator has come -/
def PIE (X : Cx) (pins : List (Addr × Obj)) (σ : St) (tg : Expr) (R : It → Hp → Prop) (itv : Value) (s2 : Shared) : Prop :=
  ∃ (it : Addr) (fp : List Addr) (tn : Nat → Heap → Prop) (J : It) (H' : Hp), itv = .ref it ∧ Inv X pins σ H' s2 ∧ Turn X.prog X.w X.K tg J fp it tn ∧ tn 0 s2.heap ∧ (∀ b ∈ fp, FpOk X pins H' b) ∧ R J H'
def PI (X : Cx) (tg iter : Expr) (wi : TI) : Prop :=
  ∀ (pins : List (Addr × Obj)) (s : Shared) (σ : St) (H : Hp) (R : It → Hp → Prop), Inv X pins σ H s → wi σ H R →
    wpAny (model X.prog X.w) X.A (eval iter X.env) (fun v s1 => wpAny (model X.prog X.w) X.A (pyIter v) (PIE X pins σ tg R) X.xe s1) X.xe s

/-- the step ahead of the store is nothing for an iterator that keeps no tuple -/
theorem go_of {M : Model} {A : Around} {E : Value → Shared → Prop} {s : Shared} {tg : Expr} {it : Addr} {u : Value} {o : Obj} {n : String} {vs : Array Value} {Q : Unit → Shared → Prop} (ho : s.heap.get? it = some o) (hc : o.cls = .type n) (hd : o.data = .fields vs)
    (hn : ["enumerate", "zip", "dict_itemiterator", "dict_reverseitemiterator", "odict_iterator", "itertools.zip_longest", "itertools.pairwise"].contains n = false) (hQ : Q () s) : wpAny M A (letOwnedTupleGo tg (.ref it) u) Q E s := by
  unfold letOwnedTupleGo
  cases tg <;> first
    | exact wpAny_pure hQ
    | (cases u <;> first
        | exact wpAny_pure hQ
        | (refine wpAny_bind (wpAny_load ho ?_)
           rw [hc, hd]
           show wpAny M A (if (["enumerate", "zip", "dict_itemiterator", "dict_reverseitemiterator", "odict_iterator", "itertools.zip_longest", "itertools.pairwise"].contains n && vs[0]? == some (rawInt _)) = true then _ else _) Q E s
           rw [if_neg (by intro h; rw [hn, Bool.false_and] at h; cases h)]
           exact wpAny_pure hQ))

/-- the list at a, as it stands at each turn (a loop may append to it) -/
def Itl (K : PySem.W.Frag) (a : Addr) : It :=
  ⟨fun i H => ∃ xs x, SqL K H a xs ∧ xs[i]? = some x, fun i H x H' => H' = H ∧ ∀ xs, SqL K H a xs → xs[i]? = some x, fun i H => ∃ xs, SqL K H a xs ∧ xs.length ≤ i⟩
def Itt (K : PySem.W.Frag) (a : Addr) : It :=
  ⟨fun i H => ∃ xs x, SqT K H a xs ∧ xs[i]? = some x, fun i H x H' => H' = H ∧ ∀ xs, SqT K H a xs → xs[i]? = some x, fun i H => ∃ xs, SqT K H a xs ∧ xs.length ≤ i⟩
/-- lo, lo + 1, .. (n of them) -/
def Itr (lo : Int) (n : Nat) : It := ⟨fun i _ => i < n, fun i H x H' => H' = H ∧ x = .int (lo + i), fun i _ => n ≤ i⟩
theorem turn_list {P : Program} {w : World} {K : PySem.W.Frag} {tg : Expr} (a it : Addr) : Turn P w K tg (Itl K a) [it] it (fun i h => h.IsListIter it a i) where
  mem := by simp
  obj := fun i h st b hb => by
    have e : b = it := by simpa using hb
    subst e
    obtain ⟨o, e, c, d⟩ := st
    exact ⟨o, e, fun v z => by rw [d] at z; cases z⟩
  keep := fun i h h' st k => st.at fun o e => k it (by simp) o e
  item := by
    intro X hP hw hK hc i pins s σ H E I hf st hg
    subst hP hw hK
    obtain ⟨xs, x, hq, hx⟩ := hg
    obtain ⟨its, rv, p, hz⟩ := I.list hq
    obtain ⟨u, hu, ru⟩ := rv.get hx
    obtain ⟨f0, f1, f2, f3, f4, f5⟩ := hf it (by simp)
    refine wpAny_pyNext_list_item st p.isList (x := u) (by simpa using hu) fun h' st' sb => ?_
    have I1 : Inv X pins σ H { s with heap := h' } := I.turned (t' := s.toks) (fun b o hb e => (sb.2 b hb).trans e) f0 f1 f3 f4 f5
    obtain ⟨o, e, c, d⟩ := id st'
    exact ⟨u, rfl, go_of (s := { s with heap := h' }) e c d (by decide) ⟨x, H, I1, ru, ⟨rfl, fun ys hy => by rw [I.list_inj hy hq]; exact hx⟩, st', fun b hb => (hf b hb).1⟩⟩
  done := by
    intro X hP hw hK hc i pins s σ H E I hf st hg
    subst hP hw hK
    obtain ⟨xs, hq, hx⟩ := hg
    obtain ⟨its, rv, p, hz⟩ := I.list hq
    obtain ⟨f0, f1, f2, f3, f4, f5⟩ := hf it (by simp)
    have hl := rv.length
    exact wpAny_pyNext_list_end (I.ok.hd hc) st p.isList (by simp; omega) fun h' eb => ⟨rfl, I.turned (t' := s.toks) (fun b o hb e => eb b o hb e) f0 f1 f3 f4 f5⟩
  self := fun _ _ _ _ _ st h => wpAny_pyIter_listiter st h
theorem turn_tuple {P : Program} {w : World} {K : PySem.W.Frag} {tg : Expr} (a it : Addr) : Turn P w K tg (Itt K a) [it] it (fun i h => h.IsTupleIter it a i) where
  mem := by simp
  obj := fun i h st b hb => by
    have e : b = it := by simpa using hb
    subst e
    obtain ⟨o, e, c, d⟩ := st
    exact ⟨o, e, fun v z => by rw [d] at z; cases z⟩
  keep := fun i h h' st k => st.at fun o e => k it (by simp) o e
  item := by
    intro X hP hw hK hc i pins s σ H E I hf st hg
    subst hP hw hK
    obtain ⟨xs, x, hq, hx⟩ := hg
    obtain ⟨its, rv, p, hz⟩ := I.tuple hq
    obtain ⟨u, hu, ru⟩ := rv.get hx
    obtain ⟨f0, f1, f2, f3, f4, f5⟩ := hf it (by simp)
    refine wpAny_pyNext_tuple_item st (show s.heap.IsTuple a its.toArray from p) (x := u) (by simpa using hu) fun h' st' sb => ?_
    have I1 : Inv X pins σ H { s with heap := h' } := I.turned (t' := s.toks) (fun b o hb e => (sb.2 b hb).trans e) f0 f1 f3 f4 f5
    obtain ⟨o, e, c, d⟩ := id st'
    exact ⟨u, rfl, go_of (s := { s with heap := h' }) e c d (by decide) ⟨x, H, I1, ru, ⟨rfl, fun ys hy => by rw [I.tuple_inj hy hq]; exact hx⟩, st', fun b hb => (hf b hb).1⟩⟩
  done := by
    intro X hP hw hK hc i pins s σ H E I hf st hg
    subst hP hw hK
    obtain ⟨xs, hq, hx⟩ := hg
    obtain ⟨its, rv, p, hz⟩ := I.tuple hq
    obtain ⟨f0, f1, f2, f3, f4, f5⟩ := hf it (by simp)
    have hl := rv.length
    exact wpAny_pyNext_tuple_end (I.ok.hd hc) st (show s.heap.IsTuple a its.toArray from p) (by simp; omega) fun h' eb => ⟨rfl, I.turned (t' := s.toks) (fun b o hb e => eb b o hb e) f0 f1 f3 f4 f5⟩
  self := fun _ _ _ _ _ st h => wpAny_pyIter_tupleiter st h
theorem turn_range {P : Program} {w : World} {K : PySem.W.Frag} {tg : Expr} (it : Addr) (lo : Int) (n : Nat) : Turn P w K tg (Itr lo n) [it] it (fun i h => IsRangeIter h it (lo + (i : Nat) * 1) ((n : Int) - (i : Nat)) 1) where
  mem := by simp
  obj := fun i h st b hb => by
    have e : b = it := by simpa using hb
    subst e
    exact ⟨_, st, fun v z => by
      have z' : Data.fields _ = Data.cell v := z
      cases z'⟩
  keep := fun i h h' st k => k it (by simp) _ st
  item := by
    intro X hP hw hK hc i pins s σ H E I hf st hg
    subst hP hw hK
    obtain ⟨f0, f1, f2, f3, f4, f5⟩ := hf it (by simp)
    have W := Walks.range (prog := X.prog) (w := X.w) (I.ok.hd hc) it lo 1 n
    refine W.item i s _ _ hg st fun v h' tk hv st' kk => ?_
    obtain ⟨t, rfl⟩ := hv
    have I1 : Inv X pins σ H { s with heap := h', toks := tk } := I.turned (fun b o hb e => kk b o (by simpa using hb) e) f0 f1 f3 f4 f5
    refine ⟨_, rfl, go_of (s := { s with heap := h', toks := tk }) (n := "range_iterator") st' rfl rfl (by decide) ⟨.int (lo + i), H, I1, ⟨t, ?_⟩, ⟨rfl, rfl⟩, st', fun b hb => (hf b hb).1⟩⟩
    rw [Int.mul_one]
  done := by
    intro X hP hw hK hc i pins s σ H E I hf st hg
    subst hP hw hK
    obtain ⟨f0, f1, f2, f3, f4, f5⟩ := hf it (by simp)
    exact wpAny_pyNext_range_end (I.ok.hd hc) st (by have : n ≤ i := hg; omega) fun h' eb => ⟨rfl, I.turned (t' := s.toks) (fun b o hb e => eb b o hb e) f0 f1 f3 f4 f5⟩
  self := fun _ _ _ _ _ st h => wpAny_pyIter_rangeiter st h
end L2

namespace L2
open PySem PySem.Spec PyProof.Rows
section
variable {X : Cx} {tg : Expr}
def iList (K : PySem.W.Frag) (tl : TE) : TI := fun σ H R => tl σ H fun x H1 => ∃ a, x = .ref a ∧ (∃ xs, SqL K H1 a xs) ∧ R (Itl K a) H1
def iTup (K : PySem.W.Frag) (tl : TE) : TI := fun σ H R => tl σ H fun x H1 => ∃ a, x = .ref a ∧ (∃ xs, SqT K H1 a xs) ∧ R (Itt K a) H1
theorem pi_list {l : Expr} {tl : TE} (hl : PE X l tl) : PI X tg l (iList X.K tl) := by
  intro pins s σ H R I h
  refine thn (hl pins s σ H _ I h) fun v s1 ⟨x, H1, I1, r1, q1⟩ => ?_
  obtain ⟨a, e, ⟨xs, hq⟩, q⟩ := q1
  subst e
  cases r1
  obtain ⟨its, rv, p, hz⟩ := I1.list hq
  refine wpAny_pyIter_list p.isList ?_
  refine ⟨s1.heap.objs.size, [s1.heap.objs.size], _, _, H1, rfl, I1.kept (t' := s1.toks) fun b o e => Heap.get?_push_of_some _ e, turn_list a _, ⟨_, Heap.get?_push_size _ rfl, rfl, rfl⟩, fun b hb => ?_, q⟩
  have e : b = s1.heap.objs.size := by simpa using hb
  subst e
  exact I1.fpOk (Nat.le_refl _) (I1.hok.fresh (Nat.le_refl _))
theorem pi_tup {l : Expr} {tl : TE} (hl : PE X l tl) : PI X tg l (iTup X.K tl) := by
  intro pins s σ H R I h
  refine thn (hl pins s σ H _ I h) fun v s1 ⟨x, H1, I1, r1, q1⟩ => ?_
  obtain ⟨a, e, ⟨xs, hq⟩, q⟩ := q1
  subst e
  cases r1
  obtain ⟨its, rv, p, hz⟩ := I1.tuple hq
  refine wpAny_pyIter_tuple (show s1.heap.IsTuple a its.toArray from p) ?_
  refine ⟨s1.heap.objs.size, [s1.heap.objs.size], _, _, H1, rfl, I1.kept (t' := s1.toks) fun b o e => Heap.get?_push_of_some _ e, turn_tuple a _, ⟨_, Heap.get?_push_size _ rfl, rfl, rfl⟩, fun b hb => ?_, q⟩
  have e : b = s1.heap.objs.size := by simpa using hb
  subst e
  exact I1.fpOk (Nat.le_refl _) (I1.hok.fresh (Nat.le_refl _))
/-- a range object just made, walked -/
theorem range_it {pins : List (Addr × Obj)} {σ : St} {H : Hp} {s : Shared} {R : It → Hp → Prop} {E : Value → Shared → Prop} {lo hi : Int} {t u v : Tok} {tk : Nat} (I : Inv X pins σ H s) (h1 : -(2 ^ 62) ≤ lo) (h2 : lo < 2 ^ 62) (h3 : -(2 ^ 62) ≤ hi) (h4 : hi < 2 ^ 62)
    (q : R (Itr lo (hi - lo).toNat) H) : wpAny (model X.prog X.w) X.A (pyIter (.ref s.heap.objs.size)) (PIE X pins σ tg R) E { s with heap := s.heap.push { cls := .type "range", data := .fields #[.int lo t, .int hi u, .int 1 v] }, toks := tk } := by
  refine wpAny_pyIter_range (IsRange.new ..) (small_one h1 h2 h3 h4) ?_
  have I1 : Inv X pins σ H { s with heap := s.heap.push { cls := .type "range", data := .fields #[.int lo t, .int hi u, .int 1 v] }, toks := tk } := I.kept fun b o e => Heap.get?_push_of_some _ e
  refine ⟨(s.heap.push { cls := .type "range", data := .fields #[.int lo t, .int hi u, .int 1 v] }).objs.size, [(s.heap.push { cls := .type "range", data := .fields #[.int lo t, .int hi u, .int 1 v] }).objs.size], _, _, H, rfl,
    I1.kept (t' := tk) fun b o e => Heap.get?_push_of_some _ e, turn_range _ lo (hi - lo).toNat, ?_, fun b hb => ?_, q⟩
  · have e1 : lo + ((0 : Nat) : Int) * 1 = lo := by simp
    have e2 : (((hi - lo).toNat : Nat) : Int) - ((0 : Nat) : Int) = Builtin.Range.rangeSize lo hi 1 := by rw [rangeSize_one]; split <;> omega
    show IsRangeIter _ _ (lo + ((0 : Nat) : Int) * 1) ((((hi - lo).toNat : Nat) : Int) - ((0 : Nat) : Int)) 1
    rw [e1, e2]
    exact Heap.get?_push_size _ rfl
  · have e : b = (s.heap.push { cls := .type "range", data := .fields #[.int lo t, .int hi u, .int 1 v] }).objs.size := by simpa using hb
    subst e
    exact I1.fpOk (Nat.le_refl _) (I1.hok.fresh (Nat.le_refl _))
def iRng1 (ta : TA) : TI := fun σ H R => ta σ H fun vs H1 => ∃ j : Int, vs = [.int j] ∧ -(2 ^ 62) ≤ j ∧ j < 2 ^ 62 ∧ R (Itr 0 j.toNat) H1
def iRng2 (ta : TA) : TI := fun σ H R => ta σ H fun vs H1 => ∃ i j : Int, vs = [.int i, .int j] ∧ (-(2 ^ 62) ≤ i ∧ i < 2 ^ 62 ∧ -(2 ^ 62) ≤ j ∧ j < 2 ^ 62) ∧ R (Itr i (j - i).toNat) H1
theorem pi_range1 {a : Expr} {ta : TA} {p pos : Pos} (hg : Gl X "range") (hm : X.mg "range" = none) (ha : PA X [a] ta) (hs : starEach [a] X.env = [(false, eval a X.env)] := by rfl) : PI X tg (.Call (.Name "range" p) [a] [] pos) (iRng1 ta) := by
  intro pins s σ H R I h
  refine Call_ (ld_blt I hg hm boot_range (PyProof.Rows.callWith_type1 (thn (ha pos pins s σ H _ I h) fun us s1 ⟨vs, H1, I1, r1, q1⟩ => ?_) hs rfl))
  obtain ⟨j, e, q1, q2, q⟩ := q1
  subst e
  cases r1 with
  | cons r rr =>
    cases rr
    obtain ⟨t, rfl⟩ := r
    exact call_range_1 (range_it I1 (by omega) (by omega) q1 q2 (by simpa using q))
/-! ### for -/
/-- W: the invariant by the turn and a measure; N: what the body is to reach -/
def tFor (wi : TI) (g : TG) (tb : TS) : TS := fun D σ H => wi σ H fun J H1 => ∃ W : Nat → Nat → St → Hp → Prop, (∃ m, W 0 m σ H1) ∧ ∀ i m σ H, W i m σ H →
  (J.stop i H ∧ D.nx σ H) ∨ (J.go i H ∧ ∃ N : St → Hp → Prop, (∀ σ' H', N σ' H' → ∃ m', m' < m ∧ W (i + 1) m' σ' H') ∧ ∀ x H', J.yld i H x H' → g x σ H' fun σ2 H2 => tb { D with nx := N, ct := N, bk := D.nx } σ2 H2)
/-- the records at fp as they stand -/
def pinsAt (fp : List Addr) (h : Heap) : List (Addr × Obj) := fp.filterMap fun b => (h.get? b).map fun o => (b, o)
theorem mem_pinsAt {fp : List Addr} {h : Heap} {b : Addr} {o : Obj} (hb : b ∈ fp) (e : h.get? b = some o) : (b, o) ∈ pinsAt fp h := List.mem_filterMap.mpr ⟨b, hb, by rw [e]; rfl⟩
theorem of_pinsAt {fp : List Addr} {h : Heap} {p : Addr × Obj} (hp : p ∈ pinsAt fp h) : p.1 ∈ fp ∧ h.get? p.1 = some p.2 := by
  obtain ⟨b, hb, e⟩ := List.mem_filterMap.mp hp
  cases q : h.get? b with
  | none => rw [q] at e; cases e
  | some o =>
    rw [q] at e
    have e' : (b, o) = p := Option.some.inj e
    subst e'
    exact ⟨hb, q⟩
theorem Inv.pinned {pins : List (Addr × Obj)} {σ : St} {H : Hp} {s : Shared} {fp : List Addr} (I : Inv X pins σ H s) (hf : ∀ b ∈ fp, FpOk X pins H b) (ho : ∀ b ∈ fp, ∃ o, s.heap.get? b = some o ∧ ∀ v, o.data ≠ .cell v) : Inv X (pins ++ pinsAt fp s.heap) σ H s :=
  I.pins_of fun p hp => (List.mem_append.mp hp).elim (fun z => I.pin p (List.mem_append_right _ z)) fun z => by
    obtain ⟨hb, e⟩ := of_pinsAt z
    obtain ⟨f0, f1, f2, _⟩ := hf p.1 hb
    obtain ⟨o, e', d⟩ := ho p.1 hb
    rw [e] at e'; cases e'
    exact ⟨e, f0, f1, f2, d⟩
theorem Inv.unpinned {pins pl : List (Addr × Obj)} {σ : St} {H : Hp} {s : Shared} (I : Inv X (pins ++ pl) σ H s) : Inv X pins σ H s := I.pins_of fun p hp => I.pin p (List.mem_append_right _ (List.mem_append_left _ hp))
theorem ps_for {iter : Expr} {body : List Stmt} {wi : TI} {g : TG} {tb : TS} {pos : Pos} (hp : PassesOwn (model X.prog X.w) X.A X.env X.xe) (hc : X.calm = true) (hi : PI X tg iter wi) (hg : PG X tg g) (hb : PSs X body tb)
    (hs : ∀ x, foldedSetIterable iter X.env x = pure x := by intro _; rfl) : PS X (.For tg iter body [] pos) (tFor wi g tb) := by
  intro pins s σ H D I h
  refine wpAny_For (thn (hi pins s σ H _ I h) fun v s1 h1 => thn h1 fun itv s2 h2 => ?_) hs
  obtain ⟨it, fp, tn, J, H2, e, I2, T, st2, f2, W, ⟨m0, w0⟩, turn⟩ := h2
  subst e
  -- what stays true of the iterator's objects through the loop
  have stat : ∀ {H' : Hp}, (∀ b ∈ fp, H' b = none) → ∀ b ∈ fp, FpOk X pins H' b := fun hn b hb => ⟨hn b hb, (f2 b hb).2⟩
  refine codeAny_forLoop_any (fun n s' => ∃ i σ' H', Inv X pins σ' H' s' ∧ tn i s'.heap ∧ (∀ b ∈ fp, H' b = none) ∧ W i n σ' H') ?_ m0 ⟨0, σ, H2, I2, st2, fun b hb => (f2 b hb).1, w0⟩
  rintro n s3 ⟨i, σ3, H3, I3, st3, fr3, w3⟩
  rcases turn i n σ3 H3 w3 with ⟨stop, qn⟩ | ⟨go, N, hN, step⟩
  · refine wpAny_passesOwn hp (thn (T.done X rfl rfl rfl hc i pins s3 σ3 H3 X.xe I3 (stat fr3) st3 stop) fun r s4 ⟨hr, I4⟩ => ?_)
    subst hr
    exact wpAny_execs_nil ⟨σ3, H3, I4, qn⟩
  · refine wpAny_passesOwn hp (thn (T.item X rfl rfl rfl hc i pins s3 σ3 H3 X.xe I3 (stat fr3) st3 go) fun r s4 ⟨u, hr, h4⟩ => ?_)
    subst hr
    refine wpAny_passesOwn hp (thn h4 fun _ s5 ⟨x, H5, I5, r5, y5, st5, fr5⟩ => ?_)
    have I5' := I5.pinned (stat fr5) (T.obj _ _ st5)
    refine wpAny_passesOwn hp (thn (hg _ s5 σ3 H5 x u _ I5' r5 (step x H5 y5)) fun _ s6 ⟨σ6, H6, I6, q6⟩ => ?_)
    refine wpAny_passesOwn hp (thn (hb _ s6 σ6 H6 _ I6 q6) fun f s7 q7 => ?_)
    have again : ∀ {σ7 : St} {H7 : Hp}, Inv X (pins ++ pinsAt fp s5.heap) σ7 H7 s7 → N σ7 H7 → ∃ m, m < n ∧ ∃ i σ' H', Inv X pins σ' H' s7 ∧ tn i s7.heap ∧ (∀ b ∈ fp, H' b = none) ∧ W i m σ' H' := fun {σ7 H7} I7 n7 => by
      obtain ⟨m', hm, w7⟩ := hN σ7 H7 n7
      refine ⟨m', hm, i + 1, σ7, H7, I7.unpinned, T.keep _ _ _ st5 fun b hb o e => (I7.pin (b, o) (List.mem_append_right _ (List.mem_append_right _ (mem_pinsAt hb e)))).1, fun b hb => ?_, w7⟩
      obtain ⟨o, e, d⟩ := T.obj _ _ st5 b hb
      exact (I7.pin (b, o) (List.mem_append_right _ (List.mem_append_right _ (mem_pinsAt hb e)))).2.1
    cases f with
    | next => obtain ⟨σ7, H7, I7, n7⟩ := q7; exact again I7 n7
    | cont => obtain ⟨σ7, H7, I7, n7⟩ := q7; exact again I7 n7
    | brk => obtain ⟨σ7, H7, I7, q7⟩ := q7; exact ⟨σ7, H7, I7.unpinned, q7⟩
    | ret v => obtain ⟨x7, σ7, H7, I7, r7, q7⟩ := q7; exact ⟨x7, σ7, H7, I7.unpinned, r7, q7⟩
end

/-! ### the forms one uses -/
/-- over a list that the body leaves as it is -/
theorem for_list {K : PySem.W.Frag} {a : Addr} {xs : List V} {g : TG} {tb : TS} {D : Ends} {σ : St} {H : Hp} (Pv : Nat → St → Hp → Prop) (h0 : Pv 0 σ H) (hl : ∀ i σ H, i ≤ xs.length → Pv i σ H → SqL K H a xs)
    (hs : ∀ i x σ H, xs[i]? = some x → Pv i σ H → g x σ H fun σ2 H2 => tb { D with nx := Pv (i + 1), ct := Pv (i + 1), bk := D.nx } σ2 H2) (hd : ∀ σ H, Pv xs.length σ H → D.nx σ H) :
    ∃ W : Nat → Nat → St → Hp → Prop, (∃ m, W 0 m σ H) ∧ ∀ i m σ H, W i m σ H →
      ((Itl K a).stop i H ∧ D.nx σ H) ∨ ((Itl K a).go i H ∧ ∃ N : St → Hp → Prop, (∀ σ' H', N σ' H' → ∃ m', m' < m ∧ W (i + 1) m' σ' H') ∧ ∀ x H', (Itl K a).yld i H x H' → g x σ H' fun σ2 H2 => tb { D with nx := N, ct := N, bk := D.nx } σ2 H2) := by
  refine ⟨fun i m σ H => m = xs.length - i ∧ i ≤ xs.length ∧ Pv i σ H, ⟨xs.length, by simp, Nat.zero_le _, h0⟩, ?_⟩
  rintro i m σ H ⟨rfl, hi, p⟩
  have q := hl i σ H hi p
  by_cases hlt : i < xs.length
  · refine .inr ⟨⟨xs, xs[i], q, by simp [hlt]⟩, Pv (i + 1), fun σ' H' p' => ⟨xs.length - (i + 1), by omega, rfl, hlt, p'⟩, fun x H' y => ?_⟩
    obtain ⟨e, y⟩ := y
    subst e
    exact hs i x σ _ (y xs q) p
  · have e : i = xs.length := by omega
    subst e
    exact .inl ⟨⟨xs, q, Nat.le_refl _⟩, hd σ H p⟩
theorem for_tup {K : PySem.W.Frag} {a : Addr} {xs : List V} {g : TG} {tb : TS} {D : Ends} {σ : St} {H : Hp} (Pv : Nat → St → Hp → Prop) (h0 : Pv 0 σ H) (hl : ∀ i σ H, i ≤ xs.length → Pv i σ H → SqT K H a xs)
    (hs : ∀ i x σ H, xs[i]? = some x → Pv i σ H → g x σ H fun σ2 H2 => tb { D with nx := Pv (i + 1), ct := Pv (i + 1), bk := D.nx } σ2 H2) (hd : ∀ σ H, Pv xs.length σ H → D.nx σ H) :
    ∃ W : Nat → Nat → St → Hp → Prop, (∃ m, W 0 m σ H) ∧ ∀ i m σ H, W i m σ H →
      ((Itt K a).stop i H ∧ D.nx σ H) ∨ ((Itt K a).go i H ∧ ∃ N : St → Hp → Prop, (∀ σ' H', N σ' H' → ∃ m', m' < m ∧ W (i + 1) m' σ' H') ∧ ∀ x H', (Itt K a).yld i H x H' → g x σ H' fun σ2 H2 => tb { D with nx := N, ct := N, bk := D.nx } σ2 H2) := by
  refine ⟨fun i m σ H => m = xs.length - i ∧ i ≤ xs.length ∧ Pv i σ H, ⟨xs.length, by simp, Nat.zero_le _, h0⟩, ?_⟩
  rintro i m σ H ⟨rfl, hi, p⟩
  have q := hl i σ H hi p
  by_cases hlt : i < xs.length
  · refine .inr ⟨⟨xs, xs[i], q, by simp [hlt]⟩, Pv (i + 1), fun σ' H' p' => ⟨xs.length - (i + 1), by omega, rfl, hlt, p'⟩, fun x H' y => ?_⟩
    obtain ⟨e, y⟩ := y
    subst e
    exact hs i x σ _ (y xs q) p
  · have e : i = xs.length := by omega
    subst e
    exact .inl ⟨⟨xs, q, Nat.le_refl _⟩, hd σ H p⟩
theorem for_range {lo : Int} {n : Nat} {g : TG} {tb : TS} {D : Ends} {σ : St} {H : Hp} (Pv : Nat → St → Hp → Prop) (h0 : Pv 0 σ H)
    (hs : ∀ i σ H, i < n → Pv i σ H → g (.int (lo + i)) σ H fun σ2 H2 => tb { D with nx := Pv (i + 1), ct := Pv (i + 1), bk := D.nx } σ2 H2) (hd : ∀ σ H, Pv n σ H → D.nx σ H) :
    ∃ W : Nat → Nat → St → Hp → Prop, (∃ m, W 0 m σ H) ∧ ∀ i m σ H, W i m σ H →
      ((Itr lo n).stop i H ∧ D.nx σ H) ∨ ((Itr lo n).go i H ∧ ∃ N : St → Hp → Prop, (∀ σ' H', N σ' H' → ∃ m', m' < m ∧ W (i + 1) m' σ' H') ∧ ∀ x H', (Itr lo n).yld i H x H' → g x σ H' fun σ2 H2 => tb { D with nx := N, ct := N, bk := D.nx } σ2 H2) := by
  refine ⟨fun i m σ H => m = n - i ∧ i ≤ n ∧ Pv i σ H, ⟨n, by simp, Nat.zero_le _, h0⟩, ?_⟩
  rintro i m σ H ⟨rfl, hi, p⟩
  by_cases hlt : i < n
  · refine .inr ⟨hlt, Pv (i + 1), fun σ' H' p' => ⟨n - (i + 1), by omega, rfl, hlt, p'⟩, fun x H' y => ?_⟩
    obtain ⟨e, y⟩ := y
    subst e y
    exact hs i σ _ hlt p
  · have e : i = n := by omega
    subst e
    exact .inl ⟨Nat.le_refl _, hd σ H p⟩
end L2

namespace L2
open PySem PySem.Spec PyProof.Rows

abbrev R2 := V → V → Hp → VK → Prop
/-- a two-place operation on values: f is binaryOp op, inplaceOp op or compareOp op -/
def OpR (X : Cx) (f : Value → Value → Sem Value) (r : R2) : Prop :=
  ∀ (pins : List (Addr × Obj)) (s : Shared) (σ : St) (H : Hp) (x y : V) (v u : Value) (Q : VK), Inv X pins σ H s → RelV x v → RelV y u → r x y H Q →
    wpAny (model X.prog X.w) X.A (f v u) (EP X pins σ Q) X.xe s
/-- a one-place operation -/
def UnR (X : Cx) (f : Value → Sem Value) (r : V → Hp → VK → Prop) : Prop :=
  ∀ (pins : List (Addr × Obj)) (s : Shared) (σ : St) (H : Hp) (x : V) (v : Value) (Q : VK), Inv X pins σ H s → RelV x v → r x H Q →
    wpAny (model X.prog X.w) X.A (f v) (EP X pins σ Q) X.xe s
/-- a call of a value that is known (a builtin, a type) with values -/
def CallR (X : Cx) (f : Value) (r : List V → Hp → VK → Prop) : Prop :=
  ∀ (pins : List (Addr × Obj)) (s : Shared) (σ : St) (H : Hp) (xs : List V) (us : List Value) (Q : VK), Inv X pins σ H s → Vals xs us → r xs H Q →
    wpAny (model X.prog X.w) X.A (call f us) (EP X pins σ Q) X.xe s
def tOp (r : R2) (ta tb : TE) : TE := fun σ H Q => ta σ H fun x H1 => tb σ H1 fun y H2 => r x y H2 Q
def tUn (r : V → Hp → VK → Prop) (ta : TE) : TE := fun σ H Q => ta σ H fun x H1 => r x H1 Q
/-- ints in, under C, and a value out -/
def rI (C : Int → Int → Prop) (g : Int → Int → V) : R2 := fun x y H Q => ∃ i j, x = .int i ∧ y = .int j ∧ C i j ∧ Q (g i j) H
def rI0 (g : Int → Int → V) : R2 := fun x y H Q => ∃ i j, x = .int i ∧ y = .int j ∧ Q (g i j) H
def rU (g : Int → V) : V → Hp → VK → Prop := fun x H Q => ∃ i, x = .int i ∧ Q (g i) H

section
variable {X : Cx} {a b c : Expr} {ta tb tc : TE} {pos : Pos}

theorem binT (ha : PE X a ta) (hb : PE X b tb) {pins : List (Addr × Obj)} {s : Shared} {σ : St} {H : Hp} {R : V → V → Hp → Prop} (I : Inv X pins σ H s)
    (h : ta σ H fun x H1 => tb σ H1 fun y H2 => R x y H2) {Q : Value → Shared → Prop} {f : Value → Value → Sem Value}
    (hf : ∀ v u s2 x y H2, Inv X pins σ H2 s2 → RelV x v → RelV y u → R x y H2 → wpAny (model X.prog X.w) X.A (f v u) Q X.xe s2) :
    wpAny (model X.prog X.w) X.A (eval a X.env) (fun v s₁ => wpAny (model X.prog X.w) X.A (eval b X.env) (fun u s₂ => wpAny (model X.prog X.w) X.A (f v u) Q X.xe s₂) X.xe s₁) X.xe s := by
  refine thn (ha pins s σ H _ I h) fun v s1 ⟨x, H1, I1, r1, q1⟩ => ?_
  refine thn (hb pins s1 σ H1 _ I1 q1) fun u s2 ⟨y, H2, I2, r2, q2⟩ => ?_
  exact hf v u s2 x y H2 I2 r1 r2 q2

theorem pe_op {op : Operator} {r : R2} (ho : OpR X (binaryOp op) r) (ha : PE X a ta) (hb : PE X b tb) : PE X (.BinOp a op b pos) (tOp r ta tb) := by
  intro pins s σ H Q I h
  exact wpAny_BinOp (binT ha hb I h fun v u s2 x y H2 I2 rx ry q => ho pins s2 σ H2 x y v u Q I2 rx ry q)
theorem pe_un {op : UnaryOp} {r : V → Hp → VK → Prop} (ho : UnR X (unaryOp op) r) (ha : PE X a ta) : PE X (.UnaryOp op a pos) (tUn r ta) := by
  intro pins s σ H Q I h
  exact UnaryOp_ (thn (ha pins s σ H _ I h) fun v s1 ⟨x, H1, I1, r1, q1⟩ => ho pins s1 σ H1 x v Q I1 r1 q1)
/-! ### ints -/
theorem opI {f : Value → Value → Sem Value} {C : Int → Int → Prop} {g : Int → Int → Int}
    (rule : ∀ (i j : Int) (t u : Tok) (s : Shared) (Q : Value → Shared → Prop) (E : Value → Shared → Prop), C i j → Q (.int (g i j) s.toks) { s with toks := s.toks + 1 } → wpAny (model X.prog X.w) X.A (f (.int i t) (.int j u)) Q E s) :
    OpR X f (rI C fun i j => .int (g i j)) := by
  intro pins s σ H x y v u Q I rx ry h
  obtain ⟨i, j, rfl, rfl, hc, q⟩ := h
  obtain ⟨t, rfl⟩ := rx
  obtain ⟨t', rfl⟩ := ry
  exact rule i j t t' s _ _ hc ⟨.int (g i j), H, I.tok _, ⟨_, rfl⟩, q⟩
theorem opI0 {f : Value → Value → Sem Value} {g : Int → Int → Int}
    (rule : ∀ (i j : Int) (t u : Tok) (s : Shared) (Q : Value → Shared → Prop) (E : Value → Shared → Prop), Q (.int (g i j) s.toks) { s with toks := s.toks + 1 } → wpAny (model X.prog X.w) X.A (f (.int i t) (.int j u)) Q E s) :
    OpR X f (rI0 fun i j => .int (g i j)) := by
  intro pins s σ H x y v u Q I rx ry h
  obtain ⟨i, j, rfl, rfl, q⟩ := h
  obtain ⟨t, rfl⟩ := rx
  obtain ⟨t', rfl⟩ := ry
  exact rule i j t t' s _ _ ⟨.int (g i j), H, I.tok _, ⟨_, rfl⟩, q⟩
theorem opB0 {f : Value → Value → Sem Value} {g : Int → Int → Bool}
    (rule : ∀ (i j : Int) (t u : Tok) (s : Shared) (Q : Value → Shared → Prop) (E : Value → Shared → Prop), Q (.bool (g i j)) s → wpAny (model X.prog X.w) X.A (f (.int i t) (.int j u)) Q E s) :
    OpR X f (rI0 fun i j => .bl (g i j)) := by
  intro pins s σ H x y v u Q I rx ry h
  obtain ⟨i, j, rfl, rfl, q⟩ := h
  obtain ⟨t, rfl⟩ := rx
  obtain ⟨t', rfl⟩ := ry
  exact rule i j t t' s _ _ ⟨.bl (g i j), H, I, rfl, q⟩

def CDiv (i j : Int) : Prop := 0 < j ∧ j < 1073741824
def CMul (i j : Int) : Prop := (-(2 ^ 64) < i ∧ i < 2 ^ 64) ∨ (-(2 ^ 64) < j ∧ j < 2 ^ 64)
theorem CMul.ok {i j : Int} (h : CMul i j) : IntMulOk i j := by
  rcases h with ⟨h1, h2⟩ | ⟨h1, h2⟩
  · exact .of_left (intBits_le_64 h1 h2)
  · exact .of_right (intBits_le_64 h1 h2)
theorem op_add : OpR X (binaryOp .Add) (rI0 fun i j => .int (i + j)) := opI0 fun _ _ _ _ _ _ _ q => add_int q
theorem op_sub : OpR X (binaryOp .Sub) (rI0 fun i j => .int (i - j)) := opI0 fun _ _ _ _ _ _ _ q => sub_int q
theorem op_mul : OpR X (binaryOp .Mult) (rI CMul fun i j => .int (i * j)) := opI fun _ _ _ _ _ _ _ hc q => mul_int q hc.ok
/-- // by a positive divisor -/
theorem op_fdiv : OpR X (binaryOp .FloorDiv) (rI CDiv fun i j => .int (i / j)) := opI fun i j _ _ _ _ _ hc q => by
  have h1 : (0 : Int) < j := hc.1
  have h2 : j < 1073741824 := hc.2
  exact floordiv_int (by omega) (by rw [Int.fdiv_eq_ediv_of_nonneg i (by omega)]; exact q) (.inl (PyProof.noPylong_small (by omega)))
/-- % by a positive divisor of any size -/
theorem op_mod : OpR X (binaryOp .Mod) (rI (fun _ j => 0 < j) fun i j => .int (i % j)) := opI fun i j _ _ _ _ _ hc q => by
  have h1 : (0 : Int) < j := hc
  exact mod_int' (by omega) (by rw [Int.fmod_eq_emod_of_nonneg i (by omega)]; exact q)
theorem unI {f : Value → Sem Value} {g : Int → Int}
    (rule : ∀ (i : Int) (t : Tok) (s : Shared) (Q : Value → Shared → Prop) (E : Value → Shared → Prop), Q (.int (g i) s.toks) { s with toks := s.toks + 1 } → wpAny (model X.prog X.w) X.A (f (.int i t)) Q E s) :
    UnR X f (rU fun i => .int (g i)) := by
  intro pins s σ H x v Q I rx h
  obtain ⟨i, rfl, q⟩ := h
  obtain ⟨t, rfl⟩ := rx
  exact rule i t s _ _ ⟨.int (g i), H, I.tok _, ⟨_, rfl⟩, q⟩
theorem un_neg : UnR X (unaryOp .USub) (rU fun i => .int (-i)) := unI fun _ _ _ _ _ q => neg_int q
/-! ### bools among ints: n += (a < b) -/
end

/-! ### comparisons -/
/-- the scalars that == tells apart as data does -/
def scal : V → V → Bool
  | .non, .non => true | .non, .int _ => true | .int _, .non => true | .non, .bl _ => true | .bl _, .non => true | .non, .str _ => true | .str _, .non => true
  | .int _, .int _ => true | .bl _, .bl _ => true | .str _, .str _ => true | .byt _, .byt _ => true
  | .int _, .str _ => true | .str _, .int _ => true | .bl _, .str _ => true | .str _, .bl _ => true
  | _, _ => false
def rEq : R2 := fun x y H Q => scal x y = true ∧ Q (.bl (decide (x = y))) H
def rNe : R2 := fun x y H Q => scal x y = true ∧ Q (.bl (!decide (x = y))) H

theorem dec_int {i j : Int} : decide (V.int i = V.int j) = (i == j) := by
  rw [Bool.eq_iff_iff]
  simp
theorem dec_bl {i j : Bool} : decide (V.bl i = V.bl j) = (i == j) := by
  rw [Bool.eq_iff_iff]
  simp
theorem dec_str {i j : Str} : decide (V.str i = V.str j) = (i == j) := by
  rw [Bool.eq_iff_iff]
  simp
theorem dec_byt {i j : Array UInt8} : decide (V.byt i = V.byt j) = (i.toList == j.toList) := by
  rw [Bool.eq_iff_iff]
  cases i
  cases j
  simp

section
variable {X : Cx} {a b c : Expr} {ta tb tc : TE} {pos : Pos}
theorem fin_bl {pins : List (Addr × Obj)} {σ : St} {H : Hp} {s : Shared} {Q : VK} {k k' : Bool} (I : Inv X pins σ H s) (q : Q (.bl k) H) (e : k = k') : EP X pins σ Q (.bool k') s := by
  subst e
  exact ⟨.bl k, H, I, rfl, q⟩
theorem op_eq : OpR X (compareOp .Eq) rEq := by
  intro pins s σ H x y v u Q I rx ry h
  obtain ⟨hs, q⟩ := h
  cases x with
  | non =>
    cases rx
    cases y with
    | non => cases ry; exact PySem.EqNone.eq_none_none (fin_bl I q (by simp))
    | bl j => cases ry; exact PySem.EqNone.eq_none_bool (fin_bl I q (by simp))
    | int j => obtain ⟨t', rfl⟩ := ry; exact PySem.EqNone.eq_none_int (fin_bl I q (by simp))
    | str j => obtain ⟨t', rfl⟩ := ry; exact PySem.EqNone.eq_none_str (fin_bl I q (by simp))
    | _ => exact absurd (show false = true from hs) Bool.false_ne_true
  | bl i =>
    cases rx
    cases y with
    | non => cases ry; exact PySem.EqNone.eq_bool_none (fin_bl I q (by simp))
    | bl j => cases ry; exact eq_bool (fin_bl I q dec_bl)
    | str j => obtain ⟨t', rfl⟩ := ry; exact PySem.EqMixed.eq_bool_str (fin_bl I q (by simp))
    | _ => exact absurd (show false = true from hs) Bool.false_ne_true
  | int i =>
    obtain ⟨t, rfl⟩ := rx
    cases y with
    | non => cases ry; exact PySem.EqNone.eq_int_none (fin_bl I q (by simp))
    | int j => obtain ⟨t', rfl⟩ := ry; exact eq_int (fin_bl I q dec_int)
    | str j => obtain ⟨t', rfl⟩ := ry; exact PySem.EqMixed.eq_int_str (fin_bl I q (by simp))
    | _ => exact absurd (show false = true from hs) Bool.false_ne_true
  | str i =>
    obtain ⟨t, rfl⟩ := rx
    cases y with
    | non => cases ry; exact PySem.EqNone.eq_str_none (fin_bl I q (by simp))
    | bl j => cases ry; exact PySem.EqMixed.eq_str_bool (fin_bl I q (by simp))
    | int j => obtain ⟨t', rfl⟩ := ry; exact PySem.EqMixed.eq_str_int (fin_bl I q (by simp))
    | str j => obtain ⟨t', rfl⟩ := ry; exact eq_str (fin_bl I q dec_str)
    | _ => exact absurd (show false = true from hs) Bool.false_ne_true
  | byt i =>
    obtain ⟨t, rfl⟩ := rx
    cases y with
    | byt j => obtain ⟨t', rfl⟩ := ry; exact PySem.W.eq_bytes (fin_bl I q dec_byt)
    | _ => exact absurd (show false = true from hs) Bool.false_ne_true
  | _ => cases y <;> exact absurd (show false = true from hs) Bool.false_ne_true
theorem op_ne : OpR X (compareOp .NotEq) rNe := by
  intro pins s σ H x y v u Q I rx ry h
  obtain ⟨hs, q⟩ := h
  cases x with
  | non =>
    cases rx
    cases y with
    | non => cases ry; exact PySem.EqNone.ne_none_none (fin_bl I q (by simp))
    | bl j => cases ry; exact PySem.EqNone.ne_none_bool (fin_bl I q (by simp))
    | int j => obtain ⟨t', rfl⟩ := ry; exact PySem.EqNone.ne_none_int (fin_bl I q (by simp))
    | str j => obtain ⟨t', rfl⟩ := ry; exact PySem.EqNone.ne_none_str (fin_bl I q (by simp))
    | _ => exact absurd (show false = true from hs) Bool.false_ne_true
  | bl i =>
    cases rx
    cases y with
    | non => cases ry; exact PySem.EqNone.ne_bool_none (fin_bl I q (by simp))
    | bl j => cases ry; exact ne_bool (fin_bl I q (congrArg not dec_bl))
    | str j => obtain ⟨t', rfl⟩ := ry; exact PySem.EqMixed.ne_bool_str (fin_bl I q (by simp))
    | _ => exact absurd (show false = true from hs) Bool.false_ne_true
  | int i =>
    obtain ⟨t, rfl⟩ := rx
    cases y with
    | non => cases ry; exact PySem.EqNone.ne_int_none (fin_bl I q (by simp))
    | int j => obtain ⟨t', rfl⟩ := ry; exact ne_int (fin_bl I q (congrArg not dec_int))
    | str j => obtain ⟨t', rfl⟩ := ry; exact PySem.EqMixed.ne_int_str (fin_bl I q (by simp))
    | _ => exact absurd (show false = true from hs) Bool.false_ne_true
  | str i =>
    obtain ⟨t, rfl⟩ := rx
    cases y with
    | non => cases ry; exact PySem.EqNone.ne_str_none (fin_bl I q (by simp))
    | bl j => cases ry; exact PySem.EqMixed.ne_str_bool (fin_bl I q (by simp))
    | int j => obtain ⟨t', rfl⟩ := ry; exact PySem.EqMixed.ne_str_int (fin_bl I q (by simp))
    | str j => obtain ⟨t', rfl⟩ := ry; exact ne_str (fin_bl I q (congrArg not dec_str))
    | _ => exact absurd (show false = true from hs) Bool.false_ne_true
  | byt i =>
    obtain ⟨t, rfl⟩ := rx
    cases y with
    | byt j => obtain ⟨t', rfl⟩ := ry; exact PySem.W.ne_bytes (fin_bl I q (congrArg not dec_byt))
    | _ => exact absurd (show false = true from hs) Bool.false_ne_true
  | _ => cases y <;> exact absurd (show false = true from hs) Bool.false_ne_true

theorem op_lt : OpR X (compareOp .Lt) (rI0 fun i j => .bl (decide (i < j))) := opB0 fun _ _ _ _ _ _ _ q => lt_int q
theorem op_gt : OpR X (compareOp .Gt) (rI0 fun i j => .bl (decide (j < i))) := opB0 fun _ _ _ _ _ _ _ q => gt_int q
/-- the one string within the other -/
theorem op_in_str : OpR X (compareOp .In) (fun x y H Q => ∃ i j, x = .str i ∧ y = .str j ∧ Q (.bl (!(Builtin.Str.occurrences j i 0 j.length 1).isEmpty)) H) := by
  intro pins s σ H x y v u Q I rx ry h
  obtain ⟨i, j, rfl, rfl, q⟩ := h
  obtain ⟨t, rfl⟩ := rx
  obtain ⟨t', rfl⟩ := ry
  exact in_str (fin_bl I q rfl)

/-- is None, is not None: the right side a value none -/
theorem op_isN : OpR X (compareOp .Is) (fun x y H Q => y = .non ∧ Q (.bl (decide (x = .non))) H) := by
  intro pins s σ H x y v u Q I rx ry h
  obtain ⟨rfl, q⟩ := h
  cases ry
  refine is_none_gen (fin_bl I q ?_)
  cases x <;> first
    | (cases rx; rfl)
    | (obtain ⟨t, rfl⟩ := rx; rfl)
/-- two rules for one operation: by cases -/
theorem OpR.or {f : Value → Value → Sem Value} {r r' : R2} (h : OpR X f r) (h' : OpR X f r') : OpR X f (fun x y H Q => r x y H Q ∨ r' x y H Q) := by
  intro pins s σ H x y v u Q I rx ry q
  rcases q with q | q
  · exact h pins s σ H x y v u Q I rx ry q
  · exact h' pins s σ H x y v u Q I rx ry q

theorem nomark (b : Expr) {op : CmpOp} (h : op ≠ .In := by decide) (h2 : op ≠ .NotIn := by decide) : behindInMarks op b = false := by
  have e1 : (op == CmpOp.In) = false := by cases op <;> first | rfl | exact absurd rfl h
  have e2 : (op == CmpOp.NotIn) = false := by cases op <;> first | rfl | exact absurd rfl h2
  cases b <;> simp [behindInMarks, e1, e2]
/-- a comparison as a value; hm: nomark b, or (for in, not in) by with_unfolding_all rfl -/
theorem pe_cmpR {op : CmpOp} {r : R2} (ho : OpR X (compareOp op) r) (ha : PE X a ta) (hb : PE X b tb) (hm : behindInMarks op b = false) : PE X (.Compare a [op] [b] pos) (tOp r ta tb) := by
  intro pins s σ H Q I h
  exact wpAny_Compare1 (binT ha hb I h fun v u s2 x y H2 I2 rx ry q => ho pins s2 σ H2 x y v u Q I2 rx ry q) hm
/-- a reading of a value as a test -/
def tTest (t : TE) : TT := fun σ H Q => t σ H fun x H' => ∃ k, x = .bl k ∧ Q k H'
theorem pt_cmpR {op : CmpOp} {r : R2} (ho : OpR X (compareOp op) r) (ha : PE X a ta) (hb : PE X b tb) (hm : behindInMarks op b = false) : PT X (.Compare a [op] [b] pos) (tTest (tOp r ta tb)) := by
  intro pins s σ H Q I h
  refine wpAny_isTrue_Compare1 (thn (ha pins s σ H _ I h) fun v s1 ⟨x, H1, I1, r1, q1⟩ => thn (hb pins s1 σ H1 _ I1 q1) fun u s2 ⟨y, H2, I2, r2, q2⟩ =>
    thn (ho pins s2 σ H2 x y v u _ I2 r1 r2 q2) fun c s3 ⟨z, H3, I3, r3, k, e, q3⟩ => ?_) hm
  subst e
  cases r3
  exact wpAny_truthy_bool ⟨H3, I3, q3⟩
/-- a op1 b op2 c -/
def tChain (r r' : R2) (ta tb tc : TE) : TE := fun σ H Q => ta σ H fun x H1 => tb σ H1 fun y H2 => r x y H2 fun z H3 => ∃ k, z = .bl k ∧
  (if k = true then tc σ H3 fun w' H4 => r' y w' H4 Q else Q (.bl false) H3)
/-! ### truth -/
theorem line63 : (sizeLine : Nat) < 2 ^ 63 := by rw [sizeLine_eq]; decide
/-! ### strs and bytes -/
/-! ### scalar builtins, by CallR -/
theorem vals1 {x : V} {us : List Value} (r : Vals [x] us) : ∃ u, us = [u] ∧ RelV x u := by
  cases r with
  | cons r1 r2 => cases r2; exact ⟨_, rfl, r1⟩
theorem vals2 {x y : V} {us : List Value} (r : Vals [x, y] us) : ∃ u w', us = [u, w'] ∧ RelV x u ∧ RelV y w' := by
  cases r with
  | cons r1 r2 =>
    cases r2 with
    | cons r3 r4 => cases r4; exact ⟨_, _, rfl, r1, r3⟩
theorem call_max2 (hc : X.calm = true) : CallR X (.builtin "max") (fun xs H Q => ∃ i j, xs = [.int i, .int j] ∧ Q (.int (if j > i then j else i)) H) := by
  intro pins s σ H xs us Q I r h
  obtain ⟨i, j, rfl, q⟩ := h
  obtain ⟨u, w', rfl, ⟨t, rfl⟩, ⟨t', rfl⟩⟩ := vals2 r
  refine max_two_ints (I.ok.hd hc) fun h' tk k => ⟨_, H, I.kept k, ?_, q⟩
  by_cases hj : j > i
  · rw [if_pos hj, if_pos hj]; exact ⟨_, rfl⟩
  · rw [if_neg hj, if_neg hj]; exact ⟨_, rfl⟩
end
end L2

namespace L2
open PySem PySem.Spec PyProof.Rows

/-! ### an instance, its attributes a map -/
structure ObjM (h : Heap) (x dx C : Addr) (mA : Str → Option Value) : Prop where
  obj : h.get? x = some (PySem.W.instObj C dx)
  ns : h.Ns1 dx mA
  ne : dx ≠ x

theorem lookIn_ns {h : Heap} {dx : Addr} {mA : Str → Option Value} (n : h.Ns1 dx mA) : ∃ od, h.get? dx = some od ∧ ∀ name, PySem.W.lookIn name od = some (mA name) := by
  obtain ⟨o, es, ep, ho, hd, hk, _, hm⟩ := n
  refine ⟨o, ho, fun name => ?_⟩
  have e := hm name
  unfold nsFind findBy at e
  rw [← Array.find?_toList] at e
  unfold PySem.W.lookIn
  rw [hd]
  dsimp only
  split
  · rename_i y q
    rw [q] at e
    exact congrArg some e
  · rename_i q
    rw [q] at e
    have a : es.toList.any (·.refKey) = false := by
      rw [List.any_eq_false]
      intro y hy
      obtain ⟨z, t, hkey⟩ := hk y (Array.mem_toList_iff.mp hy)
      simp [DictEntry.refKey, hkey]
    have a' : ¬ es.toList.any (·.refKey) = true := by rw [a]; exact Bool.false_ne_true
    rw [if_neg a']
    exact congrArg some e

theorem ObjM.look {h : Heap} {x dx C : Addr} {mA : Str → Option Value} (I : ObjM h x dx C mA) : ∃ od, PySem.W.InstAt h x (PySem.W.instObj C dx) C (some od) ∧ ∀ name, PySem.W.lookIn name od = some (mA name) :=
  let ⟨od, ho, hl⟩ := lookIn_ns I.ns
  ⟨od, ⟨I.obj, rfl, rfl, ho⟩, hl⟩

section
variable {prog : Program} {w : World} {A : Around} {E : Value → Shared → Prop} {s : Shared} {K : PySem.W.Frag} {x dx C f : Addr} {mA : Str → Option Value} {name : Str} {v : Value}

end

/-! ### the attributes as a list of pairs -/
section
variable {P : Program} {w : World} {H H' : Hp} {h h' : Heap} {a C dx : Addr} {fs fs' : List (Str × V)}
theorem ins_get (hok : HOk P w H h) (e : H a = some (.ins C dx fs)) : ∃ mA, ObjM h a dx C mA ∧ (∀ f, RelO (fs.lookup f) (mA f)) ∧ PySem.Within mA (fs.map (·.1)) ∧ fs.length ≤ 1000 ∧ H dx = some (.own a) := by
  obtain ⟨d, z, ne, ob, mA, n, r, q⟩ := (show ObjOk P w H h a (.ins C dx fs) from hok a _ e)
  exact ⟨mA, ⟨ob, n, ne⟩, r, q, z, d⟩
end

/-! ### what of the text a class must have -/
structure Cls (K : PySem.W.Frag) (C : Addr) : Prop where
  pg : PySem.W.plainGet K C Str.empty = true
  hd : PySem.W.hasDictIn K C = true
  po : PySem.W.plainOver K C = true
  sa : PySem.W.findIn K (.ref C) "__setattr__" = some (some (.builtin "object.__setattr__"))
theorem Cls.get {K : PySem.W.Frag} {C : Addr} (c : Cls K C) (f : Str) : PySem.W.plainGet K C f = true := c.pg
/-- a constant of the class -/
structure Con (K : PySem.W.Frag) (C : Addr) (f : Str) (v : V) (u : Value) : Prop where
  at_ : PySem.W.findIn K (.ref C) f = some (some u)
  rel : RelV v u
  get : PySem.W.specialIn K u "__get__" = some none
  cp : PySem.W.copiedNames.contains f = false
/-- a method: a plain def of the class or of one above it -/
structure Meth (K : PySem.W.Frag) (C : Addr) (m : Str) (f : Addr) : Prop where
  at_ : PySem.W.findIn K (.ref C) m = some (some (.ref f))
  fn : PySem.W.isFn K (.ref f) = true
  kp : PySem.W.keepIn K (.ref f) = true

section
variable {X : Cx} {pins : List (Addr × Obj)} {σ : St} {H : Hp} {s : Shared} {a C dx : Addr} {fs : List (Str × V)} {f : Str} {v : V} {A : Around} {E : Value → Shared → Prop}

/-- a new instance, tracked, without attributes -/
theorem Inv.made (I : Inv X pins σ H s) : Inv X pins σ (upd (upd H s.heap.objs.size (.own (s.heap.objs.size + 1))) (s.heap.objs.size + 1) (.ins C s.heap.objs.size []))
    { s with heap := (s.heap.push PySem.W.emptyDict).push (PySem.W.instObj C s.heap.objs.size) } := by
  have e1 : (s.heap.push PySem.W.emptyDict).get? s.heap.objs.size = some PySem.W.emptyDict := Heap.get?_push_size s.heap rfl
  have e2 : ((s.heap.push PySem.W.emptyDict).push (PySem.W.instObj C s.heap.objs.size)).get? (s.heap.objs.size + 1) = some (PySem.W.instObj C s.heap.objs.size) := by
    have := Heap.get?_push_size (s.heap.push PySem.W.emptyDict) (o := PySem.W.instObj C s.heap.objs.size) rfl
    rwa [Heap.size_push] at this
  have e3 : (s.heap.push PySem.W.emptyDict).Ns s.heap.objs.size (fun _ => none) := ⟨PySem.W.emptyDict, #[], _, e1, rfl, (fun e he => absurd he (by simp)), fun _ => rfl⟩
  have I1 := I.laid (a := s.heap.objs.size) (o := .own (s.heap.objs.size + 1)) (h' := s.heap.push PySem.W.emptyDict) (t' := s.toks) (fun b u q => Heap.get?_push_of_some _ q) (Nat.le_refl _) ⟨_, e1⟩
  refine I1.laid (a := s.heap.objs.size + 1) (o := .ins C s.heap.objs.size []) (t' := s.toks) (fun b u q => Heap.get?_push_of_some _ q) (Nat.le_of_eq (Heap.size_push _ _)) ?_
  have ne : s.heap.objs.size ≠ s.heap.objs.size + 1 := Nat.ne_of_lt (Nat.lt_succ_self _)
  refine ⟨by rw [upd_ne ne, upd_same], Nat.zero_le _, ne, e2, fun _ => none, (Heap.Ns1.of_empty e3).at fun o q => Heap.get?_push_of_some _ q, fun _ => True.intro, fun y hy => absurd rfl hy⟩

end

/-! ### readings and rules -/
section
variable {X : Cx} {o e value : Expr} {f : Str} {pos pos' tpos : Pos} {ta tv : TE}
end

/-! ### isinstance -/
section
variable {X : Cx} {pins : List (Addr × Obj)} {σ : St} {H : Hp} {s : Shared} {A : Around} {E : Value → Shared → Prop} {Q : Value → Shared → Prop} {c : Value} {b : Bool}
/-- the type of a value, as the fragment's deciders take it; for an instance its class -/
inductive TyOf (K : PySem.W.Frag) (H : Hp) : V → Value → Prop where
  | non : TyOf K H .non (.type "NoneType")
  | bl (x : Bool) : TyOf K H (.bl x) (.type "bool")
  | int (i : Int) : TyOf K H (.int i) (.type "int")
  | str (x : Str) : TyOf K H (.str x) (.type "str")
  | flt (x : UInt64) : TyOf K H (.flt x) (.type "float")
  | lst {a : Addr} {xs : List V} (e : H a = some (.lst xs)) : TyOf K H (.ref a) (.type "list")
  | frz {a : Addr} {o : Obj} {xs : List V} (e : H a = some (.frz o (.lst xs))) : TyOf K H (.ref a) (.type "list")
  | tup {a : Addr} {xs : List V} (e : H a = some (.tup xs)) : TyOf K H (.ref a) (.type "tuple")
  | dK {a : Addr} {kvs : List (Key × V)} (e : H a = some (.dK kvs)) : TyOf K H (.ref a) (.type "dict")
  | dT {a : Addr} {kvs : List (List Key × V)} (e : H a = some (.dT kvs)) : TyOf K H (.ref a) (.type "dict")
  | ins {a C dx : Addr} {fs : List (Str × V)} (e : H a = some (.ins C dx fs)) (cl : Cls K C) (ha : PySem.W.findIn K (.ref C) "__class__" = some (some (.builtin "object.__class__")))
      (hn : PySem.W.specialIn K (.builtin "object.__class__") "__get__" = some (some (.builtin "getset_descriptor.__get__"))) (htk : PySem.W.takesIn K (.builtin "object.__class__") = some true)
      (hm : PySem.W.mroIn K C (.type "object") = some true) : TyOf K H (.ref a) (.ref C)
/-- isinstance(x, c) for one class c, a built-in or an own one: kitOne's answer -/
theorem isinst_ok {x : V} {u t : Value} (I : Inv X pins σ H s) (rx : RelV x u) (ty : TyOf X.K H x t) (e : PySem.W.kitOne X.K t c = some b) (h : ∀ tk, Q (.bool b) { s with toks := tk }) :
    wpAny (model X.prog X.w) A (call (.builtin "isinstance") [u, c]) Q E s := by
  cases ty with
  | non => cases (show u = Value.none from rx); exact PySem.W.kia_one PySem.W.kitx_none I.kIn True.intro e (fun z => nomatch z) h
  | bl y => cases (show u = Value.bool y from rx); exact PySem.W.kia_one PySem.W.kitx_bool I.kIn True.intro e (fun z => nomatch z) h
  | int i => obtain ⟨t, q⟩ := (show ∃ t, u = Value.int i t from rx); cases q; exact PySem.W.kia_one PySem.W.kitx_int I.kIn True.intro e (fun z => nomatch z) h
  | str y => obtain ⟨t, q⟩ := (show ∃ t, u = Value.str y t from rx); cases q; exact PySem.W.kia_one PySem.W.kitx_str I.kIn True.intro e (fun z => nomatch z) h
  | flt y => obtain ⟨t, q⟩ := (show ∃ t, u = Value.float y t from rx); cases q; exact PySem.W.kia_one PySem.W.kitx_float I.kIn True.intro e (fun z => nomatch z) h
  | @lst a xs ea =>
    cases (show u = Value.ref a from rx)
    obtain ⟨_, _, n, _, h1⟩ := (show ObjOk X.prog X.w H s.heap a (.lst xs) from I.hok a _ ea)
    exact PySem.W.kia_one PySem.W.kitx_list I.kIn ⟨_, h1, rfl⟩ e (fun z => nomatch z) h
  | @frz a ob xs ea =>
    cases (show u = Value.ref a from rx)
    obtain ⟨_, _, _, n, _, h1⟩ := (show ObjOk X.prog X.w H s.heap a (.frz ob (.lst xs)) from I.hok a _ ea)
    exact PySem.W.kia_one PySem.W.kitx_list I.kIn ⟨_, h1, rfl⟩ e (fun z => nomatch z) h
  | @tup a xs ea =>
    cases (show u = Value.ref a from rx)
    obtain ⟨_, _, _, p⟩ := (show ObjOk X.prog X.w H s.heap a (.tup xs) from I.hok a _ ea)
    obtain ⟨o, h1, h2, _⟩ := p
    exact PySem.W.kia_one PySem.W.kitx_tuple I.kIn ⟨o, h1, h2⟩ e (fun z => nomatch z) h
  | @dK a kvs ea =>
    cases (show u = Value.ref a from rx)
    obtain ⟨_, _, vs, _, p⟩ := (show ObjOk X.prog X.w H s.heap a (.dK kvs) from I.hok a _ ea)
    obtain ⟨o, es, ep, h1, h2, _⟩ := p
    exact PySem.W.kia_one PySem.W.kitx_dict I.kIn ⟨o, h1, h2.1⟩ e (fun z => nomatch z) h
  | @dT a kvs ea =>
    cases (show u = Value.ref a from rx)
    obtain ⟨_, _, xs, _, o, es, ep, h1, h2, _⟩ := (show ObjOk X.prog X.w H s.heap a (.dT kvs) from I.hok a _ ea)
    exact PySem.W.kia_one PySem.W.kitx_dict I.kIn ⟨o, h1, h2.1⟩ e (fun z => nomatch z) h
  | @ins a C dx fs ea cl ha hn htk hm =>
    cases (show u = Value.ref a from rx)
    obtain ⟨mA, O, _⟩ := ins_get I.hok ea
    obtain ⟨od, J, _⟩ := O.look
    exact PySem.W.kia_one (PySem.W.kitx_own (cl.get _) cl.hd ha hn htk hm) I.kIn J e (fun z => nomatch z) h
end
end L2

namespace L2
open PySem PySem.Spec PyProof.Rows

/-! ### room -/
structure Room (k : Nat) (A : Around) : Prop where
  hd : A.handled = none
  dp : A.depth + 3 * k + 5 < recursionLimit
  un : A.units + 16 * k + 200 < cLine
theorem Room.mono {j k : Nat} {A : Around} (r : Room k A) (h : j ≤ k) : Room j A := ⟨r.hd, by have := r.dp; omega, by have := r.un; omega⟩
theorem Room.deeper {k : Nat} {A : Around} (r : Room (k + 1) A) (env : Env) : Room k (A.deeper env) :=
  ⟨r.hd, by have := r.dp; show A.depth + 1 + 3 * k + 5 < _; omega, by have := r.un; show A.units + 3 + 16 * k + 200 < _; omega⟩
theorem Room.in1 {k : Nat} {A : Around} (r : Room (k + 1) A) : Room k A.in1 :=
  ⟨r.hd, by have := r.dp; show A.depth + 3 * k + 5 < _; omega, by have := r.un; show A.units + 1 + 16 * k + 200 < _; omega⟩
theorem Room.depth {k : Nat} {A : Around} (r : Room k A) : A.depth < recursionLimit := by have := r.dp; omega
theorem Room.units {k : Nat} {A : Around} (r : Room k A) : A.units + 64 < cLine := by have := r.un; omega
/-! ### argument lists and displays -/
def tNil : TA := fun _ H Q => Q [] H
def tCons (ta : TE) (tr : TA) : TA := fun σ H Q => ta σ H fun x H1 => tr σ H1 fun xs H2 => Q (x :: xs) H2
section
variable {X : Cx} {e : Expr} {es : List Expr} {te : TE} {t : TA} {pos : Pos}
theorem pa_nil : PA X [] tNil := fun _ _ _ _ H Q I h => Calls.spliced_nil ⟨[], H, I, .nil, h⟩
theorem pa_cons (ha : PE X e te) (hr : PA X es t) (hs : starEach (e :: es) X.env = (false, eval e X.env) :: starEach es X.env := by rfl) : PA X (e :: es) (tCons te t) := by
  intro pos pins s σ H Q I h
  rw [hs]
  show wpAny _ _ (spliced ((false, eval e X.env) :: backTo pos (starEach es X.env))) _ _ s
  refine Calls.spliced_cons (thn (ha pins s σ H _ I h) fun u s1 ⟨x, H1, I1, r1, q1⟩ => ?_)
  exact thn (hr pos pins s1 σ H1 _ I1 q1) fun us s2 ⟨xs, H2, I2, r2, q2⟩ => ⟨x :: xs, H2, I2, .cons r1 r2, q2⟩

/-- a tuple, a list of written items -/
def tTup (t : TA) : TE := fun σ H Q => t σ H fun xs H1 => xs.length ≤ sizeLine ∧ ∀ p, H1 p = none → Q (.ref p) (upd H1 p (.tup xs))
def tLst (t : TA) : TE := fun σ H Q => t σ H fun xs H1 => xs.length ≤ sizeLine ∧ ∀ p, H1 p = none → Q (.ref p) (upd H1 p (.lst xs))
theorem pe_tup {x1} (h : PA X es t) : PE X (.Tuple es x1 pos) (tTup t) := by
  intro pins s σ H Q I hq
  refine wpAny_Tuple_spliced (thn (h pos pins s σ H _ I hq) fun us s1 ⟨xs, H1, I1, r, z, q⟩ => ⟨by rw [← r.length]; exact z, ?_⟩)
  have hf : H1 s1.heap.objs.size = none := I1.hok.fresh (Nat.le_refl _)
  refine ⟨.ref s1.heap.objs.size, upd H1 s1.heap.objs.size (.tup xs), I1.laid (t' := s1.toks) (fun b u e => Heap.get?_push_of_some _ e) (Nat.le_refl _) ?_, rfl, q _ hf⟩
  exact ⟨z, us, r, ⟨_, Heap.get?_push_size _ rfl, rfl, _, rfl⟩⟩
theorem pe_lst (h : PA X es t) : PE X (.List es pos) (tLst t) := by
  intro pins s σ H Q I hq
  refine wpAny_List_spliced (thn (h pos pins s σ H _ I hq) fun us s1 ⟨xs, H1, I1, r, z, q⟩ => ⟨by rw [← r.length]; exact z, ?_⟩)
  have hf : H1 s1.heap.objs.size = none := I1.hok.fresh (Nat.le_refl _)
  refine ⟨.ref s1.heap.objs.size, upd H1 s1.heap.objs.size (.lst xs), I1.laid (t' := s1.toks) (fun b u e => Heap.get?_push_of_some _ e) (Nat.le_refl _) ?_, rfl, q _ hf⟩
  exact ⟨z, us, 0, r, Heap.get?_push_size _ rfl⟩
end

/-! ### what a def promises -/
/-- a def's promise: the bound arguments in the parameters' order, the heap, the wanted end, the wanted exception -/
abbrev Sp := List V → Hp → VK → XK → Prop
/-- how an exception lies behind a call (file 08 gives it): the callers' frames, abstract heap and state ahead of the call, the wish, the exception, the state -/
abbrev CXT := List Env → Hp → Shared → XK → Value → Shared → Prop

/-- the state at a call -/
structure Env0 (P : Program) (w : World) (K : PySem.W.Frag) (mg : Str → Option Value) (base : Heap) (A : Around) (outer : List Env) (s : Shared) (H : Hp) : Prop where
  frames : A.frames = some outer
  mod : Mod K mg base
  bs : ∀ b o, base.get? b = some o → s.heap.get? b = some o ∧ H b = none
  bsz : base.objs.size ≤ s.heap.objs.size
  funs : s.heap.FunFrames base outer
  frf : ∀ b ∈ frs outer, H b = none
  hok : HOk P w H s.heap
  bare : AllBare s.gens
/-- a call's end -/
def CE (outer : List Env) (P : Program) (w : World) (H : Hp) (s : Shared) (Q : VK) (u : Value) (s' : Shared) : Prop :=
  ∃ v H', s'.os = s.os ∧ AllBare s'.gens ∧ Un (frs outer) [] H H' s.heap s'.heap ∧ HOk P w H' s'.heap ∧ RelV v u ∧ Q v H'
def CR (CX : CXT) (outer : List Env) (P : Program) (w : World) (H : Hp) (s : Shared) (Q : VK) (E : XK) (r : Result) (s' : Shared) : Prop :=
  match r with
  | .ok (.ret u) => CE outer P w H s Q u s'
  | .ok _ => False
  | .error e => CX outer H s E e s'
structure FnOk (P : Program) (w : World) (K : PySem.W.Frag) (mg : Str → Option Value) (base : Heap) (CX : CXT) (k : Nat) (f : Addr) (fd : FuncData) (ps : List Str) (sp : Sp) : Prop where
  len : ∀ vs H Q E, sp vs H Q E → vs.length = ps.length
  run : ∀ (A : Around) (outer : List Env) (s : Shared) (H : Hp) (args : Args) (us : List Value) (vs : List V) (Q : VK) (E : XK), Room k A → Env0 P w K mg base A outer s H → BindsTo s fd args (ps.zip us) → Vals vs us → sp vs H Q E →
    codeAny (model P w) A (.call (.ref f) args) (CR CX outer P w H s Q E) s
theorem FnOk.mono {P : Program} {w : World} {K : PySem.W.Frag} {mg : Str → Option Value} {base : Heap} {CX : CXT} {j k : Nat} {f : Addr} {fd : FuncData} {ps : List Str} {sp : Sp} (F : FnOk P w K mg base CX j f fd ps sp) (h : j ≤ k) :
    FnOk P w K mg base CX k f fd ps sp := ⟨F.len, fun A outer s H args us vs Q E hr => F.run A outer s H args us vs Q E (hr.mono h)⟩
/-- a weaker promise -/
theorem FnOk.imp {P : Program} {w : World} {K : PySem.W.Frag} {mg : Str → Option Value} {base : Heap} {CX : CXT} {k : Nat} {f : Addr} {fd : FuncData} {ps : List Str} {sp sp' : Sp} (F : FnOk P w K mg base CX k f fd ps sp)
    (h : ∀ vs H Q E, sp' vs H Q E → sp vs H Q E) : FnOk P w K mg base CX k f fd ps sp' :=
  ⟨fun vs H Q E q => F.len vs H Q E (h _ _ _ _ q), fun A outer s H args us vs Q E hr he hb hv hs => F.run A outer s H args us vs Q E hr he hb hv (h _ _ _ _ hs)⟩

theorem Env0.in1 {P : Program} {w : World} {K : PySem.W.Frag} {mg : Str → Option Value} {base : Heap} {A : Around} {outer : List Env} {s : Shared} {H : Hp} (e : Env0 P w K mg base A outer s H) :
    Env0 P w K mg base A.in1 outer s H := ⟨e.frames, e.mod, e.bs, e.bsz, e.funs, e.frf, e.hok, e.bare⟩

section
variable {X : Cx} {pins : List (Addr × Obj)} {σ : St} {H : Hp} {s s' : Shared}
/-- from a body: what a callee wants -/
theorem Inv.env0 (I : Inv X pins σ H s) : Env0 X.prog X.w X.K X.mg X.base X.A X.stack s H :=
  ⟨I.ok.frames, I.ok.mod, I.bs, Nat.le_trans I.ok.bsz I.sz, I.stack, I.stkFree, I.hok, I.bare⟩
/-- behind a call -/
theorem Inv.after {Q : VK} {u : Value} (I : Inv X pins σ H s) (h : CE X.stack X.prog X.w H s Q u s') : EP X pins σ Q u s' := by
  obtain ⟨v, H', os, bare, un, hok, r, q⟩ := h
  obtain ⟨hh, g, d, t, os'⟩ := s'
  obtain rfl : os' = s.os := os
  exact ⟨v, H', I.call (h' := hh) (g' := g) (d' := d) (t' := t) (ch := []) un hok bare (fun b z => absurd z (by simp)), r, q⟩
end

/-! ### calls -/
/-- f(..): the written arguments, then the defaults dvs; E: what is wanted of an exception -/
def tCall (sp : Sp) (dvs : List V) (E : XK) (t : TA) : TE := fun σ H Q => t σ H fun vs H1 => sp (vs ++ dvs) H1 Q E
/-- how the parameters are bound: us the positional arguments, kw the keywords' values by name, ds the defaults that fill up -/
def Binds (K : PySem.W.Frag) (fd : FuncData) (ps : List Str) (ds : List Value) : Prop :=
  ∀ (s : Shared) (us : List Value), K.In s.heap → (us ++ ds).length = ps.length → BindsTo s fd ⟨us, []⟩ (ps.zip (us ++ ds))
/-- every parameter is given -/
theorem Binds.all {K : PySem.W.Frag} {fd : FuncData} {ps : List Str} (h : ∀ us : List Value, us.length = ps.length → bindArgs fd ⟨us, []⟩ = pure (ps.zip us)) : Binds K fd ps [] := fun s us _ hl => by
  rw [List.append_nil] at hl ⊢
  exact .of_eq (h us hl)

/-- an exception of a callee reaches what this body wants of exceptions -/
def Passes (CX : CXT) (X : Cx) (E : XK) : Prop := ∀ (pins : List (Addr × Obj)) (σ : St) (H : Hp) (s : Shared) (e : Value) (s' : Shared), Inv X pins σ H s → CX X.stack H s E e s' → X.xe e s'

section
variable {X : Cx} {CX : CXT} {k : Nat} {f C : Addr} {fd : FuncData} {ps : List Str} {sp : Sp} {dvs : List V} {ds : List Value} {E : XK} {x m : Str} {p pos apos : Pos} {e o : Expr} {es : List Expr} {ta : TE} {t : TA}

/-- the callee runs -/
theorem run_fn {pins : List (Addr × Obj)} {σ : St} {H : Hp} {s : Shared} {Q : VK} {us : List Value} {vs : List V} (F : FnOk X.prog X.w X.K X.mg X.base CX k f fd ps sp) (hr : Room k X.A) (hb : Binds X.K fd ps ds) (hd : Vals dvs ds) (hx : Passes CX X E)
    (I : Inv X pins σ H s) (r : Vals vs us) (h : sp (vs ++ dvs) H Q E) : wpAny (model X.prog X.w) X.A (call (.ref f) us) (EP X pins σ Q) X.xe s := by
  have r2 : Vals (vs ++ dvs) (us ++ ds) := r.append hd
  have hl : (us ++ ds).length = ps.length := by rw [← r2.length]; exact F.len _ _ _ _ h
  refine wpAny_call (codeAny_mono (F.run X.A X.stack s H ⟨us, []⟩ (us ++ ds) (vs ++ dvs) Q E hr I.env0 (hb s us I.kIn hl) r2 h) fun r s' hq => ?_)
  cases r with
  | error e => exact hx pins σ H s e s' I hq
  | ok fl =>
    cases fl with
    | ret u => exact I.after hq
    | next => exact False.elim hq
    | brk => exact False.elim hq
    | cont => exact False.elim hq

/-- what a class must have to be made -/
structure Mk (K : PySem.W.Frag) (C f : Addr) : Prop where
  makes : PySem.W.makesIn K C = true
  init : PySem.W.findIn K (.ref C) "__init__" = some (some (.ref f))
  fn : PySem.W.isFn K (.ref f) = true
  kp : PySem.W.keepIn K (.ref C) = true

end

/-! ### keywords -/
section
variable {X : Cx} {CX : CXT} {k : Nat} {f C : Addr} {fd : FuncData} {ps ks : List Str} {sp : Sp} {E : XK} {x m : Str} {p pos apos kpos : Pos} {e o : Expr} {es : List Expr} {kws : List Keyword} {te ta : TE} {t tk : TA} {nm : Option Str}
/-- how a call with keywords binds: g puts the positional values us and the keywords' values ws (names ks) in the parameters' order, defaults among them -/
structure KBinds (K : PySem.W.Frag) (fd : FuncData) (ps ks : List Str) (g : List Value → List Value → List Value) (gV : List V → List V → List V) : Prop where
  to : ∀ (s : Shared) (us ws : List Value), K.In s.heap → (g us ws).length = ps.length → BindsTo s fd ⟨us, ks.zip ws⟩ (ps.zip (g us ws))
  rel : ∀ {vs : List V} {us : List Value} {zs : List V} {ws : List Value}, Vals vs us → Vals zs ws → Vals (gV vs zs) (g us ws)
variable {g : List Value → List Value → List Value} {gV : List V → List V → List V}
end

/-! ### a def's body keeps its promise -/
/-- names: the parameters first -/
structure FnScope (N P : List Str) (sc : Scope) : Prop where
  kind : sc.kind = .function
  co : sc.isCoroutine = false
  gen : sc.isGenerator = false
  nd : N.Nodup
  pre : N.take P.length = P
  par : ∀ x ∈ P, sc.names.lookup x = some .local ∨ sc.names.lookup x = some .cell
  nofree : ∀ y ∈ sc.names, y.2 ≠ .free

theorem bindL_out {kindOf : Str → Option NameKind} {x : Str} : ∀ {binds : List (Str × Value)} {m : Str → Option Value}, (∀ v, (x, v) ∉ binds) → bindL kindOf binds m x = m x
  | [], _, _ => rfl
  | (n, v) :: r, m, h => by
    unfold bindL
    rw [bindL_out fun w hw => h w (List.mem_cons_of_mem _ hw)]
    split
    · have : x ≠ n := by rintro rfl; exact h v List.mem_cons_self
      simp [this]
    · rfl
theorem bindC_out {kindOf : Str → Option NameKind} {x : Str} : ∀ {binds : List (Str × Value)} {m : Str → Option Value}, (∀ v, (x, v) ∉ binds) → bindC kindOf binds m x = m x
  | [], _, _ => rfl
  | (n, v) :: r, m, h => by
    unfold bindC
    rw [bindC_out fun w hw => h w (List.mem_cons_of_mem _ hw)]
    split
    · rfl
    · have : x ≠ n := by rintro rfl; exact h v List.mem_cons_self
      simp [this]
theorem bindL_get {kindOf : Str → Option NameKind} {x : Str} {v : Value} : ∀ {P : List Str} {vs : List Value} {i : Nat} {m : Str → Option Value}, P.Nodup → P[i]? = some x → vs[i]? = some v → kindOf x = some .local →
    bindL kindOf (P.zip vs) m x = some v
  | [], _, _, _, _, h, _, _ => by simp at h
  | _ :: _, [], _, _, _, _, h, _ => by simp at h
  | p :: P, w :: vs, 0, m, nd, h1, h2, hk => by
    simp at h1 h2; subst h1; subst h2
    show bindL kindOf ((p, w) :: P.zip vs) m p = _
    unfold bindL
    rw [bindL_out fun v hv => (List.nodup_cons.mp nd).1 (List.of_mem_zip hv).1, if_pos hk]
    simp
  | p :: P, w :: vs, i + 1, m, nd, h1, h2, hk => by
    show bindL kindOf ((p, w) :: P.zip vs) m x = _
    unfold bindL
    exact bindL_get (i := i) (List.nodup_cons.mp nd).2 (by simpa using h1) (by simpa using h2) hk
theorem bindC_get {kindOf : Str → Option NameKind} {x : Str} {v : Value} : ∀ {P : List Str} {vs : List Value} {i : Nat} {m : Str → Option Value}, P.Nodup → P[i]? = some x → vs[i]? = some v → kindOf x ≠ some .local →
    bindC kindOf (P.zip vs) m x = some v
  | [], _, _, _, _, h, _, _ => by simp at h
  | _ :: _, [], _, _, _, _, h, _ => by simp at h
  | p :: P, w :: vs, 0, m, nd, h1, h2, hk => by
    simp at h1 h2; subst h1; subst h2
    show bindC kindOf ((p, w) :: P.zip vs) m p = _
    unfold bindC
    rw [bindC_out fun v hv => (List.nodup_cons.mp nd).1 (List.of_mem_zip hv).1, if_neg hk]
    simp
  | p :: P, w :: vs, i + 1, m, nd, h1, h2, hk => by
    show bindC kindOf ((p, w) :: P.zip vs) m x = _
    unfold bindC
    exact bindC_get (i := i) (List.nodup_cons.mp nd).2 (by simpa using h1) (by simpa using h2) hk

/-- the names' values at the entry -/
def start (N : List Str) (vs : List V) : St := vs.map some ++ List.replicate (N.length - vs.length) none

/-- the context of a def's body, at its entry; an exception leaves the frame, then lies as CX says -/
def cxOf (CX : CXT) (P : Program) (w : World) (K : PySem.W.Frag) (mg : Str → Option Value) (base : Heap) (N : List Str) (qual : Str) (scope : Scope) (f : Addr) (cd : Value) (A : Around) (outer : List Env) (s : Shared) (H : Hp) (E : XK) : Cx where
  prog := P
  w := w
  K := K
  mg := mg
  base := base
  A := A.deeper (envOfC qual scope s.heap.objs.size f cd)
  N := N
  s₀ := s
  H₀ := H
  env := envOfC qual scope s.heap.objs.size f cd
  outer := outer
  stack := envOfC qual scope s.heap.objs.size f cd :: outer
  ex := []
  calm := true
  fn := fun _ => true
  pn := []
  xe := fun e s' => wpAny (model P w) (A.deeper (envOfC qual scope s.heap.objs.size f cd)) (leaving (envOfC qual scope s.heap.objs.size f cd) e) (fun _ s'' => CX outer H s E e s'') (fun e' s'' => CX outer H s E e' s'') s'

theorem cell_has {sc : Scope} {n : Nat} {x : Str} (h : sc.names.lookup x = some .cell) : ∃ c, (cellsFrom n sc.names []).lookup x = some c := by
  have q := PySem.W.cellsFrom_some sc.names n [] (.inl h)
  exact Option.isSome_iff_exists.mp q

theorem inv_start {CX : CXT} {P : Program} {w : World} {K : PySem.W.Frag} {mg : Str → Option Value} {base : Heap} {N ps : List Str} {qual : Str} {scope : Scope} {f : Addr} {cd : Value} {A : Around} {outer : List Env} {s s1 : Shared} {H : Hp} {E : XK} {us : List Value} {vs : List V}
    (S : FnScope N ps scope) (hd : A.handled = none) (e0 : Env0 P w K mg base A outer s H) (hl : vs.length = ps.length) (r : Vals vs us)
    (x : InCallC s s.heap.objs.size (bindL (envOfC qual scope s.heap.objs.size f cd).kindOf (ps.zip us) fun _ => none) (cellsFrom (s.heap.objs.size + 1) scope.names []) (bindC (envOfC qual scope s.heap.objs.size f cd).kindOf (ps.zip us) fun _ => none) s1) :
    Inv (cxOf CX P w K mg base N qual scope f cd A outer s H E) [] (start N vs) H s1 := by
  have hpl : ps.length ≤ N.length := by have := congrArg List.length S.pre; rw [List.length_take] at this; omega
  obtain ⟨h1, tk, rfl, hk⟩ := x.done
  have noA : ∀ b : Addr, b ∉ (cxOf CX P w K mg base N qual scope f cd A outer s H E).ex := fun b z => absurd (show b ∈ ([] : List Addr) from z) (by simp)
  refine ⟨⟨e0.mod, S.kind, rfl, rfl, Nat.le_refl _, fun y z c h1 h2 => ?_, fun y hy => ?_, fun y c _ h => ?_, fun _ => hd, Around.frames_deeper e0.frames, .inr ⟨rfl, rfl⟩, fun b z => absurd z (noA b), e0.bs, e0.bsz, fun b _ _ => noA b, fun b z => absurd z (noA b), e0.funs, e0.frf⟩,
    rfl, e0.bare, Un.kept hk, ⟨_, x.toInCall.ns, fun i y v h1 h2 h3 => ?_⟩, fun y c h => ⟨_, x.cell y c h⟩, e0.hok.fresh (Nat.le_refl _), fun y c h => ?_, fun p hp => absurd (show p ∈ ([] : List (Addr × Obj)) from hp) (by simp), e0.hok.kept hk, ?_⟩
  · exact name_of_addr x.apart (PySem.mem_of_lookup h1) (PySem.mem_of_lookup h2)
  · have hy : scope.names.lookup y = some .cell ∨ scope.names.lookup y = some .free := hy
    rcases hy with hy | hy
    · exact cell_has hy
    · exact absurd rfl (S.nofree _ (PySem.mem_of_lookup hy))
  · exact Nat.le_of_lt (x.above y c (PySem.mem_of_lookup h))
  · have hi : i < vs.length := by
      unfold start at h2
      by_cases hi : i < vs.length
      · exact hi
      · rw [List.getElem?_append_right (by simpa using hi)] at h2
        rw [List.getElem?_replicate] at h2
        split at h2 <;> cases h2
    have ha : vs[i]? = some v := by
      unfold start at h2
      rw [List.getElem?_append_left (by simpa using hi), List.getElem?_map] at h2
      cases e : vs[i]? with
      | none => rw [e] at h2; cases h2
      | some a => rw [e] at h2; cases h2; rfl
    obtain ⟨u, hu, rv⟩ := r.get ha
    have hp : ps[i]? = some y := by
      rw [← S.pre, List.getElem?_take_of_lt (by omega)]; exact h1
    have ndP : ps.Nodup := by rw [← S.pre]; exact S.nd.sublist (List.take_sublist _ _)
    refine ⟨u, rv, ?_⟩
    rcases S.par y (List.mem_of_getElem? hp) with k | k
    · exact .inl ⟨k, bindL_get ndP hp hu k⟩
    · obtain ⟨c, e⟩ := cell_has (n := s.heap.objs.size + 1) k
      refine .inr ⟨.inl k, c, e, ?_⟩
      have q := x.cell y c e
      rw [bindC_get ndP hp hu (by show scope.names.lookup y ≠ _; rw [k]; decide)] at q
      exact q
  · exact e0.hok.fresh (Nat.le_of_lt (x.above y c (PySem.mem_of_lookup h)))
  · unfold start
    show _ = N.length
    rw [List.length_append, List.length_map, List.length_replicate]
    omega

/-- THE RULE: a def (or a method) of the text, by its body. The body's reading t is chosen for each entry; it is run at the parameters' values -/
theorem fn_of {CX : CXT} {P : Program} {w : World} {K : PySem.W.Frag} {mg : Str → Option Value} {base : Heap} {k : Nat} {f : Addr} {name qual : Str} {params : Arguments} {body : List Stmt} {scope : Scope} {dV kV doc pm cdv ct oc : Value} {an od : Option Addr}
    {osl : Array (Option Value)} {N ps : List Str} {sp : Sp} (lk : K.lookup f = some ⟨oc, od, .func (PySem.W.fnOf name qual params body scope dV kV doc pm an cdv ct), osl⟩) (hcd : PySem.W.codeIn K cdv qual = true) (S : FnScope N ps scope)
    (len : ∀ vs H Q E, sp vs H Q E → vs.length = ps.length)
    (hbody : ∀ (A : Around) (outer : List Env) (s : Shared) (H : Hp) (vs : List V) (Q : VK) (E : XK), Room k (A.deeper (envOfC qual scope s.heap.objs.size f cdv)) → sp vs H Q E →
      ∃ t, PSs (cxOf CX P w K mg base N qual scope f cdv A outer s H E) body t ∧ t { nx := fun _ H' => Q .non H', rt := Q } (start N vs) H) :
    FnOk P w K mg base CX (k + 1) f (PySem.W.fnOf name qual params body scope dV kV doc pm an cdv ct) ps sp := by
  refine ⟨len, fun A outer s H args us vs Q E hr e0 hb r hsp => ?_⟩
  have hl := len _ _ _ _ hsp
  have KX : K.In s.heap := e0.mod.kin.keeps fun b o e => (e0.bs b o e).1
  have lim : s.heap.NoLimit := e0.mod.nolimit.keeps fun b o e => (e0.bs b o e).1
  have hkind : ∀ y ∈ ps.zip us, scope.names.lookup y.1 = some .local ∨ (scope.names.lookup y.1 = some .cell ∧ ((cellsFrom (s.heap.objs.size + 1) scope.names []).lookup y.1).isSome = true) := fun ⟨n, v⟩ hy => by
    rcases S.par n (List.of_mem_zip hy).1 with q | q
    · exact .inl q
    · exact .inr ⟨q, PySem.W.cellsFrom_some _ _ _ (.inl q)⟩
  refine codeAny_call_function hr.depth (KX _ _ lk) rfl S.co S.gen rfl (PySem.W.codeRec_of KX hcd) (hb _ _ _ _ ?_)
  refine wpAny_newFunctionEnv_cells S.kind hkind fun env he s1 x => ?_
  subst he
  refine ⟨lim.keeps x.toInCall.keep, codeAny_func ?_⟩
  obtain ⟨t, ht, hq⟩ := hbody A outer s H vs Q E (hr.deeper _) hsp
  have I : Inv (cxOf CX P w K mg base N qual scope f cdv A outer s H E) [] (start N vs) H s1 := inv_start S hr.hd e0 hl r x
  refine wpAny_mono (ht [] s1 (start N vs) H _ I hq) (fun fl s' hs => ?_) fun e s' hs => hs
  have fin : ∀ {σ' : St} {H' : Hp} {v : V} {u : Value}, Inv (cxOf CX P w K mg base N qual scope f cdv A outer s H E) [] σ' H' s' → RelV v u → Q v H' → CE outer P w H s Q u s' :=
    fun {σ' H' v u} J rv q => ⟨v, H', J.os, J.bare, J.base, J.hok, rv, q⟩
  cases fl with
  | ret u =>
    obtain ⟨v, σ', H', J, rv, q⟩ := hs
    exact fin J rv q
  | next =>
    obtain ⟨σ', H', J, q⟩ := hs
    exact fin (v := V.non) (u := Value.none) J rfl q
  | brk =>
    obtain ⟨_, _, _, q⟩ := hs
    exact False.elim q
  | cont =>
    obtain ⟨_, _, _, q⟩ := hs
    exact False.elim q
end L2

namespace L2
open PySem PySem.Spec PyProof.Rows
section
variable {X : Cx} {x : Str} {p pos : Pos} {e : Expr} {es : List Expr} {t : TA} {id T : String} {r : List V → Hp → VK → Prop}

def tCB (r : List V → Hp → VK → Prop) (t : TA) : TE := fun σ H Q => t σ H fun vs H1 => r vs H1 Q
/-- f(e, ..), f a built-in function -/
theorem pe_callB (hc : CallR X (.builtin id) r) (hg : Gl X x) (hm : X.mg x = none) (hv : bootBuiltins x = some (.builtin id)) (ha : PA X (e :: es) t) (hn : x ≠ "__name__" := by decide) (hdb : (x == ("__debug__" : Str)) = false := by decide)
    (he : starEach (e :: es) X.env = (false, eval e X.env) :: starEach es X.env := by rfl) (hpl : (backTo pos (starEach es X.env)).any (·.1) = false := by rfl) : PE X (.Call (.Name x p) (e :: es) [] pos) (tCB r t) := by
  intro pins s σ H Q I h
  refine wpAny_Call_Name_kw (ld_blt I hg hm hv ?_ hn hdb)
  exact PyProof.Rows.callWith_builtin1 (thn (ha pos pins s σ H _ I h) fun us s1 ⟨vs, H1, I1, r1, q1⟩ => hc pins s1 σ H1 vs us Q I1 r1 q1) he hpl
/-- T(e, ..), T a built-in type -/
theorem pe_callTy (hc : CallR X (.type T) r) (hg : Gl X x) (hm : X.mg x = none) (hv : bootBuiltins x = some (.type T)) (ha : PA X (e :: es) t) (hn : x ≠ "__name__" := by decide) (hdb : (x == ("__debug__" : Str)) = false := by decide)
    (he : starEach (e :: es) X.env = (false, eval e X.env) :: starEach es X.env := by rfl) (hpl : (backTo pos (starEach es X.env)).any (·.1) = false := by rfl) : PE X (.Call (.Name x p) (e :: es) [] pos) (tCB r t) := by
  intro pins s σ H Q I h
  refine wpAny_Call_Name_kw (ld_blt I hg hm hv ?_ hn hdb)
  exact PyProof.Rows.callWith_type1 (thn (ha pos pins s σ H _ I h) fun us s1 ⟨vs, H1, I1, r1, q1⟩ => hc pins s1 σ H1 vs us Q I1 r1 q1) he hpl
end
end L2

namespace HT
open PySem PyProof.Rows

section
open PySem.SeqAt
open PySem.AutoSeq1 (wpAny_loadPart')
open PySem.MeetsSeq PySem.MeetsSeq2 PySem.MeetsSeq3

end

section
variable {prog : Program} {w : World} {A : Around} {E : Value → Shared → Prop} {s : Shared}

/-- t + u, t not empty -/
theorem cat_tup {t b : Addr} {vs ws : List Value} {Q : Value → Shared → Prop} (ht : IsTup s.heap t vs.toArray) (hb : IsTup s.heap b ws.toArray) (hv : vs ≠ [])
    (h1 : ws = [] → Q (.ref t) s) (h2 : ws ≠ [] → Q (.ref s.heap.objs.size) { s with heap := s.heap.push { cls := .type "tuple", data := .seq (vs ++ ws).toArray } })
    (hsz : vs.length + ws.length ≤ sizeLine) : wpAny (model prog w) A (binaryOp .Add (.ref t) (.ref b)) Q E s := by
  obtain ⟨⟨cls, dd, data, sl⟩, ho, hc, n, hd⟩ := id ht
  obtain ⟨⟨cls2, dd2, data2, sl2⟩, ho2, hc2, n2, hd2⟩ := id hb
  simp only at hc hd hc2 hd2
  subst hc hd hc2 hd2
  have e : vs.toArray ++ ws.toArray = (vs ++ ws).toArray := by simp
  by_cases hw : ws = []
  · exact concat_meets ⟨_, ho, rfl⟩ ⟨_, ho2, rfl⟩ noFill_tuple_add seq_tuple_add PySem.F.slot_tuple_add PySem.F.entry_tuple_add (PySem.F.args_tuple_add_2 _ _)
      (tuple_addW1 t b vs.toArray ws.toArray n n2 dd dd2 sl sl2 (by simpa using hv) (by simp [hw])) ⟨ho, ho2, h1 hw⟩
  · refine concat_meets ⟨_, ho, rfl⟩ ⟨_, ho2, rfl⟩ noFill_tuple_add seq_tuple_add PySem.F.slot_tuple_add PySem.F.entry_tuple_add (PySem.F.args_tuple_add_2 _ _)
      (tuple_addW2 t b vs.toArray ws.toArray n n2 dd dd2 sl sl2 (by simpa using hv) (by simpa using hw) (by rw [List.size_toArray, List.size_toArray]; exact hsz)) ⟨ho, ho2, ?_⟩
    rw [e]
    exact h2 hw

/-! ### t[a:b], not the whole -/
/-- a slice's bound as a place among n (d where it is left out) -/
def sIx (n d : Nat) : Option Int → Nat
  | none => d
  | some v => if v < 0 then (v + (n : Int)).toNat else min v.toNat n
theorem sIx_le (n d : Nat) (hd : d ≤ n) (o : Option Int) : sIx n d o ≤ n := by
  cases o with
  | none => exact hd
  | some v =>
    show (if v < 0 then (v + (n : Int)).toNat else min v.toNat n) ≤ n
    by_cases hv : v < 0
    · rw [if_pos hv]; omega
    · rw [if_neg hv]; exact Nat.min_le_right _ _
theorem clip_eq (v : Int) (n d : Nat) : (if v < 0 then max (v + (n : Int)) 0 else min v (n : Int)) = ((sIx n d (some v) : Nat) : Int) := by
  show (if v < 0 then max (v + (n : Int)) 0 else min v (n : Int)) = (((if v < 0 then (v + (n : Int)).toNat else min v.toNat n) : Nat) : Int)
  by_cases hv : v < 0
  · simp only [if_pos hv]; omega
  · simp only [if_neg hv]; omega
theorem adjust_gen (lo hi : Option Int) (n : Nat) : Builtin.Slice.sliceAdjust lo hi 1 (n : Int) = (((sIx n 0 lo : Nat) : Int), ((sIx n n hi : Nat) : Int)) := by
  have h1 : ¬ ((1 : Int) < 0) := by omega
  unfold Builtin.Slice.sliceAdjust
  simp only [h1, if_false]
  refine Prod.ext ?_ ?_
  · cases lo with
    | none => rfl
    | some v => exact clip_eq v n 0
  · cases hi with
    | none => rfl
    | some v => exact clip_eq v n n
theorem places_gen (i j : Nat) : Builtin.Slice.slicePlaces (i : Int) (j : Int) 1 = j - i := by
  unfold Builtin.Slice.slicePlaces
  have h1 : (1 : Int) > 0 := by omega
  simp only [h1, if_true, Int.ediv_one]
  split <;> omega
theorem slicePart_ {v : Value} {o : Option Int} {Q : Option Int → Shared → Prop} (p : IsPart v o) (h : Q o s) : wpAny (model prog w) A (Builtin.Slice.slicePartIndex v) Q E s := by
  cases p with
  | none => exact slicePart_none h
  | int i t => exact slicePart_int h
theorem sliceApplied_gen {sl : Addr} {vl vu : Value} {lo hi : Option Int} {n : Nat} {Q : Int × Int × Nat → Shared → Prop} (hs : s.heap.IsSliceOf sl vl vu .none) (pl : IsPart vl lo) (pu : IsPart vu hi)
    (h : Q (((sIx n 0 lo : Nat) : Int), 1, sIx n n hi - sIx n 0 lo) s) : wpAny (model prog w) A (Builtin.Slice.sliceApplied (.ref sl) (pure (n : Int))) Q E s := by
  obtain ⟨os, hos, hcs, hds⟩ := id hs
  unfold Builtin.Slice.sliceApplied Builtin.Slice.sliceFields
  refine wpAny_bind (wpAny_bind (wpAny_field hos hds (x := vl) rfl (wpAny_bind (wpAny_field hos hds (x := vu) rfl (wpAny_bind (wpAny_field hos hds (x := .none) rfl (wpAny_pure ?_)))))))
  refine wpAny_bind (slicePart_none ?_)
  show wpAny _ _ (if ((1 : Int) == 0) = true then _ else _) _ _ s
  rw [if_neg (by decide)]
  refine wpAny_bind (slicePart_ pl (wpAny_bind (slicePart_ pu (wpAny_bind (wpAny_pure ?_)))))
  show wpAny _ _ (match Builtin.Slice.sliceAdjust lo hi 1 (n : Int) with | (lo, hi) => pure (lo, (1 : Int), Builtin.Slice.slicePlaces lo hi 1)) _ _ s
  rw [adjust_gen lo hi n]
  show wpAny _ _ (pure (((sIx n 0 lo : Nat) : Int), (1 : Int), Builtin.Slice.slicePlaces ((sIx n 0 lo : Nat) : Int) ((sIx n n hi : Nat) : Int) 1)) _ _ s
  rw [places_gen]
  exact wpAny_pure h
theorem pick_gen (xs : Array Value) (i k : Nat) : ((List.range k).filterMap fun (m : Nat) => xs[((i : Int) + (m : Int) * 1).toNat]?).toArray = ((xs.toList.drop i).take k).toArray := by
  have e : (fun (m : Nat) => xs[((i : Int) + (m : Int) * 1).toNat]?) = fun m => xs[i + m]? := by
    funext m
    have : ((i : Int) + (m : Int) * 1).toNat = i + m := by omega
    rw [this]
  rw [e]
  have := pick_run xs i k
  rw [List.filterMap_map] at this
  have e2 : ((fun x => xs[x]?) ∘ fun x => i + x) = fun m => xs[i + m]? := rfl
  rw [e2] at this
  rw [this]

theorem getItem_tuple_cut {t sl : Addr} {items : Array Value} {vl vu : Value} {lo hi : Option Int} {Q : Value → Shared → Prop} (ht : IsTup s.heap t items) (hs : s.heap.IsSliceOf sl vl vu .none) (pl : IsPart vl lo) (pu : IsPart vu hi)
    (hw : ¬ (sIx items.size 0 lo = 0 ∧ sIx items.size items.size hi = items.size))
    (h : Q (.ref s.heap.objs.size) { s with heap := s.heap.push { cls := .type "tuple", data := .seq ((items.toList.drop (sIx items.size 0 lo)).take (sIx items.size items.size hi - sIx items.size 0 lo)).toArray } })
    (hsz : items.size ≤ sizeLine) : wpAny (model prog w) A (getItem (.ref t) (.ref sl)) Q E s := by
  have htake : sizeOk (.seq ((items.toList.drop (sIx items.size 0 lo)).take (sIx items.size items.size hi - sIx items.size 0 lo)).toArray) := by
    show ((items.toList.drop (sIx items.size 0 lo)).take (sIx items.size items.size hi - sIx items.size 0 lo)).toArray.size ≤ sizeLine
    rw [List.size_toArray, List.length_take, List.length_drop, Array.length_toList]
    omega
  have hj : sIx items.size items.size hi ≤ items.size := sIx_le _ _ (Nat.le_refl _) hi
  obtain ⟨os, hos, hcs, hds⟩ := id hs
  have hTs : s.TypeIs (.ref sl) "slice" := ⟨os, hos, hcs⟩
  unfold getItem
  try with_reducible refine wpAny_holding ?_
  first | refine wpAny_bind (wpAny_pure ?_) | skip
  refine wpAny_bind (wpAny_sequenceKey ht.typeIs (by decide) ?_)
  refine wpAny_bind (wpAny_callSpecial?_slot (name := Str.ofString "__getitem__") ht.typeIs PyProof.Rows.slot_tuple_getitem
    (wpAny_call_entry PyProof.Rows.slot_tuple_getitem ht.typeIs entry_tuple_getitem ?_ (args_tuple_getitem _ _)))
  show wpAny _ _ (Builtin.Tuple.tupleItemsOf (.ref t) >>= _) _ _ s
  refine wpAny_bind (tupleItemsOf_ ht ?_)
  refine wpAny_bind (wpAny_typeOf hTs ?_)
  rw [if_pos (by decide)]
  refine wpAny_bind (sliceApplied_gen hs pl pu ?_)
  have hno : ¬ ((((sIx items.size 0 lo : Nat) : Int) == 0 && (1 : Int) == 1 && (sIx items.size items.size hi - sIx items.size 0 lo) == items.size) = true) := by
    intro q
    rw [Bool.and_eq_true, Bool.and_eq_true] at q
    have q1 : ((sIx items.size 0 lo : Nat) : Int) = 0 := eq_of_beq q.1.1
    have q2 : sIx items.size items.size hi - sIx items.size 0 lo = items.size := eq_of_beq q.2
    exact hw ⟨by omega, by omega⟩
  show wpAny _ _ (if (((sIx items.size 0 lo : Nat) : Int) == 0 && (1 : Int) == 1 && (sIx items.size items.size hi - sIx items.size 0 lo) == items.size) = true then _ else _) _ _ s
  rw [if_neg hno, pick_gen]
  first
    | exact wpAny_bind (m := Builtin.Tuple.tupleExact _) (wpAny_newObj_type (wpAny_pure ⟨_, rfl, wpAny_pure h⟩) htake)
    | exact wpAny_bind (m := Builtin.Tuple.tupleExact _) (wpAny_newObj_type (wpAny_bind (wpAny_pure (wpAny_pure ⟨_, rfl, wpAny_pure h⟩))) htake)
    | exact wpAny_bind (wpAny_bind (m := Builtin.Tuple.tupleExact _) (wpAny_newObj_type (wpAny_pure (wpAny_pure ⟨_, rfl, wpAny_pure h⟩)) htake))
    | exact wpAny_bind (wpAny_bind (m := Builtin.Tuple.tupleExact _) (wpAny_newObj_type (wpAny_pure ⟨_, rfl, wpAny_pure h⟩) htake))
end
end HT

namespace L2
open PySem PySem.Spec PyProof.Rows

/-! ### the parts of a slice -/
abbrev TO := St → Hp → (Option Int → Hp → Prop) → Prop
/-- a slice's part (left out, or an int) -/
def PO (X : Cx) (e : Option Expr) (t : TO) : Prop :=
  ∀ (pins : List (Addr × Obj)) (s : Shared) (σ : St) (H : Hp) (Q : Option Int → Hp → Prop), Inv X pins σ H s → t σ H Q →
    wpAny (model X.prog X.w) X.A (evalPart e X.env) (fun u s' => ∃ o H', Inv X pins σ H' s' ∧ IsPart u o ∧ Q o H') X.xe s
def tNoPart : TO := fun _ H Q => Q none H
def tPart (t : TE) : TO := fun σ H Q => t σ H fun x H1 => ∃ i, x = .int i ∧ Q (some i) H1

theorem intsAre_of {ns : List Int} : ∀ {us : List Value}, Vals (ns.map V.int) us → IntsAre us ns := by
  induction ns with
  | nil => intro us r; rw [List.map_nil] at r; cases r; exact .nil
  | cons n ns ih =>
    intro us r
    rw [List.map_cons] at r
    cases r with
    | cons r1 r2 =>
      obtain ⟨t, e⟩ := r1
      subst e
      exact .cons n t (ih r2)

section
variable {X : Cx} {e : Expr} {te : TE} {lo hi : Option Expr} {tl th : TO} {pos p2 : Pos}

theorem po_none : PO X none tNoPart := by
  intro pins s σ H Q I h
  rw [evalPart_none]
  exact wpAny_pure ⟨none, H, I, .none, h⟩
theorem po_some (h : PE X e te) : PO X (some e) (tPart te) := by
  intro pins s σ H Q I hw
  rw [evalPart_some]
  refine thn (h pins s σ H _ I hw) fun u s1 ⟨x, H1, I1, r1, q1⟩ => ?_
  obtain ⟨i, rfl, q⟩ := q1
  obtain ⟨t, rfl⟩ := r1
  exact ⟨some i, H1, I1, .int i t, q⟩

/-- what a slice of a value is, by values: the slice object stands at sl -/
def SlR (X : Cx) (r : V → Option Int → Option Int → Hp → VK → Prop) : Prop :=
  ∀ (pins : List (Addr × Obj)) (s : Shared) (σ : St) (H : Hp) (x : V) (v vl vu : Value) (lo hi : Option Int) (sl : Addr) (Q : VK), Inv X pins σ H s → RelV x v → s.heap.IsSliceOf sl vl vu .none → IsPart vl lo → IsPart vu hi → r x lo hi H Q →
    ∃ T id, typeLookup (.type T) "__getitem__" = pure (some (.builtin id)) ∧ s.TypeIs v T ∧ wpAny (model X.prog X.w) X.A (getItem v (.ref sl)) (EP X pins σ Q) X.xe s
theorem SlR.or {r r' : V → Option Int → Option Int → Hp → VK → Prop} (h : SlR X r) (h' : SlR X r') : SlR X (fun x lo hi H Q => r x lo hi H Q ∨ r' x lo hi H Q) := by
  intro pins s σ H x v vl vu lo hi sl Q I rx hs pl pu q
  rcases q with q | q
  · exact h pins s σ H x v vl vu lo hi sl Q I rx hs pl pu q
  · exact h' pins s σ H x v vl vu lo hi sl Q I rx hs pl pu q
def tSl (r : V → Option Int → Option Int → Hp → VK → Prop) (te : TE) (tl th : TO) : TE := fun σ H Q => te σ H fun x H1 => tl σ H1 fun l H2 => th σ H2 fun u H3 => r x l u H3 Q
/-- a[lo:hi], any a -/
theorem pe_slice {r : V → Option Int → Option Int → Hp → VK → Prop} (hr : SlR X r) (he : PE X e te) (hl : PO X lo tl) (hu : PO X hi th) : PE X (.Subscript e (.Slice lo hi none p2) pos) (tSl r te tl th) := by
  intro pins s σ H Q I h
  refine Subscript_ (thn (he pins s σ H _ I h) fun v s1 ⟨x, H1, I1, r1, q1⟩ => ?_)
  refine wpAny_Slice (thn (hl pins s1 σ H1 _ I1 q1) fun vl s2 ⟨l, H2, I2, pl, q2⟩ => thn (hu pins s2 σ H2 _ I2 q2) fun vu s3 ⟨u, H3, I3, pu, q3⟩ => ?_)
  rw [evalPart_none]
  refine wpAny_pure ?_
  have I4 : Inv X pins σ H3 { s3 with heap := s3.heap.push { cls := .type "slice", data := .fields #[vl, vu, .none] } } := I3.kept (t' := s3.toks) fun b ob q => Heap.get?_push_of_some _ q
  obtain ⟨T, id, hT, ht, hg⟩ := hr pins { s3 with heap := s3.heap.push { cls := .type "slice", data := .fields #[vl, vu, .none] } } σ H3 x v vl vu l u s3.heap.objs.size Q I4 r1 (Heap.IsSliceOf.new ..) pl pu q3
  show wpAny (model X.prog X.w) X.A (subscriptTail e (.Slice lo hi none p2) v (.ref s3.heap.objs.size)) (EP X pins σ Q) X.xe { s3 with heap := s3.heap.push { cls := .type "slice", data := .fields #[vl, vu, .none] } }
  exact tail_any (ops := [.ref s3.heap.objs.size, v]) ht hT hg (by with_unfolding_all rfl)

/-- the items of xs[lo:hi] -/
def cutV (xs : List V) (lo hi : Option Int) : List V := (xs.drop (HT.sIx xs.length 0 lo)).take (HT.sIx xs.length xs.length hi - HT.sIx xs.length 0 lo)
theorem cutV_length (xs : List V) (lo hi : Option Int) : (cutV xs lo hi).length ≤ xs.length := by
  unfold cutV
  rw [List.length_take, List.length_drop]
  omega
/-- t[lo:hi], not the whole of it (the whole would be t itself) -/
def rSlT (K : PySem.W.Frag) : V → Option Int → Option Int → Hp → VK → Prop := fun x lo hi H Q => ∃ a xs, x = .ref a ∧ SqT K H a xs ∧
  ¬ (HT.sIx xs.length 0 lo = 0 ∧ HT.sIx xs.length xs.length hi = xs.length) ∧ ∀ p, H p = none → Q (.ref p) (upd H p (.tup (cutV xs lo hi)))
theorem sl_tup : SlR X (rSlT X.K) := by
  intro pins s σ H x v vl vu lo hi sl Q I rx hs pl pu h
  obtain ⟨a, xs, rfl, hx, hw, q⟩ := h
  cases rx
  obtain ⟨its, r, ht, hz⟩ := I.tuple hx
  have hlen : its.toArray.size = xs.length := by rw [List.size_toArray]; exact r.length.symm
  refine ⟨"tuple", _, PyProof.Rows.slot_tuple_getitem.lookup, ht.typeIs, ?_⟩
  refine HT.getItem_tuple_cut ht hs pl pu (by rw [hlen]; exact hw) ?_ (by rw [hlen]; exact hz)
  rw [hlen]
  refine ⟨.ref s.heap.objs.size, _, I.laid (t' := s.toks) (o := .tup (cutV xs lo hi)) (fun b ob q => Heap.get?_push_of_some _ q) (Nat.le_refl _) ?_, rfl, q _ (I.hok.fresh (Nat.le_refl _))⟩
  exact ⟨Nat.le_trans (cutV_length xs lo hi) hz, _, (r.drop (HT.sIx xs.length 0 lo)).take (HT.sIx xs.length xs.length hi - HT.sIx xs.length 0 lo), IsTup.new _ _⟩

/-! ### t < u, t + u -/
/-- t + u, t not empty: u empty gives t itself -/
def rCatT (K : PySem.W.Frag) : R2 := fun x y H Q => ∃ a b xs ys, x = .ref a ∧ y = .ref b ∧ SqT K H a xs ∧ SqT K H b ys ∧ xs ≠ [] ∧ xs.length + ys.length ≤ sizeLine ∧
  (ys = [] → Q (.ref a) H) ∧ (ys ≠ [] → ∀ p, H p = none → Q (.ref p) (upd H p (.tup (xs ++ ys))))
theorem Vals.nil_iff {xs : List V} {us : List Value} (r : Vals xs us) : us = [] ↔ xs = [] := by
  cases r with
  | nil => simp
  | cons _ _ => simp
theorem op_catT : OpR X (binaryOp .Add) (rCatT X.K) := by
  intro pins s σ H x y v u Q I rx ry h
  obtain ⟨a, b, xs, ys, rfl, rfl, ha, hb, hx, hz, q1, q2⟩ := h
  cases rx
  cases ry
  obtain ⟨its, r1, p1, _⟩ := I.tuple ha
  obtain ⟨its2, r2, p2, _⟩ := I.tuple hb
  refine HT.cat_tup p1 p2 (fun z => hx (r1.nil_iff.mp z)) (fun z => ⟨.ref a, H, I, rfl, q1 (r2.nil_iff.mp z)⟩) (fun z => ?_) (by rw [← r1.length, ← r2.length]; exact hz)
  refine ⟨.ref s.heap.objs.size, _, I.laid (t' := s.toks) (o := .tup (xs ++ ys)) (fun b ob q => Heap.get?_push_of_some _ q) (Nat.le_refl _) ?_, rfl, q2 (fun w => z (r2.nil_iff.mpr w)) _ (I.hok.fresh (Nat.le_refl _))⟩
  exact ⟨by rw [List.length_append]; exact hz, _, r1.append r2, IsTup.new _ _⟩
end
end L2

namespace L2
open PySem PySem.Spec PyProof.Rows

/-! ### places -/
/-- the place that an index of any sign means -/
def ixN (n : Nat) (i : Int) : Option Nat := if 0 ≤ i then (if i < n then some i.toNat else none) else if -(n : Int) ≤ i then some (i + n).toNat else none
def atI {α : Type} (xs : List α) (i : Int) : Option α := (ixN xs.length i).bind fun j => xs[j]?
theorem ixN_seq {n : Nat} {i : Int} {j : Nat} (h : ixN n i = some j) : seqIndex? i n = some j ∧ j < n ∧ -(n : Int) ≤ i ∧ i < n := by
  unfold ixN at h
  by_cases h0 : 0 ≤ i
  · rw [if_pos h0] at h
    by_cases h1 : i < n
    · rw [if_pos h1] at h
      have e : i.toNat = j := Option.some.inj h
      exact ⟨by rw [seqIndex_of h0 h1, e], by omega, by omega, h1⟩
    · rw [if_neg h1] at h; cases h
  · rw [if_neg h0] at h
    by_cases h1 : -(n : Int) ≤ i
    · rw [if_pos h1] at h
      have e : (i + n).toNat = j := Option.some.inj h
      exact ⟨by rw [seqIndex_neg (by omega) h1, e], by omega, h1, by omega⟩
    · rw [if_neg h1] at h; cases h
theorem atI_get {α : Type} {xs : List α} {i : Int} {v : α} (h : atI xs i = some v) : ∃ j, seqIndex? i xs.length = some j ∧ xs[j]? = some v ∧ j < xs.length ∧ -(xs.length : Int) ≤ i ∧ i < xs.length := by
  unfold atI at h
  cases e : ixN xs.length i with
  | none => rw [e] at h; cases h
  | some j =>
    rw [e] at h
    obtain ⟨h1, h2, h3, h4⟩ := ixN_seq e
    exact ⟨j, h1, h, h2, h3, h4⟩
theorem atI_nat {α : Type} {xs : List α} {j : Nat} {v : α} (h : xs[j]? = some v) : atI xs (j : Int) = some v := by
  have hj : j < xs.length := (List.getElem?_eq_some_iff.mp h).1
  have e : ixN xs.length (j : Int) = some j := by
    unfold ixN
    rw [if_pos (by omega), if_pos (by omega)]; simp
  unfold atI; rw [e]; exact h
/-! ### what may be subscripted -/
/-- what stands as an index of a plain subscript -/
def PlainIx (b : Expr) : Prop := ∀ o i, subscripted b false o i = operate [o, i] (getItem o i)
/-- a subscript by values -/
def IxR (X : Cx) (r : R2) : Prop :=
  ∀ (value slice : Expr) (pins : List (Addr × Obj)) (s : Shared) (σ : St) (H : Hp) (x y : V) (v u : Value) (Q : VK), Inv X pins σ H s → RelV x v → RelV y u → r x y H Q →
    subscripted slice false v u = operate [v, u] (getItem v u) → wpAny (model X.prog X.w) X.A (subscriptTail value slice v u) (EP X pins σ Q) X.xe s
/-- a call of a builtin's method by values: the receiver, the arguments -/
def MtR (X : Cx) (id : String) (r : V → List V → Hp → VK → Prop) : Prop :=
  ∀ (pins : List (Addr × Obj)) (s : Shared) (σ : St) (H : Hp) (x : V) (xs : List V) (v : Value) (us : List Value) (Q : VK), Inv X pins σ H s → RelV x v → Vals xs us → r x xs H Q →
    wpAny (model X.prog X.w) X.A (call (.builtin id) (v :: us)) (EP X pins σ Q) X.xe s
section
variable {X : Cx} {a b : Expr} {ta tb : TE} {pos : Pos}
theorem IxR.or {r r' : R2} (h : IxR X r) (h' : IxR X r') : IxR X (fun x y H Q => r x y H Q ∨ r' x y H Q) := by
  intro value slice pins s σ H x y v u Q I rx ry q hs
  rcases q with q | q
  · exact h value slice pins s σ H x y v u Q I rx ry q hs
  · exact h' value slice pins s σ H x y v u Q I rx ry q hs
theorem MtR.or {id : String} {r r' : V → List V → Hp → VK → Prop} (h : MtR X id r) (h' : MtR X id r') : MtR X id (fun x xs H Q => r x xs H Q ∨ r' x xs H Q) := by
  intro pins s σ H x xs v us Q I rx rs q
  rcases q with q | q
  · exact h pins s σ H x xs v us Q I rx rs q
  · exact h' pins s σ H x xs v us Q I rx rs q
/-- a[b] -/
theorem pe_ix {r : R2} (hr : IxR X r) (ha : PE X a ta) (hb : PE X b tb) (hs : PlainIx b) : PE X (.Subscript a b pos) (tOp r ta tb) := by
  intro pins s σ H Q I h
  exact Subscript_ (binT ha hb I h fun v u s2 x y H2 I2 rx ry q => hr a b pins s2 σ H2 x y v u Q I2 rx ry q (hs _ _))

def rIxL (K : PySem.W.Frag) : R2 := fun x y H Q => ∃ p xs i v, x = .ref p ∧ y = .int i ∧ SqL K H p xs ∧ atI xs i = some v ∧ Q v H
def rIxT (K : PySem.W.Frag) : R2 := fun x y H Q => ∃ p xs i v, x = .ref p ∧ y = .int i ∧ SqT K H p xs ∧ atI xs i = some v ∧ Q v H
def rIxS : R2 := fun x y H Q => ∃ z i c, x = .str z ∧ y = .int i ∧ z.length ≤ sizeLine ∧ atI z.cps.toList i = some c ∧ Q (.str ⟨#[c]⟩) H
theorem ix_list : IxR X (rIxL X.K) := by
  intro value slice pins s σ H x y v u Q I rx ry h hs
  obtain ⟨p, xs, i, z, rfl, rfl, hq, he, q⟩ := h
  cases rx
  obtain ⟨t, rfl⟩ := ry
  obtain ⟨its, r, pl, hz⟩ := I.list hq
  obtain ⟨j, h1, h2, h3, h4, h5⟩ := atI_get he
  obtain ⟨w, ew, rw'⟩ := r.get h2
  have hl := r.length
  have hn := line63
  have fin : EP X pins σ Q w s := ⟨z, H, I, rw', q⟩
  by_cases h0 : 0 ≤ i
  · have hj : i.toNat = j := by
      rw [seqIndex_of h0 h5] at h1
      exact Option.some.inj h1
    exact item_listR pl.isList h0 (by omega) (by rw [hj]; simpa using ew) fin hs
  · have hj : (i + (its.toArray.size : Int)).toNat = j := by
      rw [seqIndex_neg (by omega) h4] at h1
      rw [List.size_toArray, ← hl]
      exact Option.some.inj h1
    exact subscriptTail_builtinR (x := w) pl.isList.typeIs slot_list_getitem.lookup
      (wpAny_getItem_list_neg (Q := fun r s' => r = w ∧ EP X pins σ Q r s') pl.isList (by omega) (by rw [List.size_toArray] <;> omega) (by omega) (by rw [hj]; simpa using ew) ⟨rfl, fin⟩) hs
theorem ix_tup : IxR X (rIxT X.K) := by
  intro value slice pins s σ H x y v u Q I rx ry h hs
  obtain ⟨p, xs, i, z, rfl, rfl, hq, he, q⟩ := h
  cases rx
  obtain ⟨t, rfl⟩ := ry
  obtain ⟨its, r, pl, hz⟩ := I.tuple hq
  obtain ⟨j, h1, h2, h3, h4, h5⟩ := atI_get he
  obtain ⟨w, ew, rw'⟩ := r.get h2
  have hl := r.length
  have hn := line63
  have fin : EP X pins σ Q w s := ⟨z, H, I, rw', q⟩
  exact subscriptTail_builtinR (x := w) pl.typeIs slot_tuple_getitem.lookup
    (getItem_tuple (j := j) (Q := fun r s' => r = w ∧ EP X pins σ Q r s') pl (by omega) (by omega) (by rw [List.size_toArray, ← hl]; exact h1) (by simpa using ew) ⟨rfl, fin⟩) hs
theorem ix_str : IxR X rIxS := by
  intro value slice pins s σ H x y v u Q I rx ry h hs
  obtain ⟨z, i, c, rfl, rfl, hz, he, q⟩ := h
  obtain ⟨t, rfl⟩ := rx
  obtain ⟨t', rfl⟩ := ry
  obtain ⟨j, h1, h2, h3, h4, h5⟩ := atI_get he
  have hl : z.cps.toList.length = z.length := by simp [Str.length]
  rw [hl] at h1 h4 h5
  have hn := line63
  exact tail_any (typeIs_str s z t) slot_str_getitem.lookup (getItem_str (c := c) (by
    have e1 : decide (i < -(2 ^ 63 : Int)) = false := decide_eq_false (by omega)
    have e2 : decide (i ≥ 2 ^ 63) = false := decide_eq_false (by omega)
    rw [e1, e2, Bool.or_false]) (by rw [h1]; simpa using h2) ⟨.str ⟨#[c]⟩, H, I.tok _, ⟨_, rfl⟩, q⟩) hs
/-- list, tuple or str -/
def rIx (K : PySem.W.Frag) : R2 := fun x y H Q => rIxL K x y H Q ∨ rIxT K x y H Q ∨ rIxS x y H Q
theorem ix_seq : IxR X (rIx X.K) := ix_list.or (ix_tup.or ix_str)

/-! ### xs[i] = v, any sign -/
theorem Inv.lst {pins : List (Addr × Obj)} {σ : St} {H : Hp} {s : Shared} {p : Addr} {xs : List V} (I : Inv X pins σ H s) (h : H p = some (.lst xs)) :
    ∃ (its : List Value) (n : Nat), Vals xs its ∧ s.heap.get? p = some { cls := .type "list", data := .seq its.toArray n } ∧ xs.length ≤ sizeLine := by
  obtain ⟨z, its, n, r, e⟩ := I.hok p _ h
  exact ⟨its, n, r, e, z⟩
/-! ### slices -/
/-- xs[lo:hi] of a list: a new list -/
def rSlL (K : PySem.W.Frag) : V → Option Int → Option Int → Hp → VK → Prop := fun x lo hi H Q => ∃ a xs, x = .ref a ∧ SqL K H a xs ∧ ∀ p, H p = none → Q (.ref p) (upd H p (.lst (cutV xs lo hi)))
/-! ### in, not in: flat items -/
def flatV : V → Bool
  | .non => true
  | .bl _ => true
  | .int _ => true
  | .str _ => true
  | _ => false
/-- == of flat values -/
def eqV : V → V → Bool
  | .non, .non => true
  | .bl a, .bl b => a == b
  | .bl a, .int b => (if a then 1 else 0) == b
  | .int a, .bl b => a == (if b then 1 else 0)
  | .int a, .int b => a == b
  | .str a, .str b => a == b
  | _, _ => false
theorem eqAt_V {A : Around} {s : Shared} {y x : V} {u v : Value} (ry : RelV y u) (rx : RelV x v) (fy : flatV y = true) (fx : flatV x = true) : SeqAt.EqAt A s u v (eqV y x) := by
  cases y with
  | non =>
    cases ry
    cases x with
    | non => cases rx; exact SeqAt.EqAt.same _
    | bl b => cases rx; exact SeqAt.EqAt.none_bool b
    | int b => obtain ⟨t, rfl⟩ := rx; exact SeqAt.EqAt.none_int b t
    | str b => obtain ⟨t, rfl⟩ := rx; exact SeqAt.EqAt.none_str b t
    | _ => exact absurd (show false = true from fx) Bool.false_ne_true
  | bl a =>
    cases ry
    cases x with
    | non => cases rx; exact SeqAt.EqAt.bool_none a
    | bl b => cases rx; exact SeqAt.EqAt.bool_bool a b
    | int b => obtain ⟨t, rfl⟩ := rx; exact SeqAt.EqAt.bool_int a b t
    | str b => obtain ⟨t, rfl⟩ := rx; exact SeqAt.EqAt.bool_str a b t
    | _ => exact absurd (show false = true from fx) Bool.false_ne_true
  | int a =>
    obtain ⟨t', rfl⟩ := ry
    cases x with
    | non => cases rx; exact SeqAt.EqAt.int_none a t'
    | bl b => cases rx; exact SeqAt.EqAt.int_bool a t' b
    | int b => obtain ⟨t, rfl⟩ := rx; exact SeqAt.EqAt.int_int a t' b t
    | str b => obtain ⟨t, rfl⟩ := rx; exact SeqAt.EqAt.int_str a t' b t
    | _ => exact absurd (show false = true from fx) Bool.false_ne_true
  | str a =>
    obtain ⟨t', rfl⟩ := ry
    cases x with
    | non => cases rx; exact SeqAt.EqAt.str_none a t'
    | bl b => cases rx; exact SeqAt.EqAt.str_bool a t' b
    | int b => obtain ⟨t, rfl⟩ := rx; exact SeqAt.EqAt.str_int a t' b t
    | str b => obtain ⟨t, rfl⟩ := rx; exact SeqAt.EqAt.str_str a t' b t
    | _ => exact absurd (show false = true from fx) Bool.false_ne_true
  | _ => exact absurd (show false = true from fy) Bool.false_ne_true
/-- the items' answers, read off the values (a value's own answer does not lean on its token) -/
def eqU (x : V) (u : Value) : Bool := match u with
  | .none => eqV .non x
  | .bool b => eqV (.bl b) x
  | .int i _ => eqV (.int i) x
  | .str z _ => eqV (.str z) x
  | _ => false
theorem eqU_of {x y : V} {u : Value} (r : RelV y u) (f : flatV y = true) : eqU x u = eqV y x := by
  cases y with
  | non => cases r; rfl
  | bl b => cases r; rfl
  | int i => obtain ⟨t, rfl⟩ := r; rfl
  | str z => obtain ⟨t, rfl⟩ := r; rfl
  | _ => exact absurd (show false = true from f) Bool.false_ne_true
theorem any_eqU {x : V} : ∀ {xs : List V} {us : List Value}, Vals xs us → xs.all flatV = true → us.any (eqU x) = xs.any fun y => eqV y x
  | _, _, .nil, _ => rfl
  | y :: xs, u :: us, .cons r t, f => by
    rw [List.all_cons, Bool.and_eq_true] at f
    rw [List.any_cons, List.any_cons, eqU_of r f.1, any_eqU t f.2]
theorem mem_eqAt {A : Around} {s : Shared} {x : V} {v : Value} (rx : RelV x v) (fx : flatV x = true) : ∀ {xs : List V} {us : List Value}, Vals xs us → xs.all flatV = true → ∀ u ∈ us, SeqAt.EqAt A s u v (eqU x u)
  | _, _, .nil, _ => fun u hu => by cases hu
  | y :: xs, u :: us, .cons r t, f => fun u' hu => by
    rw [List.all_cons, Bool.and_eq_true] at f
    rcases List.mem_cons.mp hu with rfl | hu
    · rw [eqU_of r f.1]; exact eqAt_V r rx f.1 fx
    · exact mem_eqAt rx fx t f.2 u' hu
def inV (x : V) (xs : List V) : Bool := xs.any fun y => eqV y x
/-- x in a list or tuple of flat items -/
def rIn (K : PySem.W.Frag) (neg : Bool) : R2 := fun x y H Q => ∃ p xs, y = .ref p ∧ (SqL K H p xs ∨ SqT K H p xs) ∧ flatV x = true ∧ xs.all flatV = true ∧ Q (.bl (if neg then !inV x xs else inV x xs)) H
theorem op_in_seq : OpR X (compareOp .In) (rIn X.K false) := by
  intro pins s σ H x y v u Q I rx ry h
  obtain ⟨p, xs, rfl, hq, fx, fs, q⟩ := h
  cases ry
  rcases hq with hq | hq
  · obtain ⟨its, r, pl, hz⟩ := I.list hq
    refine SeqAt.in_listAt (eqU x) pl.isList (fun w hw => mem_eqAt rx fx r fs w (by simpa using hw)) ⟨.bl _, H, I, rfl, ?_⟩
    rw [show its.toArray.any (eqU x) = its.any (eqU x) by simp, any_eqU r fs]
    exact q
  · obtain ⟨its, r, pl, hz⟩ := I.tuple hq
    refine SeqAt.in_tupleAt (eqU x) pl (fun w hw => mem_eqAt rx fx r fs w (by simpa using hw)) ⟨.bl _, H, I, rfl, ?_⟩
    rw [show its.toArray.any (eqU x) = its.any (eqU x) by simp, any_eqU r fs]
    exact q
theorem op_notIn_seq : OpR X (compareOp .NotIn) (rIn X.K true) := by
  intro pins s σ H x y v u Q I rx ry h
  obtain ⟨p, xs, rfl, hq, fx, fs, q⟩ := h
  cases ry
  rcases hq with hq | hq
  · obtain ⟨its, r, pl, hz⟩ := I.list hq
    refine SeqAt.notIn_listAt (eqU x) pl.isList (fun w hw => mem_eqAt rx fx r fs w (by simpa using hw)) ⟨.bl _, H, I, rfl, ?_⟩
    rw [show its.toArray.any (eqU x) = its.any (eqU x) by simp, any_eqU r fs]
    exact q
  · obtain ⟨its, r, pl, hz⟩ := I.tuple hq
    refine SeqAt.notIn_tupleAt (eqU x) pl (fun w hw => mem_eqAt rx fx r fs w (by simpa using hw)) ⟨.bl _, H, I, rfl, ?_⟩
    rw [show its.toArray.any (eqU x) = its.any (eqU x) by simp, any_eqU r fs]
    exact q
theorem op_notIn_str : OpR X (compareOp .NotIn) (fun x y H Q => ∃ i j, x = .str i ∧ y = .str j ∧ Q (.bl (!(!(Builtin.Str.occurrences j i 0 j.length 1).isEmpty))) H) := by
  intro pins s σ H x y v u Q I rx ry h
  obtain ⟨i, j, rfl, rfl, q⟩ := h
  obtain ⟨t, rfl⟩ := rx
  obtain ⟨t', rfl⟩ := ry
  exact notIn_str ⟨.bl _, H, I, rfl, q⟩

/-! ### len, list(x), tuple(x) of any list or tuple that is read -/
theorem call_len_seq : CallR X (.builtin "len") (fun xs H Q => ∃ p ys, xs = [.ref p] ∧ (SqL X.K H p ys ∨ SqT X.K H p ys) ∧ Q (.int ys.length) H) := by
  intro pins s σ H xs us Q I r h
  obtain ⟨p, ys, rfl, hq, q⟩ := h
  obtain ⟨u, rfl, rx⟩ := vals1 r
  cases rx
  have hn := line63
  rcases hq with hq | hq
  · obtain ⟨its, r', pl, hz⟩ := I.list hq
    have hlen := r'.length
    exact Calls.call_len_list pl.isList (by simp only [List.size_toArray] <;> omega) ⟨.int ys.length, H, I.tok _, ⟨s.toks + 1, by rw [List.size_toArray, hlen]⟩, q⟩
  · obtain ⟨its, r', pl, hz⟩ := I.tuple hq
    have hlen := r'.length
    exact len_tuple pl (by simp only [List.size_toArray] <;> omega) ⟨.int ys.length, H, I.tok _, ⟨s.toks + 1, by rw [List.size_toArray, hlen]⟩, q⟩
theorem call_len_str : CallR X (.builtin "len") (fun xs H Q => ∃ z, xs = [.str z] ∧ z.length ≤ sizeLine ∧ Q (.int z.length) H) := by
  intro pins s σ H xs us Q I r h
  obtain ⟨z, rfl, hz, q⟩ := h
  obtain ⟨u, rfl, t, rfl⟩ := vals1 r
  have hn := line63
  exact len_str (by omega) ⟨.int z.length, H, I.tok _, ⟨_, rfl⟩, q⟩
theorem CallR.or {f : Value} {r r' : List V → Hp → VK → Prop} (h : CallR X f r) (h' : CallR X f r') : CallR X f (fun xs H Q => r xs H Q ∨ r' xs H Q) := by
  intro pins s σ H xs us Q I rs q
  rcases q with q | q
  · exact h pins s σ H xs us Q I rs q
  · exact h' pins s σ H xs us Q I rs q
theorem call_tuple_of : CallR X (.type "tuple") (fun xs H Q => ∃ p ys, xs = [.ref p] ∧ ((SqL X.K H p ys ∧ ∀ l, H l = none → Q (.ref l) (upd H l (.tup ys))) ∨ (SqT X.K H p ys ∧ Q (.ref p) H))) := by
  intro pins s σ H xs us Q I r h
  obtain ⟨p, ys, rfl, h⟩ := h
  obtain ⟨u, rfl, rx⟩ := vals1 r
  cases rx
  rcases h with ⟨hq, q⟩ | ⟨hq, q⟩
  · obtain ⟨its, r', pl, hz⟩ := I.list hq
    have hlen := r'.length
    refine call_tuple_list pl.isList (fun h' kp => ?_) (by simp only [List.size_toArray] <;> omega)
    have I1 : Inv X pins σ H { s with heap := h' } := I.kept (t' := s.toks) kp
    have I2 : Inv X pins σ (upd H h'.objs.size (.tup ys)) { s with heap := h'.push { cls := .type "tuple", data := .seq its.toArray } } :=
      I1.laid (t' := s.toks) (fun b o e => Heap.get?_push_of_some _ e) (Nat.le_refl _) (show ObjOk X.prog X.w _ _ _ (.tup ys) from ⟨hz, its, r', IsTup.new _ _⟩)
    exact ⟨.ref h'.objs.size, _, I2, rfl, q _ (I1.hok.fresh (Nat.le_refl _))⟩
  · obtain ⟨its, r', pl, hz⟩ := I.tuple hq
    exact call_tuple_same pl ⟨.ref p, H, I, rfl, q⟩

/-! ### the call of a builtin's method: o.m(..) -/
/-- the value is of that builtin type -/
def tyV (K : PySem.W.Frag) (T : String) (x : V) (H : Hp) : Prop := match x with
  | .str _ => T = "str"
  | .int _ => T = "int"
  | .ref p => (T = "list" ∧ ∃ xs, SqL K H p xs) ∨ (T = "tuple" ∧ ∃ o, K.lookup p = some o ∧ o.cls = .type "tuple" ∧ o.dict = none) ∨
      (T = "dict" ∧ ((∃ kvs, H p = some (.dK kvs)) ∨ ∃ kvs, H p = some (.dT kvs))) ∨ (T = "set" ∧ ∃ S n, H p = some (.set S n))
  | _ => False
theorem tyV_is {pins : List (Addr × Obj)} {σ : St} {H : Hp} {s : Shared} {T : String} {x : V} {v : Value} (I : Inv X pins σ H s) (r : RelV x v) (ty : tyV X.K T x H) :
    s.TypeIs v T ∧ ∀ a, v = .ref a → ∃ ob, s.heap.get? a = some ob ∧ ob.dict = none := by
  cases x with
  | str z =>
    obtain ⟨t, rfl⟩ := r
    cases (show T = "str" from ty)
    exact ⟨typeIs_str s z t, fun _ e => nomatch e⟩
  | int i =>
    obtain ⟨t, rfl⟩ := r
    cases (show T = "int" from ty)
    exact ⟨typeIs_int s i t, fun _ e => nomatch e⟩
  | ref p =>
    cases r
    rcases ty with ⟨rfl, xs, hq⟩ | ⟨rfl, o, hk, hc, hd⟩ | ⟨rfl, hk⟩ | ⟨rfl, S, n, hk⟩
    · obtain ⟨its, _, pl, _⟩ := I.list hq
      refine ⟨pl.isList.typeIs, fun a e => ?_⟩
      cases e
      obtain ⟨o, n, e, c, hd, _⟩ := pl
      exact ⟨o, e, hd⟩
    · refine ⟨⟨o, I.kIn p o hk, hc⟩, fun a e => ?_⟩
      cases e
      exact ⟨o, I.kIn _ o hk, hd⟩
    · have z : ∃ o, s.heap.get? p = some o ∧ o.ExactDict := by
        rcases hk with ⟨kvs, hk⟩ | ⟨kvs, hk⟩
        · obtain ⟨_, _, _, _, o, _, _, e, ex, _⟩ := I.hok p _ hk
          exact ⟨o, e, ex⟩
        · obtain ⟨_, _, _, _, o, _, _, e, ex, _⟩ := I.hok p _ hk
          exact ⟨o, e, ex⟩
      obtain ⟨o, e, ex⟩ := z
      refine ⟨⟨o, e, ex.1⟩, fun a e2 => ?_⟩
      cases e2
      exact ⟨o, e, ex.2.1⟩
    · obtain ⟨o, _, _, _, e, ex, _⟩ := I.hok p _ hk
      refine ⟨⟨o, e, ex.1⟩, fun a e2 => ?_⟩
      cases e2
      exact ⟨o, e, ex.2.1⟩
  | _ => exact False.elim ty
def tBM (K : PySem.W.Frag) (T : String) (r : V → List V → Hp → VK → Prop) (to : TE) (t : TA) : TE := fun σ H Q => to σ H fun x H1 => tyV K T x H1 ∧ t σ H1 fun xs H2 => r x xs H2 Q
variable {o e : Expr} {es : List Expr} {to : TE} {t : TA} {name : Str} {apos cpos : Pos} {T id : String} {r : V → List V → Hp → VK → Prop}
theorem pe_bm (pa : PlainAttrs T) (slot : Slot T name id) (hty : typeOf (.builtin id) = pure (.type "method_descriptor")) (hm : MtR X id r) (ho : PE X o to) (ha : PA X (e :: es) t)
    (hbase : attributeBase o name X.env (eval o X.env) = eval o X.env := by rfl)
    (hfew : ((backTo cpos (starEach (e :: es) X.env)).all (fun x => !x.1) && (backToKw cpos (keywordEach [] X.env)).all (fun x => x.1.isSome)
      && decide ((e :: es).length + ([] : List Keyword).length + (if ([] : List Keyword).isEmpty then 0 else 1) < 30)) = true := by rfl)
    (hline : (apos.endLine == cpos.line) = true := by rfl) (hs : starEach (e :: es) X.env = (false, eval e X.env) :: starEach es X.env := by rfl) (hplain : (backTo cpos (starEach es X.env)).any (·.1) = false := by rfl) :
    PE X (.Call (.Attribute o name apos) (e :: es) [] cpos) (tBM X.K T r to t) := by
  intro pins s σ H Q I h
  refine wpAny_Call_method_late hbase hfew hline rfl (thn (ho pins s σ H _ I h) fun v s1 ⟨x, H1, I1, r1, ty, q1⟩ => ?_)
  obtain ⟨h1, h2⟩ := tyV_is I1 r1 ty
  refine ⟨T, id, pa, slot, hty, h1, h2, ?_⟩
  have hA := ha cpos pins s1 σ H1 _ I1 q1
  rw [hs] at hA ⊢
  refine Calls.callWith_builtin (by show (false || (backTo cpos (starEach es X.env)).any (·.1)) = false; rw [hplain] <;> rfl) (Calls.evalArgs_plain ?_)
  exact thn hA fun us s2 ⟨vs, H2, I2, r2, q2⟩ => hm pins s2 σ H2 x vs v us Q I2 r1 r2 q2
/- xs.append(e), list.index on a module's tuple .. are MtR facts of 06m -/
end
end L2

namespace L2
open PySem PySem.Spec PyProof.Rows

def MtM (X : Cx) (id : String) (r : V → List V → Hp → VK → Prop) : Prop :=
  ∀ (pins : List (Addr × Obj)) (s : Shared) (σ : St) (H : Hp) (x : V) (xs : List V) (v : Value) (us : List Value) (Q : VK), Inv X pins σ H s → RelV x v → Vals xs us → r x xs H Q →
    wpAny (model X.prog X.w) X.A (call (.builtin id) (v :: us)) (EP X pins σ Q) X.xe s

/-! ### lists of values -/
theorem Vals.one : ∀ {x : V} {us : List Value}, Vals [x] us → ∃ u, us = [u] ∧ RelV x u
  | _, _, .cons r .nil => ⟨_, rfl, r⟩
theorem Vals.two : ∀ {x y : V} {us : List Value}, Vals [x, y] us → ∃ u v, us = [u, v] ∧ RelV x u ∧ RelV y v
  | _, _, _, .cons r (.cons q .nil) => ⟨_, _, rfl, r, q⟩
theorem Vals.zero : ∀ {us : List Value}, Vals [] us → us = []
  | _, .nil => rfl
theorem Vals.reverse {xs : List V} {us : List Value} (h : Vals xs us) : Vals xs.reverse us.reverse := by
  induction h with
  | nil => exact .nil
  | cons r t ih => rw [List.reverse_cons, List.reverse_cons]; exact Vals.append ih (.cons r .nil)
theorem foldl_rep (its : List Value) : ∀ (k : Nat) (acc : List Value),
    List.foldl (fun x1 x2 => x1 ++ x2) acc.toArray (List.replicate k its.toArray) = (acc ++ (List.replicate k its).flatten).toArray
  | 0, acc => by simp
  | k + 1, acc => by
    have e : acc.toArray ++ its.toArray = (acc ++ its).toArray := by simp
    have e2 : (acc ++ its) ++ (List.replicate k its).flatten = acc ++ (List.replicate (k + 1) its).flatten := by
      rw [List.replicate_succ, List.flatten_cons, List.append_assoc]
    rw [← e2, ← foldl_rep its k (acc ++ its), ← e, List.replicate_succ, List.foldl_cons]

section
variable {X : Cx} {pins : List (Addr × Obj)} {σ : St} {H : Hp} {s : Shared} {l b : Addr} {xs ys zs : List V}

/-! ### the two steps: a tracked list is rewritten, a new list is laid -/
theorem Inv.lset {its its' : List Value} {n : Nat} {f : Array Value → Array Value} {t' : Nat} (I : Inv X pins σ H s) (hH : H l = some (.lst xs))
    (e : s.heap.get? l = some { cls := .type "list", data := .seq its.toArray n }) (hf : f its.toArray = its'.toArray) (hv : Vals ys its') (hz : ys.length ≤ sizeLine) :
    Inv X pins σ (upd H l (.lst ys)) { s with heap := s.heap.update l (Obj.mapSeq f), toks := t' } := by
  have q := PySem.IsL.update e f
  rw [hf] at q
  refine I.write (x := l) (e := l) (by rw [hH]; exact trivial) (.inl rfl) (fun b' u hb hu => (Heap.get?_update_other s.heap (Obj.mapSeq f) (Ne.symm hb)).trans hu) ⟨_, q⟩ ?_
  exact ⟨hz, its', _, hv, q⟩
theorem Inv.lnew {its : List Value} {t' : Nat} (I : Inv X pins σ H s) (hv : Vals ys its) (hz : ys.length ≤ sizeLine) :
    Inv X pins σ (upd H s.heap.objs.size (.lst ys)) { s with heap := s.heap.push { cls := .type "list", data := .seq its.toArray }, toks := t' } :=
  I.laid (fun _ _ q => Heap.get?_push_of_some _ q) (Nat.le_refl _) ⟨hz, its, 0, hv, Heap.get?_push_size _ rfl⟩
theorem Inv.fresh (I : Inv X pins σ H s) : H s.heap.objs.size = none := I.hok.fresh (Nat.le_refl _)
theorem Inv.lstM (I : Inv X pins σ H s) (hH : H l = some (.lst xs)) : xs.length ≤ sizeLine ∧ ∃ (its : List Value) (n : Nat), Vals xs its ∧ xs.length = its.length ∧ s.heap.get? l = some { cls := .type "list", data := .seq its.toArray n } := by
  obtain ⟨z, its, n, r, e⟩ := I.hok l _ hH
  exact ⟨z, its, n, r, r.length, e⟩

theorem notLongL {n : Nat} (h : n ≤ sizeLine) : Builtin.List.listTooLong n = false := by
  unfold Builtin.List.listTooLong
  exact decide_eq_false (by omega)
end

section
variable {X : Cx}

/-! ### methods -/
def rAppend : V → List V → Hp → VK → Prop := fun x vs H Q => ∃ l xs y, x = .ref l ∧ vs = [y] ∧ H l = some (.lst xs) ∧ xs.length < sizeLine ∧ Q .non (upd H l (.lst (xs ++ [y])))
theorem mt_append : MtM X "list.append" rAppend := by
  intro pins s σ H x vs v us Q I rx rv h
  obtain ⟨l, xs, y, rfl, rfl, hH, hz, q⟩ := h
  cases rx
  obtain ⟨u, rfl, ru⟩ := rv.one
  obtain ⟨z, its, n, r, hl, e⟩ := I.lstM hH
  refine call_meets F.slot_list_append ⟨_, e, rfl⟩ F.entry_list_append (F.args_list_append_2 _ _) (PySem.list_append l its.toArray n u (by rw [List.size_toArray]; omega)) ⟨e, ?_⟩
  refine ⟨.non, _, I.lset (its' := its ++ [u]) hH e (by simp) (r.append (.cons ru .nil)) ?_, rfl, q⟩
  rw [List.length_append, List.length_singleton]
  omega

def rExtend : V → List V → Hp → VK → Prop := fun x vs H Q => ∃ l b xs zs, x = .ref l ∧ vs = [.ref b] ∧ H l = some (.lst xs) ∧ H b = some (.lst zs) ∧ xs.length + zs.length ≤ sizeLine ∧ Q .non (upd H l (.lst (xs ++ zs)))
theorem mt_extend : MtM X "list.extend" rExtend := by
  intro pins s σ H x vs v us Q I rx rv h
  obtain ⟨l, b, xs, zs, rfl, rfl, hH, hB, hz, q⟩ := h
  cases rx
  obtain ⟨u, rfl, ru⟩ := rv.one
  cases ru
  obtain ⟨z, its, n, r, hl, e⟩ := I.lstM hH
  obtain ⟨z2, its2, n2, r2, hl2, e2⟩ := I.lstM hB
  have hsz : its.toArray.size + its2.toArray.size ≤ sizeLine := by rw [List.size_toArray, List.size_toArray]; omega
  have hlong : ¬ (!its.toArray.isEmpty && Builtin.List.listTooLong (its.toArray.size + its2.toArray.size)) = true := by
    rw [notLongL hsz, Bool.and_false]
    exact Bool.false_ne_true
  refine call_meets F.slot_list_extend ⟨_, e, rfl⟩ F.entry_list_extend (F.args_list_extend_2 _ _)
    (AutoSeq1.list_extend_list_list_0 l its.toArray n b its2.toArray n2 hlong (by rw [List.size_toArray]; omega) (by omega)) ⟨e, e2, ?_⟩
  refine ⟨.non, _, I.lset (its' := its ++ its2) hH e (by simp) (r.append r2) ?_, rfl, q⟩
  rw [List.length_append]
  omega

/-! ### list + list, list += list, list * int -/
def rCat : R2 := fun x y H Q => ∃ l b xs zs, x = .ref l ∧ y = .ref b ∧ H l = some (.lst xs) ∧ H b = some (.lst zs) ∧ xs.length + zs.length ≤ sizeLine ∧ ∀ p, H p = none → Q (.ref p) (upd H p (.lst (xs ++ zs)))
theorem op_cat : OpR X (binaryOp .Add) rCat := by
  intro pins s σ H x y v u Q I rx ry h
  obtain ⟨l, b, xs, zs, rfl, rfl, hH, hB, hz, q⟩ := h
  cases rx
  cases ry
  obtain ⟨z, its, n, r, hl, e⟩ := I.lstM hH
  obtain ⟨z2, its2, n2, r2, hl2, e2⟩ := I.lstM hB
  refine PySem.P.add_list e e2 ?_ (by rw [List.size_toArray, List.size_toArray]; omega)
  have ea : its.toArray ++ its2.toArray = (its ++ its2).toArray := by simp
  rw [ea]
  exact ⟨.ref _, _, I.lnew (t' := s.toks) (r.append r2) (by rw [List.length_append]; omega), rfl, q _ I.fresh⟩
/-- a list times an int (a negative one is nothing) -/
def rRep : R2 := fun x y H Q => ∃ l k xs, x = .ref l ∧ y = .int k ∧ H l = some (.lst xs) ∧ -(2 ^ 63) ≤ k ∧ k < 2 ^ 63 ∧ xs.length * k.toNat ≤ sizeLine ∧
  ∀ p, H p = none → Q (.ref p) (upd H p (.lst (List.replicate k.toNat xs).flatten))
theorem len_rep {α : Type} (xs : List α) (k : Nat) : (List.replicate k xs).flatten.length = k * xs.length := by
  induction k with
  | zero => simp
  | succ k ih => rw [List.replicate_succ, List.flatten_cons, List.length_append, ih, Nat.succ_mul, Nat.add_comm]
/-! ### del xs[i] -/
end

/-! ### xs[a:b] = ys -/
section
variable {prog : Program} {w : World} {A : Around} {E : Value → Shared → Prop} {s : Shared}
end

section
variable {X : Cx}
end
end L2

namespace Att
open PySem PySem.W PySem.Calls PyProof.Rows

/-! ### the script -/
theorem ints_of_wellAll {P : Params} {h : Heap} : ∀ (ns : List Int) (vs : List Value), WellAll P h vs (ns.map WData.int) → IntsAre vs ns := by
  intro ns
  induction ns with
  | nil =>
    intro vs w
    rw [List.map_nil] at w
    cases w
    exact .nil
  | cons n ns ih =>
    intro vs w
    rw [List.map_cons] at w
    cases w with
    | cons a b =>
      cases a
      exact .cons _ _ (ih _ b)

theorem script_of {l : OpenLaw} {n : Nat} (hn : l.most = some n) {P : Params} {h : Heap} {args : List WData} {vals : List Value}
    (hpre : l.row.toRowW.claim.pre args = true) (hwl : WellAll P h vals args) :
    ∃ a vs ns, vals = [Value.ref a] ∧ args = [WData.list (ns.map WData.int)] ∧ h.get? a = some { cls := .type "list", data := .seq vs.toArray } ∧ IntsAre vs ns ∧ ns.length ≤ n := by
  have hsh : WShape.hasAll [] args [.list .int] = true := (pre_splitW hpre).1
  have hc : l.pre.holds [] { args := args } = true := (pre_splitW hpre).2
  obtain ⟨d, r, rfl, h1, h2⟩ := hasAllW_cons hsh
  obtain rfl := hasAllW_nil h2
  obtain ⟨xs, rfl, h3⟩ := hasW_list h1
  obtain ⟨ns, rfl⟩ := items_int h3
  have hlen : ns.length ≤ n := by
    unfold OpenLaw.pre at hc
    have h4 : (WTm.not (.lt (.lit (.int (n : Int))) (.len (.arg 0)))).holds [] { args := [.list (ns.map .int)] } = true := by
      have h4 := (holds_andW hc).1
      rw [hn] at h4
      exact h4
    have h5 := condW_of h4 (w_not (w_lt w_lit (w_len_list (w_arg rfl))))
    rw [List.length_map] at h5
    refine Nat.le_of_not_lt fun q => ?_
    have q' : (n : Int) < ((ns.length : Nat) : Int) := by omega
    first
      | (rw [decide_eq_true q'] at h5; exact absurd h5 (by decide))
      | (simp at h5; omega)
  cases hwl with
  | cons w1 w2 =>
    cases w2
    cases w1 with
    | list ho hall => exact ⟨_, _, ns, rfl, rfl, ho, ints_of_wellAll ns _ hall, hlen⟩

theorem post_true (l : OpenLaw) (args : List WData) : l.row.toRowW.claim.post args (.bool true) args = true :=
  postW_of (r := l.row.toRowW) (X := (true == true))
    (show WShape.has [] (.bool true) .bool = true by first | rfl | decide | simp [WShape.has, WShape.arms, WShape.armsAll])
    (show (WTm.eq .res (.lit (.bool true))).value [] { args := args, res := some (.bool true), after := args } = some (.bool (true == true)) from w_eq_bool (w_res rfl) w_lit) rfl

/-! ### the attachment: holds_open's last premise (the goal 'hc' behind k_head) from a wpAny of the law's body -/
/-- the same from a codeAny of the CALL (for a layer whose function contracts speak of calls) -/
theorem attach_call {l : OpenLaw} {n : Nat} {q : Program} {loose : List Str} {XP : (Str → Option Value) → Heap → Prop} {YP : World → Heap → Prop} {d : DefRec}
    (hn : l.most = some n) (hdf : d.params.defaults = [])
    (call : ∀ (w : World) (s₀ s₁ : Shared) (mg mb : Str → Option Value) (fa : Addr) (o : Obj) (pm cd doc : Value) (a : Addr) (vs : List Value) (ns : List Int),
      Ground q loose [] XP w s₀ mg mb s₁.heap → YP w s₁.heap →
      s₁.heap.get? fa = some o → o.data = .func (docDef d.name d.params d.body d.scope pm cd doc) → s₁.heap.CodeRec cd d.name → mg d.name = some (.ref fa) →
      s₁.heap.get? a = some { cls := .type "list", data := .seq vs.toArray } → IntsAre vs ns → ns.length ≤ n → s₁.gens = #[] →
      codeAny (model l.prog w) callerA (.call (.ref fa) ⟨[.ref a], []⟩) (fun r s' => r = .ok (.ret (.bool true)) ∧ OldK s₁.heap s'.heap ∧ s'.os = s₁.os ∧ AllBare s'.gens) s₁) :
    WalkO q loose XP YP l.row.toRowW d [] (fun f vs => PySem.call f vs) := by
  intro w s₀ s₁ mg mb G Y fa o pm cd doc dV kV ho hd hcd hD hmg hg args vals as hpre hlay hrd hwl hlo
  obtain rfl : dV = .none := Dflts.none hD hdf
  obtain rfl : kV = .none := Dflts.noKw hD
  obtain ⟨a, vs, ns, rfl, rfl, hobj, hints, hlen⟩ := script_of hn hpre hwl
  refine enter_call (codeAny_mono (call w s₀ s₁ mg mb fa o pm cd doc a vs ns G Y ho (fd_plain hd) hcd hmg hobj hints hlen hg) fun r s' hq => ?_)
  obtain ⟨rfl, h2, h3, h4⟩ := hq
  exact ⟨.inl ⟨.bool true, .bool true, [], rfl, fun _ => rfl, .bool true, post_true l _, fun _ => ⟨List.Pairwise.nil, fun _ hm => (nomatch hm)⟩⟩, h2, h3, h4⟩

/-! ### rules over ANY heap (no ledger) from facts about the written part K: the library's own take a ledger (News) for what they write -/
section
variable {prog : Program} {w : World} {A : Around} {E : Value → Shared → Prop} {s : Shared} {K : Frag}

/-! the whole heap as the ledger: makes every rule that writes through a ledger a rule over any heap -/
def ledger (h : Heap) (L d : Addr) : List (Addr × Obj) := (List.range h.objs.size).filterMap fun a => if a = L ∨ a = d then none else (h.get? a).map fun o => (a, o)
end
end Att

namespace L2
open PySem PySem.Spec PyProof.Rows

theorem vals_ints : ∀ {vs : List Value} {ns : List Int}, IntsAre vs ns → Vals (ns.map V.int) vs
  | _, _, .nil => .nil
  | _, _, .cons n t h => .cons ⟨t, rfl⟩ (vals_ints h)

/-- nothing is tracked but the script, known to the object (or it is an object of the module) -/
def Only (H : Hp) : Prop := ∀ b, H b = none ∨ ∃ o xs, H b = some (.frz o (.lst xs))

/-- THE HEAD: the law's promise, at the heap behind the top. F, the promise of the law's def, may use that base is part of the heap (so K.In base, base.Ns mainGlobals mg stand in Mod) -/
theorem law_call {P : Program} {w : World} {K : PySem.W.Frag} {mg mb : Str → Option Value} {CX : CXT} {k : Nat} {fa a : Addr} {fd : FuncData} {x : Str} {sp : Sp} {s₁ : Shared} {vs : List Value} {ns : List Int}
    (KX : K.In s₁.heap) (hns : s₁.heap.Ns mainGlobals mg) (hb : s₁.heap.Ns builtinsNs mb) (hbb : ∀ x : Str, x ≠ "__name__" → mb x = bootBuiltins x) (hlim : s₁.heap.NoLimit) (hg : s₁.gens = #[])
    (ha : s₁.heap.get? a = some { cls := .type "list", data := .seq vs.toArray }) (hi : IntsAre vs ns) (hl : ns.length ≤ sizeLine) (hr : Room k callerA)
    (F : ∀ base : Heap, K.In base → base.Ns mainGlobals mg → FnOk P w K mg base CX k fa fd [x] sp) (hbind : ∀ (s : Shared) (u : Value), BindsTo s fd ⟨[u], []⟩ [(x, u)])
    (hsp : ∀ H : Hp, Only H → SqL K H a (ns.map V.int) → sp [.ref a] H (fun v _ => v = .bl true) fun _ _ _ => False)
    (hCX : ∀ H e s', CX [] H s₁ (fun _ _ _ => False) e s' → False) :
    codeAny (model P w) callerA (.call (.ref fa) ⟨[.ref a], []⟩) (fun r s' => r = .ok (.ret (.bool true)) ∧ OldK s₁.heap s'.heap ∧ s'.os = s₁.os ∧ AllBare s'.gens) s₁ := by
  have rv := vals_ints hi
  have lenV := hi.length
  -- from an abstract heap in which nothing but the script may be tracked
  have core : ∀ H : Hp, Only H → SqL K H a (ns.map V.int) → HOk P w H s₁.heap → (∀ b, H b ≠ none → b = a) → (H a ≠ none → K.lookup a = none) →
      codeAny (model P w) callerA (.call (.ref fa) ⟨[.ref a], []⟩) (fun r s' => r = .ok (.ret (.bool true)) ∧ OldK s₁.heap s'.heap ∧ s'.os = s₁.os ∧ AllBare s'.gens) s₁ := by
    intro H hO hS hok hA hK
    have base_of : ∀ {b : Addr} {o : Obj}, s₁.heap.get? b = some o → H b = none → (hidT s₁.heap H).get? b = some o := fun e n => hidT_get e n
    have noA : ∀ {b : Addr} {o : Obj} {es : Array DictEntry} {ep : Nat}, s₁.heap.get? b = some o → o.data = .dict es ep → H b = none := fun {b o es ep} e d => by
      cases q : H b with
      | none => rfl
      | some u =>
        have e' : b = a := hA b (by rw [q]; simp)
        subst e'
        rw [ha] at e; cases e
        have d' : Data.seq vs.toArray _ = Data.dict es ep := d
        cases d'
    have nsK : ∀ {b : Addr} {m : Str → Option Value}, s₁.heap.Ns b m → (hidT s₁.heap H).Ns b m := fun {b m} ⟨o, es, ep, e, d, r⟩ => ⟨o, es, ep, base_of e (noA e d), d, r⟩
    have hKb : K.In (hidT s₁.heap H) := fun b o e => base_of (KX b o e) (by
      cases q : H b with
      | none => rfl
      | some u =>
        have e' : b = a := hA b (by rw [q]; simp)
        subst e'
        rw [hK (by rw [q]; simp)] at e; cases e)
    have hM : Mod K mg (hidT s₁.heap H) := ⟨hKb, nsK hns, ⟨mb, nsK hb, hbb⟩, let ⟨mc, h1, h2⟩ := hlim; ⟨mc, nsK h1, h2⟩⟩
    have e0 : Env0 P w K mg (hidT s₁.heap H) callerA [] s₁ H := ⟨rfl, hM, fun b o e => of_hidT e, Nat.le_of_eq (hidT_size _ _), trivial, fun b hb => absurd (show b ∈ ([] : List Addr) from hb) (by simp), hok, .of_eq hg⟩
    refine codeAny_mono ((F _ hKb (nsK hns)).run callerA [] s₁ H ⟨[.ref a], []⟩ [.ref a] [.ref a] _ _ hr e0 (hbind s₁ (.ref a)) (.cons rfl .nil) (hsp H hO hS)) fun r s' h => ?_
    cases r with
    | error e => exact (hCX H e s' h).elim
    | ok fl =>
      cases fl with
      | next => exact False.elim h
      | brk => exact False.elim h
      | cont => exact False.elim h
      | ret u =>
        obtain ⟨v, H', os, bare, un, hok', r', q⟩ := h
        have q' : v = .bl true := q
        subst q'
        obtain rfl : u = Value.bool true := r'
        refine ⟨rfl, OldK.of_keep fun b o e => ?_, os, bare⟩
        cases q : H b with
        | none => exact un.keep b o e q (by intro z; exact absurd (show b ∈ ([] : List Addr) from z) (by simp)) (by simp)
        | some u =>
          rcases hO b with z | ⟨ob, xs, z⟩
          · rw [q] at z; cases z
          · have z2 := un.frzs b ob _ z
            obtain ⟨e1, _⟩ := hok b _ z
            obtain ⟨e2, _⟩ := hok' b _ z2
            rw [e] at e1; cases e1
            exact e2
  cases hk : K.lookup a with
  | some o =>
    -- the script is one of the module's own objects
    have e := KX a o hk
    rw [ha] at e
    cases e
    refine core (fun _ => none) (fun _ => .inl rfl) (.inr ⟨_, vs.toArray, _, hk, rfl, rfl, rfl, by rw [List.size_toArray, lenV]; exact hl, by simpa using rv⟩) (fun b u z => by have z' : (none : Option HO) = some u := z; cases z') (fun b z => absurd rfl z) fun z => absurd rfl z
  | none =>
    refine core (fun b => if b = a then some (.frz { cls := .type "list", data := .seq vs.toArray } (.lst (ns.map V.int))) else none) (fun b => ?_) (.inl (.inr ⟨{ cls := .type "list", data := .seq vs.toArray }, if_pos rfl⟩)) (fun b u z => ?_) (fun b z => ?_) fun _ => hk
    · by_cases hb : b = a
      · exact .inr ⟨_, _, if_pos hb⟩
      · exact .inl (if_neg hb)
    · by_cases hb : b = a
      · have z' := (if_pos hb).symm.trans z
        cases z'
        subst hb
        exact ⟨ha, by rw [List.length_map]; exact hl, vs, _, rv, ha⟩
      · have z' := (if_neg hb).symm.trans z
        cases z'
    · by_cases hb : b = a
      · exact hb
      · exact absurd (if_neg hb) z
end L2

namespace L2
open PySem PySem.Spec PyProof.Rows

abbrev KOf {K : PySem.W.Frag} {h : Heap} (_ : K.In h) : PySem.W.Frag := K

/-- the goal that k_head leaves (case hc), from the law's promise. F gives the function object fd (K's own) once, then the promise over every base -/
theorem walk_of {l : PySem.W.OpenLaw} {n k : Nat} {q : Program} {loose : List Str} {XP : (Str → Option Value) → Heap → Prop} {YP : World → Heap → Prop} {d : DefRec} {K : Params → PySem.W.Frag} {CX : World → CXT} {sp : World → Sp} {x : Str}
    (hn : l.most = some n) (hn2 : n ≤ sizeLine) (hdf : d.params.defaults = []) (hr : Room k callerA)
    (hY : ∀ (w : World) (h : Heap), YP w h → (K w.params).In h)
    (F : ∀ (w : World) (mg : Str → Option Value) (fa : Addr) (h : Heap), (K w.params).In h → h.Ns mainGlobals mg → mg d.name = some (.ref fa) →
      ∃ fd : FuncData, (∀ (s : Shared) (u : Value), BindsTo s fd ⟨[u], []⟩ [(x, u)]) ∧
        ∀ base : Heap, (K w.params).In base → base.Ns mainGlobals mg → FnOk l.prog w (K w.params) mg base (CX w) k fa fd [x] (sp w))
    (hsp : ∀ (w : World) (H : Hp) (a : Addr) (ns : List Int), ns.length ≤ n → Only H → SqL (K w.params) H a (ns.map V.int) → sp w [.ref a] H (fun v _ => v = .bl true) fun _ _ _ => False)
    (hCX : ∀ (w : World) (H : Hp) (s : Shared) (e : Value) (s' : Shared), CX w [] H s (fun _ _ _ => False) e s' → False) :
    PySem.W.WalkO q loose XP YP l.row.toRowW d [] (fun f vs => PySem.call f vs) := by
  refine Att.attach_call hn hdf fun w s₀ s₁ mg mb fa o pm cd doc a vs ns G Y ho hd hcd hmg hobj hints hlen hg => ?_
  have KX := hY w _ Y
  obtain ⟨fd, hb, hF⟩ := F w mg fa _ KX G.T.g hmg
  exact law_call KX G.T.g G.T.b G.T.builtins G.T.nolimit hg hobj hints (Nat.le_trans hlen hn2) hr hF hb (fun H hO hS => hsp w H a ns hlen hO hS) fun H e s' => hCX w H s₁ e s'
end L2

/- THE LAST THEOREM (shape; LID, My.* are yours):
   My.Adr: a structure of the addresses that your layer names (classes, functions); My.Txt K t: a structure (Prop) of the equations over K;
   My.txt_mk : {K} {implicit addresses ..} (e1 : nsIn K mainGlobals "law" = some (some (.ref f))) (e2 : K.lookup f = some ⟨oc, od, .func (fnOf "law" "law" params body scope dV kV doc pm an cdv ct), sl⟩) (e3 : codeIn K cdv "law" = true) .. : ∃ t, My.Txt K t

set_option maxRecDepth 100000 in
set_option maxHeartbeats 0 in
theorem PySem.Challenge.cw_LID_holds : PySem.Challenge.rw_LID.Holds := by
  w_on; o_law; k_head; (case hw => w_witness2)
  k_fill
  refine L2.walk_of (l := PySem.Challenge.rw_LID) (n := 63) (k := 40) (x := "script") (CX := fun w => ..) (sp := fun _ => My.sp_law) rfl (by decide) rfl ⟨rfl, by decide, by decide⟩ (fun w h Y => PySem.W.kIn_of Y) ?F ?S ?C
  case F =>
    intro w mg fa h KX G hmg
    have T : ∃ t, My.Txt (L2.KOf KX) t := by
      dsimp only [L2.KOf]                          -- K must stand as «<heap const> w.params» for k_is
      refine' My.txt_mk ?e1 ?e2 ?e3 ..
      (case e1 => PySem.W.k_is)                    -- in the order: a name -> its address -> its object -> its parts
      (case e2 => PySem.W.k_is)
      ..
    obtain ⟨t, T⟩ := T
    have e0 := hmg.symm.trans (PySem.W.mg_of KX G T.law)
    cases e0                                       -- fa is the law's own address
    exact ⟨_, fun s u => .of_eq rfl, fun base kb nb => My.law_fn T kb nb⟩     -- if «.of_eq rfl» comes too early: refine' ⟨_, ?b, fun base kb nb => My.law_fn T kb nb⟩; exact fun s u => .of_eq rfl
  case S => exact fun w H a ns hl hO hS => ..
  case C => exact ..
(the tactic k_is has no namespace: write k_is) -/

/-! SHORT WORDS over the layer: a def of the text, its body, what a loop and a test want. -/
namespace L2
open PySem PySem.Spec PyProof.Rows

/-! ### the text by places -/
def defArgs (s : Stmt) : Arguments := match s with
  | .FunctionDef _ a _ _ _ _ _ _ _ _ => a
  | _ => { posonlyargs := [], args := [], vararg := none, kwonlyargs := [], kw_defaults := [], kwarg := none, defaults := [] }
def defBody (s : Stmt) : List Stmt := match s with
  | .FunctionDef _ _ b _ _ _ _ _ _ _ => b
  | _ => []
def defScope (s : Stmt) : Scope := match s with
  | .FunctionDef _ _ _ _ _ _ sc _ _ _ => sc
  | _ => { kind := .function, names := [], isGenerator := false, isCoroutine := false }

/-! ### no exception leaves a def -/
abbrev CX0 : CXT := fun _ _ _ _ _ _ => False
abbrev E0 : XK := fun _ _ _ => False
/-! ### a def (or method) of the text as it stands behind the top -/
structure Fun (K : PySem.W.Frag) (x qual : Str) (st : Stmt) (f : Addr) (fd : FuncData) : Prop where
  ex : ∃ (oc : Value) (od : Option Addr) (kV doc pm : Value) (an : Option Addr) (cdv ct : Value) (osl : Array (Option Value)),
    fd = PySem.W.fnOf x qual (defArgs st) (defBody st) (defScope st) .none kV doc pm an cdv ct ∧ K.lookup f = some ⟨oc, od, .func fd, osl⟩ ∧ PySem.W.codeIn K cdv qual = true
  kp : PySem.W.keepIn K (.ref f) = true
section
variable {P : Program} {w : World} {K : PySem.W.Frag} {mg : Str → Option Value} {base : Heap}
/-- THE RULE for a def: its body as a term of rules, and the reading of that term -/
theorem Fun.ok {x qual : Str} {st : Stmt} {f : Addr} {fd : FuncData} {N ps : List Str} {k : Nat} {sp : Sp} (F : Fun K x qual st f fd) (S : FnScope N ps (defScope st)) (len : ∀ vs H Q E, sp vs H Q E → vs.length = ps.length)
    (hbody : ∀ (cdv : Value) (A : Around) (outer : List Env) (s : Shared) (H : Hp) (vs : List V) (Q : VK) (E : XK), Room k (A.deeper (envOfC qual (defScope st) s.heap.objs.size f cdv)) → sp vs H Q E →
      ∃ t, PSs (cxOf CX0 P w K mg base N qual (defScope st) f cdv A outer s H E).nox (defBody st) t ∧ t { nx := fun _ H' => Q .non H', rt := Q } (start N vs) H) : FnOk P w K mg base CX0 (k + 1) f fd ps sp := by
  obtain ⟨oc, od, kV, doc, pm, an, cdv, ct, osl, rfl, lk, hcd⟩ := F.ex
  refine fn_of lk hcd S len fun A outer s H vs Q E hr hsp => ?_
  obtain ⟨t, h, q⟩ := hbody cdv A outer s H vs Q E hr hsp
  exact ⟨t, h.nox, q⟩
/-- how its arguments bind (no defaults): h is «fun _ _ _ _ _ _ us hl => match us, hl with | [_, _], _ => rfl», one _ a parameter -/
theorem Fun.binds {x qual : Str} {st : Stmt} {f : Addr} {fd : FuncData} {ps : List Str} (F : Fun K x qual st f fd)
    (h : ∀ (kV doc pm : Value) (an : Option Addr) (cdv ct : Value) (us : List Value), us.length = ps.length → bindArgs (PySem.W.fnOf x qual (defArgs st) (defBody st) (defScope st) .none kV doc pm an cdv ct) ⟨us, []⟩ = pure (ps.zip us)) : Binds K fd ps [] := by
  obtain ⟨oc, od, kV, doc, pm, an, cdv, ct, osl, rfl, lk, hcd⟩ := F.ex
  exact .all (h kV doc pm an cdv ct)
theorem fun_mk {x qual : Str} {st : Stmt} {f : Addr} {oc : Value} {od an : Option Addr} {osl : Array (Option Value)} {kV doc pm cdv ct : Value} (l : K.lookup f = some ⟨oc, od, .func (PySem.W.fnOf x qual (defArgs st) (defBody st) (defScope st) .none kV doc pm an cdv ct), osl⟩)
    (c : PySem.W.codeIn K cdv qual = true) (k : PySem.W.keepIn K (.ref f) = true) : Fun K x qual st f (PySem.W.fnOf x qual (defArgs st) (defBody st) (defScope st) .none kV doc pm an cdv ct) := ⟨⟨oc, od, kV, doc, pm, an, cdv, ct, osl, rfl, l, c⟩, k⟩
end
theorem small1000 {n : Nat} (h : n ≤ 1000) : n < sizeLine := Nat.lt_of_le_of_lt h (by decide)

/-! ### expressions in short: the name that stands in the i-th slot -/
section
variable {X : Cx}
theorem pv (i : Nat) {x : Str} {pos : Pos} (hN : X.N[i]? = some x := by rfl) (hv : Vis X.env.scope x := by first | exact Or.inl rfl | exact Or.inr (Or.inl rfl) | exact Or.inr (Or.inr rfl)) (hd : (x == ("__debug__" : Str)) = false := by decide)
    (hcd : (x == ("__classdict__" : Str)) = false := by decide) : PE X (.Name x pos) (tVar i) := pe_var hN hv hd hcd
end

/-! ### tests -/
/-! ### heaps -/
/-- all that was tracked is as it was -/
def Same (H H' : Hp) : Prop := ∀ b o, H b = some o → H' b = some o
theorem Same.refl (H : Hp) : Same H H := fun _ _ h => h
theorem Same.trans {H H1 H2 : Hp} (a : Same H H1) (b : Same H1 H2) : Same H H2 := fun c o h => b c o (a c o h)
theorem Same.free {H H' : Hp} (e : Same H H') {l : Addr} (h : H' l = Option.none) : H l = Option.none := by
  cases q : H l with
  | none => rfl
  | some o =>
    rw [e l o q] at h
    cases h
theorem Same.seq {K : PySem.W.Frag} {H H' : Hp} {a : Addr} {xs : List V} (e : Same H H') (h : SqL K H a xs) : SqL K H' a xs := by
  rcases h with (h | ⟨o, h⟩) | h
  · exact .inl (.inl (e _ _ h))
  · exact .inl (.inr ⟨o, e _ _ h⟩)
  · exact .inr h

end L2


set_option Elab.async false
set_option linter.all false
set_option maxRecDepth 100000
/-! LIST COMPREHENSIONS of one clause, with at most one test, over the hand layer -/
namespace L2
open PySem PySem.Spec PyProof.Rows

/-! ### the closure -/
theorem clos_go (env : Env) : ∀ (names : List (Str × NameKind)) (acc : List (Str × Addr)), (∀ y ∈ names, y.2 = .free → ∃ c, env.cells.lookup y.1 = some c) → (∀ x c, acc.lookup x = some c → env.cells.lookup x = some c) →
    ∃ cl, (forIn names acc fun (p : Str × NameKind) (r : List (Str × Addr)) => (match p with | (name, kind) => if (kind == NameKind.free) = true then (do let c ← cellOf env name; pure (ForInStep.yield ((name, c) :: r))) else pure (ForInStep.yield r)) : Sem (List (Str × Addr))) = pure cl ∧
      (∀ x c, cl.lookup x = some c → env.cells.lookup x = some c) ∧ (∀ x, (∃ c, acc.lookup x = some c) → ∃ c, cl.lookup x = some c) ∧ (∀ y ∈ names, y.2 = .free → ∃ c, cl.lookup y.1 = some c)
  | [], acc, _, ha => ⟨acc, by simp, ha, fun _ h => h, fun _ h => absurd h (by simp)⟩
  | (n, k) :: r, acc, hn, ha => by
    by_cases hk : k = .free
    · obtain ⟨c, hc⟩ := hn (n, k) List.mem_cons_self hk
      have ha' : ∀ x c', ((n, c) :: acc).lookup x = some c' → env.cells.lookup x = some c' := fun x c' h => by
        by_cases hx : x = n
        · subst hx
          rw [List.lookup_cons_self] at h
          cases h; exact hc
        · have hx' : (x == n) = false := by simpa using hx
          simp only [List.lookup_cons, hx'] at h
          exact ha x c' h
      obtain ⟨cl, e, p1, p2, p3⟩ := clos_go env r ((n, c) :: acc) (fun y hy => hn y (List.mem_cons_of_mem _ hy)) ha'
      refine ⟨cl, ?_, p1, fun x ⟨c', hc'⟩ => p2 x ?_, fun y hy hf => ?_⟩
      · have hco : cellOf env n = pure c := by unfold cellOf; rw [hc]
        rw [List.forIn_cons]
        subst hk
        simp only [beq_self_eq_true, if_true, hco, pure_bind]
        exact e
      · by_cases hx : x = n
        · exact ⟨c, by subst hx; rw [List.lookup_cons_self]⟩
        · have hx' : (x == n) = false := by simpa using hx
          exact ⟨c', by simp only [List.lookup_cons, hx']; exact hc'⟩
      · rcases List.mem_cons.mp hy with rfl | hy
        · exact p2 _ ⟨c, by rw [List.lookup_cons_self]⟩
        · exact p3 y hy hf
    · obtain ⟨cl, e, p1, p2, p3⟩ := clos_go env r acc (fun y hy => hn y (List.mem_cons_of_mem _ hy)) ha
      refine ⟨cl, ?_, p1, p2, fun y hy hf => ?_⟩
      · have hb : (k == NameKind.free) = false := by simpa using hk
        rw [List.forIn_cons]
        simp only [hb, Bool.false_eq_true, if_false, pure_bind]
        exact e
      · rcases List.mem_cons.mp hy with rfl | hy
        · exact absurd hf hk
        · exact p3 y hy hf
theorem clos_of {scope : Scope} {env : Env} (h : ∀ y ∈ scope.names, y.2 = .free → ∃ c, env.cells.lookup y.1 = some c) :
    ∃ cl, closureFor scope env = pure cl ∧ (∀ x c, cl.lookup x = some c → env.cells.lookup x = some c) ∧ (∀ y ∈ scope.names, y.2 = .free → ∃ c, cl.lookup y.1 = some c) := by
  obtain ⟨cl, e, p1, _, p3⟩ := clos_go env scope.names [] h (fun x c q => by simp at q)
  refine ⟨cl, ?_, p1, p3⟩
  unfold closureFor
  simp only [bind_pure]
  exact e

theorem lookup_relabel {env : Env} : ∀ {names : List (Str × NameKind)} {x : Str} {k : NameKind}, (names.map fun (n, k) => if (k == NameKind.free && env.scope.kind == .function && env.kindOf n == some .cell) then (n, NameKind.cell) else (n, k)).lookup x = some k →
    (∀ y ∈ names, y.2 ≠ .cell) → k = .cell ∨ k = .free → names.lookup x = some .free
  | [], _, _, h, _, _ => by simp at h
  | (n, k0) :: r, x, k, h, hc, hk => by
    have ih := @lookup_relabel env r x k
    rw [List.map_cons] at h
    cases hx : x == n with
    | true =>
      have hn : k0 ≠ .cell := hc (n, k0) List.mem_cons_self
      simp only [List.lookup_cons, hx]
      by_cases hcnd : (k0 == NameKind.free && env.scope.kind == .function && env.kindOf n == some .cell) = true
      · have : k0 = .free := by
          simp only [Bool.and_eq_true, beq_iff_eq] at hcnd
          exact hcnd.1.1
        rw [this]
      · dsimp only at h
        rw [if_neg hcnd] at h
        simp only [List.lookup_cons, hx] at h
        have h : k0 = k := by simpa using h
        subst h
        rcases hk with hk | hk
        · exact absurd hk hn
        · rw [hk]
    | false =>
      simp only [List.lookup_cons, hx]
      refine ih ?_ (fun y hy => hc y (List.mem_cons_of_mem _ hy)) hk
      by_cases hcnd : (k0 == NameKind.free && env.scope.kind == .function && env.kindOf n == some .cell) = true
      · dsimp only at h
        rw [if_pos hcnd] at h
        simp only [List.lookup_cons, hx] at h; exact h
      · dsimp only at h
        rw [if_neg hcnd] at h
        simp only [List.lookup_cons, hx] at h; exact h

/-! ### the block's context -/
def cxComp (X : Cx) (N' : List Str) (scope : Scope) (cl : List (Str × Addr)) (C : Addr) (s₀ : Shared) (H₀ : Hp) (ex : List Addr) : Cx :=
  { X with N := N', s₀ := s₀, H₀ := H₀, env := compEnvC scope cl C X.env, outer := X.stack, stack := X.stack, ex := ex, fn := fun _ => false, pn := [], xe := fun _ _ => False }
/-- the block's slots: its own names empty, those from outside with their values -/
def subσ (mp : List (Option Nat)) (σ : St) : St := mp.map fun o => match o with | none => none | some i => (σ[i]?).getD none
def compOk (N : List Str) (on inn : List (Str × NameKind)) (N' : List Str) (mp : List (Option Nat)) : Bool :=
  mp.length == N'.length && (N'.zip mp).all fun p => match p.2 with
    | none => true
    | some i => N[i]? == some p.1 && inn.lookup p.1 == some .free && on.lookup p.1 == some .cell
/-- tests of the clause -/
def PIf (X : Cx) (ifs : List Expr) (t : TT) : Prop :=
  ∀ (pins : List (Addr × Obj)) (s : Shared) (σ : St) (H : Hp) (Q : Bool → Hp → Prop), Inv X pins σ H s → t σ H Q →
    wpAny (model X.prog X.w) X.A (forIn ifs true fun c r => if r = true then do let ok ← isTrue c X.env (eval c X.env); pure (ForInStep.yield ok) else pure (ForInStep.yield r)) (TP X pins σ Q) X.xe s
def tYes : TT := fun _ H Q => Q true H
theorem pif_nil {X : Cx} : PIf X [] tYes := fun pins s σ H Q I h => wpAny_tests_nil ⟨H, I, h⟩
theorem pif_one {X : Cx} {c : Expr} {t : TT} (h : PT X c t) : PIf X [c] t := fun pins s σ H Q I q => wpAny_tests_one (h pins s σ H Q I q)

theorem comp_loop {prog : Program} {w : World} {A : Around} {s : Shared} {elt target iter : PySem.Expr} {ifs : List PySem.Expr} {scope : Scope} {pos : Pos} {it acc : Value} {env : Env} {R : Result → Shared → Prop} (I : Nat → Shared → Prop)
    (turn : ∀ n s, I n s → wpAny (model prog w) A (pyNext it) (fun r s₁ => match r with
      | none => R (.ok .next) s₁
      | some v => wpAny (model prog w) A (letOwnedTupleGo target it v) (fun _ s₀ => wpAny (model prog w) A (assign target env v) (fun _ s₂ =>
          wpAny (model prog w) A (forIn ifs true fun c r => if r = true then do let ok ← isTrue c env (eval c env); pure (ForInStep.yield ok) else pure (ForInStep.yield r)) (fun ok s₃ => if ok = true then wpAny (model prog w) A (eval elt env) (fun x s₄ =>
            wpAny (model prog w) A (call (.builtin "list.append") [acc, x]) (fun _ s₅ => ∃ m, m < n ∧ I m s₅) (fun _ _ => False) s₄) (fun _ _ => False) s₃
            else ∃ m, m < n ∧ I m s₃) (fun _ _ => False) s₂)
          (fun _ _ => False) s₀) (fun _ _ => False) s₁) (fun _ _ => False) s)
    (n : Nat) (h : I n s) : codeAny (model prog w) A (.compLoop (.ListComp elt [⟨target, iter, ifs, 0⟩] scope pos) 0 it acc env) R s := by
  refine codeAny_loop rfl I (fun n s hI => ?_) n h
  show wpAny _ A ((compTurn (.ListComp elt [⟨target, iter, ifs, 0⟩] scope pos) 0 it acc env).onRaise (fun x => do noteFrame x env; theTreesLotGoes x)) _ _ s
  refine wpAny_noted ?_
  rw [compTurn_list]
  refine wpAny_bind (wpAny_standAt (wpAny_bind (wpAny_mono (turn n s hI) (fun r s₁ h₁ => ?_) fun _ _ h' => h'.elim)))
  cases r with
  | none => exact wpAny_pure h₁
  | some v =>
    refine wpAny_bind (wpAny_mono h₁ (fun _ s₀ h₀' => ?_) fun _ _ h' => h'.elim)
    refine wpAny_bind (wpAny_mono h₀' (fun _ s₂ h₂ => ?_) fun _ _ h' => h'.elim)
    refine wpAny_bind (wpAny_mono h₂ (fun okb s₃ h₃ => ?_) fun _ _ h' => h'.elim)
    cases okb with
    | false => exact wpAny_pure ⟨rfl, h₃⟩
    | true => exact wpAny_bind (wpAny_bind (wpAny_mono h₃ (fun x s₄ h₄ => wpAny_bind (wpAny_mono h₄ (fun _ s₅ h₅ => wpAny_pure (wpAny_pure ⟨rfl, h₅⟩)) fun _ _ h' => h'.elim)) fun _ _ h' => h'.elim))

/-- a record of ours is tracked from now on -/
theorem Inv.track {X : Cx} {pins : List (Addr × Obj)} {σ : St} {H : Hp} {s : Shared} {a : Addr} {o : HO} (I : Inv X pins σ H s) (hn : H a = none) (f : FpOk X pins H a) (new : ObjOk X.prog X.w (upd H a o) s.heap a o) : Inv X pins σ (upd H a o) s := by
  obtain ⟨_, f1, f2, f3, f4, f5⟩ := f
  have na : ∀ b u, H b = some u → b ≠ a := fun b u e => ne_of_none e hn
  have J := I.step (g' := s.gens) (t' := s.toks) (d' := s.drawn) (ch := [a]) (h' := s.heap) (H' := upd H a o) (fun b hb => by
      have e : b = a := by simpa using hb
      subst e
      exact ⟨f3, f1, f4, f5⟩) (fun b o _ _ _ e _ => e) (fun b o _ _ _ e _ => ⟨o.slots, e⟩) (fun b o hb _ n => by rw [upd_ne (by simpa using hb)]; exact n) (fun b o _ e => ⟨o, e⟩)
    (fun b xs e => by rw [upd_ne (na b _ e)]; exact e) (fun b o u e => by rw [upd_ne (na b _ e)]; exact e) (fun b ps e => ⟨#[], by rw [upd_ne (na b _ e), e]; simp⟩) (fun m hm => hm) (fun b u e => by
      by_cases hb : b = a
      · subst hb; rw [upd_same] at e; cases e; exact new
      · rw [upd_ne hb] at e
        exact (I.hok b u e).stay (fun c v _ q => q) (fun c q => by rw [upd_ne (na c _ q)]; exact q) fun c xs q => by rw [upd_ne (na c _ q)]; exact q) I.bare
  exact J

def tComp (wi : TI) (g : TG) (tt : TT) (te : TE) (mp : List (Option Nat)) : TE := fun σ H Q => wi σ H fun J H1 => ∃ W : Nat → Nat → List V → St → Hp → Prop, (∃ m, W 0 m [] (subσ mp σ) H1) ∧ ∀ i m ys σ H, W i m ys σ H →
  (J.stop i H ∧ ys.length ≤ sizeLine ∧ ∀ p, H p = none → Q (.ref p) (upd H p (.lst ys))) ∨ (J.go i H ∧ ys.length < sizeLine ∧ ∃ N : List V → St → Hp → Prop, (∀ ys' σ' H', N ys' σ' H' → ∃ m', m' < m ∧ W (i + 1) m' ys' σ' H') ∧ ∀ x H', J.yld i H x H' → g x σ H' fun σ2 H2 => tt σ2 H2 fun b H3 =>
    if b = true then te σ2 H3 (fun v H4 => N (ys ++ [v]) σ2 H4) else N ys σ2 H3)

/-- all that the clause needs of the scopes -/
structure CompS (X : Cx) (N' : List Str) (scope : Scope) (mp : List (Option Nat)) : Prop where
  kind : scope.kind = .function
  nocell : ∀ y ∈ scope.names, y.2 ≠ .cell
  locs : ∀ y ∈ scope.names, y.2 = .local → scope.names.lookup y.1 = some .local
  frees : ∀ y ∈ scope.names, y.2 = .free → X.env.scope.names.lookup y.1 = some .cell
  ok : compOk X.N X.env.scope.names scope.names N' mp = true

theorem compOk_get {N : List Str} {on inn : List (Str × NameKind)} {N' : List Str} {mp : List (Option Nat)} (h : compOk N on inn N' mp = true) : mp.length = N'.length ∧ ∀ (j : Nat) (x : Str) (i : Nat), N'[j]? = some x → mp[j]? = some (some i) → N[i]? = some x ∧ inn.lookup x = some .free ∧ on.lookup x = some .cell := by
  unfold compOk at h
  rw [Bool.and_eq_true] at h
  obtain ⟨h1, h2⟩ := h
  refine ⟨by simpa using h1, fun j x i e1 e2 => ?_⟩
  have hm : (x, some i) ∈ N'.zip mp := by
    refine List.mem_of_getElem? (i := j) ?_
    rw [List.getElem?_zip_eq_some]
    exact ⟨e1, e2⟩
  have q := List.all_eq_true.mp h2 _ hm
  simp only [Bool.and_eq_true, beq_iff_eq] at q
  exact ⟨q.1.1, q.1.2, q.2⟩
theorem subσ_get {mp : List (Option Nat)} {σ : St} {j : Nat} {v : V} (h : (subσ mp σ)[j]? = some (some v)) : ∃ i, mp[j]? = some (some i) ∧ σ[i]? = some (some v) := by
  unfold subσ at h
  rw [List.getElem?_map] at h
  cases e : mp[j]? with
  | none => rw [e] at h; cases h
  | some o =>
    rw [e] at h
    cases o with
    | none => simp at h
    | some i =>
      refine ⟨i, rfl, ?_⟩
      cases e2 : σ[i]? with
      | none => simp [e2] at h
      | some z =>
        simp [e2] at h
        rw [h]

section
variable {X : Cx} {pins : List (Addr × Obj)} {σ : St} {H : Hp}
/-- the core: behind the iterator; RR is what the comprehension wants of its end -/
theorem comp_core {elt tg iter : Expr} {ifs : List Expr} {scope : Scope} {pos : Pos} {N' : List Str} {mp : List (Option Nat)} {g : TG} {tt : TT} {te : TE} {s₂ : Shared} {it : Addr} {fp : List Addr} {tn : Nat → Heap → Prop} {J : It} {cl : List (Str × Addr)}
    {Qe : V → Hp → Prop} {RR : Value → Addr → Result → Shared → Prop} {E : Value → Shared → Prop} (hc : X.calm = true) (S : CompS X N' scope mp)
    (hcl : ∀ x c, cl.lookup x = some c → X.env.cells.lookup x = some c) (hcf : ∀ y ∈ scope.names, y.2 = .free → ∃ c, cl.lookup y.1 = some c)
    (hg : ∀ C s₀ H₀ ex, PG (cxComp X N' scope cl C s₀ H₀ ex) tg g) (ht : ∀ C s₀ H₀ ex, PIf (cxComp X N' scope cl C s₀ H₀ ex) ifs tt) (he : ∀ C s₀ H₀ ex, PE (cxComp X N' scope cl C s₀ H₀ ex) elt te)
    (I : Inv X pins σ H s₂) (T : Turn X.prog X.w X.K tg J fp it tn) (st : tn 0 s₂.heap) (hf : ∀ b ∈ fp, FpOk X pins H b)
    (hw : ∃ W : Nat → Nat → List V → St → Hp → Prop, (∃ m, W 0 m [] (subσ mp σ) H) ∧ ∀ i m ys σ H, W i m ys σ H →
      (J.stop i H ∧ ys.length ≤ sizeLine ∧ ∀ p, H p = none → Qe (.ref p) (upd H p (.lst ys))) ∨ (J.go i H ∧ ys.length < sizeLine ∧ ∃ N : List V → St → Hp → Prop, (∀ ys' σ' H', N ys' σ' H' → ∃ m', m' < m ∧ W (i + 1) m' ys' σ' H') ∧ ∀ x H', J.yld i H x H' → g x σ H' fun σ2 H2 => tt σ2 H2 fun b H3 =>
    if b = true then te σ2 H3 (fun v H4 => N (ys ++ [v]) σ2 H4) else N ys σ2 H3))
    (hR : ∀ (D C : Addr) (H' : Hp) (s' : Shared), Inv X pins σ H' s' → Qe (.ref D) H' → (∃ m, s'.heap.Ns C m) → FpOk X pins H' C → RR (.ref D) C (.ok .next) s') :
    wpAny (model X.prog X.w) X.A (newList []) (fun acc s₃ => wpAny (model X.prog X.w) X.A (newFunctionEnv scope X.env.globals cl [] X.env.qual none .none (some X.env)) (fun cenv s₄ =>
      codeAny (model X.prog X.w) X.A (.compStart (.ListComp elt [⟨tg, iter, ifs, 0⟩] scope pos) 0 (.ref it) acc { cenv with scope := relabel scope X.env }) (RR acc cenv.locals) s₄) E s₃) E s₂ := by
  obtain ⟨W, ⟨m0, w0⟩, turn⟩ := hw
  refine wpAny_newObj_type (wpAny_newFunctionEnv S.nocell (by intro y hy; simp at hy) (fun h₁ hns₁ hsb₁ => ?_) S.kind)
  dsimp only at hns₁ hsb₁ ⊢
  generalize hH2 : s₂.heap.push { cls := .type "list", dict := none, data := .seq ([] : List Value).toArray } = H2 at hns₁ hsb₁ ⊢
  have hCs : H2.objs.size = s₂.heap.objs.size + 1 := by rw [← hH2, Heap.size_push]
  have I3 : Inv X pins σ H { s₂ with heap := H2 } := by
    rw [← hH2]
    exact I.kept (t' := s₂.toks) fun b o e => Heap.get?_push_of_some _ e
  have k1 : ∀ b u, H2.get? b = some u → h₁.get? b = some u := fun b u e => hsb₁.extBut b u (Nat.ne_of_lt (Heap.lt_size e)) (Heap.get?_push_of_some _ e)
  have accOk : FpOk X pins H s₂.heap.objs.size := I.fpOk (Nat.le_refl _) (I.hok.fresh (Nat.le_refl _))
  have COk : FpOk X pins H H2.objs.size := I3.fpOk (Nat.le_refl _) (I3.hok.fresh (Nat.le_refl _))
  have fpLt : ∀ b ∈ fp, b < s₂.heap.objs.size := fun b hb => let ⟨o, e, _⟩ := T.obj 0 _ st b hb; Heap.lt_size e
  have accNf : s₂.heap.objs.size ∉ fp := fun z => absurd (fpLt _ z) (Nat.lt_irrefl _)
  have accNC : s₂.heap.objs.size ≠ H2.objs.size := by rw [hCs]; exact Nat.ne_of_lt (Nat.lt_succ_self _)
  have exAll : ∀ b ∈ s₂.heap.objs.size :: fp, FpOk X pins H b := fun b hb => (List.mem_cons.mp hb).elim (fun e => e ▸ accOk) (hf b)
  have exNC : ∀ b ∈ s₂.heap.objs.size :: fp, b ≠ H2.objs.size := fun b hb => (List.mem_cons.mp hb).elim (fun e => e ▸ accNC) fun z => Nat.ne_of_lt (Nat.lt_trans (fpLt b z) (by rw [hCs]; exact Nat.lt_succ_self _))
  have stkN : ∀ b, FpOk X pins H b → b ∉ frs X.stack := fun b f z => (List.mem_cons.mp (I.stkSub b z)).elim f.2.1 f.2.2.1
  -- the block's context
  have ok' : (cxComp X N' scope cl H2.objs.size { s₂ with heap := H2 } H (s₂.heap.objs.size :: fp)).Ok := by
    refine ⟨I.ok.mod, S.kind, I.ok.glob, I.ok.blt, Nat.le_refl _, fun x y c h1 h2 => I.ok.inj x y c (hcl x c h1) (hcl y c h2), fun x hx => ?_, fun x c hx => absurd hx (by show ¬ false = true; decide), I.ok.hd, I.ok.frames, .inl rfl,
      fun b hb => ⟨exNC b hb, fun x c e => (exAll b hb).2.2.2.2.1 x c (hcl x c e)⟩, fun b o e => I3.bs b o e, Nat.le_trans I.ok.bsz I3.sz, fun b o e hb => ?_, fun b hb => stkN b (exAll b hb), I3.stack, I3.stkFree⟩
    · have hx' : (relabel scope X.env).names.lookup x = some .cell ∨ (relabel scope X.env).names.lookup x = some .free := hx
      have hfree : scope.names.lookup x = some .free := by
        rcases hx' with z | z
        · exact lookup_relabel z S.nocell (.inl rfl)
        · exact lookup_relabel z S.nocell (.inr rfl)
      exact hcf (x, .free) (PySem.mem_of_lookup hfree) rfl
    · rcases (exAll b hb).2.2.2.1 with z | z
      · exact I.ok.noex b o e z
      · exact absurd (Nat.lt_of_lt_of_le (Heap.lt_size e) (Nat.le_trans I.ok.bsz z)) (Nat.lt_irrefl _)
  obtain ⟨hml, hmp⟩ := compOk_get S.ok
  let XC := cxComp X N' scope cl H2.objs.size { s₂ with heap := H2 } H (s₂.heap.objs.size :: fp)
  have J4 : Inv (cxComp X N' scope cl H2.objs.size { s₂ with heap := H2 } H (s₂.heap.objs.size :: fp)) [] (subσ mp σ) H { s₂ with heap := h₁, toks := s₂.toks + ([] : List (Str × Value)).length } := by
    refine ⟨ok', rfl, I.bare, Un.kept k1, ⟨_, hns₁, fun j x v e1 e2 e3 => ?_⟩, fun x c e => ?_, COk.1, fun x c e => I.freeC x c (hcl x c e), fun p hp => absurd (show p ∈ ([] : List (Addr × Obj)) from hp) (by simp), I3.hok.kept k1, by show (subσ mp σ).length = N'.length; unfold subσ; rw [List.length_map, hml]⟩
    · obtain ⟨i, q1, q2⟩ := subσ_get e2
      obtain ⟨n1, n2, n3⟩ := hmp j x i e1 q1
      obtain ⟨m, hn, hl⟩ := I3.loc
      obtain ⟨u, ru, lk⟩ := hl i x v n1 q2 (.inr (.inl n3))
      refine ⟨u, ru, ?_⟩
      rcases lk with ⟨z, _⟩ | ⟨_, c, ec, z⟩
      · have z' : X.env.scope.names.lookup x = some .local := z
        rw [n3] at z'; cases z'
      · obtain ⟨c', ec'⟩ := hcf (x, .free) (PySem.mem_of_lookup n2) rfl
        have e4 := hcl x c' ec'
        rw [ec] at e4; cases e4
        refine .inr ⟨?_, c, ec', ?_⟩
        · have z3 : (relabel scope X.env).names.lookup x = some .local ∨ (relabel scope X.env).names.lookup x = some .cell ∨ (relabel scope X.env).names.lookup x = some .free := e3
          rcases z3 with z3 | z3 | z3
          · exfalso
            have : ∀ (names : List (Str × NameKind)), names.lookup x = some .free → (names.map fun (n, k) => if (k == NameKind.free && X.env.scope.kind == .function && X.env.kindOf n == some .cell) then (n, NameKind.cell) else (n, k)).lookup x ≠ some .local := by
              intro names
              induction names with
              | nil => intro h; simp at h
              | cons p r ih =>
                obtain ⟨n, k⟩ := p
                intro h
                cases hx : x == n with
                | true =>
                  simp only [List.lookup_cons, hx] at h
                  cases h
                  rw [List.map_cons]
                  dsimp only
                  split <;> simp [List.lookup_cons, hx]
                | false =>
                  simp only [List.lookup_cons, hx] at h
                  rw [List.map_cons]
                  dsimp only
                  split <;> (simp only [List.lookup_cons, hx]; exact ih h)
            exact this scope.names n2 z3
          · exact .inl z3
          · exact .inr z3
        · obtain ⟨o, ho, hd⟩ := z
          exact ⟨o, k1 _ _ ho, hd⟩
    · obtain ⟨v, o, ho, hd⟩ := I3.cell x c (hcl x c e)
      exact ⟨v, o, k1 _ _ ho, hd⟩
  have acc4 : h₁.get? s₂.heap.objs.size = some { cls := .type "list", data := .seq ([] : List Value).toArray 0 } := k1 _ _ (by rw [← hH2]; exact Heap.get?_push_size _ rfl)
  have st4 : tn 0 h₁ := T.keep _ _ _ st fun b _ o e => k1 b o (by rw [← hH2]; exact Heap.get?_push_of_some _ e)
  have fp4 : ∀ {H' : Hp}, (∀ b ∈ fp, H' b = none) → ∀ b ∈ fp, FpOk (cxComp X N' scope cl H2.objs.size { s₂ with heap := H2 } H (s₂.heap.objs.size :: fp)) [] H' b := fun hn b hb =>
    ⟨hn b hb, exNC b (List.mem_cons_of_mem _ hb), stkN b (hf b hb), .inl (List.mem_cons_of_mem _ hb), fun x c e => (hf b hb).2.2.2.2.1 x c (hcl x c e), fun p hp => absurd (show p ∈ ([] : List (Addr × Obj)) from hp) (by simp)⟩
  have acc5 : ∀ {H' : Hp}, H' s₂.heap.objs.size = none → FpOk (cxComp X N' scope cl H2.objs.size { s₂ with heap := H2 } H (s₂.heap.objs.size :: fp)) [] H' s₂.heap.objs.size := fun hn =>
    ⟨hn, accNC, stkN _ accOk, .inl List.mem_cons_self, fun x c e => accOk.2.2.2.2.1 x c (hcl x c e), fun p hp => absurd (show p ∈ ([] : List (Addr × Obj)) from hp) (by simp)⟩
  have loop : ∀ s₃ : Shared, s₃ = { s₂ with heap := h₁, toks := s₂.toks + ([] : List (Str × Value)).length } →
      codeAny (model X.prog X.w) X.A (.compLoop (.ListComp elt [⟨tg, iter, ifs, 0⟩] scope pos) 0 (.ref it) (.ref s₂.heap.objs.size) (compEnvC scope cl H2.objs.size X.env)) (RR (.ref s₂.heap.objs.size) H2.objs.size) s₃ := by
    rintro s₃ rfl
    refine comp_loop (fun n s' => ∃ i σ' H' ys its k, Inv (cxComp X N' scope cl H2.objs.size { s₂ with heap := H2 } H (s₂.heap.objs.size :: fp)) [] σ' H' s' ∧ tn i s'.heap ∧ (∀ b ∈ fp, H' b = none) ∧ H' s₂.heap.objs.size = none ∧
      Vals ys its ∧ s'.heap.get? s₂.heap.objs.size = some { cls := .type "list", data := .seq its.toArray k } ∧ W i n ys σ' H') ?_ m0 ⟨0, subσ mp σ, H, [], [], 0, J4, st4, fun b hb => (hf b hb).1, accOk.1, .nil, acc4, w0⟩
    rintro n s5 ⟨i, σ5, H5, ys, its, k, J5, st5, fr5, an5, vy, ea, w5⟩
    have zv : its.length = ys.length := vy.length.symm
    have pinOk : ∀ {σ' : St} {H' : Hp} {s' : Shared} {o : Obj}, Inv XC [] σ' H' s' → H' s₂.heap.objs.size = none → s'.heap.get? s₂.heap.objs.size = some o → (∀ v, o.data ≠ .cell v) → Inv XC [(s₂.heap.objs.size, o)] σ' H' s' := fun {σ' H' s' o} J a1 a2 a3 => J.pins_of fun p hp => by
      have e : p = (s₂.heap.objs.size, o) := by simpa using hp
      subst e
      exact ⟨a2, a1, accNC, stkN _ accOk, a3⟩
    have fp5 : ∀ {H' : Hp} {o : Obj}, (∀ b ∈ fp, H' b = none) → ∀ b ∈ fp, FpOk XC [(s₂.heap.objs.size, o)] H' b := fun {H' o} hn b hb => by
      obtain ⟨c1, c2, c3, c4, c5, _⟩ := fp4 hn b hb
      refine ⟨c1, c2, c3, c4, c5, fun p hp => ?_⟩
      have e : p = (s₂.heap.objs.size, o) := by
        have hp' : p ∈ ([] ++ [(s₂.heap.objs.size, o)] : List (Addr × Obj)) := hp
        simpa using hp'
      subst e
      intro z
      exact accNf (by rw [show s₂.heap.objs.size = b from z]; exact hb)
    have noc : ∀ (us : List Value) (k : Nat) (v : Option Value), ({ cls := .type "list", data := .seq us.toArray k } : Obj).data ≠ .cell v := fun us k v z => by
      have z' : Data.seq us.toArray k = Data.cell v := z
      cases z'
    have J5p := pinOk J5 an5 ea (noc its k)
    rcases turn i n ys σ5 H5 w5 with ⟨stop, zl, qn⟩ | ⟨go, zl, N, hN, step⟩
    · refine thn (T.done XC rfl rfl rfl hc i _ s5 σ5 H5 _ J5p (fp5 fr5) st5 stop) fun r s6 ⟨hr, J6⟩ => ?_
      subst hr
      have I6 : Inv X pins σ H5 s6 := I3.call' (ch := s₂.heap.objs.size :: fp) (show s6.os = _ from J6.os) J6.base J6.hok J6.bare fun b hb => let ⟨_, a1, _, a3, a4, a5⟩ := exAll b hb; ⟨a3, a1, a4, a5⟩
      have ea6 : s6.heap.get? s₂.heap.objs.size = some { cls := .type "list", data := .seq its.toArray k } := (J6.pin _ (List.mem_append_right _ (List.mem_singleton.mpr rfl))).1
      have I7 : Inv X pins σ (upd H5 s₂.heap.objs.size (.lst ys)) s6 := I6.track an5 ⟨an5, accOk.2⟩ ⟨zl, its, k, vy, ea6⟩
      obtain ⟨m, hm, _⟩ := J6.loc
      exact hR _ _ _ s6 I7 (qn _ an5) ⟨m, hm⟩ ⟨by rw [upd_ne (Ne.symm accNC)]; exact J6.free, COk.2⟩
    · refine thn (T.item XC rfl rfl rfl hc i _ s5 σ5 H5 _ J5p (fp5 fr5) st5 go) fun r s6 ⟨u, hr, h6⟩ => ?_
      subst hr
      refine thn h6 fun _ s7 ⟨x, H7, J7, r7, y7, st7, fr7⟩ => ?_
      have an7 : H7 s₂.heap.objs.size = none := (J7.pin _ (List.mem_append_right _ (List.mem_singleton.mpr rfl))).2.1
      have J7' := J7.pinned (fp5 fr7) (T.obj _ _ st7)
      refine thn (hg _ _ _ _ _ s7 σ5 H7 x u _ J7' r7 (step x H7 y7)) fun _ s8 ⟨σ8, H8, J8, q8⟩ => ?_
      refine thn (ht _ _ _ _ _ s8 σ8 H8 _ J8 q8) fun b s9 ⟨H9, J9, q9⟩ => ?_
      have back : ∀ {σ' : St} {H' : Hp} {s' : Shared}, Inv XC ([(s₂.heap.objs.size, ({ cls := .type "list", data := .seq its.toArray k } : Obj))] ++ pinsAt fp s7.heap) σ' H' s' →
          Inv XC [] σ' H' s' ∧ tn (i + 1) s'.heap ∧ (∀ b ∈ fp, H' b = none) ∧ H' s₂.heap.objs.size = none ∧ s'.heap.get? s₂.heap.objs.size = some { cls := .type "list", data := .seq its.toArray k } := fun {σ' H' s'} K => by
        have pa := K.pin (s₂.heap.objs.size, { cls := .type "list", data := .seq its.toArray k }) (List.mem_append_right _ (List.mem_append_left _ (List.mem_singleton.mpr rfl)))
        refine ⟨K.pins_of (fun p hp => absurd hp (by simp)), T.keep _ _ _ st7 fun b hb o e => (K.pin (b, o) (List.mem_append_right _ (List.mem_append_right _ (mem_pinsAt hb e)))).1, fun b hb => ?_, pa.2.1, pa.1⟩
        obtain ⟨o, e, d⟩ := T.obj _ _ st7 b hb
        exact (K.pin (b, o) (List.mem_append_right _ (List.mem_append_right _ (mem_pinsAt hb e)))).2.1
      cases b with
      | false =>
        rw [if_neg Bool.false_ne_true] at q9
        rw [if_neg Bool.false_ne_true]
        obtain ⟨m', hm', w'⟩ := hN _ _ _ q9
        obtain ⟨K1, K2, K3, K4, K5⟩ := back J9
        exact ⟨m', hm', i + 1, σ8, H9, ys, its, k, K1, K2, K3, K4, vy, K5, w'⟩
      | true =>
        rw [if_pos rfl] at q9
        rw [if_pos rfl]
        refine thn (he _ _ _ _ _ s9 σ8 H9 _ J9 q9) fun z s10 ⟨v, H10, J10, r10, q10⟩ => ?_
        obtain ⟨m', hm', w'⟩ := hN _ _ _ q10
        obtain ⟨K1, K2, K3, K4, K5⟩ := back J10
        refine call_meets F.slot_list_append ⟨_, K5, rfl⟩ F.entry_list_append (F.args_list_append_2 _ _) (PySem.list_append s₂.heap.objs.size its.toArray k z (by rw [List.size_toArray]; omega)) ⟨K5, ?_⟩
        have qa := PySem.IsL.update K5 (fun x_1 => x_1.push z)
        have eqa : its.toArray.push z = (its ++ [z]).toArray := by simp
        rw [eqa] at qa
        have kk : ∀ b o, b ≠ s₂.heap.objs.size → s10.heap.get? b = some o → (s10.heap.update s₂.heap.objs.size (Obj.mapSeq fun x_1 => x_1.push z)).get? b = some o := fun b o hb hu => (Heap.get?_update_other s10.heap (Obj.mapSeq fun x_1 => x_1.push z) (Ne.symm hb)).trans hu
        obtain ⟨d0, d1, d2, d3, d4, d5⟩ := acc5 K4
        have K1' := K1.turned (h' := s10.heap.update s₂.heap.objs.size (Obj.mapSeq fun x_1 => x_1.push z)) (t' := s10.toks) kk d0 d1 d3 d4 d5
        exact ⟨m', hm', i + 1, σ8, H10, ys ++ [v], its ++ [z], _, K1', T.keep _ _ _ K2 (fun b hb o e => kk b o (fun y => accNf (by rw [← y]; exact hb)) e), K3, K4, vy.append (.cons r10 .nil), qa, w'⟩
  exact codeAny_compStart_list (loop _ rfl) (T.self _ _ _ _ _ st4 (loop _ rfl))

/-- [elt for tg in iter if ..] -/
theorem pe_comp {elt tg iter : Expr} {ifs : List Expr} {scope : Scope} {pos : Pos} (N' : List Str) (mp : List (Option Nat)) {wi : TI} {g : TG} {tt : TT} {te : TE} (hc : X.calm = true) (S : CompS X N' scope mp) (hi : PI X tg iter wi)
    (hg : ∀ cl C s₀ H₀ ex, PG (cxComp X N' scope cl C s₀ H₀ ex) tg g) (ht : ∀ cl C s₀ H₀ ex, PIf (cxComp X N' scope cl C s₀ H₀ ex) ifs tt) (he : ∀ cl C s₀ H₀ ex, PE (cxComp X N' scope cl C s₀ H₀ ex) elt te)
    (hs : ∀ x, foldedSetIterable iter X.env x = pure x := by intro _; rfl) : PE X (.ListComp elt [⟨tg, iter, ifs, 0⟩] scope pos) (tComp wi g tt te mp) := by
  intro pins s σ H Q I h
  obtain ⟨cl, e0, e1, e2⟩ := clos_of (scope := scope) (env := X.env) fun y hy hf => I.ok.has y.1 (.inl (S.frees y hy hf))
  rw [eval_ListComp]
  refine wpAny_comprehension_free (use := none) rfl hs e0 S.kind S.locs (thn (hi pins s σ H _ I h) fun v s1 h1 => thn h1 fun itv s2 h2 => ?_)
  obtain ⟨it, fp, tn, J, H2, e, I2, T, st2, f2, hw⟩ := h2
  subst e
  refine comp_core (Qe := Q) (RR := fun acc C => compPost (model X.prog X.w) X.A X.xe none (EP X pins σ Q) acc C) hc S e1 e2 (hg cl) (ht cl) (he cl) I2 T st2 f2 hw fun D C H' s' I' q ⟨m, hm⟩ ⟨f0, f1, _, f3, f4, f5⟩ => ?_
  exact ⟨m, hm, fun h' sb => ⟨.ref D, H', I'.turned (t' := s'.toks) (fun b o hb e => (sb.2 b hb).trans e) f0 f1 f3 f4 f5, rfl, q⟩⟩
/-- name = [elt for ..] -/
theorem ps_setc {elt tg iter : Expr} {ifs : List Expr} {scope : Scope} {pos pos' cpos : Pos} {i : Nat} {x : Str} (N' : List Str) (mp : List (Option Nat)) {wi : TI} {g : TG} {tt : TT} {te : TE} (hN : X.N.Nodup) (hxi : X.N[i]? = some x) (hx : Loc X.env.scope x)
    (hc : X.calm = true) (S : CompS X N' scope mp) (hi : PI X tg iter wi)
    (hg : ∀ cl C s₀ H₀ ex, PG (cxComp X N' scope cl C s₀ H₀ ex) tg g) (ht : ∀ cl C s₀ H₀ ex, PIf (cxComp X N' scope cl C s₀ H₀ ex) ifs tt) (he : ∀ cl C s₀ H₀ ex, PE (cxComp X N' scope cl C s₀ H₀ ex) elt te)
    (hsw : swapsWith (.ListComp elt [⟨tg, iter, ifs, 0⟩] scope cpos) (some (.Name x pos')) pos.line X.env = pure true := by rfl)
    (hs : ∀ x, foldedSetIterable iter X.env x = pure x := by intro _; rfl) (hf : X.fn x = true ∨ X.env.scope.names.lookup x = some .local := by first | exact .inl rfl | exact .inr rfl | assumption) :
    PS X (.Assign [.Name x pos'] (.ListComp elt [⟨tg, iter, ifs, 0⟩] scope cpos) pos) (tAsg (tComp wi g tt te mp) (gName i)) := by
  intro pins s σ H D I h
  obtain ⟨cl, e0, e1, e2⟩ := clos_of (scope := scope) (env := X.env) fun y hy hf => I.ok.has y.1 (.inl (S.frees y hy hf))
  rw [exec_Assign_Name_used _ _ _ _ hsw]
  refine wpAny_bind (wpAny_standAt (wpAny_bind ?_))
  show wpAny _ X.A (do let _ ← comprehension (.ListComp elt [⟨tg, iter, ifs, 0⟩] scope cpos) scope X.env _ (newList []) false (eval iter X.env) (some (assign (.Name x pos') X.env))) _ _ s
  refine wpAny_bind (wpAny_mono (wpAny_comprehension_free (use := some (assign (.Name x pos') X.env)) (Q := fun _ s' => SP X pins D .next s') rfl hs e0 S.kind S.locs
    (thn (hi pins s σ H _ I h) fun v s1 h1 => thn h1 fun itv s2 h2 => ?_)) (fun _ s' hq => wpAny_pure (wpAny_pure hq)) fun _ _ e => e)
  obtain ⟨it, fp, tn, J, H2, e, I2, T, st2, f2, hw⟩ := h2
  subst e
  refine comp_core (Qe := fun x H1 => gName i x σ H1 D.nx) (RR := fun acc C => compPost (model X.prog X.w) X.A X.xe (some (assign (.Name x pos') X.env)) (fun _ s' => SP X pins D .next s') acc C) hc S e1 e2 (hg cl) (ht cl) (he cl) I2 T st2 f2 hw fun D' C H' s' I' q ⟨m, hm⟩ ⟨f0, f1, _, f3, f4, f5⟩ => ?_
  show wpAny _ X.A (assign (.Name x pos') X.env (.ref D')) _ _ _
  refine wpAny_assign_Name (store_ok2 I' hN hxi hx (v := .ref D') rfl (fun s'' I'' ⟨a, sb, ha⟩ => ?_) hf)
  have hCa : C ≠ a := by
    rcases ha with ha | ha
    · rw [ha]; exact f1
    · exact fun z => f4 x a ha z.symm
  refine ⟨m, hm.sameBut sb hCa, fun h' sb' => ?_⟩
  exact ⟨_, H', I''.turned (t' := s''.toks) (fun b o hb e => (sb'.2 b hb).trans e) f0 f1 f3 f4 f5, q⟩
end

/-! ### the forms one uses: over a list, a tuple, a range -/
section
variable {K : PySem.W.Frag} {a : Addr} {xs : List V} {g : TG} {tt : TT} {te : TE} {σ : St} {H : Hp} {Q : VK}
abbrev CompW (J : It) (g : TG) (tt : TT) (te : TE) (Q : VK) (σ : St) (H : Hp) : Prop := ∃ W : Nat → Nat → List V → St → Hp → Prop, (∃ m, W 0 m [] σ H) ∧ ∀ i m ys σ H, W i m ys σ H →
  (J.stop i H ∧ ys.length ≤ sizeLine ∧ ∀ p, H p = none → Q (.ref p) (upd H p (.lst ys))) ∨ (J.go i H ∧ ys.length < sizeLine ∧ ∃ N : List V → St → Hp → Prop, (∀ ys' σ' H', N ys' σ' H' → ∃ m', m' < m ∧ W (i + 1) m' ys' σ' H') ∧ ∀ x H', J.yld i H x H' → g x σ H' fun σ2 H2 => tt σ2 H2 fun b H3 =>
    if b = true then te σ2 H3 (fun v H4 => N (ys ++ [v]) σ2 H4) else N ys σ2 H3)
theorem comp_list (Pv : Nat → List V → St → Hp → Prop) (h0 : Pv 0 [] σ H) (hz : xs.length < sizeLine) (hy : ∀ i ys σ H, Pv i ys σ H → ys.length ≤ i) (hl : ∀ i ys σ H, i ≤ xs.length → Pv i ys σ H → SqL K H a xs)
    (hs : ∀ i ys x σ H, xs[i]? = some x → Pv i ys σ H → g x σ H fun σ2 H2 => tt σ2 H2 fun b H3 => if b = true then te σ2 H3 (fun v H4 => Pv (i + 1) (ys ++ [v]) σ2 H4) else Pv (i + 1) ys σ2 H3)
    (hd : ∀ ys σ H, Pv xs.length ys σ H → ∀ p, H p = none → Q (.ref p) (upd H p (.lst ys))) : CompW (Itl K a) g tt te Q σ H := by
  refine ⟨fun i m ys σ H => m = xs.length - i ∧ i ≤ xs.length ∧ Pv i ys σ H, ⟨xs.length, by simp, Nat.zero_le _, h0⟩, ?_⟩
  rintro i m ys σ H ⟨rfl, hi, p⟩
  have q := hl i ys σ H hi p
  have hyl := hy i ys σ H p
  by_cases hlt : i < xs.length
  · refine .inr ⟨⟨xs, xs[i], q, by simp [hlt]⟩, by omega, Pv (i + 1), fun ys' σ' H' p' => ⟨xs.length - (i + 1), by omega, rfl, hlt, p'⟩, fun x H' y => ?_⟩
    obtain ⟨e, y⟩ := y
    subst e
    exact hs i ys x σ _ (y xs q) p
  · have e : i = xs.length := by omega
    subst e
    exact .inl ⟨⟨xs, q, Nat.le_refl _⟩, by omega, hd ys σ H p⟩
theorem comp_tup (Pv : Nat → List V → St → Hp → Prop) (h0 : Pv 0 [] σ H) (hz : xs.length < sizeLine) (hy : ∀ i ys σ H, Pv i ys σ H → ys.length ≤ i) (hl : ∀ i ys σ H, i ≤ xs.length → Pv i ys σ H → SqT K H a xs)
    (hs : ∀ i ys x σ H, xs[i]? = some x → Pv i ys σ H → g x σ H fun σ2 H2 => tt σ2 H2 fun b H3 => if b = true then te σ2 H3 (fun v H4 => Pv (i + 1) (ys ++ [v]) σ2 H4) else Pv (i + 1) ys σ2 H3)
    (hd : ∀ ys σ H, Pv xs.length ys σ H → ∀ p, H p = none → Q (.ref p) (upd H p (.lst ys))) : CompW (Itt K a) g tt te Q σ H := by
  refine ⟨fun i m ys σ H => m = xs.length - i ∧ i ≤ xs.length ∧ Pv i ys σ H, ⟨xs.length, by simp, Nat.zero_le _, h0⟩, ?_⟩
  rintro i m ys σ H ⟨rfl, hi, p⟩
  have q := hl i ys σ H hi p
  have hyl := hy i ys σ H p
  by_cases hlt : i < xs.length
  · refine .inr ⟨⟨xs, xs[i], q, by simp [hlt]⟩, by omega, Pv (i + 1), fun ys' σ' H' p' => ⟨xs.length - (i + 1), by omega, rfl, hlt, p'⟩, fun x H' y => ?_⟩
    obtain ⟨e, y⟩ := y
    subst e
    exact hs i ys x σ _ (y xs q) p
  · have e : i = xs.length := by omega
    subst e
    exact .inl ⟨⟨xs, q, Nat.le_refl _⟩, by omega, hd ys σ H p⟩
end
end L2


set_option Elab.async false
set_option linter.all false
set_option maxRecDepth 100000
/-! MORE OPERATIONS over the hand layer -/
namespace L2
open PySem PySem.Spec PyProof.Rows

section
variable {X : Cx}
/-! ### tuple + tuple, whatever is empty -/
def rCatT2 (K : PySem.W.Frag) : R2 := fun x y H Q => ∃ a b xs ys, x = .ref a ∧ y = .ref b ∧ SqT K H a xs ∧ SqT K H b ys ∧ xs.length + ys.length ≤ sizeLine ∧
  (xs = [] → Q (.ref b) H) ∧ (xs ≠ [] → ys = [] → Q (.ref a) H) ∧ (xs ≠ [] → ys ≠ [] → ∀ p, H p = none → Q (.ref p) (upd H p (.tup (xs ++ ys))))
theorem op_catT2 : OpR X (binaryOp .Add) (rCatT2 X.K) := by
  intro pins s σ H x y v u Q I rx ry h
  obtain ⟨a, b, xs, ys, rfl, rfl, ha, hb, hz, q0, q1, q2⟩ := h
  by_cases hx : xs = []
  · cases rx
    cases ry
    obtain ⟨its, r1, p1, _⟩ := I.tuple ha
    obtain ⟨its2, r2, p2, _⟩ := I.tuple hb
    obtain ⟨⟨cls, dd, data, sl⟩, ho, hc, n, hd⟩ := id p1
    obtain ⟨⟨cls2, dd2, data2, sl2⟩, ho2, hc2, n2, hd2⟩ := id p2
    simp only at hc hd hc2 hd2
    subst hc hd hc2 hd2
    have he : its = [] := r1.nil_iff.mpr hx
    exact concat_meets ⟨_, ho, rfl⟩ ⟨_, ho2, rfl⟩ noFill_tuple_add seq_tuple_add PySem.F.slot_tuple_add PySem.F.entry_tuple_add (PySem.F.args_tuple_add_2 _ _)
      (tuple_addW0 a b its.toArray its2.toArray n n2 dd dd2 sl sl2 (by simp [he])) ⟨ho, ho2, ⟨.ref b, H, I, rfl, q0 hx⟩⟩
  · exact op_catT pins s σ H _ _ v u Q I rx ry ⟨a, b, xs, ys, rfl, rfl, ha, hb, hx, hz, q1 hx, q2 hx⟩

/-! ### == and != of two lists of flat items -/
def datV : V → PyData
  | .bl b => .bool b
  | .int i => .int i
  | .str x => .str x
  | _ => .none
theorem reads_flat {h : Heap} {x : V} {u : Value} (r : RelV x u) (f : flatV x = true) : Reads h u (datV x) [] := by
  cases x with
  | non => cases r; exact .none
  | bl b => cases r; exact .bool b
  | int i => obtain ⟨t, rfl⟩ := r; exact .int i t
  | str z => obtain ⟨t, rfl⟩ := r; exact .str z t
  | _ => exact absurd (show false = true from f) Bool.false_ne_true
theorem readsAll_flat {h : Heap} : ∀ {xs : List V} {us : List Value}, Vals xs us → xs.all flatV = true → ReadsAll h us (xs.map datV) []
  | _, _, .nil, _ => .nil
  | _ :: _, _ :: _, .cons r t, f => by
    rw [List.all_cons, Bool.and_eq_true] at f
    exact .cons (reads_flat r f.1) (readsAll_flat t f.2)
def okV : V → Bool
  | .non => true
  | .bl _ => true
  | .int _ => true
  | .str z => PyData.strOk z
  | _ => false
theorem okV.flat {x : V} (h : okV x = true) : flatV x = true := by
  cases x <;> first | rfl | exact absurd (show false = true from h) Bool.false_ne_true
theorem okV.all {xs : List V} (h : xs.all okV = true) : xs.all flatV = true := List.all_eq_true.mpr fun x hx => okV.flat (List.all_eq_true.mp h x hx)
theorem lay_flat : ∀ (xs : List V), xs.all okV = true → PyData.canLayAll0 (xs.map datV) = true ∧ PyData.depthAll (xs.map datV) ≤ 1
  | [], _ => by simp [PyData.canLayAll0, PyData.depthAll]
  | x :: xs, hz => by
    rw [List.all_cons, Bool.and_eq_true] at hz
    have h1 : (datV x).canLay0 = true ∧ (datV x).depth ≤ 1 := by
      cases x with
      | str z => exact ⟨by simpa [datV, PyData.canLay0, okV] using hz.1, by simp [datV, PyData.depth]⟩
      | _ => exact ⟨by simp [datV, PyData.canLay0], by simp [datV, PyData.depth]⟩
    have h2 := lay_flat xs hz.2
    simp only [List.map_cons, PyData.canLayAll0, PyData.depthAll, h1.1, h2.1, Bool.and_self, true_and]
    have a1 := h1.2
    have a2 := h2.2
    omega
theorem shaped_flat {xs : List V} (h : xs.all okV = true) : SeqAt.shaped (.list (xs.map datV)) = true := by
  have q := lay_flat xs h
  unfold SeqAt.shaped
  simp only [PyData.canLay0, PyData.depth, q.1, Bool.true_and]
  have := q.2
  exact decide_eq_true (by omega)
theorem Inv.readsL {pins : List (Addr × Obj)} {σ : St} {H : Hp} {s : Shared} {a : Addr} {xs : List V} (I : Inv X pins σ H s) (h : SqL X.K H a xs) (f : xs.all okV = true) : ∃ as, Reads s.heap (.ref a) (.list (xs.map datV)) as := by
  obtain ⟨its, r, ⟨o, n, e, c, _, d⟩, _⟩ := I.list h
  exact ⟨_, .list e c d (by simpa using readsAll_flat r (okV.all f))⟩
def eqL (xs ys : List V) : Bool := PyData.eqv (.list (xs.map datV)) (.list (ys.map datV))
def rEqL (K : PySem.W.Frag) (neg : Bool) : R2 := fun x y H Q => ∃ a b xs ys, x = .ref a ∧ y = .ref b ∧ SqL K H a xs ∧ SqL K H b ys ∧ xs.all okV = true ∧ ys.all okV = true ∧ Q (.bl (if neg then !eqL xs ys else eqL xs ys)) H
theorem op_eqL (hu : X.A.units + 64 < cLine) : OpR X (compareOp .Eq) (rEqL X.K false) := by
  intro pins s σ H x y v u Q I rx ry h
  obtain ⟨a, b, xs, ys, rfl, rfl, ha, hb, fa, fb, q⟩ := h
  cases rx; cases ry
  obtain ⟨as, ra⟩ := I.readsL ha fa
  obtain ⟨bs, rb⟩ := I.readsL hb fb
  exact eq_dataH ra rb (shaped_flat fa) (shaped_flat fb) hu ⟨.bl _, H, I, rfl, q⟩
theorem op_neL (hu : X.A.units + 64 < cLine) : OpR X (compareOp .NotEq) (rEqL X.K true) := by
  intro pins s σ H x y v u Q I rx ry h
  obtain ⟨a, b, xs, ys, rfl, rfl, ha, hb, fa, fb, q⟩ := h
  cases rx; cases ry
  obtain ⟨as, ra⟩ := I.readsL ha fa
  obtain ⟨bs, rb⟩ := I.readsL hb fb
  exact ne_dataH ra rb (shaped_flat fa) (shaped_flat fb) hu ⟨.bl _, H, I, rfl, q⟩
theorem eqL_nil (xs : List V) : eqL xs [] = xs.isEmpty := by
  cases xs <;> simp [eqL, PyData.eqv, PyData.eqvAll]

/-! ### texts by their order; truths by is -/
/-! ### isinstance with a built-in type -/
theorem call_isinst : CallR X (.builtin "isinstance") (fun xs H Q => ∃ x n t b, xs = [x, .ty n] ∧ TyOf X.K H x t ∧ PySem.W.kitOne X.K t (.type n) = some b ∧ Q (.bl b) H) := by
  intro pins s σ H xs us Q I r h
  obtain ⟨x, n, t, b, rfl, ty, e, q⟩ := h
  obtain ⟨u, u2, rfl, r1, r2⟩ := r.two
  cases r2
  exact isinst_ok I r1 ty e fun tk => ⟨.bl b, H, I.tok tk, rfl, q⟩

/-! ### all of a list of truths -/
/-! ### a text, sign by sign -/
def Its (z : Str) : It := ⟨fun i _ => i < z.cps.size, fun i H x H' => H' = H ∧ ∃ c, z.cps[i]? = some c ∧ x = .str ⟨#[c]⟩, fun i _ => i = z.cps.size⟩
def iStr (tl : TE) : TI := fun σ H R => tl σ H fun x H1 => ∃ z, x = .str z ∧ R (Its z) H1
/-! ### a tuple times an int above 1 -/
open PySem.AutoSeq1 (wpAny_loadPart') in
theorem tuple_mul2 (l : Addr) (items : Array Value) (n : Nat) (dd : Option Addr) (sl : Array (Option Value)) (x : Int) (u : Tok) (h2 : 2 ≤ x) (hx : x < 2 ^ 62) (hne : items.isEmpty = false) (hz : items.size * x.toNat ≤ sizeLine) :
    Meets (Builtin.«tuple.__mul__» ⟨[.ref l, .int x u], []⟩) (fun _ R s => s.heap.get? l = some { cls := .type "tuple", dict := dd, data := .seq items n, slots := sl } ∧ R (.ok (.ret (Value.ref s.heap.objs.size))) { s with heap := s.heap.push { cls := Value.type "tuple", data := Data.seq (List.foldl (fun x1 x2 => x1 ++ x2) #[] (List.replicate x.toNat items)) }, toks := s.toks }) :=
  .of_wp fun prog w A R s h => by
    obtain ⟨hp, g, d, tk, os⟩ := s; obtain ⟨hl, h⟩ := h
    have f1 := AutoSeq1.idx_int
    have hs : sizeLine = 16777216 := sizeLine_eq
    have hm : ((items.size * x.toNat : Nat) : Int) = (items.size : Int) * x := by
      rw [Int.natCast_mul, Int.toNat_of_nonneg (by omega)]
    have c0 : ¬ (decide (x < -2 ^ 63) || decide (x ≥ 2 ^ 63)) = true := by
      simp only [Bool.or_eq_true, decide_eq_true_eq, not_or]
      omega
    have c1 : ¬ (items.isEmpty || x == 1) = true := by
      rw [hne, Bool.false_or]
      simp only [beq_iff_eq]
      omega
    have c2 : ¬ (decide (x ≤ 0) || items.isEmpty) = true := by
      rw [hne, Bool.or_false]
      simp only [decide_eq_true_eq]
      omega
    have c3 : ¬ ((items.size : Int) * x > (2 ^ 63 - 1) / 8) := by
      rw [← hm]
      have : (2 ^ 63 - 1 : Int) / 8 = 1152921504606846975 := by decide
      rw [this]
      omega
    have c4 : ¬ Builtin.Tuple.tupleTooMany ((items.size : Int) * x) = true := by
      unfold Builtin.Tuple.tupleTooMany
      simp only [decide_eq_true_eq]
      rw [← hm]
      omega
    wp_walk using wpAny_loadPart' hl
    refine PySem.W.KFB.if_not (Bool.eq_false_iff.mpr c0) ?_
    wp_walk using wpAny_loadPart' hl
    refine PySem.W.KFB.if_not (Bool.eq_false_iff.mpr c1) ?_
    refine PySem.W.KFB.if_not (Bool.eq_false_iff.mpr c2) ?_
    dsimp only
    rw [if_neg c3]
    refine PySem.W.KFB.if_not (Bool.eq_false_iff.mpr c4) ?_
    refine wpAny_bind (wpAny_newObj_type (wpAny_pure ⟨_, rfl, h⟩) ?_)
    show (List.foldl (fun x1 x2 => x1 ++ x2) #[] (List.replicate x.toNat items)).size ≤ sizeLine
    have e := foldl_rep items.toList x.toNat []
    rw [List.nil_append] at e
    have e2 : items.toList.toArray = items := by simp
    rw [e2] at e
    rw [show ([] : List Value).toArray = #[] from rfl] at e
    rw [e, List.size_toArray, len_rep, Array.length_toList, Nat.mul_comm]
    exact hz
def rRepT (K : PySem.W.Frag) : R2 := fun x y H Q => ∃ l k xs, x = .ref l ∧ y = .int k ∧ SqT K H l xs ∧ 2 ≤ k ∧ k < 2 ^ 62 ∧ xs ≠ [] ∧ xs.length * k.toNat ≤ sizeLine ∧
  ∀ p, H p = none → Q (.ref p) (upd H p (.tup (List.replicate k.toNat xs).flatten))
end
end L2


set_option Elab.async false
set_option linter.all false
set_option maxRecDepth 100000
/-! ONE RULE for each written operation, whatever the kinds; callees; data -/
namespace L2
open PySem PySem.Spec PyProof.Rows
section
variable {X : Cx}
/-! ### a list or a tuple is no text, and not None -/
def Seq (K : PySem.W.Frag) (H : Hp) (a : Addr) : Prop := (∃ xs, SqL K H a xs) ∨ ∃ xs, SqT K H a xs
theorem op_eq_rs (hu : X.A.units + 64 < cLine) : OpR X (compareOp .Eq) (fun x y H Q => ∃ a z, x = .ref a ∧ y = .str z ∧ Seq X.K H a ∧ Q (.bl false) H) := by
  intro pins s σ H x y v u Q I rx ry h
  obtain ⟨a, z, rfl, rfl, hq, q⟩ := h
  cases rx
  obtain ⟨t, rfl⟩ := ry
  show wpAny _ _ (richCompare .Eq _ _) _ _ _
  rcases hq with ⟨xs, hq⟩ | ⟨xs, hq⟩
  · obtain ⟨its, r, pl, hz⟩ := I.list hq
    exact SeqAt.RcAt.list_str z t pl.isList (by omega) _ _ _ _ ⟨.bl false, H, I, rfl, q⟩
  · obtain ⟨its, r, pl, hz⟩ := I.tuple hq
    exact SeqAt.RcAt.tuple_str z t (show s.heap.IsTuple a its.toArray from pl) (by omega) _ _ _ _ ⟨.bl false, H, I, rfl, q⟩
def isN : V → Bool
  | .non => true
  | _ => false
def isNU : Value → Bool
  | .none => true
  | _ => false
/-- None in a list of tuples and Nones -/
theorem op_in_none (hu : X.A.units + 64 < cLine) : OpR X (compareOp .In) (fun x y H Q => ∃ p xs, x = .non ∧ y = .ref p ∧ SqL X.K H p xs ∧ (∀ v ∈ xs, v = .non ∨ ∃ a ys, v = .ref a ∧ SqT X.K H a ys) ∧ Q (.bl (xs.any isN)) H) := by
  intro pins s σ H x y v u Q I rx ry h
  obtain ⟨p, xs, rfl, rfl, hq, hall, q⟩ := h
  cases rx; cases ry
  obtain ⟨its, r, pl, hz⟩ := I.list hq
  have hmem : ∀ (xs : List V) (us : List Value), Vals xs us → (∀ v ∈ xs, v = .non ∨ ∃ a ys, v = .ref a ∧ SqT X.K H a ys) → (∀ u ∈ us, SeqAt.EqAt X.A.in1 s u .none (isNU u)) ∧ us.any isNU = xs.any isN := by
    intro xs us rv
    induction rv with
    | nil => intro _; exact ⟨fun u hu => (by cases hu), rfl⟩
    | cons rr _ ih =>
      intro ha
      obtain ⟨i1, i2⟩ := ih fun v hv => ha v (List.mem_cons_of_mem _ hv)
      rcases ha _ List.mem_cons_self with e | ⟨a, ys, e, hs⟩
      · subst e
        cases rr
        refine ⟨fun u hu' => ?_, by rw [List.any_cons, List.any_cons, i2]; rfl⟩
        rcases List.mem_cons.mp hu' with rfl | h'
        · exact SeqAt.EqAt.same _
        · exact i1 u h'
      · subst e
        cases rr
        refine ⟨fun u hu' => ?_, by rw [List.any_cons, List.any_cons, i2]; rfl⟩
        rcases List.mem_cons.mp hu' with rfl | h'
        · obtain ⟨its, _, ht, _⟩ := I.tuple hs
          exact SeqAt.EqAt.tuple_none (show s.heap.IsTuple a its.toArray from ht) (by show X.A.units + 1 < _; omega)
        · exact i1 u h'
  obtain ⟨h1, h2⟩ := hmem xs its r hall
  refine SeqAt.in_listAt isNU pl.isList (fun w hw => h1 w (by simpa using hw)) ⟨.bl _, H, I, rfl, ?_⟩
  rw [show its.toArray.any isNU = its.any isNU by simp, h2]
  exact q

/-! ### one rule each -/
def rLeS : R2 := fun x y H Q => ∃ i j, x = .str i ∧ y = .str j ∧ Q (.bl (!decide (j.cps.toList < i.cps.toList))) H
def rLtS : R2 := fun x y H Q => ∃ i j, x = .str i ∧ y = .str j ∧ Q (.bl (decide (i.cps.toList < j.cps.toList))) H
/-- what two values come to by ==; whether the one is in the other; how long one is: each told once -/
def EqOf (K : PySem.W.Frag) (x y : V) (H : Hp) (b : Bool) : Prop := (scal x y = true ∧ b = decide (x = y)) ∨
  (∃ a c xs ys, x = .ref a ∧ y = .ref c ∧ SqL K H a xs ∧ SqL K H c ys ∧ xs.all okV = true ∧ ys.all okV = true ∧ b = eqL xs ys) ∨ (∃ a z, x = .ref a ∧ y = .str z ∧ Seq K H a ∧ b = false)
def qEq (K : PySem.W.Frag) : R2 := fun x y H Q => ∃ b, EqOf K x y H b ∧ Q (.bl b) H
def qNe (K : PySem.W.Frag) : R2 := fun x y H Q => ∃ b, ((scal x y = true ∧ b = decide (x = y)) ∨ (∃ a c xs ys, x = .ref a ∧ y = .ref c ∧ SqL K H a xs ∧ SqL K H c ys ∧ xs.all okV = true ∧ ys.all okV = true ∧ b = eqL xs ys)) ∧ Q (.bl (!b)) H
def InOf (K : PySem.W.Frag) (x y : V) (H : Hp) (b : Bool) : Prop := (∃ p xs, y = .ref p ∧ (SqL K H p xs ∨ SqT K H p xs) ∧ flatV x = true ∧ xs.all flatV = true ∧ b = inV x xs) ∨
  (∃ i j, x = .str i ∧ y = .str j ∧ b = !(Builtin.Str.occurrences j i 0 j.length 1).isEmpty) ∨
  (∃ p xs, x = .non ∧ y = .ref p ∧ SqL K H p xs ∧ (∀ v ∈ xs, v = .non ∨ ∃ a ys, v = .ref a ∧ SqT K H a ys) ∧ b = xs.any isN)
def qIn (K : PySem.W.Frag) : R2 := fun x y H Q => ∃ b, InOf K x y H b ∧ Q (.bl b) H
def NotInOf (K : PySem.W.Frag) (x y : V) (H : Hp) (b : Bool) : Prop := (∃ p xs, y = .ref p ∧ (SqL K H p xs ∨ SqT K H p xs) ∧ flatV x = true ∧ xs.all flatV = true ∧ b = !inV x xs) ∨
  (∃ i j, x = .str i ∧ y = .str j ∧ b = !(!(Builtin.Str.occurrences j i 0 j.length 1).isEmpty)) ∨
  (∃ a p xs, x = .ref a ∧ y = .ref p ∧ Seq K H a ∧ SqT K H p xs ∧ (∀ v ∈ xs, ∃ z, v = .str z) ∧ b = true)
def qNotIn (K : PySem.W.Frag) : R2 := fun x y H Q => ∃ b, NotInOf K x y H b ∧ Q (.bl b) H
def LenOf (K : PySem.W.Frag) (x : V) (H : Hp) (n : Nat) : Prop := (∃ p ys, x = .ref p ∧ (SqL K H p ys ∨ SqT K H p ys) ∧ n = ys.length) ∨ ∃ z, x = .str z ∧ z.length ≤ sizeLine ∧ n = z.length
def qLen (K : PySem.W.Frag) : List V → Hp → VK → Prop := fun xs H Q => ∃ x n, xs = [x] ∧ LenOf K x H n ∧ Q (.int n) H
def qIsN : R2 := fun x y H Q => y = .non ∧ Q (.bl (decide (x = .non))) H
def qNotN : R2 := fun x y H Q => y = .non ∧ Q (.bl (!decide (x = .non))) H
def qIsB : R2 := fun x y H Q => ∃ a b, x = .bl a ∧ y = .bl b ∧ Q (.bl (a == b)) H
def qNotB : R2 := fun x y H Q => ∃ a b, x = .bl a ∧ y = .bl b ∧ Q (.bl (a != b)) H
theorem op_notIn_rs (hu : X.A.units + 64 < cLine) : OpR X (compareOp .NotIn) (fun x y H Q => ∃ a p xs, x = .ref a ∧ y = .ref p ∧ Seq X.K H a ∧ SqT X.K H p xs ∧ (∀ v ∈ xs, ∃ z, v = .str z) ∧ Q (.bl true) H) := by
  intro pins s σ H x y v u Q I rx ry h
  obtain ⟨a, p, xs, rfl, rfl, hq, hp, hall, q⟩ := h
  cases rx; cases ry
  obtain ⟨its, r, pl, hz⟩ := I.tuple hp
  have hmem : ∀ (xs : List V) (us : List Value), Vals xs us → (∀ v ∈ xs, ∃ z, v = .str z) → ∀ u ∈ us, SeqAt.EqAt X.A.in1 s u (.ref a) ((fun _ => false) u) := by
    intro xs us rv
    induction rv with
    | nil => intro _ u hu; cases hu
    | cons rr _ ih =>
      intro ha u hu'
      rcases List.mem_cons.mp hu' with rfl | h'
      · obtain ⟨z, e⟩ := ha _ List.mem_cons_self
        subst e
        obtain ⟨t, rfl⟩ := rr
        rcases hq with ⟨ys, hq⟩ | ⟨ys, hq⟩
        · obtain ⟨its, _, pl, _⟩ := I.list hq
          exact SeqAt.EqAt.str_list z t pl.isList (by show X.A.units + 1 < _; omega)
        · obtain ⟨its, _, pl, _⟩ := I.tuple hq
          exact SeqAt.EqAt.str_tuple z t (show s.heap.IsTuple a its.toArray from pl) (by show X.A.units + 1 < _; omega)
      · exact ih (fun v hv => ha v (List.mem_cons_of_mem _ hv)) u h'
  refine SeqAt.notIn_tupleAt (fun _ => false) pl (fun w hw => hmem xs its r hall w (by simpa using hw)) ⟨.bl _, H, I, rfl, ?_⟩
  have e : (!its.toArray.any fun _ => false) = true := by simp
  rw [e]
  exact q
theorem gEq (hu : X.A.units + 64 < cLine) : OpR X (compareOp .Eq) (qEq X.K) := by
  intro pins s σ H x y v u Q I rx ry h
  obtain ⟨b, h, q⟩ := h
  rcases h with ⟨h, rfl⟩ | ⟨a, c, xs, ys, h1, h2, h3, h4, h5, h6, rfl⟩ | ⟨a, z, h1, h2, h3, rfl⟩
  · exact op_eq pins s σ H x y v u Q I rx ry ⟨h, q⟩
  · exact op_eqL hu pins s σ H x y v u Q I rx ry ⟨a, c, xs, ys, h1, h2, h3, h4, h5, h6, q⟩
  · exact op_eq_rs hu pins s σ H x y v u Q I rx ry ⟨a, z, h1, h2, h3, q⟩
theorem gNe (hu : X.A.units + 64 < cLine) : OpR X (compareOp .NotEq) (qNe X.K) := by
  intro pins s σ H x y v u Q I rx ry h
  obtain ⟨b, h, q⟩ := h
  rcases h with ⟨h, rfl⟩ | ⟨a, c, xs, ys, h1, h2, h3, h4, h5, h6, rfl⟩
  · exact op_ne pins s σ H x y v u Q I rx ry ⟨h, q⟩
  · exact op_neL hu pins s σ H x y v u Q I rx ry ⟨a, c, xs, ys, h1, h2, h3, h4, h5, h6, q⟩
theorem gIn (hu : X.A.units + 64 < cLine) : OpR X (compareOp .In) (qIn X.K) := by
  intro pins s σ H x y v u Q I rx ry h
  obtain ⟨b, h, q⟩ := h
  rcases h with ⟨p, xs, h1, h2, h3, h4, rfl⟩ | ⟨i, j, h1, h2, rfl⟩ | ⟨p, xs, h1, h2, h3, h4, rfl⟩
  · exact op_in_seq pins s σ H x y v u Q I rx ry ⟨p, xs, h1, h2, h3, h4, q⟩
  · exact op_in_str pins s σ H x y v u Q I rx ry ⟨i, j, h1, h2, q⟩
  · exact op_in_none hu pins s σ H x y v u Q I rx ry ⟨p, xs, h1, h2, h3, h4, q⟩
theorem gNotIn (hu : X.A.units + 64 < cLine) : OpR X (compareOp .NotIn) (qNotIn X.K) := by
  intro pins s σ H x y v u Q I rx ry h
  obtain ⟨b, h, q⟩ := h
  rcases h with ⟨p, xs, h1, h2, h3, h4, rfl⟩ | ⟨i, j, h1, h2, rfl⟩ | ⟨a, p, xs, h1, h2, h3, h4, h5, rfl⟩
  · exact op_notIn_seq pins s σ H x y v u Q I rx ry ⟨p, xs, h1, h2, h3, h4, q⟩
  · exact op_notIn_str pins s σ H x y v u Q I rx ry ⟨i, j, h1, h2, q⟩
  · exact op_notIn_rs hu pins s σ H x y v u Q I rx ry ⟨a, p, xs, h1, h2, h3, h4, h5, q⟩
theorem gLen : CallR X (.builtin "len") (qLen X.K) := by
  intro pins s σ H xs us Q I r h
  obtain ⟨x, n, rfl, h, q⟩ := h
  rcases h with ⟨p, ys, rfl, h, rfl⟩ | ⟨z, rfl, hz, rfl⟩
  · exact call_len_seq pins s σ H _ us Q I r ⟨p, ys, rfl, h, q⟩
  · exact call_len_str pins s σ H _ us Q I r ⟨z, rfl, hz, q⟩
theorem op_eqI : OpR X (compareOp .Eq) (rI0 fun i j => .bl (decide (i = j))) := by
  intro pins s σ H x y v u Q I rx ry h
  obtain ⟨i, j, rfl, rfl, q⟩ := h
  refine op_eq pins s σ H _ _ v u Q I rx ry ⟨rfl, ?_⟩
  have e : decide (V.int i = V.int j) = decide (i = j) := by simp
  rw [e]; exact q
theorem op_neI : OpR X (compareOp .NotEq) (rI0 fun i j => .bl (!decide (i = j))) := by
  intro pins s σ H x y v u Q I rx ry h
  obtain ⟨i, j, rfl, rfl, q⟩ := h
  refine op_ne pins s σ H _ _ v u Q I rx ry ⟨rfl, ?_⟩
  have e : decide (V.int i = V.int j) = decide (i = j) := by simp
  rw [e]; exact q
theorem gIsN : OpR X (compareOp .Is) qIsN := op_isN
def qInst (K : PySem.W.Frag) : List V → Hp → VK → Prop := fun xs H Q => ∃ x n b, xs = [x, .ty n] ∧ (∃ t, TyOf K H x t ∧ PySem.W.kitOne K t (.type n) = some b) ∧ Q (.bl b) H
theorem gInst : CallR X (.builtin "isinstance") (qInst X.K) := by
  intro pins s σ H xs us Q I r h
  obtain ⟨x, n, b, rfl, ⟨t, h1, h2⟩, q⟩ := h
  exact call_isinst pins s σ H _ us Q I r ⟨x, n, t, b, rfl, h1, h2, q⟩
end
/-! ### argument lists without a look into eval -/
def isStar : Expr → Bool
  | .Starred .. => true
  | _ => false
def noStars : List Expr → Bool
  | [] => true
  | e :: r => !isStar e && noStars r
theorem starEach_plain {e : Expr} {es : List Expr} {env : Env} (h : isStar e = false) : starEach (e :: es) env = (false, eval e env) :: starEach es env := by
  cases e <;> first | rfl | exact absurd (show true = false from h) (by decide)
theorem noStars_any {pos : Pos} {env : Env} : ∀ {es : List Expr}, noStars es = true → (backTo pos (starEach es env)).any (·.1) = false
  | [], _ => rfl
  | e :: r, h => by
    rw [noStars, Bool.and_eq_true, Bool.not_eq_true'] at h
    rw [starEach_plain h.1]
    have q := noStars_any (pos := pos) (env := env) h.2
    show (false || (backTo pos (starEach r env)).any (·.1)) = false
    rw [q]; rfl
theorem pa_c {X : Cx} {e : Expr} {es : List Expr} {te : TE} {t : TA} (ha : PE X e te) (hr : PA X es t) (h : isStar e = false := by rfl) : PA X (e :: es) (tCons te t) := pa_cons ha hr (starEach_plain h)
/-! ### callees and constants of the text -/
structure Callee (P : Program) (w : World) (K : PySem.W.Frag) (mg : Str → Option Value) (base : Heap) (x : Str) (ps : List Str) (k : Nat) (sp : Sp) : Prop where
  ex : ∃ f fd, FnOk P w K mg base CX0 k f fd ps sp ∧ mg x = some (.ref f) ∧ PySem.W.keepIn K (.ref f) = true ∧ Binds K fd ps []
theorem Callee.mono {P : Program} {w : World} {K : PySem.W.Frag} {mg : Str → Option Value} {base : Heap} {x : Str} {ps : List Str} {j k : Nat} {sp : Sp} (h : Callee P w K mg base x ps j sp) (hk : j ≤ k) : Callee P w K mg base x ps k sp := by
  obtain ⟨f, fd, a, b, c, d⟩ := h
  exact ⟨f, fd, a.mono hk, b, c, d⟩
theorem pe_cc {X : Cx} {x : Str} {ps : List Str} {k j : Nat} {sp : Sp} {e : Expr} {es : List Expr} {t : TA} {p pos : Pos} (C : Callee X.prog X.w X.K X.mg X.base x ps k sp) (hr : Room j X.A) (hk : k ≤ j) (ha : PA X (e :: es) t) (hg : Gl X x := by rfl)
    (hdb : (x == ("__debug__" : Str)) = false := by decide) (hst : noStars (e :: es) = true := by rfl) :
    PE X (.Call (.Name x p) (e :: es) [] pos) (tCall sp [] E0 t) := by
  have hst' := hst
  rw [noStars, Bool.and_eq_true, Bool.not_eq_true'] at hst'
  have he := starEach_plain (es := es) (env := X.env) hst'.1
  have hpl := noStars_any (pos := pos) (env := X.env) hst'.2
  obtain ⟨f, fd, F, hm, hkp, hb⟩ := C
  intro pins s σ H Q I h
  refine wpAny_Call_Name_kw (ld_glob I hg hm ?_ hdb)
  refine PySem.W.callWith_K (h₀ := X.base) I.ok.mod.kin hkp (thn (ha pos pins s σ H _ I h) fun us s1 ⟨vs, H1, I1, r, q⟩ => ⟨I1.kIn, ?_⟩) he hpl
  exact run_fn F (hr.mono hk) hb .nil (fun _ _ _ _ _ _ _ z => z.elim) I1 r q
theorem pe_cB {X : Cx} {x : Str} {p pos : Pos} {e : Expr} {es : List Expr} {t : TA} {id : String} {r : List V → Hp → VK → Prop} (hc : CallR X (.builtin id) r) (hg : Gl X x) (hm : X.mg x = none) (hv : bootBuiltins x = some (.builtin id)) (ha : PA X (e :: es) t) (hn : x ≠ "__name__") (hdb : (x == ("__debug__" : Str)) = false)
    (hst : noStars (e :: es) = true := by rfl) : PE X (.Call (.Name x p) (e :: es) [] pos) (tCB r t) := by
  have hst' := hst
  rw [noStars, Bool.and_eq_true, Bool.not_eq_true'] at hst'
  exact pe_callB hc hg hm hv ha hn hdb (starEach_plain hst'.1) (noStars_any hst'.2)
theorem pe_cT {X : Cx} {x : Str} {p pos : Pos} {e : Expr} {es : List Expr} {t : TA} {T : String} {r : List V → Hp → VK → Prop} (hc : CallR X (.type T) r) (hg : Gl X x) (hm : X.mg x = none) (hv : bootBuiltins x = some (.type T)) (ha : PA X (e :: es) t) (hn : x ≠ "__name__") (hdb : (x == ("__debug__" : Str)) = false)
    (hst : noStars (e :: es) = true := by rfl) : PE X (.Call (.Name x p) (e :: es) [] pos) (tCB r t) := by
  have hst' := hst
  rw [noStars, Bool.and_eq_true, Bool.not_eq_true'] at hst'
  exact pe_callTy hc hg hm hv ha hn hdb (starEach_plain hst'.1) (noStars_any hst'.2)
structure GC (mg : Str → Option Value) (x : Str) (v : V) : Prop where
  ex : ∃ u, mg x = some u ∧ RelV v u
theorem pe_gc {X : Cx} {x : Str} {v : V} {pos : Pos} (h : GC X.mg x v) (hg : Gl X x := by rfl) (hd : (x == ("__debug__" : Str)) = false := by decide) : PE X (.Name x pos) (tC v) := by
  obtain ⟨u, hm, r⟩ := h
  exact pe_glob hg hm r hd
/-- a comprehension's scopes, by one look -/
def compChk (N : List Str) (on : List (Str × NameKind)) (sc : Scope) (N' : List Str) (mp : List (Option Nat)) : Bool :=
  sc.kind == .function && sc.names.all (fun y => y.2 != .cell) && sc.names.all (fun y => y.2 != .local || sc.names.lookup y.1 == some .local) && sc.names.all (fun y => y.2 != .free || on.lookup y.1 == some .cell) && compOk N on sc.names N' mp
theorem CompS.of {X : Cx} {N' : List Str} {sc : Scope} {mp : List (Option Nat)} (h : compChk X.N X.env.scope.names sc N' mp = true) : CompS X N' sc mp := by
  unfold compChk at h
  simp only [Bool.and_eq_true, beq_iff_eq] at h
  obtain ⟨⟨⟨⟨h1, h2⟩, h3⟩, h4⟩, h5⟩ := h
  refine ⟨h1, fun y hy => ?_, fun y hy e => ?_, fun y hy e => ?_, h5⟩
  · have := List.all_eq_true.mp h2 y hy
    simpa using this
  · have := List.all_eq_true.mp h3 y hy
    simp only [e, Bool.or_eq_true, beq_iff_eq] at this
    rcases this with z | z
    · exact absurd z (by decide)
    · exact z
  · have := List.all_eq_true.mp h4 y hy
    simp only [e, Bool.or_eq_true, beq_iff_eq] at this
    rcases this with z | z
    · exact absurd z (by decide)
    · exact z

/-! ### the written part by its name (within comprehensions) -/
theorem opK {X : Cx} {K : PySem.W.Frag} {f : Value → Value → Sem Value} {r : PySem.W.Frag → R2} (h : OpR X f (r X.K)) (hK : X.K = K) : OpR X f (r K) := hK ▸ h
theorem ixK {X : Cx} {K : PySem.W.Frag} {r : PySem.W.Frag → R2} (h : IxR X (r X.K)) (hK : X.K = K) : IxR X (r K) := hK ▸ h
theorem pg_tupK {X : Cx} {K : PySem.W.Frag} {es : List Expr} {k : Nat} {t : TGs} {n : Nat} {pos : Pos} (hK : X.K = K) (hc : X.calm = true) (h : PGs X es t) (hn : (assignEach es X.env).length = n := by rfl) (hst : (assignEach es X.env).findIdx? (·.1) = none := by rfl) : PG X (.Tuple es k pos) (gTup K n t) := hK ▸ pg_tup hc h hn hst
def isComp : Expr → Bool
  | .ListComp .. => true
  | .SetComp .. => true
  | .DictComp .. => true
  | _ => false
theorem swaps_plain {e : Expr} {t : Option Expr} {l : Nat} {env : Env} (h : isComp e = false) : swapsWith e t l env = pure false := by
  cases e <;> first | rfl | exact absurd (show true = false from h) (by decide)
theorem swaps_cell {elt : Expr} {gs : List Comprehension} {sc : Scope} {cp p : Pos} {x : Str} {l : Nat} {env : Env} (h : env.scope.names.lookup x = some .cell) : swapsWith (.ListComp elt gs sc cp) (some (.Name x p)) l env = pure false := by
  unfold swapsWith
  have e : (env.kindOf x == some NameKind.local) = false := by
    unfold Env.kindOf
    rw [h]; rfl
  simp only [e, Bool.and_false, Bool.false_and]
/-! ### data: what a value means, lists left closed -/
inductive Dm where
  | non | bl (b : Bool) | int (i : Int) | str (x : Str) | tup (ds : List Dm) | lst
mutual
inductive Dt (H : Hp) : V → Dm → Prop where
  | non : Dt H .non .non
  | bl (b : Bool) : Dt H (.bl b) (.bl b)
  | int (i : Int) : Dt H (.int i) (.int i)
  | str (x : Str) : Dt H (.str x) (.str x)
  | tup {a : Addr} {xs : List V} {ds : List Dm} : H a = some (.tup xs) → DtA H xs ds → Dt H (.ref a) (.tup ds)
  | lst {a : Addr} {xs : List V} : H a = some (.lst xs) → Dt H (.ref a) .lst
inductive DtA (H : Hp) : List V → List Dm → Prop where
  | nil : DtA H [] []
  | cons {x : V} {xs : List V} {d : Dm} {ds : List Dm} : Dt H x d → DtA H xs ds → DtA H (x :: xs) (d :: ds)
end
/-- tuples stay, lists stay lists -/
structure Kp (H H' : Hp) : Prop where
  t : ∀ b xs, H b = some (.tup xs) → H' b = some (.tup xs)
  l : ∀ b xs, H b = some (.lst xs) → ∃ ys, H' b = some (.lst ys)
theorem Kp.refl (H : Hp) : Kp H H := ⟨fun _ _ h => h, fun _ xs h => ⟨xs, h⟩⟩
theorem Kp.trans {H H1 H2 : Hp} (a : Kp H H1) (b : Kp H1 H2) : Kp H H2 := ⟨fun c xs h => b.t c xs (a.t c xs h), fun c xs h => let ⟨ys, e⟩ := a.l c xs h; b.l c ys e⟩
theorem Same.kp {H H' : Hp} (s : Same H H') : Kp H H' := ⟨fun b xs h => s b _ h, fun b xs h => ⟨xs, s b _ h⟩⟩
theorem same_new {H : Hp} {p : Addr} (h : H p = none) (o : HO) : Same H (upd H p o) := fun b u q => by rw [upd_ne (ne_of_none q h)]; exact q
theorem Kp.new {H : Hp} {p : Addr} (h : H p = none) (o : HO) : Kp H (upd H p o) := (same_new h o).kp
theorem Kp.set {H : Hp} {p : Addr} {xs ys : List V} (h : H p = some (.lst xs)) : Kp H (upd H p (.lst ys)) :=
  ⟨fun b zs e => by rw [upd_ne (ne_of e h (by intro z; cases z))]; exact e, fun b zs e => by
    by_cases hb : b = p
    · subst hb; exact ⟨ys, upd_same⟩
    · exact ⟨zs, by rw [upd_ne hb]; exact e⟩⟩
mutual
theorem Dt.kp {H H' : Hp} (k : Kp H H') : ∀ {v : V} {d : Dm}, Dt H v d → Dt H' v d
  | _, _, .non => .non
  | _, _, .bl b => .bl b
  | _, _, .int i => .int i
  | _, _, .str x => .str x
  | _, _, .tup e r => .tup (k.t _ _ e) (DtA.kp k r)
  | _, _, .lst e => let ⟨_, e'⟩ := k.l _ _ e; .lst e'
theorem DtA.kp {H H' : Hp} (k : Kp H H') : ∀ {xs : List V} {ds : List Dm}, DtA H xs ds → DtA H' xs ds
  | _, _, .nil => .nil
  | _, _, .cons r t => .cons (Dt.kp k r) (DtA.kp k t)
end
theorem DtA.length {H : Hp} : ∀ {xs : List V} {ds : List Dm}, DtA H xs ds → xs.length = ds.length
  | _, _, .nil => rfl
  | _, _, .cons _ t => by rw [List.length_cons, List.length_cons, DtA.length t]
theorem DtA.append {H : Hp} : ∀ {xs ys : List V} {ds es : List Dm}, DtA H xs ds → DtA H ys es → DtA H (xs ++ ys) (ds ++ es)
  | _, _, _, _, .nil, h => h
  | _, _, _, _, .cons r t, h => .cons r (DtA.append t h)
theorem DtA.get {H : Hp} : ∀ {xs : List V} {ds : List Dm} {i : Nat} {x : V}, DtA H xs ds → xs[i]? = some x → ∃ d, ds[i]? = some d ∧ Dt H x d
  | _, _, _, _, .nil, e => by simp at e
  | _, _, 0, _, .cons r _, e => by simp at e; subst e; exact ⟨_, rfl, r⟩
  | _, _, i + 1, x, .cons _ t, e => by
    obtain ⟨d, h1, h2⟩ := DtA.get (i := i) (x := x) t (by simpa using e)
    exact ⟨d, by simpa using h1, h2⟩
theorem Dt.tupI {H : Hp} {v : V} {ds : List Dm} (h : Dt H v (.tup ds)) : ∃ a xs, v = .ref a ∧ H a = some (.tup xs) ∧ DtA H xs ds := by
  cases h with
  | tup e r => exact ⟨_, _, rfl, e, r⟩
end L2


set_option Elab.async false
set_option linter.all false
set_option maxRecDepth 100000
/-! least and greatest of a list, sorted ints, list(range()), == of nested data -/
namespace L2
open PySem PySem.Spec PyProof.Rows
section
variable {X : Cx}
def qMinL (K : PySem.W.Frag) : List V → Hp → VK → Prop := fun xs H Q => ∃ (a : Addr) (ns : List Int), xs = [.ref a] ∧ SqL K H a (ns.map V.int) ∧ 0 < ns.length ∧ ∀ M, M ∈ ns → (∀ a ∈ ns, M ≤ a) → Q (.int M) H
def qMaxL (K : PySem.W.Frag) : List V → Hp → VK → Prop := fun xs H Q => ∃ (a : Addr) (ns : List Int), xs = [.ref a] ∧ SqL K H a (ns.map V.int) ∧ 0 < ns.length ∧ ∀ M, M ∈ ns → (∀ a ∈ ns, a ≤ M) → Q (.int M) H
theorem call_maxL (hc : X.calm = true) : CallR X (.builtin "max") (qMaxL X.K) := by
  intro pins s σ H xs us Q I r h
  obtain ⟨a, ns, rfl, hq, hne, q⟩ := h
  obtain ⟨u, rfl, r1⟩ := r.one
  cases r1
  obtain ⟨its, rv, pl, hz⟩ := I.list hq
  have hi := intsAre_of rv
  obtain ⟨xs, e⟩ := hi.allInts.items
  have hns : ns = xs.toList.map (·.1) := by
    rw [← hi.numsOf, ← nums_intItems, ← e]
  have hsz : 0 < xs.size := by
    have h3 := hne; rw [hns, List.length_map, Array.length_toList] at h3; exact h3
  have hl := pl.isList
  rw [e] at hl
  refine max_intList (I.ok.hd hc) hl hsz fun v h' tk hv hk => ?_
  obtain ⟨t, rfl⟩ := intItems_at hv
  obtain ⟨h1, h2⟩ := argBest_gt (numAt xs) (xs.size - 1)
  refine ⟨.int _, H, I.kept hk, ⟨_, rfl⟩, q _ ?_ fun a ha => ?_⟩
  · rw [hns, numAt_eq]; exact getD_mem (by rw [List.length_map, Array.length_toList]; omega)
  · rw [hns] at ha
    obtain ⟨j, hj, rfl⟩ := mem_getD ha
    rw [List.length_map, Array.length_toList] at hj
    rw [← numAt_eq]; exact h2 j (by omega)
def qSortI (K : PySem.W.Frag) : List V → Hp → VK → Prop := fun xs H Q => ∃ (a : Addr) (ns : List Int), xs = [.ref a] ∧ SqL K H a (ns.map V.int) ∧ ns.length < 64 ∧ ∀ (l : Addr) (ms : List Int), H l = none → ms.Perm ns → ms.Pairwise (· ≤ ·) → Q (.ref l) (upd H l (.lst (ms.map V.int)))
/-! ### a conditional as a test -/
def tIfT (t ta tb : TT) : TT := fun σ H Q => t σ H fun c H1 => if c = true then ta σ H1 Q else tb σ H1 Q
/-! ### nested data -/
mutual
def Dm.dat : Dm → PyData
  | .non => .none
  | .bl b => .bool b
  | .int i => .int i
  | .str x => .str x
  | .tup ds => .tuple (datA ds)
  | .lst => .none
def datA : List Dm → List PyData
  | [] => []
  | d :: ds => d.dat :: datA ds
end
mutual
def Dm.shut : Dm → Bool
  | .tup ds => shutA ds
  | .lst => false
  | .str x => PyData.strOk x
  | _ => true
def shutA : List Dm → Bool
  | [] => true
  | d :: ds => d.shut && shutA ds
end
mutual
theorem Dt.reads {pins : List (Addr × Obj)} {σ : St} {H : Hp} {s : Shared} (I : Inv X pins σ H s) : ∀ {x : V} {d : Dm} {u : Value}, Dt H x d → d.shut = true → RelV x u → ∃ as, Reads s.heap u d.dat as
  | _, _, _, .non, _, r => by cases r; exact ⟨_, .none⟩
  | _, _, _, .bl b, _, r => by cases r; exact ⟨_, .bool b⟩
  | _, _, _, .int i, _, r => by obtain ⟨t, rfl⟩ := r; exact ⟨_, .int i t⟩
  | _, _, _, .str x, _, r => by obtain ⟨t, rfl⟩ := r; exact ⟨_, .str x t⟩
  | _, _, _, .tup e ra, hs, r => by
    cases r
    obtain ⟨its, rv, ⟨o, ho, hc, n, hd⟩, _⟩ := I.tuple (SqT.of e)
    obtain ⟨as, q⟩ := DtA.reads I ra (by simpa [Dm.shut] using hs) rv
    exact ⟨as, by rw [Dm.dat]; exact .tuple ho hc hd (by simpa using q)⟩
  | _, _, _, .lst _, hs, _ => absurd hs (by simp [Dm.shut])
theorem DtA.reads {pins : List (Addr × Obj)} {σ : St} {H : Hp} {s : Shared} (I : Inv X pins σ H s) : ∀ {xs : List V} {ds : List Dm} {us : List Value}, DtA H xs ds → shutA ds = true → Vals xs us → ∃ as, ReadsAll s.heap us (datA ds) as
  | _, _, _, .nil, _, .nil => ⟨[], by rw [datA]; exact .nil⟩
  | _, _, _, .cons r t, hs, .cons rv rt => by
    rw [shutA, Bool.and_eq_true] at hs
    obtain ⟨as, q1⟩ := Dt.reads I r hs.1 rv
    obtain ⟨bs, q2⟩ := DtA.reads I t hs.2 rt
    exact ⟨as ++ bs, by rw [datA]; exact .cons q1 q2⟩
end
def EqD (H : Hp) (x y : V) (b : Bool) : Prop := ∃ d e, Dt H x d ∧ Dt H y e ∧ (d.shut = true ∧ SeqAt.shaped d.dat = true) ∧ (e.shut = true ∧ SeqAt.shaped e.dat = true) ∧ b = PyData.eqv d.dat e.dat
def qEqD (_ : PySem.W.Frag) : R2 := fun x y H Q => ∃ b, EqD H x y b ∧ Q (.bl b) H
def qNeD (_ : PySem.W.Frag) : R2 := fun x y H Q => ∃ b, EqD H x y b ∧ Q (.bl (!b)) H
theorem dEq (hu : X.A.units + 64 < cLine) : OpR X (compareOp .Eq) (qEqD X.K) := by
  intro pins s σ H x y v u Q I rx ry h
  obtain ⟨b, ⟨d, e, dx, dy, ⟨s1, s2⟩, ⟨s3, s4⟩, rfl⟩, q⟩ := h
  obtain ⟨as, ra⟩ := Dt.reads I dx s1 rx
  obtain ⟨bs, rb⟩ := Dt.reads I dy s3 ry
  exact eq_dataH ra rb s2 s4 hu ⟨.bl _, H, I, rfl, q⟩
theorem dNe (hu : X.A.units + 64 < cLine) : OpR X (compareOp .NotEq) (qNeD X.K) := by
  intro pins s σ H x y v u Q I rx ry h
  obtain ⟨b, ⟨d, e, dx, dy, ⟨s1, s2⟩, ⟨s3, s4⟩, rfl⟩, q⟩ := h
  obtain ⟨as, ra⟩ := Dt.reads I dx s1 rx
  obtain ⟨bs, rb⟩ := Dt.reads I dy s3 ry
  exact ne_dataH ra rb s2 s4 hu ⟨.bl _, H, I, rfl, q⟩
end
end L2


set_option Elab.async false
set_option linter.all false
set_option maxRecDepth 100000
namespace L2
open PySem PySem.Spec PyProof.Rows

/-! ### lists of pairs as tables -/
section
variable {κ : Type} [DecidableEq κ]
def valV (kvs : List (κ × V)) (k : κ) : Option V := (kvs.find? fun kv => decide (kv.1 = k)).map (·.2)
/-- in its place, or at the end -/
def putK (kvs : List (κ × V)) (k : κ) (v : V) : List (κ × V) :=
  if (kvs.any fun kv => decide (kv.1 = k)) = true then kvs.map (fun kv => if kv.1 = k then (kv.1, v) else kv) else kvs ++ [(k, v)]
def dropK (kvs : List (κ × V)) (k : κ) : List (κ × V) := kvs.filter fun kv => decide (kv.1 ≠ k)

theorem valV_pos {p : κ × V} {r : List (κ × V)} {k : κ} (e : p.1 = k) : valV (p :: r) k = some p.2 := by simp [valV, List.find?_cons, e]
theorem valV_neg {p : κ × V} {r : List (κ × V)} {k : κ} (e : ¬ p.1 = k) : valV (p :: r) k = valV r k := by simp [valV, List.find?_cons, e]
theorem valV_any (k : κ) : ∀ kvs : List (κ × V), (kvs.any fun kv => decide (kv.1 = k)) = (valV kvs k).isSome
  | [] => rfl
  | p :: r => by
    rw [List.any_cons]
    by_cases e : p.1 = k
    · simp only [valV_pos e, decide_eq_true e, Bool.true_or, Option.isSome_some]
    · rw [valV_neg e, decide_eq_false e, Bool.false_or]; exact valV_any k r
theorem length_putK (kvs : List (κ × V)) (k : κ) (v : V) : (putK kvs k v).length ≤ kvs.length + 1 := by
  unfold putK
  split
  · rw [List.length_map]; omega
  · rw [List.length_append, List.length_cons, List.length_nil]; omega
theorem RelO.isSome_eq {o : Option V} {u : Option Value} (r : RelO o u) : o.isSome = u.isSome := by
  cases o with
  | none => cases u with
    | none => rfl
    | some _ => exact (show False from r).elim
  | some _ => cases u with
    | none => exact (show False from r).elim
    | some _ => rfl
theorem RelO.getD {o : Option V} {u : Option Value} {d : V} {d' : Value} (r : RelO o u) (rd : RelV d d') : RelV (o.getD d) (u.getD d') := by
  cases o with
  | none => cases u with
    | none => exact rd
    | some _ => exact (show False from r).elim
  | some _ => cases u with
    | none => exact (show False from r).elim
    | some _ => exact r

/-- raw tables of the same keys -/
theorem KV.val {kvs : List (κ × V)} {vs : List (κ × Value)} (r : KV kvs vs) (k : κ) : RelO (valV kvs k) (valueAt vs k) := by
  unfold KV at r
  induction r with
  | nil => exact True.intro
  | @cons p q ps qs h t ih =>
    obtain ⟨h1, h2⟩ := h
    by_cases e : p.1 = k
    · have e' : q.1 = k := h1.symm.trans e
      have b : valueAt (q :: qs) k = some q.2 := by simp [valueAt, List.find?_cons, e']
      rw [valV_pos e, b]; exact h2
    · have e' : ¬ q.1 = k := fun z => e (h1.trans z)
      have b : valueAt (q :: qs) k = valueAt qs k := by simp [valueAt, List.find?_cons, e']
      rw [valV_neg e, b]; exact ih
theorem KV.any {kvs : List (κ × V)} {vs : List (κ × Value)} (r : KV kvs vs) (k : κ) : (kvs.any fun kv => decide (kv.1 = k)) = vs.any fun kv => decide (kv.1 = k) := by
  unfold KV at r
  induction r with
  | nil => rfl
  | cons h t ih => rw [List.any_cons, List.any_cons, ih, h.1]
theorem KV.repl {kvs : List (κ × V)} {vs : List (κ × Value)} (r : KV kvs vs) (k : κ) {y : V} {u : Value} (ry : RelV y u) :
    KV (kvs.map fun kv => if kv.1 = k then (kv.1, y) else kv) (vs.map fun kv => if kv.1 = k then (kv.1, u) else kv) := by
  unfold KV at r ⊢
  induction r with
  | nil => exact .nil
  | @cons p q ps qs h t ih =>
    rw [List.map_cons, List.map_cons]
    refine .cons ?_ ih
    obtain ⟨h1, h2⟩ := h
    by_cases e : p.1 = k
    · rw [if_pos e, if_pos (h1.symm.trans e)]; exact ⟨h1, ry⟩
    · rw [if_neg e, if_neg (fun z => e (h1.trans z))]; exact ⟨h1, h2⟩
theorem KV.put {kvs : List (κ × V)} {vs : List (κ × Value)} (r : KV kvs vs) (k : κ) {y : V} {u : Value} (ry : RelV y u) : KV (putK kvs k y) (stored vs k u) := by
  unfold putK stored
  rw [r.any k]
  by_cases e : (vs.any fun kv => decide (kv.1 = k)) = true
  · rw [if_pos e, if_pos e]; exact r.repl k ry
  · rw [if_neg e, if_neg e]; exact Paired.snoc r ⟨rfl, ry⟩
theorem KV.drop {kvs : List (κ × V)} {vs : List (κ × Value)} (r : KV kvs vs) (k : κ) : KV (dropK kvs k) (without vs k) := by
  unfold KV at r ⊢
  unfold dropK without
  induction r with
  | nil => exact .nil
  | @cons p q ps qs h t ih =>
    obtain ⟨h1, h2⟩ := h
    rw [List.filter_cons, List.filter_cons]
    by_cases e : p.1 = k
    · have a : ¬ decide (p.1 ≠ k) = true := by simp [e]
      have b : ¬ decide (q.1 ≠ k) = true := by simp [h1.symm.trans e]
      rw [if_neg a, if_neg b]; exact ih
    · have e' : ¬ q.1 = k := fun z => e (h1.trans z)
      have a : decide (p.1 ≠ k) = true := by simp [e]
      have b : decide (q.1 ≠ k) = true := by simp [e']
      rw [if_pos a, if_pos b]; exact .cons ⟨h1, h2⟩ ih
theorem KV.keys {kvs : List (κ × V)} {vs : List (κ × Value)} (r : KV kvs vs) : kvs.map (·.1) = vs.map (·.1) := by
  unfold KV at r
  induction r with
  | nil => rfl
  | cons h t ih => rw [List.map_cons, List.map_cons, ih, h.1]
theorem KV.length {kvs : List (κ × V)} {vs : List (κ × Value)} (r : KV kvs vs) : kvs.length = vs.length := Paired.length r
end


/-! ### a tracked dict, its keys ints and texts or tuples of these -/
theorem kV_is {P : Program} {w : World} {k : Key} {u : Value} (r : RelV (kV k) u) : (mixKind P w).is k u = true := by
  cases k with
  | inl i => obtain ⟨t, e⟩ := (show ∃ t, u = Value.int i t from r); subst e; exact mixKind_int P w i t
  | inr x => obtain ⟨t, e⟩ := (show ∃ t, u = Value.str x t from r); subst e; exact mixKind_str P w x t
theorem items_are {P : Program} {w : World} : ∀ {ks : List Key} {us : List Value}, Vals (ks.map kV) us → ItemsAre (mixKind P w) ks us
  | [], _, r => by rw [List.map_nil] at r; cases r; exact .nil
  | k :: ks, _, r => by
    rw [List.map_cons] at r
    cases r with
    | cons h t => exact .cons (kV_is h) (items_are t)

/-- raw entries of a dict with tuple keys -/
abbrev KT (H : Hp) : List (List Key × V) → List (List Key × Addr × Value) → Prop := Paired fun p q => p.1 = q.1 ∧ H q.2.1 = some (.tup (p.1.map kV)) ∧ RelV p.2 q.2.2
theorem KT.val {H : Hp} {kvs : List (List Key × V)} {xs : List (List Key × Addr × Value)} (r : KT H kvs xs) (k : List Key) : RelO (valV kvs k) ((atKey xs k).map (·.2)) := by
  induction r with
  | nil => exact True.intro
  | @cons p q ps qs h t ih =>
    obtain ⟨h1, _, h2⟩ := h
    by_cases e : p.1 = k
    · have e' : q.1 = k := h1.symm.trans e
      have b : atKey (q :: qs) k = some q.2 := by simp [atKey, List.find?_cons, e']
      rw [valV_pos e, b]; exact h2
    · have e' : ¬ q.1 = k := fun z => e (h1.trans z)
      have b : atKey (q :: qs) k = atKey qs k := by simp [atKey, List.find?_cons, e']
      rw [valV_neg e, b]; exact ih
theorem KT.repl {H : Hp} {kvs : List (List Key × V)} {xs : List (List Key × Addr × Value)} (r : KT H kvs xs) (k : List Key) {y : V} {u : Value} (ry : RelV y u) :
    KT H (kvs.map fun kv => if kv.1 = k then (kv.1, y) else kv) (xs.map (putAt k u)) := by
  induction r with
  | nil => exact .nil
  | @cons p q ps qs h t ih =>
    rw [List.map_cons, List.map_cons]
    refine .cons ?_ ih
    obtain ⟨h1, h2, h3⟩ := h
    unfold putAt
    by_cases e : p.1 = k
    · rw [if_pos e, if_pos (h1.symm.trans e)]; exact ⟨h1, h2, ry⟩
    · rw [if_neg e, if_neg (fun z => e (h1.trans z))]; exact ⟨h1, h2, h3⟩
theorem KT.put {H : Hp} {kvs : List (List Key × V)} {xs : List (List Key × Addr × Value)} (r : KT H kvs xs) (k : List Key) {b : Addr} {y : V} {u : Value} (hb : H b = some (.tup (k.map kV))) (ry : RelV y u) :
    KT H (putK kvs k y) (storedH xs k b u) := by
  have e : (kvs.any fun kv => decide (kv.1 = k)) = (atKey xs k).isSome := by
    rw [valV_any, (r.val k).isSome_eq, Option.isSome_map]
  unfold putK storedH
  rw [e]
  by_cases q : (atKey xs k).isSome = true
  · rw [if_pos q, if_pos q]; exact r.repl k ry
  · rw [if_neg q, if_neg q]; exact Paired.snoc r ⟨rfl, hb, ry⟩
theorem KT.keeps {H H' : Hp} {kvs : List (List Key × V)} {xs : List (List Key × Addr × Value)} (r : KT H kvs xs) (ht : ∀ b ys, H b = some (.tup ys) → H' b = some (.tup ys)) : KT H' kvs xs :=
  Paired.mapP r fun _ _ z => ⟨z.1, ht _ _ z.2.1, z.2.2⟩

section
variable {P : Program} {w : World} {H : Hp} {h : Heap} {a : Addr}
theorem rd_of {u : HO} (ok : HOk P w H h) (e : Rd H a u) : ObjOk P w H h a u := e.ok ok
theorem dk_rd {kvs : List (Key × V)} (ok : HOk P w H h) (e : Rd H a (.dK kvs)) : kvs.length ≤ sizeLine ∧ (a == sysModules) = false ∧ ∃ vs, KV kvs vs ∧ h.DictOf (mixKind P w) a vs :=
  show ObjOk P w H h a (.dK kvs) from rd_of ok e
theorem dk_of {kvs : List (Key × V)} (ok : HOk P w H h) (e : H a = some (.dK kvs)) : kvs.length ≤ sizeLine ∧ (a == sysModules) = false ∧ ∃ vs, KV kvs vs ∧ h.DictOf (mixKind P w) a vs := dk_rd ok (.inl e)
/-- a tracked tuple of ints and texts is a key -/
theorem key_of {ks : List Key} (ok : HOk P w H h) (e : H a = some (.tup (ks.map kV))) : (tupleKind (mixKind P w)).is h ks a := by
  obtain ⟨_, its, r, o, h1, h2, n, h3⟩ := (show ObjOk P w H h a (.tup (ks.map kV)) from ok a _ e)
  exact ⟨o, its.toArray, n, h1, h2, h3, by simpa using items_are r⟩
theorem dt_rd {kvs : List (List Key × V)} (ok : HOk P w H h) (e : Rd H a (.dT kvs)) : kvs.length ≤ sizeLine ∧ (a == sysModules) = false ∧
    ∃ xs, KT H kvs xs ∧ h.DictOfH (tupleKind (mixKind P w)) a xs := by
  obtain ⟨z, y, xs, r, o, es, ep, h1, h2, h3, h4, h5⟩ := (show ObjOk P w H h a (.dT kvs) from rd_of ok e)
  refine ⟨z, y, xs, r, o, es, ep, h1, h2, h3, h4, fun x hx => ?_, h5⟩
  have all : ∀ {l : List (List Key × V)} {m : List (List Key × Addr × Value)}, KT H l m → ∀ x ∈ m, (tupleKind (mixKind P w)).is h x.1 x.2.1 := by
    intro l m q
    induction q with
    | nil => intro x hx; exact nomatch hx
    | @cons p q ps qs hq t ih =>
      intro x hx
      rcases List.mem_cons.mp hx with e | hx
      · subst e
        exact key_of ok (by rw [← hq.1]; exact hq.2.1)
      · exact ih x hx
  exact all r x hx
theorem dt_of {kvs : List (List Key × V)} (ok : HOk P w H h) (e : H a = some (.dT kvs)) : kvs.length ≤ sizeLine ∧ (a == sysModules) = false ∧
    ∃ xs, KT H kvs xs ∧ h.DictOfH (tupleKind (mixKind P w)) a xs := dt_rd ok (.inl e)
end

/-- what the dict at a holds at the key y -/
def DGet (H : Hp) (a : Addr) (y : V) (r : Option V) : Prop :=
  (∃ kvs k, Rd H a (.dK kvs) ∧ y = kV k ∧ r = valV kvs k) ∨ ∃ kvs k b, Rd H a (.dT kvs) ∧ y = .ref b ∧ H b = some (.tup (k.map kV)) ∧ r = valV kvs k
/-- the heap behind a[y] = v -/
def DPut (H : Hp) (a : Addr) (y v : V) (H' : Hp) : Prop :=
  (∃ kvs k, H a = some (.dK kvs) ∧ y = kV k ∧ kvs.length < sizeLine ∧ H' = upd H a (.dK (putK kvs k v))) ∨
  ∃ kvs k b, H a = some (.dT kvs) ∧ y = .ref b ∧ H b = some (.tup (k.map kV)) ∧ kvs.length < sizeLine ∧ H' = upd H a (.dT (putK kvs k v))
theorem DGet.k {H : Hp} {a : Addr} {kvs : List (Key × V)} {k : Key} (e : H a = some (.dK kvs)) : DGet H a (kV k) (valV kvs k) := .inl ⟨kvs, k, .inl e, rfl, rfl⟩
theorem DGet.t {H : Hp} {a b : Addr} {kvs : List (List Key × V)} {k : List Key} (e : H a = some (.dT kvs)) (eb : H b = some (.tup (k.map kV))) : DGet H a (.ref b) (valV kvs k) := .inr ⟨kvs, k, b, .inl e, rfl, eb, rfl⟩
theorem DPut.k {H : Hp} {a : Addr} {kvs : List (Key × V)} {k : Key} {v : V} (e : H a = some (.dK kvs)) (hl : kvs.length < sizeLine) : DPut H a (kV k) v (upd H a (.dK (putK kvs k v))) := .inl ⟨kvs, k, e, rfl, hl, rfl⟩
theorem DPut.t {H : Hp} {a b : Addr} {kvs : List (List Key × V)} {k : List Key} {v : V} (e : H a = some (.dT kvs)) (eb : H b = some (.tup (k.map kV))) (hl : kvs.length < sizeLine) :
    DPut H a (.ref b) v (upd H a (.dT (putK kvs k v))) := .inr ⟨kvs, k, b, e, rfl, eb, hl, rfl⟩


section
variable {X : Cx} {pins : List (Addr × Obj)} {σ : St} {H : Hp} {s : Shared} {a : Addr} {y v : V} {u r : Value} {o : Option V} {A : Around} {E : Value → Shared → Prop}

theorem Inv.big (I : Inv X pins σ H s) : sysModules < s.heap.objs.size := by
  have h : mainGlobals < s.heap.objs.size := (I.mod.glob.keeps I.bk).lt
  exact Nat.lt_trans (by decide) h

/-- a dict's object is replaced -/
theorem d_write {h' : Heap} {t' : Nat} {ob : HO} (I : Inv X pins σ H s) (mu : Mut (H a)) (hs : Heap.SameBut a s.heap h') (he : ∃ q, h'.get? a = some q) (new : ObjOk X.prog X.w (upd H a ob) h' a ob) :
    Inv X pins σ (upd H a ob) { s with heap := h', toks := t' } :=
  I.write (x := a) (e := a) mu (.inl rfl) (fun b q hb z => (hs.2 b hb).trans z) he new
theorem dk_new {P : Program} {w : World} {H' : Hp} {h' : Heap} {kvs : List (Key × V)} {vs : List (Key × Value)} (z : kvs.length ≤ sizeLine) (hd : (a == sysModules) = false) (rel : KV kvs vs) (dd : h'.DictOf (mixKind P w) a vs) :
    ObjOk P w H' h' a (.dK kvs) := ⟨z, hd, vs, rel, dd⟩
/-- d[y] = v -/
theorem d_setItem {H' : Hp} {Q : Unit → Shared → Prop} (hu : A.units + 1 < cLine) (I : Inv X pins σ H s) (g : DPut H a y v H') (ry : RelV y u) (rv : RelV v r) (h : ∀ s', Inv X pins σ H' s' → Q () s') :
    wpAny (model X.prog X.w) A (setItem (.ref a) u r) Q E s := by
  rcases g with ⟨kvs, k, e, ey, l, eH⟩ | ⟨kvs, k, b, e, ey, eb, l, eH⟩
  · subst ey eH
    obtain ⟨z, hd, vs, rel, dd⟩ := dk_of I.hok e
    have hz : vs.length ≤ sizeLine := by rw [← rel.length]; exact z
    have hl : (putK kvs k v).length ≤ sizeLine := by have := length_putK kvs k v; omega
    refine wpAny_setItem_pairs (hsz := hz) (kV_is ry) dd fun h' dd' hs => h _ ?_
    have he : ∃ q, h'.get? a = some q := let ⟨q, _, _, hq, _⟩ := dd'; ⟨q, hq⟩
    exact d_write I (by rw [e]; exact True.intro) hs he (dk_new hl hd (rel.put k rv) dd')
  · subst ey eH
    cases (show u = Value.ref b from ry)
    obtain ⟨z, hd, xs, rel, dd⟩ := dt_of I.hok e
    have hz : xs.length ≤ sizeLine := by rw [← Paired.length rel]; exact z
    have hl : (putK kvs k v).length ≤ sizeLine := by have := length_putK kvs k v; omega
    refine wpAny_setItem_heap (hsz := hz) (tupleKind_room_in1 hu) (key_of I.hok eb) dd fun h' dd' hs => h _ ?_
    obtain ⟨q, es, ep, hq, h2, h3, h4, _, h5⟩ := dd'
    refine d_write I (by rw [e]; exact True.intro) hs ⟨q, hq⟩ ⟨hl, hd, _, (rel.put k eb rv).keeps fun c ys ec => ?_, q, es, ep, hq, h2, h3, h4, h5⟩
    rw [upd_ne (ne_of ec e (fun z => nomatch z))]
    exact ec
end

section
variable {X : Cx} {pins : List (Addr × Obj)} {σ : St} {H : Hp} {s : Shared} {a : Addr} {kvs : List (Key × V)} {k : Key} {u : Value} {A : Around} {E : Value → Shared → Prop}
end


/-! ### readings and rules -/
/-- d[y] -/
def tDGet (td ty : TE) : TE := fun σ H Q => td σ H fun x H1 => ty σ H1 fun y H2 => ∃ a v, x = .ref a ∧ DGet H2 a y (some v) ∧ Q v H2
/-- d[y] = v -/
def sDPut (td ty tv : TE) : TS := fun D σ H => tv σ H fun v H1 => td σ H1 fun x H2 => ty σ H2 fun y H3 => ∃ a H4, x = .ref a ∧ DPut H3 a y v H4 ∧ D.nx σ H4
section
variable {X : Cx} {o i e value : Expr} {pos pos' tpos : Pos} {td ty tv : TE}
theorem ps_dput (hu : X.A.units + 1 < cLine) (ho : PE X o td) (hi : PE X i ty) (hv : PE X value tv) (hs : swapsWith value (some (.Subscript o i pos')) pos.line X.env = pure false) :
    PS X (.Assign [.Subscript o i pos'] value pos) (sDPut td ty tv) := by
  intro pins s σ H D I h
  refine wpAny_Assign_Subscript (thn (hv pins s σ H _ I h) fun r s1 ⟨v, H1, I1, rv, q1⟩ => thn (ho pins s1 σ H1 _ I1 q1) fun u s2 ⟨x, H2, I2, rx, q2⟩ => thn (hi pins s2 σ H2 _ I2 q2) fun iv s3 ⟨y, H3, I3, ry, a, H4, ex, g, q3⟩ => ?_) hs
  subst ex
  obtain rfl : u = Value.ref a := rx
  exact d_setItem hu I3 g ry rv fun s4 I4 => ⟨σ, H4, I4, q3⟩
end


/-! ### displays -/
theorem dk_empty {P : Program} {w : World} {H : Hp} (h : Heap) (hb : sysModules < h.objs.size) : ObjOk P w H (h.push { cls := .type "dict", data := .dict #[] }) h.objs.size (.dK []) :=
  ⟨Nat.zero_le _, beq_eq_false_iff_ne.mpr (Ne.symm (Nat.ne_of_lt hb)), [], .nil, Heap.DictOf.new h⟩
/-- {}, to be a dict of the kind that is wanted -/
def tDNewK : TE := fun _ H Q => ∀ p, H p = none → Q (.ref p) (upd H p (.dK []))
section
variable {X : Cx} {pos : Pos}
theorem pe_dnewK : PE X (.Dict [] [] pos) tDNewK := fun pins s σ H Q I h =>
  wpAny_Dict_empty ⟨.ref s.heap.objs.size, _, I.laid (a := s.heap.objs.size) (o := .dK []) (t' := s.toks) (fun _ _ q => Heap.get?_push_of_some _ q) (Nat.le_refl _) (dk_empty s.heap I.big), rfl, h _ (I.hok.fresh (Nat.le_refl _))⟩
end

/-- the pairs of a display, from the left -/
def tPairs : List (TE × TE) → St → Hp → (List (V × V) → Hp → Prop) → Prop
  | [], _, H, Q => Q [] H
  | (tk, tv) :: r, σ, H, Q => tk σ H fun x H1 => tv σ H1 fun y H2 => tPairs r σ H2 fun ps H3 => Q ((x, y) :: ps) H3
def mergeK (kvs more : List (Key × V)) : List (Key × V) := more.foldl (fun acc kv => putK acc kv.1 kv.2) kvs
/-- {k: v, ..} with keys ints and texts; the new dict stands empty while the pairs are made -/
def tDisp (trs : List (TE × TE)) : TE := fun σ H Q => ∀ p, H p = none → tPairs trs σ (upd H p (.dK [])) fun ps H2 => H2 p = some (.dK []) ∧ ∃ kvs : List (Key × V), ps = kvs.map (fun kv => (kV kv.1, kv.2)) ∧ kvs.length ≤ 15 ∧ Q (.ref p) (upd H2 p (.dK (mergeK [] kvs)))
/-! ### methods -/
/-- a method call o.m(e) of a built-in, with one argument: what must be seen of the text -/
structure M1 (X : Cx) (o : Expr) (m : Str) (apos : Pos) (e : Expr) (cpos : Pos) : Prop where
  base : attributeBase o m X.env (eval o X.env) = eval o X.env
  few : ((backTo cpos (starEach [e] X.env)).all (fun x => !x.1) && (backToKw cpos (keywordEach [] X.env)).all (fun x => x.1.isSome)
    && decide (([e] : List Expr).length + ([] : List Keyword).length + (if ([] : List Keyword).isEmpty then 0 else 1) < 30)) = true
  line : (apos.endLine == cpos.line) = true
  trees : backTo cpos (starEach [e] X.env) = [(false, eval e X.env)]
structure M2 (X : Cx) (o : Expr) (m : Str) (apos : Pos) (e f : Expr) (cpos : Pos) : Prop where
  base : attributeBase o m X.env (eval o X.env) = eval o X.env
  few : ((backTo cpos (starEach [e, f] X.env)).all (fun x => !x.1) && (backToKw cpos (keywordEach [] X.env)).all (fun x => x.1.isSome)
    && decide (([e, f] : List Expr).length + ([] : List Keyword).length + (if ([] : List Keyword).isEmpty then 0 else 1) < 30)) = true
  line : (apos.endLine == cpos.line) = true
  trees : backTo cpos (starEach [e, f] X.env) = [(false, eval e X.env), (false, eval f X.env)]

/-- a is a dict, whatever its keys -/
def IsD (H : Hp) (a : Addr) : Prop := (∃ kvs, Rd H a (.dK kvs)) ∨ ∃ kvs, Rd H a (.dT kvs)
theorem isD_at {X : Cx} {pins : List (Addr × Obj)} {σ : St} {H : Hp} {s : Shared} {a : Addr} (I : Inv X pins σ H s) (d : IsD H a) :
    s.TypeIs (.ref a) "dict" ∧ (∀ b, Value.ref a = .ref b → ∃ ob, s.heap.get? b = some ob ∧ ob.dict = none) ∧ (a == sysModules) = false := by
  rcases d with ⟨kvs, e⟩ | ⟨kvs, e⟩
  · obtain ⟨_, hd, vs, _, dd⟩ := dk_rd I.hok e
    refine ⟨dd.typeIs, fun b q => ?_, hd⟩
    cases q
    obtain ⟨ob, _, _, h1, h2, _⟩ := dd
    exact ⟨ob, h1, h2.2.1⟩
  · obtain ⟨_, hd, xs, _, dd⟩ := dt_rd I.hok e
    refine ⟨dd.typeIs, fun b q => ?_, hd⟩
    cases q
    obtain ⟨ob, _, _, h1, h2, _⟩ := dd
    exact ⟨ob, h1, h2.2.1⟩

section
variable {X : Cx} {pins : List (Addr × Obj)} {σ : St} {H : Hp} {s : Shared} {a : Addr} {y d : V} {u r : Value} {o : Option V} {A : Around} {E : Value → Shared → Prop}
/-- d.get(y) -/
theorem d_get1 {Q : Value → Shared → Prop} (hu : A.units + 1 < cLine) (I : Inv X pins σ H s) (g : DGet H a y o) (ry : RelV y u) (h : ∀ w' s', Inv X pins σ H s' → RelV (o.getD .non) w' → Q w' s') :
    wpAny (model X.prog X.w) A (call (.builtin "dict.get") [.ref a, u]) Q E s := by
  rcases g with ⟨kvs, k, e, ey, l⟩ | ⟨kvs, k, b, e, ey, eb, l⟩
  · subst ey
    obtain ⟨z, hd, vs, rel, dd⟩ := dk_rd I.hok e
    refine call_meetsIn PySem.F.slot_dict_get dd.typeIs PySem.F.entry_dict_get (PySem.F.args_dict_get_2 _ _) (meets_dict_get (mixKind X.prog X.w) a (kV_is ry) hd) ⟨_, dd.mapOf, h _ _ (I.tok _) ?_⟩
    rw [l]
    exact (rel.val k).getD rfl
  · subst ey
    cases (show u = Value.ref b from ry)
    obtain ⟨z, hd, xs, rel, dd⟩ := dt_rd I.hok e
    refine call_meetsIn PySem.F.slot_dict_get dd.typeIs PySem.F.entry_dict_get (PySem.F.args_dict_get_2 _ _) (meetsH_dict_get (tupleKind (mixKind X.prog X.w)) a b hd) ⟨tupleKind_room_in1 hu, k, xs, key_of I.hok eb, dd, h _ _ (I.tok _) ?_⟩
    rw [l]
    exact (rel.val k).getD rfl
/-- d.get(y, x) -/
theorem d_get2 {Q : Value → Shared → Prop} (hu : A.units + 1 < cLine) (I : Inv X pins σ H s) (g : DGet H a y o) (ry : RelV y u) (rd : RelV d r) (h : ∀ w' s', Inv X pins σ H s' → RelV (o.getD d) w' → Q w' s') :
    wpAny (model X.prog X.w) A (call (.builtin "dict.get") [.ref a, u, r]) Q E s := by
  rcases g with ⟨kvs, k, e, ey, l⟩ | ⟨kvs, k, b, e, ey, eb, l⟩
  · subst ey
    obtain ⟨z, hd, vs, rel, dd⟩ := dk_rd I.hok e
    refine call_meetsIn PySem.F.slot_dict_get dd.typeIs PySem.F.entry_dict_get (PySem.F.args_dict_get_3 _ _ _) (meets_dict_get_default (mixKind X.prog X.w) a (kV_is ry) hd r) ⟨_, dd.mapOf, h _ _ (I.tok _) ?_⟩
    rw [l]
    exact (rel.val k).getD rd
  · subst ey
    cases (show u = Value.ref b from ry)
    obtain ⟨z, hd, xs, rel, dd⟩ := dt_rd I.hok e
    refine call_meetsIn PySem.F.slot_dict_get dd.typeIs PySem.F.entry_dict_get (PySem.F.args_dict_get_3 _ _ _) (meetsH_dict_get_default (tupleKind (mixKind X.prog X.w)) a b hd r) ⟨tupleKind_room_in1 hu, k, xs, key_of I.hok eb, dd, h _ _ (I.tok _) ?_⟩
    rw [l]
    exact (rel.val k).getD rd
end

def tDGet1 (td ty : TE) : TE := fun σ H Q => td σ H fun x H1 => ∃ a, x = .ref a ∧ IsD H1 a ∧ ty σ H1 fun y H2 => ∃ o, DGet H2 a y o ∧ Q (o.getD .non) H2
def tDGet2 (td ty tx : TE) : TE := fun σ H Q => td σ H fun x H1 => ∃ a, x = .ref a ∧ IsD H1 a ∧ ty σ H1 fun y H2 => tx σ H2 fun z H3 => ∃ o, DGet H3 a y o ∧ Q (o.getD z) H3
section
variable {X : Cx} {o e f : Expr} {apos cpos : Pos} {td ty tx : TE}
theorem pe_dget1 (hu : X.A.units + 1 < cLine) (ho : PE X o td) (he : PE X e ty) (m : M1 X o "get" apos e cpos) : PE X (.Call (.Attribute o "get" apos) [e] [] cpos) (tDGet1 td ty) := by
  intro pins s σ H Q I h
  refine wpAny_Call_method m.base m.few m.line PySem.F.plainAttrs_dict PySem.F.slot_dict_get PySem.F.type_dict_get (thn (ho pins s σ H _ I h) fun u s1 ⟨x, H1, I1, rx, a, ex, d, q1⟩ => ?_)
  subst ex
  obtain rfl : u = Value.ref a := rx
  obtain ⟨t1, t2, _⟩ := isD_at I1 d
  refine ⟨t1, t2, ?_⟩
  rw [m.trees]
  refine Calls.callWith_builtin rfl (Calls.evalArgs_plain (Calls.spliced_cons (thn (he pins s1 σ H1 _ I1 q1) fun iv s2 ⟨y, H2, I2, ry, ov, g, q2⟩ => Calls.spliced_nil ?_)))
  exact d_get1 hu I2 g ry fun w' s3 I3 rw' => ⟨_, H2, I3, rw', q2⟩
theorem pe_dget2 (hu : X.A.units + 1 < cLine) (ho : PE X o td) (he : PE X e ty) (hf : PE X f tx) (m : M2 X o "get" apos e f cpos) : PE X (.Call (.Attribute o "get" apos) [e, f] [] cpos) (tDGet2 td ty tx) := by
  intro pins s σ H Q I h
  refine wpAny_Call_method m.base m.few m.line PySem.F.plainAttrs_dict PySem.F.slot_dict_get PySem.F.type_dict_get (thn (ho pins s σ H _ I h) fun u s1 ⟨x, H1, I1, rx, a, ex, d, q1⟩ => ?_)
  subst ex
  obtain rfl : u = Value.ref a := rx
  obtain ⟨t1, t2, _⟩ := isD_at I1 d
  refine ⟨t1, t2, ?_⟩
  rw [m.trees]
  refine Calls.callWith_builtin rfl (Calls.evalArgs_plain (Calls.spliced_cons (thn (he pins s1 σ H1 _ I1 q1) fun iv s2 ⟨y, H2, I2, ry, q2⟩ =>
    Calls.spliced_cons (thn (hf pins s2 σ H2 _ I2 q2) fun fv s3 ⟨z, H3, I3, rz, ov, g, q3⟩ => Calls.spliced_nil ?_))))
  exact d_get2 hu I3 g ry rz fun w' s4 I4 rw' => ⟨_, H3, I4, rw', q3⟩
end

/-! ### dict(d): a copy -/
section
variable {X : Cx} {pins : List (Addr × Obj)} {σ : St} {H : Hp} {s : Shared} {a : Addr} {kvs : List (Key × V)} {A : Around} {E : Value → Shared → Prop}
end


section
variable {X : Cx} {pins : List (Addr × Obj)} {σ : St} {H : Hp} {s : Shared} {a : Addr} {y : V} {u : Value} {A : Around} {E : Value → Shared → Prop}
end
section
variable {X : Cx}
end
/-! ### a dict's pairs: keys that differ -/
section
variable {κ : Type} [DecidableEq κ]
end
end L2


set_option Elab.async false
set_option linter.all false
set_option maxRecDepth 100000
/-! a dict of the text's top, by ints -/
namespace L2
open PySem PySem.Spec PyProof.Rows
section
variable {X : Cx}
def KMap (K : PySem.W.Frag) (a : Addr) (f : Int → Option Value) : Prop := ∃ o es ep, K.lookup a = some o ∧ o.ExactDict ∧ o.data = .dict es ep ∧ (∀ e ∈ es, ∃ k, Value.isInt k e.key = true ∧ e.hash = hashInt k) ∧ ∀ k, findBy Value.isInt es k = f k
def tKGet (K : PySem.W.Frag) (td ty : TE) : TE := fun σ H Q => td σ H fun x H1 => ty σ H1 fun y H2 => ∃ a k u v f, x = .ref a ∧ y = .int k ∧ KMap K a f ∧ f k = some u ∧ RelV v u ∧ Q v H2
end
end L2


set_option Elab.async false
set_option linter.all false
set_option maxRecDepth 100000
/-! enumerate and zip over lists -/
namespace L2
open PySem PySem.Spec PyProof.Rows
section
variable {X : Cx} {pins : List (Addr × Obj)} {σ : List (Option V)} {H : Hp} {s : Shared} {h' : Heap}
/-- several untracked records have turned -/
theorem Inv.turnedL {t' : Nat} {ch : List Addr} (I : Inv X pins σ H s) (k : ∀ b o, b ∉ ch → s.heap.get? b = some o → h'.get? b = some o) (hf : ∀ b ∈ ch, FpOk X pins H b) : Inv X pins σ H { s with heap := h', toks := t' } := by
  have nit : ∀ b u, H b = some u → b ∉ ch := fun b u e z => by rw [(hf b z).1] at e; cases e
  refine I.step (g' := s.gens) (d' := s.drawn) (ch := ch) (fun b hb => ?_) (fun b o _ _ hc e _ => k b o hc e) (fun b o _ _ hc e _ => ⟨o.slots, k b o hc e⟩) (fun _ _ _ _ n => n)
    (fun b o hc e => ⟨o, k b o hc e⟩) (fun _ _ e => e) (fun _ _ _ e => e) (fun b ps e => ⟨#[], by rw [e]; simp⟩) (fun m hm => ?_) (fun b u e => ?_) I.bare
  · obtain ⟨_, f1, _, f3, f4, f5⟩ := hf b hb
    exact ⟨f3, f1, f4, f5⟩
  · obtain ⟨o, es, ep, ho, r⟩ := hm
    exact ⟨o, es, ep, k _ o (fun z => (hf _ z).2.1 rfl) ho, r⟩
  · refine (I.hok b u e).stay (fun c v hc q => k c v ?_ q) (fun _ q => q) fun _ _ q => q
    rcases hc with z | z
    · rw [z]; exact nit b u e
    · exact nit c _ z
end
/-- a pair for each turn: new tuples -/
def Ite (K : PySem.W.Frag) (a : Addr) : It :=
  ⟨fun i H => ∃ xs x, SqL K H a xs ∧ xs[i]? = some x, fun i H x H' => ∃ T v, x = .ref T ∧ H T = none ∧ H' = upd H T (.tup [.int i, v]) ∧ ∀ xs, SqL K H a xs → xs[i]? = some v, fun i H => ∃ xs, SqL K H a xs ∧ xs.length ≤ i⟩
def Itz (K : PySem.W.Frag) (a b : Addr) : It :=
  ⟨fun i H => ∃ xs ys x y, SqL K H a xs ∧ SqL K H b ys ∧ xs[i]? = some x ∧ ys[i]? = some y, fun i H x H' => ∃ T u v, x = .ref T ∧ H T = none ∧ H' = upd H T (.tup [u, v]) ∧ (∀ xs, SqL K H a xs → xs[i]? = some u) ∧ ∀ ys, SqL K H b ys → ys[i]? = some v,
    fun i H => ∃ xs ys, SqL K H a xs ∧ SqL K H b ys ∧ (xs.length ≤ i ∨ ys.length ≤ i)⟩
theorem two_le : (2 : Nat) ≤ sizeLine := by decide
section
variable {X : Cx}
def iEnum (K : PySem.W.Frag) (ta : TA) : TI := fun σ H R => ta σ H fun vs H1 => ∃ a, vs = [.ref a] ∧ (∃ xs, SqL K H1 a xs) ∧ R (Ite K a) H1
end
section
variable {X : Cx}
def iZip (K : PySem.W.Frag) (ta : TA) : TI := fun σ H R => ta σ H fun vs H1 => ∃ a b, vs = [.ref a, .ref b] ∧ (∃ xs, SqL K H1 a xs) ∧ (∃ ys, SqL K H1 b ys) ∧ R (Itz K a b) H1
end
end L2


set_option Elab.async false
set_option linter.all false
set_option maxRecDepth 100000
/-! dicts copied and listed, texts sorted, a list or a tuple walked -/
namespace L2
open PySem PySem.Spec PyProof.Rows
theorem Room.units1 {k : Nat} {A : Around} (r : Room k A) : A.units + 1 < cLine := by have := r.un; omega
section
variable {X : Cx}
theorem strsAre_of : ∀ {ns : List Str} {us : List Value}, Vals (ns.map V.str) us → StrsAre us ns
  | [], _, .nil => .nil
  | n :: ns, _ :: _, .cons r t => by
    obtain ⟨k, rfl⟩ := r
    exact .cons n k (strsAre_of t)
def qSortS (K : PySem.W.Frag) : List V → Hp → VK → Prop := fun xs H Q => ∃ (a : Addr) (ns : List Str), xs = [.ref a] ∧ SqL K H a (ns.map V.str) ∧ ns.length < 64 ∧ ∀ (l : Addr) (ms : List Str), H l = none → ms.Perm ns → sortedS ms = true → Q (.ref l) (upd H l (.lst (ms.map V.str)))
/-! ### a chain of three comparisons, as a test -/
def tChain3 (r r' r'' : R2) (ta tb tc td : TE) : TT := fun σ H Q => ta σ H fun x H1 => tb σ H1 fun y H2 => r x y H2 fun z H3 => ∃ k, z = .bl k ∧ (if k = true then tc σ H3 fun w H4 => r' y w H4 fun z H5 => ∃ k, z = .bl k ∧
  (if k = true then td σ H5 fun v H6 => r'' w v H6 fun z H7 => ∃ k, z = .bl k ∧ Q k H7 else Q false H5) else Q false H3)
/-! ### a list or a tuple, walked -/
def iSeq (K : PySem.W.Frag) (tl : TE) : TI := fun σ H R => tl σ H fun x H1 => ∃ a, x = .ref a ∧ (((∃ xs, SqL K H1 a xs) ∧ R (Itl K a) H1) ∨ ((∃ xs, SqT K H1 a xs) ∧ R (Itt K a) H1))
end
/-! ### == of lists of nested data -/
section
variable {X : Cx}
def EqDL (K : PySem.W.Frag) (H : Hp) (x y : V) (b : Bool) : Prop := ∃ a c xs ys ds es, x = .ref a ∧ y = .ref c ∧ SqL K H a xs ∧ SqL K H c ys ∧ DtA H xs ds ∧ DtA H ys es ∧ shutA ds = true ∧ shutA es = true ∧ SeqAt.shaped (.list (datA ds)) = true ∧ SeqAt.shaped (.list (datA es)) = true ∧ b = PyData.eqv (.list (datA ds)) (.list (datA es))
def qEqDL (K : PySem.W.Frag) : R2 := fun x y H Q => ∃ b, EqDL K H x y b ∧ Q (.bl b) H
def qNeDL (K : PySem.W.Frag) : R2 := fun x y H Q => ∃ b, EqDL K H x y b ∧ Q (.bl (!b)) H
theorem Inv.readsDL {pins : List (Addr × Obj)} {σ : St} {H : Hp} {s : Shared} {a : Addr} {xs : List V} {ds : List Dm} (I : Inv X pins σ H s) (h : SqL X.K H a xs) (d : DtA H xs ds) (hs : shutA ds = true) : ∃ as, Reads s.heap (.ref a) (.list (datA ds)) as := by
  obtain ⟨its, r, ⟨o, n, e, c, _, dd⟩, _⟩ := I.list h
  obtain ⟨as, q⟩ := DtA.reads I d hs r
  exact ⟨_, .list e c dd (by simpa using q)⟩
theorem dlNe (hu : X.A.units + 64 < cLine) : OpR X (compareOp .NotEq) (qNeDL X.K) := by
  intro pins s σ H x y v u Q I rx ry h
  obtain ⟨b, ⟨a, c, xs, ys, ds, es, rfl, rfl, h1, h2, d1, d2, s1, s2, s3, s4, rfl⟩, q⟩ := h
  cases rx; cases ry
  obtain ⟨as, ra⟩ := I.readsDL h1 d1 s1
  obtain ⟨bs, rb⟩ := I.readsDL h2 d2 s2
  exact ne_dataH ra rb s3 s4 hu ⟨.bl _, H, I, rfl, q⟩
end
end L2


set_option Elab.async false
set_option linter.all false
set_option maxRecDepth 100000
namespace L2
open PySem PyProof.Rows
section
variable {P : Program} {w : World} {A : Around} {E : Value → Shared → Prop} {s : Shared}
/-- the next of a tuple's walk, asked by name -/
theorem nx_tup {it t : Addr} {i : Nat} {its : Array Value} {x : Value} {Q : Value → Shared → Prop} (a : s.heap.IsTupleIter it t i) (b : s.heap.IsTuple t its) (c : its[i]? = some x)
    (q : ∀ h', h'.IsTupleIter it t (i + 1) → Heap.SameBut it s.heap h' → Q x { s with heap := h' }) : wpAny (model P w) A (Builtin.SmallTypes.nextOf (.ref it)) Q E s := by
  have ty := a.typeIs
  obtain ⟨⟨_, dc, _, sl⟩, eo, rfl, rfl⟩ := a
  obtain ⟨⟨_, dl, _, ll⟩, el, rfl, nl, rfl⟩ := b
  rw [Builtin.SmallTypes.nextOf]
  refine wpAny_bind (wpAny_callSpecial?_slot (name := "__next__") ty F.slot_tuple_iterator_next (wpAny_call_entry F.slot_tuple_iterator_next ty F.entry_tuple_iterator_next ?_ (F.args_tuple_iterator_next_1 _)))
  wp_walk
  simp only [Int.toNat_natCast, c]
  wp_walk
  exact ⟨_, rfl, wpAny_pure (q _ ⟨_, Heap.get?_update_self _ eo rfl, rfl, by simp [Obj.mapFields, rawInt]⟩ (Heap.SameBut.update ..))⟩
theorem nx_tup_end {it t : Addr} {i : Nat} {its : Array Value} {Q : Value → Shared → Prop} (hh : A.handled = none) (a : s.heap.IsTupleIter it t i) (b : s.heap.IsTuple t its) (c : its[i]? = none)
    (q : ∀ h' e, Heap.ExtBut it s.heap h' → (∃ o, h'.get? e = some o ∧ o.cls = .type "StopIteration") → E (.ref e) { s with heap := h' }) : wpAny (model P w) A (Builtin.SmallTypes.nextOf (.ref it)) Q E s := by
  have ty := a.typeIs
  obtain ⟨⟨_, dc, _, sl⟩, eo, rfl, rfl⟩ := a
  obtain ⟨⟨_, dl, _, ll⟩, el, rfl, nl, rfl⟩ := b
  rw [Builtin.SmallTypes.nextOf]
  refine wpAny_bind (wpAny_callSpecial?_slot (name := "__next__") ty F.slot_tuple_iterator_next (wpAny_call_entry F.slot_tuple_iterator_next ty F.entry_tuple_iterator_next ?_ (F.args_tuple_iterator_next_1 _)))
  wp_walk
  simp only [Int.toNat_natCast, c]
  have hh' : A.in1.handled = none := hh
  wp_walk
  rw [raiseNew]
  wp_walk
  exact q _ _ (((Heap.SameBut.update ..).extBut.push _).push _) ⟨_, Heap.get?_push_size _ rfl, rfl⟩
end
end L2


set_option Elab.async false
set_option linter.all false
set_option maxRecDepth 100000
namespace L2
open PySem PyProof.Rows
/-! ### a def that a local holds, called -/
def tCallL (L : Addr → Sp → Prop) (i : Nat) (t : TA) : TE := fun σ H Q => ∃ f, σ[i]? = some (some (.ref f)) ∧ ∃ sp, L f sp ∧ t σ H fun vs H1 => sp vs H1 Q E0
end L2


set_option Elab.async false
set_option linter.all false
set_option maxRecDepth 100000
/-! SETS of ints or texts: made of a list, walked in whatever order, sorted -/
namespace L2
open PySem PySem.Spec PyProof.Rows

/-! ### a set's table: its places rise -/
def Ris (xs : Array Nat) : Prop := xs.toList.Pairwise (· < ·)
theorem Ris.lt {xs : Array Nat} (h : Ris xs) {i j : Nat} (hij : i < j) (hj : j < xs.size) (d : Nat) : xs.getD i d < xs.getD j d := by
  have e := List.pairwise_iff_getElem.mp h i j (by simp; omega) (by simpa using hj) hij
  simpa [Array.getD, hj, Nat.lt_trans hij hj] using e
end L2


set_option Elab.async false
set_option linter.all false
set_option maxRecDepth 100000
/-! SETS: a key put in, a set made of a list -/
namespace L2
open PySem PySem.Spec PyProof.Rows

/-! ### a set of keys, its elements in some order -/
section
variable {prog : Program} {w : World} {κ : Type} [DecidableEq κ] (knd : PySem.KeyKind prog w κ) (key : Value → κ)
/-- at a lies a set whose keys, in the order in which they are laid, are ks -/
def SetX (a : Addr) (L : Bool) (ks : List κ) (h : Heap) : Prop :=
  ∃ o es ep t, h.get? a = some o ∧ o.ExactSet ∧ o.data = .set es ep t ∧ ElemsOf knd es.toList ∧ ks = es.toList.map (fun e => key e.2) ∧ ks.Nodup ∧ es.size < scanBound ∧ t.fits es.size = true ∧ Ris t.place ∧ t.led = L
variable {knd key} {A : Around} {E : Value → Shared → Prop} {s : Shared} {a : Addr} {L : Bool} {ks : List κ}
theorem SetX.len {h : Heap} (x : SetX knd key a L ks h) : ks.length < scanBound := by
  obtain ⟨o, es, ep, t, _, _, _, _, rfl, _, hb, _⟩ := x
  simpa using hb
abbrev byTxt (w : World) : Bool := w.params.followText "set-order"
end
end L2


set_option Elab.async false
set_option linter.all false
set_option maxRecDepth 100000
/-! SETS: walked, sorted -/
namespace L2
open PySem PySem.Spec PyProof.Rows
section
variable {prog : Program} {w : World} {A : Around} {E : Value → Shared → Prop} {s : Shared} {S I : Addr} {es : Array (Int × Value)} {ep : Nat} {t : SetTable} {o : Obj}
end
end L2


set_option Elab.async false
set_option linter.all false
set_option maxRecDepth 100000
/-! SETS: sorted -/
namespace L2
open PySem PySem.Spec PyProof.Rows
section
variable {prog : Program} {w : World} {A : Around} {E : Value → Shared → Prop} {s : Shared} {S I : Addr} {es : Array (Int × Value)} {ep : Nat} {t : SetTable} {o : Obj}
def keyI : Value → Int
  | .int k _ => k
  | _ => 0
end
end L2


set_option Elab.async false
set_option linter.all false
set_option maxRecDepth 100000
namespace L2
open PySem PySem.Spec PyProof.Rows

/-! ### the layer's rules -/
def setO (P : Program) (w : World) (p : Addr) (ks : List Int) : HO := .ext (SetX (intKind P w) keyI p (!byTxt w) ks)
def qSetI (P : Program) (w : World) (K : PySem.W.Frag) : List V → Hp → VK → Prop := fun xs H Q => ∃ (a : Addr) (ns : List Int), xs = [.ref a] ∧ SqL K H a (ns.map V.int) ∧ ns.length ≤ 1000 ∧
  ∀ (p : Addr) (ks : List Int), H p = none → ks.Nodup → (∀ x, x ∈ ks ↔ x ∈ ns) → ks.length ≤ ns.length → Q (.ref p) (upd H p (setO P w p ks))
def qSortSet (P : Program) (w : World) : List V → Hp → VK → Prop := fun xs H Q => ∃ (a : Addr) (ks : List Int), xs = [.ref a] ∧ H a = some (setO P w a ks) ∧ ks.length < 64 ∧
  ∀ (l : Addr) (ms : List Int), H l = none → ms.Perm ks → ms.Pairwise (· ≤ ·) → Q (.ref l) (upd H l (.lst (ms.map V.int)))
section
variable {X : Cx}
end
end L2


set_option Elab.async false
set_option linter.all false
set_option maxRecDepth 100000
/-! zip over two tuples -/
namespace L2
open PySem PyProof.Rows
section
variable {P : Program} {w : World} {A : Around} {E : Value → Shared → Prop} {s : Shared}
end
end L2


set_option Elab.async false
set_option linter.all false
set_option maxRecDepth 100000
/-! zip over two tuples: the layer's rules -/
namespace L2
open PySem PySem.Spec PyProof.Rows
section
variable {P : Program} {w : World} {A : Around} {E : Value → Shared → Prop} {s : Shared}
end
/-- pairs of what two tuples have -/
def Itzt (K : PySem.W.Frag) (a b : Addr) : It :=
  ⟨fun i H => ∃ xs ys x y, SqT K H a xs ∧ SqT K H b ys ∧ xs[i]? = some x ∧ ys[i]? = some y, fun i H x H' => ∃ T u v, x = .ref T ∧ H T = none ∧ H' = upd H T (.tup [u, v]) ∧ (∀ xs, SqT K H a xs → xs[i]? = some u) ∧ ∀ ys, SqT K H b ys → ys[i]? = some v,
    fun i H => ∃ xs ys, SqT K H a xs ∧ SqT K H b ys ∧ (xs.length ≤ i ∨ ys.length ≤ i)⟩
section
variable {X : Cx}
def iZipT (K : PySem.W.Frag) (ta : TA) : TI := fun σ H R => ta σ H fun vs H1 => ∃ a b, vs = [.ref a, .ref b] ∧ (∃ xs, SqT K H1 a xs) ∧ (∃ ys, SqT K H1 b ys) ∧ R (Itzt K a b) H1
end

/-! ### a tuple's slice that may be the whole -/
section
variable {prog : Program} {w : World} {A : Around} {E : Value → Shared → Prop} {s : Shared}
theorem getItem_tuple_whole {t sl : Addr} {items : Array Value} {vl vu : Value} {lo hi : Option Int} {Q : Value → Shared → Prop} (ht : IsTup s.heap t items) (hs : s.heap.IsSliceOf sl vl vu .none) (pl : IsPart vl lo) (pu : IsPart vu hi)
    (hw : HT.sIx items.size 0 lo = 0 ∧ HT.sIx items.size items.size hi = items.size) (h : Q (.ref t) s) : wpAny (model prog w) A (getItem (.ref t) (.ref sl)) Q E s := by
  obtain ⟨os, hos, hcs, hds⟩ := id hs
  have ts : s.TypeIs (.ref sl) "slice" := ⟨os, hos, hcs⟩
  unfold getItem
  try with_reducible refine wpAny_holding ?_
  first | refine wpAny_bind (wpAny_pure ?_) | skip
  refine wpAny_bind (wpAny_sequenceKey ht.typeIs (by decide) ?_)
  refine wpAny_bind (wpAny_callSpecial?_slot (name := Str.ofString "__getitem__") ht.typeIs PyProof.Rows.slot_tuple_getitem (wpAny_call_entry PyProof.Rows.slot_tuple_getitem ht.typeIs entry_tuple_getitem ?_ (args_tuple_getitem _ _)))
  show wpAny _ _ (Builtin.Tuple.tupleItemsOf (.ref t) >>= _) _ _ s
  refine wpAny_bind (PyProof.Rows.tupleItemsOf_ ht (wpAny_bind (wpAny_typeOf ts ?_)))
  rw [if_pos (by decide)]
  refine wpAny_bind (HT.sliceApplied_gen hs pl pu ?_)
  refine wpAny_ite_split (fun _ => ?_) (fun c => absurd ?_ c)
  · unfold Builtin.Tuple.tupleIsExact
    refine wpAny_bind (wpAny_bind (wpAny_typeOf ht.typeIs (wpAny_pure ?_)))
    refine wpAny_ite_split (fun _ => ?_) (fun c => absurd (by decide) c)
    exact wpAny_bind (wpAny_rule (wpAny_pure ⟨_, rfl, wpAny_pure h⟩))
  · rw [hw.1, hw.2]
    simp
end
section
variable {X : Cx}
def rSlA (K : PySem.W.Frag) : V → Option Int → Option Int → Hp → VK → Prop := fun x lo hi H Q => ∃ a xs, x = .ref a ∧ SqT K H a xs ∧
  (((HT.sIx xs.length 0 lo = 0 ∧ HT.sIx xs.length xs.length hi = xs.length) ∧ Q (.ref a) H) ∨ (¬ (HT.sIx xs.length 0 lo = 0 ∧ HT.sIx xs.length xs.length hi = xs.length) ∧ ∀ p, H p = none → Q (.ref p) (upd H p (.tup (cutV xs lo hi)))))
theorem sl_tupA : SlR X (rSlA X.K) := by
  intro pins s σ H x v vl vu lo hi sl Q I rx hs pl pu h
  obtain ⟨a, xs, rfl, hx, ⟨hw, q⟩ | ⟨hw, q⟩⟩ := h
  · cases rx
    obtain ⟨its, r, ht, hz⟩ := I.tuple hx
    have hlen : its.toArray.size = xs.length := by rw [List.size_toArray]; exact r.length.symm
    exact ⟨"tuple", _, PyProof.Rows.slot_tuple_getitem.lookup, ht.typeIs, getItem_tuple_whole ht hs pl pu (by rw [hlen]; exact hw) ⟨.ref a, H, I, rfl, q⟩⟩
  · exact sl_tup pins s σ H (.ref a) v vl vu lo hi sl Q I rx hs pl pu ⟨a, xs, rfl, hx, hw, q⟩
end
/-! ### a comprehension over a zip of two tuples, the second no longer -/
end L2


set_option Elab.async false
set_option linter.all false
set_option maxRecDepth 100000
/-! DISPLAYS OF DATA: nested tuples and lists of constants and names, read as one datum -/
namespace L2
open PySem PySem.Spec PyProof.Rows
inductive DX where
  | c (d : Dm) | var (i : Nat) | tup (l : List DX) | lst (l : List DX) | cat (a b : DX) | lof (a : DX)
def catD : Dm → Dm → Dm
  | .tup x, .tup y => .tup (x ++ y)
  | _, _ => .non
mutual
def DX.val (ρ : Nat → Dm) : DX → Dm
  | .c d => d
  | .var i => ρ i
  | .tup l => .tup (valA ρ l)
  | .lst _ => .lst
  | .cat a b => catD (a.val ρ) (b.val ρ)
  | .lof _ => .lst
def valA (ρ : Nat → Dm) : List DX → List Dm
  | [] => []
  | x :: r => x.val ρ :: valA ρ r
end
mutual
/-- what a display wants of the state -/
def DX.Fit (ρ : Nat → Dm) (σ : St) (H : Hp) : DX → Prop
  | .c _ => True
  | .var i => ∃ v, σ[i]? = some (some v) ∧ Dt H v (ρ i)
  | .tup l => l.length ≤ 1000 ∧ FitA ρ σ H l
  | .lst l => l.length ≤ 1000 ∧ FitA ρ σ H l
  | .cat a b => a.Fit ρ σ H ∧ b.Fit ρ σ H ∧ ∃ x y, a.val ρ = .tup x ∧ b.val ρ = .tup y ∧ x.length + y.length ≤ 1000
  | .lof a => a.Fit ρ σ H ∧ ∃ x, a.val ρ = .tup x
def FitA (ρ : Nat → Dm) (σ : St) (H : Hp) : List DX → Prop
  | [] => True
  | x :: r => x.Fit ρ σ H ∧ FitA ρ σ H r
end
mutual
theorem DX.Fit.mono {ρ : Nat → Dm} {σ : St} {H H' : Hp} (s : Same H H') : ∀ {x : DX}, x.Fit ρ σ H → x.Fit ρ σ H'
  | .c _, _ => by rw [DX.Fit]; trivial
  | .var i, h => by
    rw [DX.Fit] at h ⊢
    obtain ⟨v, e, d⟩ := h
    exact ⟨v, e, d.kp s.kp⟩
  | .tup l, h => by
    rw [DX.Fit] at h ⊢
    exact ⟨h.1, FitA.mono s h.2⟩
  | .lst l, h => by
    rw [DX.Fit] at h ⊢
    exact ⟨h.1, FitA.mono s h.2⟩
  | .cat a b, h => by
    rw [DX.Fit] at h ⊢
    exact ⟨DX.Fit.mono s h.1, DX.Fit.mono s h.2.1, h.2.2⟩
  | .lof a, h => by
    rw [DX.Fit] at h ⊢
    exact ⟨DX.Fit.mono s h.1, h.2⟩
theorem FitA.mono {ρ : Nat → Dm} {σ : St} {H H' : Hp} (s : Same H H') : ∀ {l : List DX}, FitA ρ σ H l → FitA ρ σ H' l
  | [], _ => by rw [FitA]; trivial
  | x :: r, h => by
    rw [FitA] at h ⊢
    exact ⟨DX.Fit.mono s h.1, FitA.mono s h.2⟩
end
/-! a look that tells that a display fits: vo the places that hold data, vt those that hold tuples -/
/-- what the places hold -/
structure Env (ρ : Nat → Dm) (σ : St) (H : Hp) (vo vt : List Nat) : Prop where
  o : ∀ i ∈ vo, ∃ v, σ[i]? = some (some v) ∧ Dt H v (ρ i)
  t : ∀ i ∈ vt, ∃ ds, ρ i = .tup ds ∧ ds.length ≤ 100
def tDX (x : DX) : TE := fun σ H Q => ∃ ρ, x.Fit ρ σ H ∧ ∀ v H', Same H H' → Dt H' v (x.val ρ) → Q v H'
def tDXs (l : List DX) : TA := fun σ H Q => ∃ ρ, FitA ρ σ H l ∧ ∀ vs H', Same H H' → DtA H' vs (valA ρ l) → Q vs H'
section
variable {X : Cx}
end
end L2


set_option Elab.async false
set_option linter.all false
set_option maxRecDepth 100000
namespace L2
open PySem PySem.Spec PyProof.Rows PySem.W

/-! SORTED of what is risen: rows and paths -/
def ltI : List Int → List Int → Bool
  | _, [] => false
  | [], _ :: _ => true
  | a :: x, b :: y => if a = b then ltI x y else decide (a < b)
theorem ltI_ne : ∀ {x y : List Int}, ltI x y = true → x ≠ y
  | [], [], h, _ => by simp [ltI] at h
  | a :: x, b :: y, h, e => by
    injection e with e1 e2
    subst e1 e2
    rw [ltI, if_pos rfl] at h
    exact ltI_ne h rfl
theorem ltI_no : ∀ {x y : List Int}, ltI x y = true → ltI y x = false
  | _, [], h => by cases ‹List Int› <;> simp [ltI] at h
  | [], b :: y, _ => by simp [ltI]
  | a :: x, b :: y, h => by
    rw [ltI] at h ⊢
    by_cases e : a = b
    · subst e
      rw [if_pos rfl] at h ⊢
      exact ltI_no h
    · rw [if_neg e] at h
      rw [if_neg (Ne.symm e)]
      simp only [decide_eq_true_eq, decide_eq_false_iff_not] at h ⊢
      omega
section
variable {prog : Program} {w : World} {A : Around} {E : Value → Shared → Prop} {s : Shared}
/-! ### the sort -/
variable {k : SortKind} {vs : List Value} {st : SortSt}
end
end L2


set_option Elab.async false
set_option linter.all false
set_option maxRecDepth 100000
namespace L2
open PySem PySem.Spec PyProof.Rows PySem.W

section
variable {prog : Program} {w : World} {A : Around} {E : Value → Shared → Prop} {s : Shared}
end
def pathD (p : List Int) : Dm := .tup (p.map Dm.int)
abbrev Rw2 := List Int × Dm
def rowD (r : Rw2) : Dm := .tup [pathD r.1, r.2]
theorem dtA_ints {H : Hp} : ∀ {xs : List V} {p : List Int}, DtA H xs (p.map Dm.int) → xs = p.map V.int
  | _, [], .nil => rfl
  | _, _ :: _, .cons (.int _) r => by rw [List.map_cons, ← dtA_ints r]
section
variable {X : Cx} {pins : List (Addr × Obj)} {σ : St} {H : Hp} {s : Shared}
theorem items_of : ∀ {p : List Int} {us : List Value}, Vals (p.map V.int) us → ItemsAre (intKind X.prog X.w) p us
  | [], _, .nil => .nil
  | i :: p, _, .cons r t => by
    obtain ⟨k, rfl⟩ := r
    exact .cons (intKind_is _ _ _ _) (items_of t)
theorem Inv.path (I : Inv X pins σ H s) {v : V} {p : List Int} {u : Value} (d : Dt H v (pathD p)) (r : RelV v u) : ∃ a, u = .ref a ∧ IsTupleKey (intKind X.prog X.w) s.heap p a := by
  cases d with
  | tup e ra =>
    cases r
    obtain ⟨its, rv, ⟨o, ho, hc, n, hd⟩, _⟩ := I.tuple (SqT.of e)
    have := dtA_ints ra
    subst this
    exact ⟨_, rfl, o, its.toArray, n, ho, hc, hd, items_of rv⟩
end
end L2


set_option Elab.async false
set_option linter.all false
set_option maxRecDepth 100000
/-! enumerate over a tuple -/
namespace L2
open PySem PyProof.Rows
open AutoSeq1 (wpAny_loadPart')
theorem enum_new_tup (l : Addr) (items : Array Value) (n : Nat) (dct : Option Addr) (sl : Array (Option Value)) :
    Meets (Builtin.«enumerate.__new__» ⟨[.type "enumerate", .ref l], []⟩) (fun _ R s => s.heap.get? l = some { cls := .type "tuple", dict := dct, data := .seq items n, slots := sl } ∧
      R (.ok (.ret (.ref (s.heap.push { cls := .type "tuple_iterator", data := .fields #[.ref l, .int 0 0] }).objs.size)))
        { s with heap := (s.heap.push { cls := .type "tuple_iterator", data := .fields #[.ref l, .int 0 0] }).push { cls := .type "enumerate", data := .fields #[.none, .bool false, .ref s.heap.objs.size, rawInt 0, .none, .none] } }) :=
  .of_wp fun prog w A R s h => by
    obtain ⟨hp, g, d, tk, os⟩ := s; obtain ⟨hl, h⟩ := h
    have hsub := sub_enumerate
    have hL : Heap.IsTuple (Shared.heap ⟨hp, g, d, tk, os⟩) l items := ⟨_, hl, rfl, n, rfl⟩
    wp_walk using wpAny_loadPart' hl
    refine wpAny_stack_any fun st => wpAny_pure ?_
    split
    · rename_i c _ _ _ _ _
      cases (c == Value.type "enumerate")
      · wp_walk using wpAny_loadPart' hl, wpAny_pyIter_tuple hL
        exact ⟨_, rfl, h⟩
      · wp_walk using wpAny_loadPart' hl, wpAny_pyIter_tuple hL
        exact ⟨_, rfl, h⟩
    · wp_walk using wpAny_loadPart' hl, wpAny_pyIter_tuple hL
      exact ⟨_, rfl, h⟩
section
variable {prog : Program} {w : World} {A : Around} {E : Value → Shared → Prop} {s : Shared}
theorem call_enumT {l : Addr} {items : Array Value} {Q : Value → Shared → Prop} (hL : s.heap.IsTuple l items)
    (h : ∀ h', IsEnum h' (s.heap.objs.size + 1) s.heap.objs.size 0 .none → h'.IsTupleIter s.heap.objs.size l 0 → h'.objs.size = s.heap.objs.size + 2 →
      (∀ b o, s.heap.get? b = some o → h'.get? b = some o) → Q (.ref (s.heap.objs.size + 1)) { s with heap := h' }) :
    wpAny (model prog w) A (call (.type "enumerate") [.ref l]) Q E s := by
  obtain ⟨⟨c, dct, dt, sl⟩, hl, hc, n, hd⟩ := hL
  replace hc : c = .type "tuple" := hc
  replace hd : dt = .seq items n := hd
  subst hc hd
  refine callType_new F.called_enumerate (by decide) (F.typeCall_enumerate_1 _) (F.newCall_enumerate_1 _) (fun obj => F.args_object_init_2 obj _) F.entry_enumerate_new
    (enum_new_tup l items n dct sl) ⟨hl, ?_⟩
  have hz : (s.heap.push { cls := .type "tuple_iterator", data := .fields #[.ref l, .int 0 0] }).objs.size = s.heap.objs.size + 1 := Heap.size_push ..
  show _ ∧ _
  rw [hz]
  have he : IsEnum ((s.heap.push { cls := .type "tuple_iterator", data := .fields #[.ref l, .int 0 0] }).push
      { cls := .type "enumerate", data := .fields #[.none, .bool false, .ref s.heap.objs.size, rawInt 0, .none, .none] }) (s.heap.objs.size + 1) s.heap.objs.size 0 .none := by
    have := Heap.get?_push_size (s.heap.push { cls := .type "tuple_iterator", data := .fields #[.ref l, .int 0 0] })
      (o := { cls := .type "enumerate", data := .fields #[.none, .bool false, .ref s.heap.objs.size, rawInt 0, .none, .none] }) rfl
    rw [hz] at this; exact this
  refine ⟨⟨_, he, rfl⟩, h _ he ⟨_, Heap.get?_push_of_some _ (Heap.get?_push_size _ rfl), rfl, rfl⟩ (by rw [Heap.size_push, hz]) fun b o x => Heap.get?_push_of_some _ (Heap.get?_push_of_some _ x)⟩
theorem enumT_end {e it l : Addr} {i : Nat} {items : Array Value} {old : Value} {Q : Option Value → Shared → Prop} (hh : A.handled = none) (he : IsEnum s.heap e it i old) (hit : s.heap.IsTupleIter it l i) (hl : s.heap.IsTuple l items) (hx : items[i]? = none)
    (hQ : ∀ h', Heap.ExtBut it s.heap h' → Q none { s with heap := h' }) : wpAny (model prog w) A (pyNext (.ref e)) Q E s := by
  have hT : s.TypeIs (.ref e) "enumerate" := ⟨_, he, rfl⟩
  unfold pyNext
  refine wpAny_bind (wpAny_attempt (wpAny_callSpecial?_slot (name := Str.ofString "__next__") hT F.slot_enumerate_next
    (wpAny_call_entry F.slot_enumerate_next hT F.entry_enumerate_next ?_ (F.args_enumerate_next_1 _))))
  show wpAny _ _ (field (.ref e) 2 >>= _) _ _ _
  refine wpAny_bind (wpAny_field he rfl (x := .ref it) rfl ?_)
  refine wpAny_bind (nx_tup_end hh hit hl hx fun h' x he' hx' => ?_)
  obtain ⟨o, ho, hc⟩ := hx'
  refine wpAny_bind (wpAny_isInstance (T := "StopIteration") (b := true) ⟨o, ho, hc⟩ isSubtype_stop ?_)
  exact wpAny_pure (hQ _ he')
end
theorem drawsT {prog : Program} {w : World} {A : Around} (hh : A.handled = none) (it l : Addr) (hne : l ≠ it) (items : Array Value) :
    Draws prog w A it [it, l] items.size (fun i v => items[i]? = some v) (fun i h => h.IsTupleIter it l i ∧ h.IsTuple l items) where
  live := fun _ _ st => let ⟨o, ho, _⟩ := st.1; ⟨o, ho⟩
  frame := fun _ _ _ st hk => ⟨st.1.at fun o e => hk it (by simp) o e, let ⟨o, ho, r⟩ := st.2; ⟨o, hk l (by simp) o ho, r⟩⟩
  item := fun i s Q E hi st hQ => by
    refine nx_tup st.1 st.2 (x := items[i]) (by simp [hi]) fun h' hit' hs' => ?_
    exact hQ _ h' s.toks (by simp [hi]) ⟨hit', st.2.extBut hs'.extBut hne⟩ hs'
  done := fun s Q E st hE => nx_tup_end hh st.1 st.2 (by simp) hE
def IteT (K : PySem.W.Frag) (a : Addr) : It :=
  ⟨fun i H => ∃ xs x, SqT K H a xs ∧ xs[i]? = some x, fun i H x H' => ∃ T v, x = .ref T ∧ H T = none ∧ H' = upd H T (.tup [.int i, v]) ∧ ∀ xs, SqT K H a xs → xs[i]? = some v, fun i H => ∃ xs, SqT K H a xs ∧ xs.length ≤ i⟩
theorem turn_enumT {P : Program} {w : World} {K : PySem.W.Frag} {elts : List Expr} {kt : Nat} {pt : Pos} (a e it : Addr) (hne : e ≠ it) (hea : e ≠ a) (hai : a ≠ it) : Turn P w K (.Tuple elts kt pt) (IteT K a) [e, it] e (fun i h => (∃ old, IsEnum h e it i old) ∧ h.IsTupleIter it a i) where
  mem := by simp
  obj := fun i h st b hb => by
    obtain ⟨⟨old, he⟩, hi⟩ := st
    rcases List.mem_cons.mp hb with rfl | hb
    · exact ⟨_, he, fun v z => by cases z⟩
    · obtain rfl := List.mem_singleton.mp hb
      obtain ⟨o, e', c, d⟩ := hi
      exact ⟨o, e', fun v z => by rw [d] at z; cases z⟩
  keep := fun i h h' st k => by
    obtain ⟨⟨old, he⟩, hi⟩ := st
    exact ⟨⟨old, k e (by simp) _ he⟩, hi.at fun o q => k it (by simp) o q⟩
  item := by
    intro X hP hw hK hc i pins s σ H E I hf st hg
    subst hP hw hK
    obtain ⟨⟨old, he⟩, hit⟩ := st
    obtain ⟨xs, x, hq, hx⟩ := hg
    obtain ⟨its, rv, p, hz⟩ := I.tuple hq
    obtain ⟨u, hu, ru⟩ := rv.get hx
    have hui : its.toArray[i]? = some u := by simpa using hu
    have hlt : i < its.toArray.size := by
      rcases Nat.lt_or_ge i its.toArray.size with c | c
      · exact c
      · rw [Array.getElem?_eq_none c] at hui; cases hui
    refine wpAny_pyNext_enum_itemD (drawsT (A := X.A.in1) (show X.A.in1.handled = none from I.ok.hd hc) it a hai its.toArray) he ⟨hit, p⟩ hlt hne (by simp [hne, hea]) fun y h1 tk hy ho hst1 hT hsz hk => ?_
    have hy' : its.toArray[i]? = some y := hy
    obtain rfl : u = y := by rw [hui] at hy'; exact Option.some.inj hy'
    have hit1 := hst1.1
    refine ⟨_, rfl, wpAny_letOwnedTupleGo_enum ho fun h2 he2 hs2 => ?_⟩
    have helt : e < s.heap.objs.size := Heap.lt_size he
    have hs2' : Heap.SameBut e h1 h2 := hs2
    have kk : ∀ b o, b ∉ [e, it] → s.heap.get? b = some o → h2.get? b = some o := fun b o hb q => hs2'.extBut b o (fun z => hb (by simp [z])) (hk b o (fun z => hb (by simp [z])) (fun z => hb (by simp [z])) q)
    have I1 : Inv X pins σ H { s with heap := h2, toks := tk + 1 } := I.turnedL kk hf
    have hTn : H s.heap.objs.size = none := I.hok.fresh (Nat.le_refl _)
    have hT2 : h2.get? s.heap.objs.size = some { cls := .type "tuple", data := .seq #[.int i tk, u] } := hs2'.extBut _ _ (Nat.ne_of_gt helt) hT
    have I2 : Inv X pins σ (upd H s.heap.objs.size (.tup [.int i, x])) { s with heap := h2, toks := tk + 1 } :=
      I1.track hTn (I.fpOk (Nat.le_refl _) hTn) (show ObjOk X.prog X.w _ h2 _ (.tup [.int i, x]) from ⟨two_le, [.int i tk, u], .cons ⟨_, rfl⟩ (.cons ru .nil), ⟨_, hT2, rfl, _, rfl⟩⟩)
    refine ⟨.ref s.heap.objs.size, _, I2, rfl, ⟨s.heap.objs.size, x, rfl, hTn, rfl, fun ys hy => by rw [I.tuple_inj hy hq]; exact hx⟩, ⟨⟨u, by simpa using he2⟩, hit1.at fun o q => (hs2'.2 it hne.symm).trans q⟩, fun b hb => ?_⟩
    have hbl : b < s.heap.objs.size := by
      rcases List.mem_cons.mp hb with rfl | hb
      · exact helt
      · obtain rfl := List.mem_singleton.mp hb
        obtain ⟨o, e', _⟩ := hit
        exact Heap.lt_size e'
    rw [upd_ne (Nat.ne_of_lt hbl)]
    exact (hf b hb).1
  done := by
    intro X hP hw hK hc i pins s σ H E I hf st hg
    subst hP hw hK
    obtain ⟨⟨old, he⟩, hit⟩ := st
    obtain ⟨xs, hq, hx⟩ := hg
    obtain ⟨its, rv, p, hz⟩ := I.tuple hq
    have hl := rv.length
    exact enumT_end (I.ok.hd hc) he hit p (by simp; omega) fun h' eb => ⟨rfl, I.turnedL (t' := s.toks) (fun b o hb q => eb b o (fun z => hb (by simp [z])) q) hf⟩
  self := fun _ _ _ _ _ st h => by
    obtain ⟨⟨old, he⟩, _⟩ := st
    exact wpAny_pyIter_enum he h
section
variable {X : Cx}
def iEnumT (K : PySem.W.Frag) (ta : TA) : TI := fun σ H R => ta σ H fun vs H1 => ∃ a, vs = [.ref a] ∧ (∃ xs, SqT K H1 a xs) ∧ R (IteT K a) H1
theorem pi_enumT {elts : List Expr} {kt : Nat} {pt p pos : Pos} {l : Expr} {ta : TA} (hg : Gl X "enumerate") (hm : X.mg "enumerate" = none) (ha : PA X [l] ta) (hst : isStar l = false := by rfl) : PI X (.Tuple elts kt pt) (.Call (.Name "enumerate" p) [l] [] pos) (iEnumT X.K ta) := by
  intro pins s σ H R I h
  refine Call_ (ld_blt I hg hm boot_enumerate (PyProof.Rows.callWith_type1 (thn (ha pos pins s σ H _ I h) fun us s1 ⟨vs, H1, I1, r1, q1⟩ => ?_) (starEach_plain hst) rfl))
  obtain ⟨a, e, ⟨xs, hq⟩, q⟩ := q1
  subst e
  cases r1 with
  | cons r rr =>
    cases rr
    cases r
    obtain ⟨its, rv, pl, hz⟩ := I1.tuple hq
    have hal : a < s1.heap.objs.size := by
      obtain ⟨o, e, _⟩ := pl
      exact Heap.lt_size e
    refine call_enumT pl fun h' he hi hsz hk => ?_
    have I2 : Inv X pins σ H1 { s1 with heap := h' } := I1.kept (t' := s1.toks) hk
    refine wpAny_pyIter_enum he ?_
    refine ⟨s1.heap.objs.size + 1, [s1.heap.objs.size + 1, s1.heap.objs.size], _, _, H1, rfl, I2, turn_enumT a _ _ (Nat.succ_ne_self _) (Nat.ne_of_gt (Nat.lt_succ_of_lt hal)) (Nat.ne_of_lt hal), ⟨⟨_, he⟩, hi⟩, fun b hb => ?_, q⟩
    have hle : s1.heap.objs.size ≤ b := by
      rcases List.mem_cons.mp hb with rfl | hb
      · exact Nat.le_succ _
      · obtain rfl := List.mem_singleton.mp hb
        exact Nat.le_refl _
    exact I1.fpOk hle (I1.hok.fresh hle)
end
theorem for_enumT {K : PySem.W.Frag} {a : Addr} {xs : List V} {g : TG} {tb : TS} {D : Ends} {σ : St} {H : Hp} (Pv : Nat → St → Hp → Prop) (h0 : Pv 0 σ H) (hl : ∀ i σ H, i ≤ xs.length → Pv i σ H → SqT K H a xs)
    (hs : ∀ i x σ H T, xs[i]? = some x → Pv i σ H → H T = none → g (.ref T) σ (upd H T (.tup [.int i, x])) fun σ2 H2 => tb { D with nx := Pv (i + 1), ct := Pv (i + 1), bk := D.nx } σ2 H2) (hd : ∀ σ H, Pv xs.length σ H → D.nx σ H) :
    ∃ W : Nat → Nat → St → Hp → Prop, (∃ m, W 0 m σ H) ∧ ∀ i m σ H, W i m σ H →
      ((IteT K a).stop i H ∧ D.nx σ H) ∨ ((IteT K a).go i H ∧ ∃ N : St → Hp → Prop, (∀ σ' H', N σ' H' → ∃ m', m' < m ∧ W (i + 1) m' σ' H') ∧ ∀ x H', (IteT K a).yld i H x H' → g x σ H' fun σ2 H2 => tb { D with nx := N, ct := N, bk := D.nx } σ2 H2) := by
  refine ⟨fun i m σ H => m = xs.length - i ∧ i ≤ xs.length ∧ Pv i σ H, ⟨xs.length, by simp, Nat.zero_le _, h0⟩, ?_⟩
  rintro i m σ H ⟨rfl, hi, p⟩
  have q := hl i σ H hi p
  by_cases hlt : i < xs.length
  · refine .inr ⟨⟨xs, xs[i], q, by simp [hlt]⟩, Pv (i + 1), fun σ' H' p' => ⟨xs.length - (i + 1), by omega, rfl, hlt, p'⟩, fun x H' y => ?_⟩
    obtain ⟨T, v, rfl, hT, rfl, y⟩ := y
    exact hs i v σ H T (y xs q) p hT
  · have e : i = xs.length := by omega
    subst e
    exact .inl ⟨⟨xs, q, Nat.le_refl _⟩, hd σ H p⟩
end L2


set_option Elab.async false
set_option linter.all false
set_option maxRecDepth 100000
namespace L2
open PySem PySem.Spec PyProof.Rows
/-! a set of texts, and it sorted -/
section
variable {prog : Program} {w : World} {A : Around} {E : Value → Shared → Prop} {s : Shared} {S : Addr}
end
section
variable {X : Cx}
theorem strsAre_at : ∀ {vs : List Value} {ss : List Str}, StrsAre vs ss → ∀ (i : Nat) (v : Value), vs[i]? = some v → ∃ t, v = .str (ss.getD i ⟨#[]⟩) t
  | _, _, .cons x t r, 0, v, h => by
    have : Value.str x t = v := by simpa using h
    exact ⟨t, this.symm⟩
  | _, _, .cons x t r, i + 1, v, h => strsAre_at r i v (by simpa using h)
end
end L2


set_option Elab.async false
set_option linter.all false
set_option maxRecDepth 100000
namespace L2
open PySem PySem.Spec PyProof.Rows PySem.W
/-! SORT by questions: what comes out, where the questions are answered by ranks -/
/-- a question about places below n, answered by ranks -/
def askR (r : Nat → Nat) (n : Nat) : Nat → Nat → (Bool → Shared → Prop) → Shared → Prop := fun i j C s => i < n ∧ j < n ∧ C (decide (r i < r j)) s
/-- it answers for whatever answers so -/
theorem askR_to {α : Type} {r : Nat → Nat} {n : Nat} {cmp : Nat → Nat → (Bool → Shared → Prop) → Shared → Prop} {s : Shared} {Q : α → Shared → Prop} (hc : ∀ i j C, i < n → j < n → C (decide (r i < r j)) s → cmp i j C s) :
    ∀ (t : KasT α), t.kasWp (askR r n) (fun a s' => Q a s) s → t.kasWp cmp Q s
  | .ret a, h => h
  | .ask i j k, ⟨h1, h2, h⟩ => hc i j _ h1 h2 (askR_to hc (k _) h)
section
variable {r : Nat → Nat} {n : Nat} {s : Shared}
theorem askR_if {α : Type} {i j : Nat} {T1 T2 : KasT α} {Q : α → Shared → Prop} (hi : i < n) (hj : j < n) (h1 : r i < r j → T1.kasWp (askR r n) Q s) (h2 : ¬ r i < r j → T2.kasWp (askR r n) Q s) : (KasT.ask i j fun c => if c = true then T1 else T2).kasWp (askR r n) Q s := by
  refine ⟨hi, hj, ?_⟩
  by_cases c : r i < r j
  · have := h1 c
    simpa [c] using this
  · have := h2 c
    simpa [c] using this
def rk (r : Nat → Nat) (p : Array Nat) (i : Nat) : Nat := r (p.getD i 0)
def Asc (r : Nat → Nat) (p : Array Nat) (m : Nat) : Prop := ∀ i j, i < j → j < m → rk r p i < rk r p j
def Dsc (r : Nat → Nat) (p : Array Nat) (m : Nat) : Prop := ∀ i j, i < j → j < m → rk r p j < rk r p i
structure PermN (r : Nat → Nat) (n : Nat) (p : Array Nat) : Prop where
  sz : p.size = n
  lt : ∀ i, i < n → p.getD i 0 < n
  inj : ∀ i j, i < n → j < n → rk r p i = rk r p j → i = j
  pm : p.toList.Perm (List.range n)
theorem PermN.of (hr : ∀ i j, i < n → j < n → r i = r j → i = j) {p : Array Nat} (h : p.toList.Perm (List.range n)) : PermN r n p := by
  have sz : p.size = n := by simpa using h.length_eq
  have lt : ∀ i, i < n → p.getD i 0 < n := fun i hi => by
    have hi' : i < p.size := by omega
    have : p.getD i 0 ∈ p.toList := by simp [Array.getD, hi']
    simpa using h.mem_iff.mp this
  refine ⟨sz, lt, fun i j hi hj e => ?_, h⟩
  have e' := hr _ _ (lt i hi) (lt j hj) e
  have nd : p.toList.Nodup := h.nodup_iff.mpr List.nodup_range
  have hi' : i < p.size := by omega
  have hj' : j < p.size := by omega
  have : p.toList[i]'(by simpa using hi') = p.toList[j]'(by simpa using hj') := by simpa [Array.getD, hi', hj'] using e'
  exact (List.getElem_inj nd).mp this
theorem getD_of {p q : Array Nat} {i j : Nat} (h : p[i]? = q[j]?) : p.getD i 0 = q.getD j 0 := by
  have e1 : p.getD i 0 = (p[i]?).getD 0 := by simp
  have e2 : q.getD j 0 = (q[j]?).getD 0 := by simp
  rw [e1, e2, h]
theorem asc_ {p : Array Nat} (P : PermN r n p) {Q : Nat → Shared → Prop} : ∀ (f m : Nat), 1 ≤ m → m + f ≤ n → Asc r p m → (∀ k, m ≤ k → k ≤ m + f → Asc r p k → (k < m + f → rk r p k < rk r p (k - 1)) → Q k s) → (kas_asc p f m).kasWp (askR r n) Q s
  | 0, m, h1, h2, h, q => q m (Nat.le_refl _) (Nat.le_refl _) h (fun z => absurd z (by omega))
  | f + 1, m, h1, h2, h, q => by
    refine askR_if (P.lt _ (by omega)) (P.lt _ (by omega)) (fun c => ?_) (fun (c : ¬ rk r p m < rk r p (m - 1)) => ?_)
    · exact q m (Nat.le_refl _) (by omega) h (fun _ => c)
    · refine asc_ P f (m + 1) (by omega) (by omega) (fun i j hij hj => ?_) fun k k1 k2 k3 k4 => q k (by omega) (by omega) k3 (fun z => k4 (by omega))
      have last : rk r p (m - 1) < rk r p m := by
        have : rk r p (m - 1) ≠ rk r p m := fun e => by have := P.inj _ _ (by omega) (by omega) e; omega
        omega
      by_cases e : j = m
      · subst e
        by_cases e2 : i = j - 1
        · rw [e2]; exact last
        · exact Nat.lt_trans (h i (j - 1) (by omega) (by omega)) last
      · exact h i j hij (by omega)
theorem desc_ {p : Array Nat} (P : PermN r n p) {Q : Array Nat × Nat × Nat → Shared → Prop} : ∀ (f m : Nat), 1 ≤ m → m + f ≤ n → Dsc r p m → (∀ k, m ≤ k → k ≤ m + f → Dsc r p k → Q (p, k, 0) s) → (kas_desc f p m 0).kasWp (askR r n) Q s
  | 0, m, h1, h2, h, q => q m (Nat.le_refl _) (Nat.le_refl _) h
  | f + 1, m, h1, h2, h, q => by
    refine askR_if (P.lt _ (by omega)) (P.lt _ (by omega)) (fun c => ?_) (fun (c : ¬ rk r p m < rk r p (m - 1)) => ?_)
    · rw [if_neg (by omega)]
      refine desc_ P f (m + 1) (by omega) (by omega) (fun i j hij hj => ?_) fun k k1 k2 k3 => q k (by omega) (by omega) k3
      by_cases e : j = m
      · subst e
        by_cases e2 : i = j - 1
        · rw [e2]; exact c
        · exact Nat.lt_trans c (h i (j - 1) (by omega) (by omega))
      · exact h i j hij (by omega)
    · have last : rk r p (m - 1) < rk r p m := by
        have : rk r p (m - 1) ≠ rk r p m := fun e => by have := P.inj _ _ (by omega) (by omega) e; omega
        omega
      refine askR_if (P.lt _ (by omega)) (P.lt _ (by omega)) (fun c => ?_) (fun c => absurd last c)
      exact q m (Nat.le_refl _) (by omega) h
theorem rev_perm (hr : ∀ i j, i < n → j < n → r i = r j → i = j) {p : Array Nat} (P : PermN r n p) (i j : Nat) : PermN r n (kas_rev p i j) :=
  .of hr ((Array.perm_iff_toList_perm.mp (mirror_perm _ _ _ _)).trans P.pm)
theorem rev_rk {p : Array Nat} {m : Nat} (hm : m ≤ p.size) (k : Nat) (hk : k < m) : rk r (kas_rev p 0 m) k = rk r p (m - 1 - k) := by
  have e := getElem?_mirror_all (xs := p) (i := 0) hm k
  rw [if_pos (by omega)] at e
  show r _ = r _
  rw [show kas_rev p 0 m = mirror p 0 m ((m - 0) / 2) from rfl, getD_of e]
  congr 2
  omega
theorem tail3_ (hr : ∀ i j, i < n → j < n → r i = r j → i = j) {p : Array Nat} (P : PermN r n p) {m : Nat} {Q : Nat × Array Nat → Shared → Prop} (h1 : 1 ≤ m) (h2 : m ≤ n) (h : Dsc r p m)
    (q : ∀ k p', PermN r n p' → 1 ≤ k → k ≤ n → Asc r p' k → Q (k, p') s) : (kas_tail3 m n p).kasWp (askR r n) Q s := by
  unfold kas_tail3
  rw [KasT.kasWp_bind]
  have P' := rev_perm hr P 0 m
  refine asc_ P' (n - m) m h1 (by omega) (fun i j hij hj => ?_) fun k k1 k2 k3 _ => q k _ P' (by omega) (by omega) k3
  rw [rev_rk (by rw [P.sz]; exact h2) _ (by omega), rev_rk (by rw [P.sz]; exact h2) _ hj]
  exact h _ _ (by omega) (by omega)
theorem descPart_ (hr : ∀ i j, i < n → j < n → r i = r j → i = j) {p : Array Nat} (P : PermN r n p) {m : Nat} {Q : Nat × Array Nat → Shared → Prop} (h2 : m + 1 ≤ n) (h : Dsc r p (m + 1))
    (q : ∀ k p', PermN r n p' → 1 ≤ k → k ≤ n → Asc r p' k → Q (k, p') s) : (kas_descPart m n p).kasWp (askR r n) Q s := by
  unfold kas_descPart
  rw [KasT.kasWp_bind]
  refine desc_ P (n - (m + 1)) (m + 1) (by omega) (by omega) h fun k k1 k2 k3 => ?_
  rw [if_neg (show ¬ (p, k, 0).2.2 > 0 from Nat.lt_irrefl 0)]
  have a1 : 1 ≤ k := by omega
  have a2 : k ≤ n := by omega
  exact tail3_ hr P a1 a2 k3 q
theorem count_ (hr : ∀ i j, i < n → j < n → r i = r j → i = j) {p : Array Nat} (P : PermN r n p) {Q : Nat × Array Nat → Shared → Prop} (h1 : 1 ≤ n)
    (q : ∀ k p', PermN r n p' → 1 ≤ k → k ≤ n → Asc r p' k → Q (k, p') s) : (kas_count n p).kasWp (askR r n) Q s := by
  unfold kas_count
  rw [KasT.kasWp_bind]
  refine asc_ P (n - 1) 1 (Nat.le_refl _) (by omega) (fun i j hij hj => by omega) fun m m1 m2 m3 m4 => ?_
  by_cases e : m = n
  · rw [if_pos (by simpa using e)]
    exact q m p P m1 (by omega) m3
  · rw [if_neg (by simpa using e)]
    by_cases e2 : m > 1
    · rw [if_pos e2]
      refine askR_if (P.lt _ (by omega)) (P.lt _ (by omega)) (fun c => ?_) (fun c => absurd (m3 0 (m - 1) (by omega) (by omega)) c)
      exact q m p P m1 (by omega) m3
    · rw [if_neg e2]
      obtain rfl : m = 1 := by omega
      refine descPart_ hr P (by omega) (fun i j hij hj => ?_) q
      obtain rfl : i = 0 := by omega
      obtain rfl : j = 1 := by omega
      exact m4 (by omega)
theorem place_ {p : Array Nat} (P : PermN r n p) {k : Nat} (hk : k < n) (hs : Asc r p k) {Q : Nat → Shared → Prop} : ∀ (f l u : Nat), l ≤ u → u ≤ k → u - l ≤ f → (∀ i, i < l → rk r p i < rk r p k) → (∀ i, u ≤ i → i < k → rk r p k < rk r p i) →
    (∀ m, m ≤ k → (∀ i, i < m → rk r p i < rk r p k) → (∀ i, m ≤ i → i < k → rk r p k < rk r p i) → Q m s) → (kas_place p k f l u).kasWp (askR r n) Q s
  | 0, l, u, h1, h2, h3, lo, hi, q => by
    obtain rfl : l = u := by omega
    exact q l h2 lo hi
  | f + 1, l, u, h1, h2, h3, lo, hi, q => by
    unfold kas_place
    by_cases e : l ≥ u
    · rw [if_pos e]
      obtain rfl : l = u := by omega
      exact q l h2 lo hi
    · rw [if_neg e]
      refine askR_if (P.lt _ hk) (P.lt _ (by omega)) (fun c => ?_) (fun (c : ¬ rk r p k < rk r p ((l + u) / 2)) => ?_)
      · refine place_ P hk hs f l ((l + u) / 2) (by omega) (by omega) (by omega) lo (fun i h1 h2 => ?_) q
        by_cases e2 : i = (l + u) / 2
        · rw [e2]; exact c
        · exact Nat.lt_trans c (hs _ _ (by omega) h2)
      · have c' : rk r p ((l + u) / 2) < rk r p k := by
          have : rk r p ((l + u) / 2) ≠ rk r p k := fun e => by have := P.inj _ _ (by omega) hk e; omega
          omega
        refine place_ P hk hs f ((l + u) / 2 + 1) u (by omega) h2 (by omega) (fun i h1 => ?_) hi q
        by_cases e2 : i = (l + u) / 2
        · rw [e2]; exact c'
        · exact Nat.lt_trans (hs _ _ (show i < (l + u) / 2 by omega) (by omega)) c'
theorem bin_ (hr : ∀ i j, i < n → j < n → r i = r j → i = j) {Q : Array Nat → Shared → Prop} : ∀ (f : Nat) (p : Array Nat) (k : Nat), PermN r n p → k + f = n → Asc r p k → (∀ p', PermN r n p' → Asc r p' n → Q p' s) → (kas_bin f p k).kasWp (askR r n) Q s
  | 0, p, k, P, e, h, q => by
    obtain rfl : k = n := e
    exact q p P h
  | f + 1, p, k, P, e, h, q => by
    rw [show kas_bin (f + 1) p k = (kas_place p k k 0 k).bind fun l => kas_bin f (bubble p k (k - l)) (k + 1) from rfl, KasT.kasWp_bind]
    have hk : k < n := by omega
    refine place_ P hk h k 0 k (Nat.zero_le _) (Nat.le_refl _) (by omega) (fun i z => absurd z (by omega)) (fun i z z' => absurd z' (by omega)) fun m m1 m2 m3 => ?_
    refine bin_ hr f _ (k + 1) (.of hr ((Array.perm_iff_toList_perm.mp (bubble_perm _ _ _)).trans P.pm)) (by omega) (fun i j hij hj => ?_) q
    have at_ : ∀ x, rk r (bubble p k (k - m)) x = if x = m then rk r p k else if m < x ∧ x ≤ k then rk r p (x - 1) else rk r p x := fun x => by
      have z := getElem?_bubble (xs := p) (src := k) (by rw [P.sz]; exact hk) (k - m) (by omega) x
      rw [show k - (k - m) = m by omega] at z
      show r _ = _
      by_cases e1 : x = m
      · rw [if_pos e1] at z ⊢
        rw [getD_of z, rk]
      · rw [if_neg e1] at z ⊢
        by_cases e2 : m < x ∧ x ≤ k
        · rw [if_pos e2] at z ⊢
          rw [getD_of z, rk]
        · rw [if_neg e2] at z ⊢
          rw [getD_of z, rk]
    rw [at_, at_]
    repeat' split
    all_goals first
      | (exfalso; omega)
      | exact m2 _ (by omega)
      | exact m3 _ (by omega) (by omega)
      | exact h _ _ (by omega) (by omega)
theorem sort_ (hr : ∀ i j, i < n → j < n → r i = r j → i = j) (h1 : 1 ≤ n) {Q : Array Nat → Shared → Prop} (q : ∀ p, PermN r n p → Asc r p n → Q p s) : (kas_sort n).kasWp (askR r n) Q s := by
  unfold kas_sort
  rw [KasT.kasWp_bind]
  refine count_ hr (.of hr (by simp)) h1 fun k p P k1 k2 k3 => ?_
  dsimp only
  by_cases e : k < n
  · rw [if_pos e, show max k 1 = k by omega]
    exact bin_ hr _ p k P (by omega) k3 q
  · rw [if_neg e]
    obtain rfl : k = n := by omega
    exact q p P k3
end
end L2


set_option Elab.async false
set_option linter.all false
set_option maxRecDepth 100000
namespace L2
open PySem PySem.Spec PyProof.Rows PySem.W
/-! a set's TABLE, searched: an empty place is met -/
theorem hole : ∀ (n : Nat) (l : List Nat), l.length = n → ∃ j, j ≤ n ∧ j ∉ l
  | 0, l, h => ⟨0, Nat.le_refl _, by rw [List.length_eq_zero_iff.mp h]; simp⟩
  | n + 1, l, h => by
    by_cases c : n + 1 ∈ l
    · obtain ⟨j, hj, hn⟩ := hole n (l.erase (n + 1)) (by rw [List.length_erase_of_mem c, h]; rfl)
      exact ⟨j, by omega, fun z => hn ((List.mem_erase_of_ne (show j ≠ n + 1 by omega)).mpr z)⟩
    · exact ⟨n + 1, Nat.le_refl _, c⟩
def lps (mask : Nat) : Nat → Nat × Nat → Nat × Nat
  | 0, x => x
  | k + 1, x => lps mask k (SetTable.leap mask x.1 x.2)
theorem lps_add (mask : Nat) : ∀ (a b : Nat) (x : Nat × Nat), lps mask (a + b) x = lps mask b (lps mask a x)
  | 0, b, x => by rw [Nat.zero_add]; rfl
  | a + 1, b, x => by rw [Nat.succ_add]; exact lps_add mask a b _
theorem lps_snd (mask : Nat) : ∀ (k : Nat) (x : Nat × Nat), (lps mask k x).2 = x.2 / 32 ^ k
  | 0, x => by simp [lps]
  | k + 1, x => by
    rw [lps, lps_snd mask k, SetTable.leap, Nat.div_div_eq_div_mul, Nat.pow_succ, Nat.mul_comm]
theorem lps_le (mask : Nat) : ∀ (k : Nat) (x : Nat × Nat), x.1 ≤ mask → (lps mask k x).1 ≤ mask
  | 0, x, h => h
  | k + 1, x, h => lps_le mask k _ (Nat.le_of_lt_succ (Nat.mod_lt _ (Nat.succ_pos _)))
def orb (mask : Nat) : Nat → Nat → List Nat
  | 0, i => [i]
  | k + 1, i => i :: orb mask k ((i * 5 + 1) % (mask + 1))
theorem orb_lps (mask : Nat) : ∀ (k i j : Nat), j ∈ orb mask k i → ∃ m, m ≤ k ∧ (lps mask m (i, 0)).1 = j
  | 0, i, j, h => by
    rw [orb, List.mem_singleton] at h
    exact ⟨0, Nat.le_refl _, h.symm⟩
  | k + 1, i, j, h => by
    rw [orb] at h
    rcases List.mem_cons.mp h with h | h
    · exact ⟨0, Nat.zero_le _, h.symm⟩
    · obtain ⟨m, hm, e⟩ := orb_lps mask k _ j h
      refine ⟨m + 1, by omega, ?_⟩
      rw [lps, SetTable.leap]
      simpa using e
def MaskOk (mask : Nat) : Prop := mask = 7 ∨ mask = 31 ∨ mask = 127
theorem orb_all {mask : Nat} (hm : MaskOk mask) : (∀ j, j ≤ mask → j ∈ orb mask mask 0) ∧ (lps mask (mask + 1) (0, 0)).1 = 0 := by
  have go : ∀ n : Nat, ((List.range (n + 1)).all fun j => (orb n n 0).contains j) = true → ∀ j, j ≤ n → j ∈ orb n n 0 := fun n h j hj => by
    rw [List.all_eq_true] at h
    have x := h j (by simp; omega)
    simpa using x
  rcases hm with rfl | rfl | rfl
  · exact ⟨go 7 (by decide +kernel), by decide +kernel⟩
  · exact ⟨go 31 (by decide +kernel), by decide +kernel⟩
  · exact ⟨go 127 (by decide +kernel), by decide +kernel⟩
theorem lps_zero (mask k i : Nat) : lps mask k (i, 0) = ((lps mask k (i, 0)).1, 0) := by
  have : (lps mask k (i, 0)).2 = 0 := by rw [lps_snd]; exact Nat.zero_div _
  exact Prod.ext rfl this
theorem orb_from {mask : Nat} (hm : MaskOk mask) {i j : Nat} (hi : i ≤ mask) (hj : j ≤ mask) : ∃ m, m ≤ mask ∧ (lps mask m (i, 0)).1 = j := by
  obtain ⟨all, turn⟩ := orb_all hm
  obtain ⟨a, ha, ea⟩ := orb_lps mask mask 0 i (all i hi)
  obtain ⟨b, hb, eb⟩ := orb_lps mask mask 0 j (all j hj)
  have from_ : ∀ m, lps mask m (i, 0) = lps mask (a + m) (0, 0) := fun m => by rw [lps_add, lps_zero mask a 0, ea]
  by_cases c : a ≤ b
  · refine ⟨b - a, by omega, ?_⟩
    rw [from_, show a + (b - a) = b by omega]
    exact eb
  · refine ⟨b + (mask + 1) - a, by omega, ?_⟩
    rw [from_, show a + (b + (mask + 1) - a) = (mask + 1) + b by omega, lps_add, lps_zero mask (mask + 1) 0, turn]
    exact eb
/-- every place is leapt to -/
theorem leapt {mask : Nat} (hm : MaskOk mask) {x : Nat × Nat} (h1 : x.1 ≤ mask) (h2 : x.2 < 2 ^ 64) {j : Nat} (hj : j ≤ mask) : ∃ n, 1 ≤ n ∧ n ≤ mask + 13 ∧ (lps mask n x).1 = j := by
  have e0 : (lps mask 13 x).2 = 0 := by
    rw [lps_snd]
    exact Nat.div_eq_of_lt (Nat.lt_trans h2 (by decide))
  have e1 : lps mask 13 x = ((lps mask 13 x).1, 0) := by rw [← e0]
  obtain ⟨m, hm', e⟩ := orb_from hm (lps_le mask 13 x h1) hj
  refine ⟨13 + m, by omega, by omega, ?_⟩
  rw [lps_add, e1]
  exact e
def advs (t : SetTable) : Nat → SetTable.Probe → SetTable.Probe
  | 0, p => p
  | k + 1, p => advs t k (t.advance p)
theorem advs_add (t : SetTable) : ∀ (a b : Nat) (p : SetTable.Probe), advs t (a + b) p = advs t b (advs t a p)
  | 0, b, p => by rw [Nat.zero_add]; rfl
  | a + 1, b, p => by rw [Nat.succ_add]; exact advs_add t a b _
theorem runEnd_le (mask i : Nat) : SetTable.runEnd mask i - i ≤ 9 := by
  unfold SetTable.runEnd
  split <;> omega
/-- a run's end, and a leap -/
theorem advs_run (t : SetTable) : ∀ (m : Nat) (p : SetTable.Probe), p.more = m → (advs t (m + 1) p).j = (SetTable.leap t.mask p.i p.perturb).1 ∧ (advs t (m + 1) p).i = (SetTable.leap t.mask p.i p.perturb).1 ∧ (advs t (m + 1) p).perturb = (SetTable.leap t.mask p.i p.perturb).2 ∧ (advs t (m + 1) p).more ≤ 9
  | 0, p, h => by
    have e : t.advance p = { p with j := (SetTable.leap t.mask p.i p.perturb).1, more := SetTable.runEnd t.mask (SetTable.leap t.mask p.i p.perturb).1 - (SetTable.leap t.mask p.i p.perturb).1, i := (SetTable.leap t.mask p.i p.perturb).1, perturb := (SetTable.leap t.mask p.i p.perturb).2 } := by
      unfold SetTable.advance
      rw [if_neg (by omega)]
    show (t.advance p).j = _ ∧ (t.advance p).i = _ ∧ (t.advance p).perturb = _ ∧ (t.advance p).more ≤ 9
    rw [e]
    exact ⟨rfl, rfl, rfl, runEnd_le _ _⟩
  | m + 1, p, h => by
    have e : t.advance p = { p with j := p.j + 1, more := p.more - 1 } := by
      unfold SetTable.advance
      rw [if_pos (by omega)]
    show (advs t (m + 1) (t.advance p)).j = _ ∧ _
    obtain ⟨a, b, c, d⟩ := advs_run t m (t.advance p) (by rw [e]; show p.more - 1 = m; omega)
    have e1 : (t.advance p).i = p.i := by rw [e]
    have e2 : (t.advance p).perturb = p.perturb := by rw [e]
    rw [e1, e2] at a b c
    exact ⟨a, b, c, d⟩
theorem advs_leaps (t : SetTable) : ∀ (n : Nat) (p : SetTable.Probe), p.more ≤ 9 → ∃ k, k ≤ 10 * (n + 1) ∧ (advs t k p).j = (lps t.mask (n + 1) (p.i, p.perturb)).1
  | 0, p, h => by
    obtain ⟨a, _⟩ := advs_run t p.more p rfl
    exact ⟨p.more + 1, by omega, a⟩
  | n + 1, p, h => by
    obtain ⟨a, b, c, d⟩ := advs_run t p.more p rfl
    obtain ⟨k, hk, e⟩ := advs_leaps t n (advs t (p.more + 1) p) d
    refine ⟨p.more + 1 + k, by omega, ?_⟩
    rw [advs_add, e, b, c]
    rfl
structure TabOk (t : SetTable) : Prop where
  dm : t.dummies = #[]
  mz : t.mask = 7 ∧ t.place.size ≤ 4 ∨ t.mask = 31 ∧ t.place.size ≤ 18 ∨ t.mask = 127 ∧ t.place.size ≤ 60
  rs : Ris t.place
theorem TabOk.mask {t : SetTable} (T : TabOk t) : MaskOk t.mask := T.mz.elim (fun z => .inl z.1) fun z => z.elim (fun z => .inr (.inl z.1)) fun z => .inr (.inr z.1)
theorem TabOk.slot {t : SetTable} (T : TabOk t) (j : Nat) : t.slot j = if t.place[SetTable.below t.place j]? = some j then .live (SetTable.below t.place j) else .empty := by
  unfold SetTable.slot
  have : SetTable.has t.dummies j = false := by rw [T.dm]; rfl
  rw [this]
  simp
theorem TabOk.hole {t : SetTable} (T : TabOk t) : ∃ j, j ≤ t.mask ∧ t.slot j = .empty := by
  obtain ⟨j, hj, hn⟩ := L2.hole t.place.size t.place.toList (by simp)
  refine ⟨j, ?_, ?_⟩
  · rcases T.mz with ⟨a, b⟩ | ⟨a, b⟩ | ⟨a, b⟩ <;> omega
  · rw [T.slot, if_neg]
    intro e
    exact hn (List.mem_of_getElem? (i := SetTable.below t.place j) (by simpa using e))
def ProOk (t : SetTable) (p : SetTable.Probe) : Prop := p.more ≤ 9 ∧ p.i ≤ t.mask ∧ p.perturb < 2 ^ 64
/-- how far it is to an empty place -/
def Far (t : SetTable) (p : SetTable.Probe) (k : Nat) : Prop := p.dummy = none ∧ t.slot (advs t k p).j = .empty
theorem TabOk.far {t : SetTable} (T : TabOk t) {p : SetTable.Probe} (h : ProOk t p) (hd : p.dummy = none) : ∃ k, k < 10 * SetTable.turns t.mask ∧ Far t p k := by
  obtain ⟨j, hj, he⟩ := T.hole
  obtain ⟨n, h1, h2, e⟩ := leapt T.mask (x := (p.i, p.perturb)) h.2.1 h.2.2 hj
  obtain ⟨m, rfl⟩ : ∃ m, n = m + 1 := ⟨n - 1, by omega⟩
  obtain ⟨k, hk, ek⟩ := advs_leaps t m p h.1
  refine ⟨k, by unfold SetTable.turns; omega, hd, ?_⟩
  rw [ek, e]
  exact he
theorem bits_lt (h : Int) : SetTable.bits h < 2 ^ 64 := by
  unfold SetTable.bits
  have a := Int.emod_lt_of_pos h (show (0 : Int) < 2 ^ 64 by decide)
  have b := Int.emod_nonneg h (show (2 ^ 64 : Int) ≠ 0 by decide)
  omega
theorem TabOk.start {t : SetTable} (T : TabOk t) (h : Int) : ∃ k, k < 10 * SetTable.turns t.mask ∧ Far t (t.probeStart h) k :=
  T.far ⟨runEnd_le _ _, Nat.le_of_lt_succ (Nat.mod_lt _ (Nat.succ_pos _)), bits_lt h⟩ rfl
/-! ### laid anew -/
theorem fmC {f g : Nat → Option Nat} : ∀ l : List Nat, (∀ x ∈ l, f x = g x) → l.filterMap f = l.filterMap g
  | [], _ => rfl
  | a :: l, h => by
    have e := h a (.head _)
    have ih := fmC l fun x hx => h x (.tail _ hx)
    cases c : g a with
    | none => rw [List.filterMap_cons_none (e.trans c), List.filterMap_cons_none c, ih]
    | some v => rw [List.filterMap_cons_some (e.trans c), List.filterMap_cons_some c, ih]
def Own (mask : Nat) (owner : Array (Option Nat)) (k : Nat) : Prop := owner.size = mask + 1 ∧ ((List.range (mask + 1)).filterMap fun j => owner.getD j none).Perm (List.range k)
theorem Own.hole {mask k : Nat} {owner : Array (Option Nat)} (O : Own mask owner k) (hk : k ≤ mask) : ∃ j, j ≤ mask ∧ owner.getD j none = none := by
  refine Classical.byContradiction fun c => ?_
  have all : ∀ j, j ≤ mask → ∃ v, owner.getD j none = some v := fun j hj => by
    cases e : owner.getD j none with
    | none => exact absurd ⟨j, hj, e⟩ c
    | some v => exact ⟨v, rfl⟩
  have len : ∀ l : List Nat, (∀ j ∈ l, j ≤ mask) → (l.filterMap fun j => owner.getD j none).length = l.length := by
    intro l
    induction l with
    | nil => intro _; rfl
    | cons a l ih =>
      intro h
      obtain ⟨v, hv⟩ := all a (h a (.head _))
      rw [List.filterMap_cons_some (f := fun j => owner.getD j none) (b := v) hv, List.length_cons, List.length_cons, ih fun j hj => h j (.tail _ hj)]
  have z := O.2.length_eq
  rw [len _ fun j hj => by have := List.mem_range.mp hj; omega, List.length_range, List.length_range] at z
  omega
theorem fm_set {mask j k : Nat} {owner : Array (Option Nat)} (hs : owner.size = mask + 1) (e : owner.getD j none = none) : ∀ l : List Nat, l.Nodup → j ∈ l → (∀ x ∈ l, x ≤ mask) →
    (l.filterMap fun x => (owner.setIfInBounds j (some k)).getD x none).Perm (k :: l.filterMap fun x => owner.getD x none)
  | [], _, h, _ => by simp at h
  | a :: l, hn, h, hl => by
    obtain ⟨n1, n2⟩ := List.nodup_cons.mp hn
    have oth : ∀ x, x ≠ j → (owner.setIfInBounds j (some k)).getD x none = owner.getD x none := fun x hx => by
      rw [Array.getD_eq_getD_getElem?, Array.getD_eq_getD_getElem?, Array.getElem?_setIfInBounds_ne (Ne.symm hx)]
    by_cases c : a = j
    · subst c
      have s1 : (owner.setIfInBounds a (some k)).getD a none = some k := by
        have : a < owner.size := by have := hl a (.head _); omega
        simp [Array.getD, this]
      have s2 : (l.filterMap fun x => (owner.setIfInBounds a (some k)).getD x none) = l.filterMap fun x => owner.getD x none :=
        fmC _ fun x hx => oth x fun z => n1 (z ▸ hx)
      rw [List.filterMap_cons_some (f := fun x => (owner.setIfInBounds a (some k)).getD x none) (b := k) s1, List.filterMap_cons_none (f := fun x => owner.getD x none) e, s2]
    · have ih := fm_set (k := k) hs e l n2 ((List.mem_cons.mp h).resolve_left fun z => c z.symm) fun x hx => hl x (.tail _ hx)
      cases ea : owner.getD a none with
      | none => rw [List.filterMap_cons_none (f := fun x => (owner.setIfInBounds j (some k)).getD x none) (by rw [oth a c]; exact ea), List.filterMap_cons_none (f := fun x => owner.getD x none) ea]; exact ih
      | some v =>
        rw [List.filterMap_cons_some (f := fun x => (owner.setIfInBounds j (some k)).getD x none) (b := v) (by rw [oth a c]; exact ea), List.filterMap_cons_some (f := fun x => owner.getD x none) (b := v) ea]
        exact (ih.cons v).trans (.swap ..)
theorem Own.step {mask k j : Nat} {owner : Array (Option Nat)} (O : Own mask owner k) (hj : j ≤ mask) (e : owner.getD j none = none) : Own mask (owner.setIfInBounds j (some k)) (k + 1) := by
  refine ⟨by simp [O.1], (fm_set O.1 e _ List.nodup_range (by simp; omega) fun x hx => by have := List.mem_range.mp hx; omega).trans ?_⟩
  rw [show List.range (k + 1) = List.range k ++ [k] from List.range_succ]
  exact (O.2.cons k).trans (List.perm_append_comm (l₁ := [k]))
end L2


set_option Elab.async false
set_option linter.all false
set_option maxRecDepth 100000
namespace L2
open PySem PySem.Spec PyProof.Rows PySem.W
/-! SETS of paths: made, sorted -/
section
variable {prog : Program} {w : World} {A : Around} {E : Value → Shared → Prop} {s : Shared} {a : Addr} {L : Bool}
theorem small18 {n : Nat} (h : n ≤ 1000) : n ≤ sizeLine := by rw [sizeLine_eq]; omega
/-! ### sorted -/
theorem list_sort_treeQ {vs : List Value} {a : Addr} {n : Nat} {r : Nat → Nat} {P : PySem.Fin → Shared → Prop} (ho : s.heap.get? a = some (seqObj "list" vs.toArray n)) (h64 : vs.length < 64) (hr : ∀ i j, i < vs.length → j < vs.length → r i = r j → i = j)
    (hR : 2 ≤ vs.length → ∀ h' : Heap, (∀ b o, b ≠ a → s.heap.get? b = some o → h'.get? b = some o) → ∃ k, (∀ (E : Value → Shared → Prop) (Q : SortKind → Shared → Prop), Q k { s with heap := h' } → wpAny (model prog w) A (keyKind' vs.toArray) Q E { s with heap := h' }) ∧
      ∀ i j, i < vs.length → j < vs.length → ∀ (E : Value → Shared → Prop) (Q : Bool → Shared → Prop), Q (decide (r i < r j)) { s with heap := h' } → wpAny (model prog w) A (keyLt' k (vs.getD i .none) (vs.getD j .none)) Q E { s with heap := h' })
    (h : ∀ p, PermN r vs.length p → Asc r p vs.length → P (.done (.ret .none)) { s with heap := sortedHeap s.heap a vs (p.toList.map fun i => vs.getD i .none).toArray }) :
    wpAny (model prog w) A (Builtin.«list.sort» ⟨[.ref a], []⟩) P E s := by
  rw [list_sort_plain]
  have hz : vs.length ≤ sizeLine := small18 (by omega)
  have ha : a < s.heap.objs.size := Heap.lt_size ho
  refine wpAny_bind (listItems_at ho rfl ?_)
  refine wpAny_bind (listUpdate_at ho rfl ?_ (by simpa using hz) (Nat.zero_le _))
  obtain ⟨e1, ho1⟩ : ∃ e1, (s.heap.update a (Obj.mapSeq fun _ => #[])).get? a = some (seqObj "list" #[] e1) := ⟨_, get?_update_seq ho (fun _ => #[])⟩
  refine wpAny_bind (seqEpoch_at ho1 rfl ?_)
  refine wpAny_bind (wpAny_newTuple ?_ (by simpa using hz))
  refine wpAny_bind (wpAny_newList ?_ (Nat.zero_le _))
  refine wpAny_holding ?_
  have ho6 : (((s.heap.update a (Obj.mapSeq fun _ => #[])).push (seqObj "tuple" vs.toArray 0)).push (seqObj "list" #[] 0)).get? a = some (seqObj "list" #[] e1) := by
    rw [Heap.get?_push_ne _ _ _ (by rw [size_push', Heap.size_update]; exact Nat.ne_of_lt (Nat.lt_succ_of_lt ha)), Heap.get?_push_ne _ _ _ (by rw [Heap.size_update]; exact Nat.ne_of_lt ha)]
    exact ho1
  have hkeep : ∀ b o, b ≠ a → s.heap.get? b = some o → (((s.heap.update a (Obj.mapSeq fun _ => #[])).push (seqObj "tuple" vs.toArray 0)).push (seqObj "list" #[] 0)).get? b = some o := fun b o hb e => by
    refine Heap.get?_push_of_some _ (Heap.get?_push_of_some _ ?_)
    rw [Heap.get?_update_ne _ _ _ _ hb]
    exact e
  show wpAny (model prog w) A _ P E { s with heap := ((s.heap.update a (Obj.mapSeq fun _ => #[])).push (seqObj "tuple" vs.toArray 0)).push (seqObj "list" #[] 0) }
  dsimp only
  have hsz : vs.toArray.size = vs.length := by simp
  by_cases h2 : vs.toArray.size < 2
  · rw [if_pos h2, if_pos h2]
    refine wpAny_bind (wpAny_pure ?_)
    rw [StateT.run_pure]
    refine wpAny_bind (wpAny_pure ?_)
    dsimp only
    refine wpAny_bind (seqEpoch_at ho6 rfl ?_)
    refine wpAny_bind (listUpdate_at ho6 rfl ?_ (Nat.zero_le _) (by rw [Array.size_map]; show (pairsOf vs).size ≤ _; rw [pairsOf_size]; exact Nat.le_succ_of_le hz))
    simp only [bne_self_eq_false, Bool.false_eq_true, if_false]
    have e : (arrOf (SortSt.mk' general' (vs.toArray.zip vs.toArray) #[] 7 none)).map (·.2) = vs.toArray := by
      show (vs.toArray.zip vs.toArray).map (·.2) = _
      apply Array.toList_inj.mp
      simp [List.map_snd_zip]
    rw [e]
    have z := h (List.toArray (List.range vs.length)) (.of hr (by simp)) (fun i j hij hj => by rw [hsz] at h2; omega)
    have ev : ((List.toArray (List.range vs.length)).toList.map fun i => vs.getD i Value.none) = vs := by
      refine List.ext_getElem (by simp) fun i h1 h2 => ?_
      simp [h2]
    rw [ev] at z
    exact wpAny_pure z
  · rw [if_neg h2, if_neg h2]
    rw [hsz] at h2
    obtain ⟨kk, hK, hRi⟩ := hR (by omega) _ hkeep
    refine wpAny_bind (hK _ _ ?_)
    refine wpAny_bind (wpAny_mono (kat_run (κ := kk) (Q := fun st' s' => ∃ p : Array Nat, PermN r vs.length p ∧ Asc r p vs.length ∧ arrOf st' = p.map (kas_item (vs.toArray.zip vs.toArray)) ∧ failedOf st' = none ∧ s' = { s with heap := ((s.heap.update a (Obj.mapSeq fun _ => #[])).push (seqObj "tuple" vs.toArray 0)).push (seqObj "list" #[] 0) })
      (G := fun p s' => PermN r vs.length p ∧ Asc r p vs.length ∧ s' = { s with heap := ((s.heap.update a (Obj.mapSeq fun _ => #[])).push (seqObj "tuple" vs.toArray 0)).push (seqObj "list" #[] 0) })
      rfl (by omega) h64 (fun p' st' s' a1 a2 a3 ⟨a4, a5, a6⟩ => ⟨p', a4, a5, a2, a3, a6⟩) (askR_to (r := r) (fun i j C hi hj hc => hRi i j hi hj _ _ hc) _ (sort_ hr (by omega) fun p P1 P2 => ⟨P1, P2, rfl⟩))) ?_ fun _ _ e => e)
    rintro ⟨⟨⟩, st'⟩ s' ⟨p, P1, P2, har, hf, rfl⟩
    dsimp only at har hf ⊢
    have e := kat_snds (ks := vs) (vs := vs) rfl har
    refine wpAny_bind (seqEpoch_at ho6 rfl ?_)
    refine wpAny_bind (listUpdate_at ho6 rfl ?_ (Nat.zero_le _) (by rw [e, List.size_toArray, List.length_map, Array.length_toList, P1.sz]; exact Nat.le_succ_of_le hz))
    rw [hf]
    simp only [bne_self_eq_false, Bool.false_eq_true, if_false, e]
    exact wpAny_pure (h p P1 P2)
end
theorem ltI_self : ∀ x : List Int, ltI x x = false
  | [] => rfl
  | a :: x => by rw [ltI, if_pos rfl]; exact ltI_self x
section
variable {prog : Program} {w : World} {A : Around} {E : Value → Shared → Prop} {s : Shared} {S : Addr}
end
/-! ### the layer's rules -/
def RisP (ps : List (List Int)) : Prop := (∀ p ∈ ps, p ≠ []) ∧ ps.Pairwise (fun p q => ltI p q = true) ∧ ps.length ≤ 60
section
variable {X : Cx} {pins : List (Addr × Obj)} {σ : St} {H : Hp} {s : Shared}
theorem RisP.lt {ps : List (List Int)} (R : RisP ps) {i j : Nat} (hi : i < ps.length) (hj : j < ps.length) : ltI (ps.getD i []) (ps.getD j []) = decide (i < j) := by
  have up : ∀ i j, i < j → j < ps.length → ltI (ps.getD i []) (ps.getD j []) = true := fun i j hij hj => by
    rw [List.getD_eq_getElem?_getD, List.getD_eq_getElem?_getD, List.getElem?_eq_getElem (by omega), List.getElem?_eq_getElem hj]
    exact List.pairwise_iff_getElem.mp R.2.1 i j (by omega) hj hij
  rcases Nat.lt_trichotomy i j with z | rfl | z
  · rw [up i j z hj, decide_eq_true z]
  · rw [ltI_self, decide_eq_false (Nat.lt_irrefl _)]
  · rw [ltI_no (up j i z hi), decide_eq_false (by omega)]
theorem RisP.inj {ps : List (List Int)} (R : RisP ps) {i j : Nat} (hi : i < ps.length) (hj : j < ps.length) (e : ps.getD i [] = ps.getD j []) : i = j := by
  have a := R.lt hi hj
  have b := R.lt hj hi
  rw [e, ltI_self] at a b
  have a := of_decide_eq_false a.symm
  have b := of_decide_eq_false b.symm
  omega
end
end L2


set_option Elab.async false
set_option linter.all false
set_option maxRecDepth 100000
namespace L2
open PySem PySem.Spec PyProof.Rows PySem.W
/-! max(.., default=..), sum, count, dict of pairs, sorted of a dict's pairs, comprehensions over enumerate -/
section
variable {prog : Program} {w : World} {A : Around} {E : Value → Shared → Prop} {s : Shared}
theorem args_maxD (a v : Value) : argsOk "max" ⟨[a], [(Str.ofString "default", v)]⟩ := by unfold argsOk; kernel_rfl
theorem maxd_loop {R : Result → Shared → Prop} {I S : Addr} {fp wr : List Addr} {G : Array GenState → Array GenState → Prop} {n : Nat} {P : Nat → Value → Prop} {St : Nat → Shared → Prop} (W : WalksS prog w A.in1 I fp wr G n P St) (val : Nat → Int) (hval : ∀ i v, P i v → ∃ t, v = .int (val i) t) (hSf : S ∉ fp) (d : Value) :
    ∀ (k i : Nat) (s : Shared) (its : Array Value) (c : Nat), i + k = n → St i s → s.heap.get? S = some { cls := .type "list", dict := none, data := .seq its c, slots := #[] } →
      ((i = 0 ∧ its = #[]) ∨ (∃ b vb, b < i ∧ P b vb ∧ its = #[vb, vb] ∧ ∀ j, j < i → val j ≤ val b)) →
      (∀ v s', ((n = 0 ∧ v = d) ∨ (∃ b, b < n ∧ P b v ∧ ∀ j, j < n → val j ≤ val b)) → Moved (S :: wr) G s s' → R (.ok (.ret v)) s') →
      codeAny (model prog w) A (.builtin "max.loop" ⟨[.ref I, .none, .ref S], [(Str.ofString "default", d)]⟩) R s := by
  have hSw : S ∉ wr := fun h => hSf (W.sub _ h)
  have hsub : ∀ b ∈ wr, b ∈ S :: wr := fun b hb => List.mem_cons_of_mem _ hb
  have hname : (toString "max" ++ toString ".loop" : String) = "max.loop" := by decide
  have notS : ∀ {b : Addr}, b ∉ S :: wr → S ≠ b := fun hb h => hb (by rw [h]; exact List.mem_cons_self)
  intro k
  induction k with
  | zero =>
    intro i s its c hk hst hS hb hR
    obtain rfl : i = n := hk
    refine codeAny_builtin F.entry_max_loop ?_
    rw [Around.under_plainId F.plain_max_loop _]
    show wpAny _ A.in1 (seqItems? (.ref S) >>= _) _ _ s
    refine wpAny_bind (wpAny_seqItems hS rfl ?_)
    show wpAny _ A.in1 (tryCatch (pyNext (.ref I)) _ >>= _) _ _ s
    refine wpAny_bind (wpAny_tryCatch (W.done s _ _ hst fun s' hm => ?_))
    have hS' := hm.heap S _ hSw hS
    rcases hb with ⟨h0, rfl⟩ | ⟨b, vb, hbl, hPb, rfl, hmx⟩
    · show wpAny _ A.in1 (rule _ >>= _) _ _ _
      exact wpAny_bind (wpAny_rule (wpAny_pure (hR d s' (.inl ⟨h0, rfl⟩) (hm.mono hsub))))
    · show wpAny _ A.in1 (updateSeq S (fun _ => #[]) >>= _) _ _ _
      refine wpAny_bind ?_
      refine wpAny_updateSeq hS' rfl (wpAny_bind (wpAny_letGo (wpAny_pure ?_)))
      exact hR vb _ (.inr ⟨b, hbl, hPb, hmx⟩) ((hm.mono hsub).then_heap (tk := s'.toks) (Nat.le_refl _) fun b o hb e => (Heap.get?_update_other _ _ (notS hb)).trans e)
  | succ k ih =>
    intro i s its c hk hst hS hb hR
    have hlt : i < n := by omega
    refine codeAny_builtin F.entry_max_loop ?_
    rw [Around.under_plainId F.plain_max_loop _]
    show wpAny _ A.in1 (seqItems? (.ref S) >>= _) _ _ s
    refine wpAny_bind (wpAny_seqItems hS rfl ?_)
    show wpAny _ A.in1 (tryCatch (pyNext (.ref I)) _ >>= _) _ _ s
    refine wpAny_bind (wpAny_tryCatch (W.item i s _ _ hlt hst fun v s' hP hst' hm => ?_))
    have hS' := hm.heap S _ hSw hS
    have upd_ : ∀ (b : Nat), b < i + 1 → P b v → (∀ j, j < i + 1 → val j ≤ val b) → codeAny (model prog w) A (.builtin "max.loop" ⟨[.ref I, .none, .ref S], [(Str.ofString "default", d)]⟩) R { s' with heap := s'.heap.update S (Obj.mapSeq fun _ => #[v, v]) } := fun b h1 h2 h3 => by
      refine ih (i + 1) _ #[v, v] _ (by omega) (W.frame _ s' _ s'.toks hst' (Nat.le_refl _) fun b hbf o e => ?_) (Heap.get?_update_self _ hS' rfl) (.inr ⟨b, v, h1, h2, rfl, h3⟩) fun v' s'' hv hm'' => ?_
      · exact (Heap.get?_update_other _ _ (fun h : S = b => hSf (by rw [h]; exact hbf))).trans e
      · exact hR v' s'' hv (Moved.trans W.gtrans ((hm.mono hsub).then_heap (by first | exact Nat.le_refl _ | exact Nat.le_succ _ | omega) fun b o hb e => (Heap.get?_update_other _ _ (notS hb)).trans e) hm'')
    rcases hb with ⟨h0, rfl⟩ | ⟨b, vb, hbl, hPb, rfl, hmx⟩
    · show wpAny _ A.in1 (updateSeq S (fun _ => #[v, v]) >>= _) _ _ _
      refine wpAny_bind ?_
      refine wpAny_updateSeq hS' rfl ?_
      rw [hname]
      refine wpAny_pure ⟨plainId_quiet F.plain_max_loop _, upd_ i (by omega) hP fun j hj => ?_⟩
      obtain rfl : j = i := by omega
      exact Int.le_refl _
    · show wpAny _ A.in1 (tryCatch (holding [v, v] (richCompare .Gt v vb >>= _)) _ >>= _) _ _ _
      refine wpAny_bind (wpAny_tryCatch (wpAny_holding (wpAny_bind (CmpOf.ints_gt val hval i b v vb _ _ _ hP hPb ?_))))
      refine wpAny_bind (wpAny_holding (wpAny_truthy_bool ?_))
      refine wpAny_bind (wpAny_letGo (wpAny_pure ?_))
      refine wpAny_ite_split (fun c1 => ?_) (fun c1 => ?_)
      · have hgt : val i > val b := of_decide_eq_true c1
        refine wpAny_bind ?_
        refine wpAny_updateSeq hS' rfl (wpAny_bind (wpAny_letGo ?_))
        rw [hname]
        refine wpAny_pure ⟨plainId_quiet F.plain_max_loop _, upd_ i (by omega) hP fun j hj => ?_⟩
        by_cases e : j = i
        · rw [e]; exact Int.le_refl _
        · have := hmx j (by omega); omega
      · have hgt : ¬ val i > val b := fun z => c1 (decide_eq_true z)
        refine wpAny_bind (wpAny_letGo ?_)
        rw [hname]
        refine wpAny_pure ⟨plainId_quiet F.plain_max_loop _, ih (i + 1) _ #[vb, vb] c (by omega) hst' hS' (.inr ⟨b, vb, by omega, hPb, rfl, fun j hj => ?_⟩) fun v' s'' hv hm'' => ?_⟩
        · by_cases e : j = i
          · rw [e]; omega
          · exact hmx j (by omega)
        · exact hR v' s'' hv (Moved.trans W.gtrans (hm.mono hsub) hm'')
theorem call_maxD {l : Addr} {vs : List Value} {ns : List Int} {d : Value} {Q : Value → Shared → Prop} (hh : A.handled = none) (hl : s.heap.IsList l vs.toArray) (hi : IntsAre vs ns)
    (h : ∀ v h' tk, ((ns = [] ∧ v = d) ∨ (∃ M t, v = .int M t ∧ M ∈ ns ∧ ∀ a ∈ ns, a ≤ M)) → (∀ b o, s.heap.get? b = some o → h'.get? b = some o) → Q v { s with heap := h', toks := tk }) :
    wpAny (model prog w) A (call (.builtin "max") [.ref l] [(Str.ofString "default", d)]) Q E s := by
  have hname : (toString "max" ++ toString ".loop" : String) = "max.loop" := by decide
  refine wpAny_call (codeAny_call_builtin F.plain_max F.entry_max ?_)
  have ha := args_maxD (.ref l) d
  have hk := F.kind_max
  have key : wpAny (model prog w) A.in1 (Builtin.«max» ⟨[.ref l], [(Str.ofString "default", d)]⟩) (fun fin s' => match fin with
      | .done f => (match (Except.ok f : Result) with | .ok (.ret v) => Q v s' | .ok _ => False | .error e => E e s')
      | .again c' => c'.quiet = true ∧ codeAny (model prog w) A c' (fun r s' => match r with | .ok (.ret v) => Q v s' | .ok _ => False | .error e => E e s') s') E s := by
    show wpAny _ A.in1 (Builtin.Builtins.bindParams "max" ["key", "default"] 0 ⟨[], [(Str.ofString "default", d)]⟩ >>= _) _ _ s
    refine wpAny_bind (wpAny_of_eq (show Builtin.Builtins.bindParams "max" ["key", "default"] 0 ⟨[], [(Str.ofString "default", d)]⟩ = pure [none, some d] from rfl) ?_)
    refine wpAny_bind (wpAny_pure ?_)
    refine wpAny_bind (wpAny_pyIter_list hl (wpAny_bind (wpAny_newObj_type ?_)))
    rw [hname]
    have n1 : (s.heap.push { cls := .type "list_iterator", data := .fields #[.ref l, .int 0 0] }).objs.size = s.heap.objs.size + 1 := Heap.size_push ..
    have ll : l < s.heap.objs.size := by obtain ⟨_, e, _⟩ := hl; exact Heap.lt_size e
    have W := (Walks.list (prog := prog) (w := w) (A := A.in1) (by simpa using hh) s.heap.objs.size l (Nat.ne_of_lt ll) vs.toArray).toS
    have hlen : vs.toArray.size = ns.length := by rw [List.size_toArray]; exact hi.length
    have sf : (s.heap.push { cls := .type "list_iterator", data := .fields #[.ref l, .int 0 0] }).objs.size ∉ [s.heap.objs.size, l] := by
      rw [n1]
      simp only [List.mem_cons, List.not_mem_nil, or_false, not_or]
      exact ⟨Nat.ne_of_gt (Nat.lt_succ_self _), Nat.ne_of_gt (Nat.lt_succ_of_lt ll)⟩
    have hl1 : (s.heap.push { cls := .type "list_iterator", data := .fields #[.ref l, .int 0 0] }).IsList l vs.toArray := hl.push _
    refine wpAny_pure ⟨plainId_quiet F.plain_max_loop _, maxd_loop W (fun i => ns.getD i 0) (fun i v hv => ?_) sf d vs.toArray.size 0 _ #[] 0 (Nat.zero_add _) ⟨⟨_, Heap.get?_push_of_some _ (Heap.get?_push_size _ rfl), rfl, rfl⟩, hl1.push _⟩ (Heap.get?_push_size _ rfl) (.inl ⟨rfl, rfl⟩) fun v s' hv mv => ?_⟩
    · exact hi.int_at i v (by simpa using hv)
    · obtain ⟨h', g', d', tk', os'⟩ := s'
      have z1 : g' = s.gens := mv.gens
      have z2 : d' = s.drawn := mv.drawn
      have z3 : os' = s.os := mv.os
      subst z1 z2 z3
      refine h v h' tk' ?_ fun b o e => ?_
      · rcases hv with ⟨h0, e⟩ | ⟨b, hb, hPb, hm⟩
        · exact .inl ⟨List.length_eq_zero_iff.mp (by rw [← hlen]; exact h0), e⟩
        · obtain ⟨t, rfl⟩ := hi.int_at b v (by simpa using hPb)
          refine .inr ⟨_, t, rfl, getD_mem (by rw [← hlen]; exact hb), fun a ha => ?_⟩
          obtain ⟨j, hj, rfl⟩ := mem_getD ha
          exact hm j (by rw [hlen]; exact hj)
      · have lb := Heap.lt_size e
        refine mv.heap b o ?_ (Heap.get?_push_of_some _ (Heap.get?_push_of_some _ e))
        rw [n1]
        simp only [List.mem_cons, List.not_mem_nil, or_false, not_or]
        exact ⟨Nat.ne_of_lt (Nat.lt_succ_of_lt lb), Nat.ne_of_lt lb⟩
  simp only [checkBuiltinCall, hk]
  cases hsig : Manifest.signature? "max" with
  | none => exact wpAny_pure key
  | some sig =>
    have ha' : Bind.checkArgs "max" sig ⟨[.ref l], [(Str.ofString "default", d)]⟩ = pure () := by simpa only [argsOk, hsig] using ha
    simp only [ha']
    exact wpAny_pure key
end
/-! ### the rules -/
def tMaxD (K : PySem.W.Frag) (ta : TA) (tc : TE) : TE := fun σ H Q => ta σ H fun vs H1 => tc σ H1 fun y H2 => ∃ (a : Addr) (ns : List Int) (d : Int), vs = [.ref a] ∧ y = .int d ∧ SqL K H2 a (ns.map V.int) ∧ ∀ M, ((ns = [] ∧ M = d) ∨ (M ∈ ns ∧ ∀ a ∈ ns, a ≤ M)) → Q (.int M) H2
def qSum (K : PySem.W.Frag) : List V → Hp → VK → Prop := fun xs H Q => ∃ (a : Addr) (ns : List Int), xs = [.ref a] ∧ SqL K H a (ns.map V.int) ∧ Q (.int ns.sum) H
theorem preSum_sum : ∀ (ns : List Int), preSum (fun i => ns.getD i 0) ns.length = ns.sum := by
  have key : ∀ (ns : List Int) (k : Nat), k ≤ ns.length → preSum (fun i => ns.getD i 0) k = (ns.take k).sum := by
    intro ns k
    induction k with
    | zero => intro _; simp [preSum]
    | succ k ih =>
      intro hk
      have hlt : k < ns.length := by omega
      have e : ns.take (k + 1) = ns.take k ++ [ns.getD k 0] := by
        rw [List.take_add_one, List.getElem?_eq_getElem hlt, List.getD_eq_getElem?_getD, List.getElem?_eq_getElem hlt]
        rfl
      rw [preSum, ih (by omega), e, List.sum_append]
      simp
  intro ns
  rw [key ns ns.length (Nat.le_refl _), List.take_length]
section
variable {X : Cx}
theorem pe_maxD {e dv : Expr} {p kp pos : Pos} {ta : TA} {tc : TE} (hc : X.calm = true) (hg : Gl X "max") (hm : X.mg "max" = none) (hv : bootBuiltins "max" = some (.builtin "max")) (ha : PA X [e] ta) (hd : PE X dv tc) (he : backTo pos (starEach [e] X.env) = (false, eval e X.env) :: backTo pos (starEach [] X.env) := by rfl) (hpl : (backTo pos (starEach [e] X.env)).any (·.1) = false := by rfl) : PE X (.Call (.Name "max" p) [e] [⟨some "default", dv, kp⟩] pos) (tMaxD X.K ta tc) := by
  intro pins s σ H Q I h
  refine wpAny_Call_Name_kw (ld_blt I hg hm hv ?_)
  refine PyProof.Rows.callWith_kw (thn (ha pos pins s σ H _ I h) fun us s1 ⟨vs, H1, I1, r1, q1⟩ => ?_) he hpl rfl rfl
  refine PyProof.Rows.kws_cons (thn (hd pins s1 σ H1 _ I1 q1) fun u s2 ⟨y, H2, I2, r2, q2⟩ => PyProof.Rows.kws_nil ?_)
  obtain ⟨a, ns, d, rfl, rfl, hq, q⟩ := q2
  obtain ⟨u0, rfl, r0⟩ := r1.one
  have e0 : u0 = Value.ref a := r0
  subst e0
  obtain ⟨t, rfl⟩ := r2
  obtain ⟨its, rv, pl, hz⟩ := I2.list hq
  show wpAny _ _ (call (.builtin "max") [.ref a] [(Str.ofString "default", .int d t)]) _ _ _
  refine call_maxD (I.ok.hd hc) pl.isList (intsAre_of rv) fun v h' tk hv hk => ?_
  rcases hv with ⟨h0, rfl⟩ | ⟨M, t', rfl, hM, hmx⟩
  · exact ⟨.int d, H2, I2.kept hk, ⟨_, rfl⟩, q d (.inl ⟨h0, rfl⟩)⟩
  · exact ⟨.int M, H2, I2.kept hk, ⟨_, rfl⟩, q M (.inr ⟨hM, hmx⟩)⟩
theorem call_sumL (hc : X.calm = true) : CallR X (.builtin "sum") (qSum X.K) := by
  intro pins s σ H xs us Q I r h
  obtain ⟨a, ns, rfl, hq, q⟩ := h
  obtain ⟨u, rfl, r1⟩ := r.one
  cases r1
  obtain ⟨its, rv, pl, hz⟩ := I.list hq
  have hi := intsAre_of rv
  have hl := pl.isList
  have ll : a < s.heap.objs.size := by obtain ⟨_, e, _⟩ := hl; exact Heap.lt_size e
  refine call_sum_walkG (wpAny_pyIter_list hl ⟨s.heap.objs.size, _, _, _, _, _, fun i => ns.getD i 0, rfl, Walks.list (A := X.A.in1) (by simpa using I.ok.hd hc) _ a (Nat.ne_of_lt ll) its.toArray, ⟨⟨_, Heap.get?_push_size _ rfl, rfl, rfl⟩, hl.push _⟩, fun b hb => ?_, fun i v hv => hi.int_at i v (by simpa using hv), fun h' tk t' hk => ?_⟩)
  · show b < (s.heap.push _).objs.size
    rw [Heap.size_push]
    rcases List.mem_cons.mp hb with rfl | hb
    · exact Nat.lt_succ_self _
    · obtain rfl := List.mem_singleton.mp hb
      exact Nat.lt_succ_of_lt ll
  · refine ⟨.int ns.sum, H, I.kept (h' := h') fun b u e => ?_, ⟨t', ?_⟩, q⟩
    · refine hk b u ?_ (Heap.get?_push_of_some _ e)
      simp only [List.mem_singleton]
      exact Nat.ne_of_lt (Heap.lt_size e)
    · rw [List.size_toArray, hi.length, preSum_sum]
end
/-! ### comprehensions over enumerate of a tuple -/
theorem comp_enumT {K : PySem.W.Frag} {a : Addr} {xs : List V} {g : TG} {tt : TT} {te : TE} {Q : VK} {σ : St} {H : Hp} (Pv : Nat → List V → St → Hp → Prop) (h0 : Pv 0 [] σ H) (hz : xs.length < sizeLine) (hy : ∀ i ys σ H, Pv i ys σ H → ys.length ≤ i) (hl : ∀ i ys σ H, i ≤ xs.length → Pv i ys σ H → SqT K H a xs)
    (hs : ∀ i ys x σ H T, xs[i]? = some x → Pv i ys σ H → H T = none → g (.ref T) σ (upd H T (.tup [.int i, x])) fun σ2 H2 => tt σ2 H2 fun b H3 => if b = true then te σ2 H3 (fun v H4 => Pv (i + 1) (ys ++ [v]) σ2 H4) else Pv (i + 1) ys σ2 H3)
    (hd : ∀ ys σ H, Pv xs.length ys σ H → ∀ p, H p = none → Q (.ref p) (upd H p (.lst ys))) : CompW (IteT K a) g tt te Q σ H := by
  refine ⟨fun i m ys σ H => m = xs.length - i ∧ i ≤ xs.length ∧ Pv i ys σ H, ⟨xs.length, by simp, Nat.zero_le _, h0⟩, ?_⟩
  rintro i m ys σ H ⟨rfl, hi, p⟩
  have q := hl i ys σ H hi p
  have hyl := hy i ys σ H p
  by_cases hlt : i < xs.length
  · refine .inr ⟨⟨xs, xs[i], q, by simp [hlt]⟩, by omega, Pv (i + 1), fun ys' σ' H' p' => ⟨xs.length - (i + 1), by omega, rfl, hlt, p'⟩, fun x H' y => ?_⟩
    obtain ⟨T, v, rfl, hT, rfl, y⟩ := y
    exact hs i ys v σ H T (y xs q) p hT
  · have e : i = xs.length := by omega
    subst e
    exact .inl ⟨⟨xs, q, Nat.le_refl _⟩, by omega, hd ys σ H p⟩
theorem tComp_enumT {K : PySem.W.Frag} {ta : TA} {g : TG} {tt : TT} {te : TE} {mp : List (Option Nat)} {σ : St} {H : Hp} {Q : VK} : tComp (iEnumT K ta) g tt te mp σ H Q = ta σ H fun vs H1 => ∃ a, vs = [.ref a] ∧ (∃ xs, SqT K H1 a xs) ∧ CompW (IteT K a) g tt te Q (subσ mp σ) H1 := rfl
end L2


set_option Elab.async false
set_option linter.all false
set_option maxRecDepth 100000
namespace L2
open PySem PySem.Spec PyProof.Rows PySem.W
def rCountL : V → List V → Hp → VK → Prop := fun x vs H Q => ∃ (l : Addr) (ss : List Str) (y : Str), x = .ref l ∧ vs = [.str y] ∧ H l = some (.lst (ss.map V.str)) ∧ Q (.int (ss.count y : Nat)) H
section
variable {X : Cx}
theorem count_strs {y : Str} {t : Tok} : ∀ {us : List Value} {ss : List Str}, StrsAre us ss → us.countP (fun u => decide (strOf u = y)) = ss.count y
  | _, _, .nil => rfl
  | _, _, .cons x t r => by
    rw [List.countP_cons, List.count_cons, count_strs (t := t) r]
    by_cases e : x = y
    · simp [strOf, e]
    · simp [strOf, e]
theorem mt_count : MtM X "list.count" rCountL := by
  intro pins s σ H x vs v us Q I rx rv h
  obtain ⟨l, ss, y, rfl, rfl, hH, q⟩ := h
  cases rx
  obtain ⟨u, rfl, t, rfl⟩ := rv.one
  obtain ⟨z, its, n, r, hl, e⟩ := I.lstM hH
  have hs := strsAre_of r
  refine call_meets F.slot_list_count ⟨_, e, rfl⟩ F.entry_list_count (F.args_list_count_2 _ _) (SeqAt.list_countAt l its.toArray n _ _ (.str y t) fun u => decide (strOf u = y)) ⟨e, fun u hu => ?_, ?_⟩
  · obtain ⟨i, hi, rfl⟩ := Array.getElem_of_mem hu
    obtain ⟨t', e'⟩ := strsAre_at hs i its.toArray[i] (by simp)
    rw [e']
    intro prog w E Q hq
    refine wpAny_eqBool_str ?_
    exact hq
  · refine ⟨.int _, H, I.kept (h' := s.heap) (t' := s.toks + 1) fun b u e => e, ⟨_, rfl⟩, ?_⟩
    rw [List.toList_toArray, count_strs (t := 0) hs]
    exact q
/-- many new objects at once -/
theorem Inv.grow {pins : List (Addr × Obj)} {σ : St} {H H' : Hp} {s : Shared} {h' : Heap} {t' : Nat} (I : Inv X pins σ H s) (k : ∀ b u, s.heap.get? b = some u → h'.get? b = some u) (sm : Same H H') (old : ∀ b, b < s.heap.objs.size → H b = none → H' b = none)
    (new : ∀ b u, H b = none → H' b = some u → ObjOk X.prog X.w H' h' b u) : Inv X pins σ H' { s with heap := h', toks := t' } := by
  refine I.un ⟨fun b u q _ _ _ => k b u q, fun b u q _ _ _ => ⟨u.slots, k b u q⟩, fun b u q n _ => old b (Heap.lt_size q) n, fun b u q _ => ⟨u, k b u q⟩, fun b xs q => sm _ _ q, fun b u xs q => sm _ _ q, fun b ps q => ⟨#[], by rw [sm _ _ q]; simp⟩⟩ fun b u e => ?_
  cases hb : H b with
  | none => exact new b u hb e
  | some u' =>
    have := sm _ _ hb
    rw [e] at this
    cases this
    exact (I.hok b u hb).stay (fun c v _ q => k c v q) (fun c q => sm _ _ q) fun c xs q => sm _ _ q
end
/-! ### a dict's pairs, sorted -/
def itemsO (v d : Addr) : HO := .ext fun h => h.IsItemsView v d
def rItems : V → List V → Hp → VK → Prop := fun x vs H Q => ∃ (d : Addr) (kvs : List (Key × V)), x = .ref d ∧ vs = [] ∧ H d = some (.dK kvs) ∧ ∀ p, H p = none → Q (.ref p) (upd H p (itemsO p d))
def pairD (p : Str × Int) : Dm := .tup [.str p.1, .int p.2]
def qSortItems : List V → Hp → VK → Prop := fun xs H Q => ∃ (v d : Addr) (kvs : List (Str × Int)) (ρ : Str → Nat), xs = [.ref v] ∧ H v = some (itemsO v d) ∧ H d = some (.dK (kvs.map fun p => (Sum.inr p.1, V.int p.2))) ∧ kvs.length < 64 ∧
  (∀ p ∈ kvs, ∀ q ∈ kvs, decide (p.1.cps.toList < q.1.cps.toList) = decide (ρ p.1 < ρ q.1) ∧ (ρ p.1 = ρ q.1 → p.1 = q.1)) ∧
  ∀ (l : Addr) (H' : Hp) (ws : List V) (ms : List (Str × Int)), Same H H' → H l = none → H' l = some (.lst ws) → DtA H' ws (ms.map pairD) → ms.Perm kvs → ms.Pairwise (fun p q => ρ p.1 < ρ q.1) → Q (.ref l) H'
section
variable {prog : Program} {w : World} {A : Around} {E : Value → Shared → Prop} {s : Shared}
theorem lt_pair {x y : Str} {a c : Addr} {ox oy : Obj} {xs ys : Array Value} {n m : Nat} {t u : Tok} {d e : Value} {Q : Bool → Shared → Prop} (ha : s.heap.get? a = some ox) (da : ox.data = .seq xs n) (hc : s.heap.get? c = some oy) (dc : oy.data = .seq ys m)
    (ex : xs.toList = [.str x t, d]) (ey : ys.toList = [.str y u, e]) (hne : x ≠ y) (h : Q (decide (x.cps.toList < y.cps.toList)) s) : wpAny (model prog w) A (keyLt' (tuples' true) (.ref a) (.ref c)) Q E s := by
  refine kat_lt ha da hc dc ?_
  rw [ex, ey, List.zip_cons_cons]
  refine kat_cons (wpAny_eqBool_str ?_)
  rw [decide_eq_false hne]
  exact kat_no (oneLt_str h)
end
section
variable {prog : Program} {w : World} {A : Around} {E : Value → Shared → Prop} {s : Shared} {K : Type} [DecidableEq K] {knd : PySem.KeyKind prog w K}
/-- a dict's pairs gathered: the heap has grown -/
theorem items_collect {r d : Addr} {kvs : List (K × Value)} {ep : Nat} {Q : List Value → Shared → Prop} (hh : A.handled = none) (hv : s.heap.IsItemsView r d) (hm : s.heap.DictAt knd d kvs ep) (hn : kvs.length ≤ sizeLine)
    (q : ∀ (h' : Heap) (tk : Nat) (as : List Addr), s.heap.objs.size ≤ h'.objs.size → (∀ b o, s.heap.get? b = some o → h'.get? b = some o) → as.length = kvs.length → KdxG knd kvs s.heap.objs.size h' as → Q (as.map Value.ref) { s with heap := h', toks := tk }) :
    wpAny (model prog w) A (collect (.ref r)) Q E s := by
  have hr : r < s.heap.objs.size := let ⟨_, ho, _⟩ := hv; Heap.lt_size ho
  have hd : d < s.heap.objs.size := hm.lt_size
  unfold collect
  refine wpAny_bind (wpAny_runValue (codeAny_builtin PySem.F.entry_proto_collect ?_))
  rw [Around.under_plainId PySem.F.plain_proto_collect]
  refine wpAny_bind (wpAny_newList (wpAny_pure ⟨plainId_quiet PySem.F.plain_list_iadd _, codeAny_builtin PySem.F.entry_list_iadd ?_⟩))
  rw [Around.under_plainId PySem.F.plain_list_iadd]
  have e0 : (s.heap.push (seqObj "list" #[] 0)).get? s.heap.objs.size = some (seqObj "list" #[] 0) := Heap.get?_push_size _ rfl
  show wpAny _ _ (Builtin.List.listExtendWith (.ref s.heap.objs.size) (.ref r) (.ref s.heap.objs.size)) _ _ { s with heap := s.heap.push (seqObj "list" #[] 0) }
  have fin : ∀ (v : Result) (s' : Shared), (∃ (h' : Heap) (tk : Nat) (acc : Array Value) (c : Nat) (as : List Addr), v = .ok (.ret (.ref s.heap.objs.size)) ∧ s' = { s with heap := h', toks := tk } ∧ h'.get? s.heap.objs.size = some { cls := .type "list", dict := none, data := .seq acc c, slots := #[] } ∧ acc.toList = as.map Value.ref ∧ Q (as.map Value.ref) { s with heap := h', toks := tk }) →
      (match v with | .ok (.ret v) => wpAny (model prog w) A (match v with | .ref a => (do match (← load a).data with | .seq xs _ => pure xs.toList | _ => unsupported "internal:collect") | _ => unsupported "internal:collect") Q E s' | .ok _ => False | .error e => E e s') := by
    rintro v s' ⟨h', tk, acc, c, as, rfl, rfl, hS, hacc, hq⟩
    refine wpAny_bind (wpAny_load hS (wpAny_pure ?_))
    rw [hacc]
    exact hq
  refine wpAny_mono (kdx_extend (A := A) (s := { s with heap := s.heap.push (seqObj "list" #[] 0) }) (knd := knd) (kvs := kvs) (ep := ep)
    (R := fun v s' => ∃ (h' : Heap) (tk : Nat) (acc : Array Value) (c : Nat) (as : List Addr), v = .ok (.ret (.ref s.heap.objs.size)) ∧ s' = { s with heap := h', toks := tk } ∧ h'.get? s.heap.objs.size = some { cls := .type "list", dict := none, data := .seq acc c, slots := #[] } ∧ acc.toList = as.map Value.ref ∧ Q (as.map Value.ref) { s with heap := h', toks := tk })
    hh (let ⟨o, ho, x⟩ := hv; ⟨o, Heap.get?_push_of_some _ ho, x⟩) (hm.push _) s.heap.objs.size (Nat.ne_of_gt hr) (Nat.ne_of_lt hd) (.ref s.heap.objs.size) 0 e0 (fun h' tk acc c as hk hS hl g hacc => ⟨h', tk, acc, c, as, rfl, rfl, hS, hacc, ?_⟩) hn) (fun f s' z => ?_) (fun e s' z => fin _ _ z)
  · refine q h' tk as (Nat.le_of_lt (Heap.lt_size hS)) (fun b o e => hk b o (Nat.ne_of_lt (Heap.lt_size e)) (Heap.get?_push_of_some _ e)) hl (g.low ?_)
    show s.heap.objs.size ≤ (s.heap.push _).objs.size
    rw [Heap.size_push]
    exact Nat.le_succ _
  · cases f with
    | done f => exact fin _ _ z
    | again c => exact ⟨z.1, codeAny_mono z.2 fun r s2 y => fin r s2 y⟩
end
def updT : List Addr → List (List V) → Hp → Hp
  | a :: as, x :: xs, H => upd (updT as xs H) a (.tup x)
  | _, _, H => H
theorem updT_other : ∀ {as : List Addr} {xs : List (List V)} {H : Hp} {b : Addr}, b ∉ as → updT as xs H b = H b
  | [], _, _, _, _ => rfl
  | a :: as, [], _, _, _ => rfl
  | a :: as, x :: xs, H, b, h => by
    rw [updT, upd_ne (show b ≠ a from fun z => h (by rw [z]; exact List.mem_cons_self))]
    exact updT_other fun z => h (.tail _ z)
theorem updT_at : ∀ {as : List Addr} {xs : List (List V)} {H : Hp} {j : Nat} {a : Addr} {x : List V}, as.Pairwise (· < ·) → as[j]? = some a → xs[j]? = some x → updT as xs H a = some (.tup x)
  | [], _, _, _, _, _, _, h, _ => by simp at h
  | a :: as, [], _, _, _, _, _, _, h => by simp at h
  | a :: as, x :: xs, H, 0, b, y, _, h1, h2 => by
    have e1 : a = b := by simpa using h1
    have e2 : x = y := by simpa using h2
    subst e1 e2
    exact upd_same
  | a :: as, x :: xs, H, j + 1, b, y, hp, h1, h2 => by
    obtain ⟨p1, p2⟩ := List.pairwise_cons.mp hp
    have h1' : as[j]? = some b := by simpa using h1
    have hlt := p1 b (List.mem_of_getElem? h1')
    rw [updT, upd_ne (Nat.ne_of_gt hlt)]
    exact updT_at p2 h1' (by simpa using h2)
theorem updT_in : ∀ {as : List Addr} {xs : List (List V)} {H : Hp} {b : Addr} {u : HO}, as.length = xs.length → as.Pairwise (· < ·) → b ∈ as → updT as xs H b = some u → ∃ (j : Nat) (x : List V), as[j]? = some b ∧ xs[j]? = some x ∧ u = .tup x := by
  intro as xs H b u hl hp hb e
  obtain ⟨j, hj, ej⟩ := List.getElem_of_mem hb
  have h1 : as[j]? = some b := by rw [List.getElem?_eq_getElem hj, ej]
  have h2 : xs[j]? = some xs[j] := List.getElem?_eq_getElem (by omega)
  have z := updT_at (H := H) hp h1 h2
  rw [e] at z
  cases z
  exact ⟨j, _, h1, h2, rfl⟩
section
variable {X : Cx}
theorem mt_items : MtM X "dict.items" rItems := by
  intro pins s σ H x vs v us Q I rx rv h
  obtain ⟨d, kvs, rfl, rfl, hH, q⟩ := h
  cases rx
  cases rv
  obtain ⟨z, hd, xs, rel, dd⟩ := dk_of I.hok hH
  have hT : s.TypeIs (.ref d) "dict" := dd.typeIs
  refine call_meetsIn F.slot_dict_items hT F.entry_dict_items (F.args_dict_items_1 _) (meets_dict_items (mixKind X.prog X.w) d hd) ⟨⟨_, dd⟩, ?_⟩
  have e := Heap.get?_push_size s.heap (o := { cls := .type "dict_items", data := .fields #[.ref d] }) rfl
  refine ⟨.ref s.heap.objs.size, _, I.laid (t' := s.toks) (fun b u q => Heap.get?_push_of_some _ q) (Nat.le_refl _) (show ObjOk X.prog X.w _ _ _ (itemsO s.heap.objs.size d) from ⟨⟨_, e, rfl, rfl⟩, ⟨_, e⟩, fun h1 h2 ⟨o, e1, r⟩ y => ⟨o, y _ e1, r⟩⟩), rfl, q _ (I.hok.fresh (Nat.le_refl _))⟩
theorem kv_str {kvs : List (Str × Int)} : ∀ {vs : List (Key × Value)}, KV (kvs.map fun p => ((Sum.inr p.1 : Key), V.int p.2)) vs → ∀ (j : Nat) (k : Key) (x : Value), vs[j]? = some (k, x) → ∃ p t, kvs[j]? = some p ∧ k = Sum.inr p.1 ∧ x = .int p.2 t := by
  induction kvs with
  | nil =>
    intro vs rel j k x e
    cases rel
    simp at e
  | cons p kvs ih =>
    intro vs rel j k x e
    cases rel with
    | cons rr rt =>
      cases j with
      | zero =>
        obtain ⟨h1, t, h2⟩ := rr
        simp only [List.getElem?_cons_zero, Option.some.injEq] at e
        subst e
        exact ⟨p, t, rfl, h1.symm, h2⟩
      | succ j => exact ih rt j k x (by simpa using e)
theorem dtA_maps {α : Type} {H : Hp} {f : α → V} {g : α → Dm} : ∀ {l : List α}, (∀ i ∈ l, Dt H (f i) (g i)) → DtA H (l.map f) (l.map g)
  | [], _ => .nil
  | i :: l, h => .cons (h i (.head _)) (dtA_maps fun j hj => h j (.tail _ hj))
theorem vals_maps {α : Type} {f : α → V} {g : α → Value} : ∀ {l : List α}, (∀ i ∈ l, RelV (f i) (g i)) → Vals (l.map f) (l.map g)
  | [], _ => .nil
  | i :: l, h => .cons (h i (.head _)) (vals_maps fun j hj => h j (.tail _ hj))
theorem call_sortedItems (hc : X.calm = true) : CallR X (.builtin "sorted") qSortItems := by
  intro pins s σ H xs us Q I r h
  obtain ⟨v, d, kvs, ρ, rfl, hv, hd, h64, hρ, q⟩ := h
  obtain ⟨u, rfl, r1⟩ := r.one
  cases r1
  have view : s.heap.IsItemsView v d := (show ObjOk X.prog X.w H s.heap v (itemsO v d) from I.hok v _ hv).1
  obtain ⟨zl, hsm, xs, rel, dd⟩ := dk_of I.hok hd
  obtain ⟨ep, da⟩ := dd.dictAt
  have hxl : xs.length = kvs.length := by have := rel.length; rw [List.length_map] at this; exact this.symm
  refine Calls.call_function_entry kind_sorted plain_sorted entry_sorted (args_sorted1 _) ?_
  unfold Builtin.«sorted»
  refine wpAny_bind (m := checkCount "sorted" 1 1 _) (wpAny_pure (wpAny_bind (items_collect (A := X.A.in1) (by simpa using I.ok.hd hc) view da (small18 (by omega)) fun h1 tk as hsz k1 hal g => ?_)))
  have hal' : as.length = kvs.length := by omega
  have hpair : ∀ j a, as[j]? = some a → ∃ (p : Str × Int) (t u : Tok), kvs[j]? = some p ∧ h1.get? a = some { cls := .type "tuple", data := .seq #[.str p.1 t, .int p.2 u] } := fun j a ha => by
    obtain ⟨key, k, x, e1, e2, e3⟩ := g.pairs j a ha
    obtain ⟨p, t, e4, rfl, rfl⟩ := kv_str rel j k x e1
    rcases keyIs_shape (show keyIs (Sum.inr p.1) key = true from e2) with ⟨i, t', e5, rfl⟩ | ⟨y, t', e5, rfl⟩
    · cases e5
    · cases e5
      exact ⟨p, t', t, e4, e3⟩
  have hnd : (kvs.map (·.1)).Nodup := by
    have z := da.nodup
    have e : xs.map (·.1) = kvs.map fun p => (Sum.inr p.1 : Key) := by
      refine List.ext_getElem? fun j => ?_
      rw [List.getElem?_map, List.getElem?_map]
      cases ej : xs[j]? with
      | none =>
        have : kvs[j]? = none := by rw [List.getElem?_eq_none_iff] at ej ⊢; omega
        rw [this]; rfl
      | some kx =>
        obtain ⟨k, x⟩ := kx
        obtain ⟨p, t, e4, e5, _⟩ := kv_str rel j k x ej
        rw [e4, e5]; rfl
    rw [e] at z
    exact List.pairwise_map.mpr ((List.pairwise_map.mp z).imp fun h e => h (by rw [e]))
  have hD : ∀ i, i < kvs.length → kvs[i]? = some (kvs.getD i (⟨#[]⟩, 0)) := fun i hi => by
    rw [List.getD_eq_getElem?_getD, List.getElem?_eq_getElem hi]; rfl
  have hA : ∀ i, i < kvs.length → as[i]? = some (as.getD i 0) := fun i hi => by
    rw [List.getD_eq_getElem?_getD, List.getElem?_eq_getElem (by omega)]; rfl
  have hmem : ∀ i, i < kvs.length → kvs.getD i (⟨#[]⟩, 0) ∈ kvs := fun i hi => List.mem_of_getElem? (hD i hi)
  have hat : ∀ i, i < kvs.length → ∃ t u, h1.get? (as.getD i 0) = some { cls := .type "tuple", data := .seq #[.str (kvs.getD i (⟨#[]⟩, 0)).1 t, .int (kvs.getD i (⟨#[]⟩, 0)).2 u] } := fun i hi => by
    obtain ⟨p, t, u, e1, e2⟩ := hpair i _ (hA i hi)
    rw [hD i hi] at e1
    cases e1
    exact ⟨t, u, e2⟩
  have hvl : (as.map Value.ref).length = kvs.length := by rw [List.length_map, hal']
  have hvd : ∀ i, i < kvs.length → (as.map Value.ref).getD i .none = .ref (as.getD i 0) := fun i hi => by
    rw [List.getD_eq_getElem?_getD, List.getElem?_map, hA i hi]; rfl
  have hne : ∀ i j, i < kvs.length → j < kvs.length → (kvs.getD i (⟨#[]⟩, 0)).1 = (kvs.getD j (⟨#[]⟩, 0)).1 → i = j := fun i j hi hj e => by
    have hi' : i < (kvs.map (·.1)).length := by rw [List.length_map]; exact hi
    have hj' : j < (kvs.map (·.1)).length := by rw [List.length_map]; exact hj
    refine (List.getElem_inj (h₀ := hi') (h₁ := hj') hnd).mp ?_
    rw [List.getElem_map, List.getElem_map]
    have a1 := hD i hi
    have a2 := hD j hj
    rw [List.getElem?_eq_getElem hi] at a1
    rw [List.getElem?_eq_getElem hj] at a2
    rw [Option.some.inj a1, Option.some.inj a2]
    exact e
  refine wpAny_bind (wpAny_newList ?_ (small18 (by omega)))
  have eL : (h1.push (seqObj "list" (as.map Value.ref).toArray 0)).get? h1.objs.size = some (seqObj "list" (as.map Value.ref).toArray 0) := Heap.get?_push_size _ rfl
  refine wpAny_bind (wpAny_holding (wpAny_call_entry slot_list_sort ⟨_, eL, rfl⟩ entry_list_sort (list_sort_treeQ (r := fun i => ρ (kvs.getD i (⟨#[]⟩, 0)).1) eL (by omega) (fun i j hi hj e => hne i j (by omega) (by omega) ((hρ _ (hmem i (by omega)) _ (hmem j (by omega))).2 e)) (fun h2 h' kp => ?_) fun p P1 P2 => ⟨_, rfl, ?_⟩) (args_list_sort _)))
  · have keep : ∀ i, i < kvs.length → ∃ t u, h'.get? (as.getD i 0) = some { cls := .type "tuple", data := .seq #[.str (kvs.getD i (⟨#[]⟩, 0)).1 t, .int (kvs.getD i (⟨#[]⟩, 0)).2 u] } := fun i hi => by
      obtain ⟨t, u, e⟩ := hat i hi
      exact ⟨t, u, kp _ _ (Nat.ne_of_lt (Heap.lt_size e)) (Heap.get?_push_of_some _ e)⟩
    have tups : ∀ (l : List Nat), (∀ i ∈ l, i < kvs.length) → ∃ fs, KatTups h' (l.map fun i => (as.map Value.ref).getD i .none) fs ∧ fs.length = l.length ∧ ∀ f ∈ fs, ∃ x t, f = .str x t := by
      intro l
      induction l with
      | nil => intro _; exact ⟨[], .nil, rfl, fun f hf => absurd hf (by simp)⟩
      | cons i l ih =>
        intro hl
        obtain ⟨fs, k, lf, ff⟩ := ih fun j hj => hl j (.tail _ hj)
        obtain ⟨t, u, e⟩ := keep i (hl i (.head _))
        refine ⟨.str (kvs.getD i (⟨#[]⟩, 0)).1 t :: fs, ?_, by simp [lf], fun f hf => ?_⟩
        · rw [List.map_cons, hvd i (hl i (.head _))]
          exact .cons e rfl rfl rfl k
        · rcases List.mem_cons.mp hf with rfl | hf
          · exact ⟨_, _, rfl⟩
          · exact ff f hf
    obtain ⟨fs, kt, fl, ff⟩ := tups (List.range kvs.length) fun i hi => List.mem_range.mp hi
    have ev : ((List.range kvs.length).map fun i => (as.map Value.ref).getD i .none) = as.map Value.ref := by
      refine List.ext_getElem (by simp [hal']) fun i h1 h2 => ?_
      simp at h2
      simp [h2]
    rw [ev] at kt
    rw [List.length_range] at fl
    refine ⟨tuples' true, fun E Q hQ => kat_kind (T := .type "str") kt (by omega) (fun v hv => ?_) rfl hQ, fun i j hi hj E Q hQ => ?_⟩
    · obtain ⟨x, t, rfl⟩ := ff v hv
      exact Looks.of_pure rfl
    · rw [hvl] at hi hj
      rw [hvd i hi, hvd j hj]
      obtain ⟨t1, u1, e1⟩ := keep i hi
      obtain ⟨t2, u2, e2⟩ := keep j hj
      by_cases eij : i = j
      · subst eij
        rw [decide_eq_false (Nat.lt_irrefl _)] at hQ
        rw [e1] at e2
        refine kat_lt e1 rfl e1 rfl ?_
        refine kat_cons (wpAny_eqBool_str ?_)
        rw [decide_eq_true rfl]
        refine kat_yes (kat_cons (wpAny_eqBool_int ?_))
        rw [show ((kvs.getD i (⟨#[]⟩, 0)).2 == (kvs.getD i (⟨#[]⟩, 0)).2) = true from beq_self_eq_true _]
        refine kat_yes (kat_nil ?_)
        simpa using hQ
      · refine lt_pair e1 rfl e2 rfl rfl rfl (fun z => eij (hne i j hi hj z)) ?_
        rw [(hρ _ (hmem i hi) _ (hmem j hj)).1]
        exact hQ
  · refine wpAny_pure ⟨_, rfl, ?_⟩
    rw [hvl] at P1 P2
    obtain ⟨n, en⟩ := sortedHeap_at (out := (p.toList.map fun i => (as.map Value.ref).getD i Value.none).toArray) eL
    have hin : ∀ i ∈ p.toList, i < kvs.length := fun i hi => List.mem_range.mp (P1.pm.mem_iff.mp hi)
    have oldF : ∀ b u, h1.get? b = some u → (sortedHeap (h1.push (seqObj "list" (as.map Value.ref).toArray 0)) h1.objs.size (as.map Value.ref) (p.toList.map fun i => (as.map Value.ref).getD i Value.none).toArray).get? b = some u := fun b u hu => by
      have lb := Heap.lt_size hu
      rw [sortedHeap_old (Nat.ne_of_lt lb) (by rw [size_push']; exact Nat.lt_succ_of_lt lb)]
      exact Heap.get?_push_of_some _ hu
    have hup : ∀ a ∈ as, s.heap.objs.size ≤ a ∧ a < h1.objs.size := fun a ha => ⟨Nat.le_of_lt (g.above a ha), g.there ha⟩
    have nL : h1.objs.size ∉ as := fun z => absurd (hup _ z).2 (Nat.lt_irrefl _)
    have low : ∀ b, b < s.heap.objs.size → upd (updT as (kvs.map fun p => [V.str p.1, V.int p.2]) H) h1.objs.size (.lst (p.toList.map fun i => V.ref (as.getD i 0))) b = H b := fun b hb => by
      rw [upd_ne (Nat.ne_of_lt (Nat.lt_of_lt_of_le hb hsz)), updT_other fun z => absurd (hup b z).1 (by omega)]
    have sm : Same H (upd (updT as (kvs.map fun p => [V.str p.1, V.int p.2]) H) h1.objs.size (.lst (p.toList.map fun i => V.ref (as.getD i 0)))) := fun b u e => by
      rw [low b (I.hok b u e).lt]; exact e
    have atT : ∀ i, i < kvs.length → upd (updT as (kvs.map fun p => [V.str p.1, V.int p.2]) H) h1.objs.size (.lst (p.toList.map fun i => V.ref (as.getD i 0))) (as.getD i 0) = some (.tup [V.str (kvs.getD i (⟨#[]⟩, 0)).1, V.int (kvs.getD i (⟨#[]⟩, 0)).2]) := fun i hi => by
      have ha := hA i hi
      rw [upd_ne fun z => nL (by rw [← z]; exact List.mem_of_getElem? ha)]
      exact updT_at g.rise ha (by rw [List.getElem?_map, hD i hi]; rfl)
    refine ⟨.ref h1.objs.size, _, I.grow (t' := tk) (fun b u e => oldF b u (k1 b u e)) sm (fun b hb e => (low b hb).trans e) (fun b u e1 e2 => ?_), rfl, q h1.objs.size _ _ (p.toList.map fun i => kvs.getD i (⟨#[]⟩, 0)) sm (I.hok.fresh hsz) upd_same ?_ ?_ ?_⟩
    · by_cases hb : b = h1.objs.size
      · subst hb
        rw [upd_same] at e2
        cases e2
        refine ⟨?_, (p.toList.map fun i => (as.map Value.ref).getD i Value.none), n, vals_maps fun i hi => ?_, by simpa [seqObj] using en⟩
        · rw [List.length_map, Array.length_toList, P1.sz]
          exact small18 (by omega)
        · rw [hvd i (hin i hi)]; rfl
      · rw [upd_ne hb] at e2
        by_cases hba : b ∈ as
        · obtain ⟨j, x, ej, ex, rfl⟩ := updT_in (by rw [List.length_map]; exact hal') g.rise hba e2
          obtain ⟨p', t, u, e4, e5⟩ := hpair j b ej
          rw [List.getElem?_map, e4] at ex
          cases ex
          exact ⟨two_le, [.str p'.1 t, .int p'.2 u], .cons ⟨t, rfl⟩ (.cons ⟨u, rfl⟩ .nil), ⟨_, oldF b _ e5, rfl, 0, rfl⟩⟩
        · rw [updT_other hba, e1] at e2
          cases e2
    · rw [List.map_map]
      refine dtA_maps fun i hi => ?_
      exact .tup (atT i (hin i hi)) (.cons (.str _) (.cons (.int _) .nil))
    · have z := P1.pm.map fun i => kvs.getD i ((⟨#[]⟩ : Str), (0 : Int))
      refine z.trans (.of_eq ?_)
      refine List.ext_getElem (by simp) fun i h1 h2 => ?_
      simp [h2]
    · rw [List.pairwise_map, List.pairwise_iff_getElem]
      intro i j hi hj hij
      have hj' : j < p.size := by simpa using hj
      have z := P2 i j hij (by rw [← P1.sz]; exact hj')
      simpa [rk, Array.getD, hj', Nat.lt_trans hij hj'] using z
end
end L2


set_option Elab.async false
set_option linter.all false
set_option maxRecDepth 100000
namespace L2
open PySem PySem.Spec PyProof.Rows PySem.W
theorem entry_dul : entryFor table "dict.update.loop" = some Builtin.«dict.update.loop» := entryFor_of_tree (by kernel_rfl)
theorem plain_dul : plainId "dict.update.loop" = true := by decide +kernel
theorem zz5' {n : Nat} (h : n ≤ 200000) : n ≤ sizeLine := Nat.le_trans h (by decide)
theorem lk_list_keys : typeLookup (.type "list") "keys" = pure none := by rw [typeLookup_type, builtinLookup_eq_fast]; kernel_rfl
section
variable {prog : Program} {w : World} {A : Around} {E : Value → Shared → Prop} {s : Shared} {a : Addr}
theorem keys_no {its : Array Value} {n : Nat} {Q : Option Value → Shared → Prop} (hh : A.handled = none) (hx : s.heap.get? a = some { cls := .type "list", data := .seq its n }) (q : ∀ h' tk, (∀ b o, s.heap.get? b = some o → h'.get? b = some o) → Q none { s with heap := h', toks := tk }) :
    wpAny (model prog w) A (getAttr? (.ref a) "keys") Q E s := by
  obtain ⟨hp, g, d, tk, os⟩ := s
  have hT : Shared.TypeIs ⟨hp, g, d, tk, os⟩ (.ref a) "list" := ⟨_, hx, rfl⟩
  have hT1 : Shared.TypeIs ⟨hp, g, d, tk + 1, os⟩ (.ref a) "list" := ⟨_, hx, rfl⟩
  have f1 := sub_AttributeError
  have f3 := F.slot_list_getattribute.lookup
  have f4 := F.slot_list_getattribute.bind (.ref a)
  have f5 := am_list_getattr_none
  unfold getAttr? getAttrBy? getAttrBy
  repeat (any_goals (first | assumption | ((with_reducible show wpAny _ _ (call (Value.builtin "list.__getattribute__") _ _) _ _ _); refine call_meets F.slot_list_getattribute hT1 am_entry_list_getattribute (F.args_list_getattribute_2 _ _) (meets_getattribute_miss_list a its n #[] "keys" _ lk_list_keys (by decide +kernel)) ⟨hx, hh, fun h' tk' e hx' => ?_⟩) | wp_step))
  obtain ⟨t', u', he⟩ := hx'.there
  show wpAny _ _ (getattributeRaised _ _ _ _ _ _ _) _ _ _
  unfold getattributeRaised
  repeat (any_goals (first | assumption | wp_step))
  exact q _ _ fun b ob e => hx'.keeps b ob e
theorem dictH_moved {h h' : Heap} {D : Addr} {xs : List (List Key × Addr × Value)} (x : h.DictOfH (tupleKind (mixKind prog w)) D xs) (kD : ∀ o, h.get? D = some o → h'.get? D = some o) (kk : ∀ y ∈ xs, (tupleKind (mixKind prog w)).is h' y.1 y.2.1) : h'.DictOfH (tupleKind (mixKind prog w)) D xs := by
  obtain ⟨o, es, ep, e1, e2, e3, e4, _, e6⟩ := x
  exact ⟨o, es, ep, kD o e1, e2, e3, e4, kk, e6⟩
theorem keyM_kept {h h' : Heap} {p : List Key} {a : Addr} (x : (tupleKind (mixKind prog w)).is h p a) (k : ∀ o, h.get? a = some o → h'.get? a = some o) : (tupleKind (mixKind prog w)).is h' p a := by
  obtain ⟨o, i, n, e, r⟩ := x
  exact ⟨o, i, n, k _ e, r⟩
theorem pair_items {a b : Addr} {v : Value} {o : Obj} {its : Array Value} {k : Nat} {Q : List Value → Shared → Prop} (e : s.heap.get? a = some o) (c : o.cls = .type "tuple") (d : o.data = .seq its k) (hi : its.toList = [.ref b, v]) (q : Q [.ref b, v] s) : wpAny (model prog w) A (Builtin.Dict.pairItems (.ref a)) Q E s := by
  unfold Builtin.Dict.pairItems
  refine wpAny_bind (wpAny_typeOf (T := "tuple") ⟨_, e, c⟩ ?_)
  rw [if_pos (by decide)]
  refine wpAny_bind (wpAny_seqItems e d (wpAny_pure ?_))
  show Q its.toList s
  rw [hi]
  exact q
theorem pairs_loop {R : Result → Shared → Prop} {I D : Addr} {fp wr : List Addr} {G : Array GenState → Array GenState → Prop} {n : Nat} {P : Nat → Value → Prop} {St : Nat → Shared → Prop} {rw_ ka : Nat → Addr} {va : Nat → Value} {ks : Nat → List Key} (W : WalksS prog w A.in1 I fp wr G n P St) (hDf : D ∉ fp)
    (hval : ∀ i v, P i v → v = .ref (rw_ i)) (hinj : ∀ i j, i < n → j < n → ks i = ks j → i = j) (hn : n ≤ 100000) (hnw : ∀ i, i < n → rw_ i ∉ D :: wr ∧ ka i ∉ D :: wr) (hu : A.units + 8 < cLine) :
    ∀ (m i : Nat) (s : Shared), i + m = n → St i s → s.heap.DictOfH (tupleKind (mixKind prog w)) D ((List.range i).map fun j => (ks j, ka j, va j)) →
      (∀ j, j < n → (∃ o its k, s.heap.get? (rw_ j) = some o ∧ o.cls = .type "tuple" ∧ o.data = .seq its k ∧ its.toList = [.ref (ka j), va j]) ∧ (tupleKind (mixKind prog w)).is s.heap (ks j) (ka j)) →
      (∀ s', Moved (D :: wr) G s s' → s'.heap.DictOfH (tupleKind (mixKind prog w)) D ((List.range n).map fun j => (ks j, ka j, va j)) → R (.ok (.ret .none)) s') →
      codeAny (model prog w) A (.builtin "dict.update.loop" ⟨[.ref D, .ref I, rawInt i, .none], []⟩) R s := by
  have hw : D ∉ wr := fun z => hDf (W.sub _ z)
  have hm : ∀ b ∈ wr, b ∈ D :: wr := fun b z => .tail _ z
  intro m
  induction m with
  | zero =>
    intro i s e st x hk q
    obtain rfl : i = n := e
    refine codeAny_builtin entry_dul ?_
    rw [Around.under_plainId plain_dul]
    refine wpAny_bind (W.done s _ _ st fun s' mv => ?_)
    show wpAny _ _ (Builtin.Dict.addKeywords D [] >>= _) _ _ _
    refine wpAny_bind (wpAny_pure (wpAny_pure (q s' (mv.mono hm) (dictH_moved x (fun o z => mv.heap D o hw z) fun y hy => ?_))))
    obtain ⟨j, hj, rfl⟩ := List.mem_map.mp hy
    have hj := List.mem_range.mp hj
    exact keyM_kept (hk j hj).2 fun o z => mv.heap _ o (fun z => (hnw j hj).2 (hm _ z)) z
  | succ m ih =>
    intro i s e st x hk q
    refine codeAny_builtin entry_dul ?_
    rw [Around.under_plainId plain_dul]
    refine wpAny_bind (W.item i s _ _ (by omega) st fun v s1 hP st1 mv => ?_)
    obtain rfl := hval i v hP
    have hi : i < n := by omega
    have hk1 : ∀ j, j < n → (∃ o its k, s1.heap.get? (rw_ j) = some o ∧ o.cls = .type "tuple" ∧ o.data = .seq its k ∧ its.toList = [.ref (ka j), va j]) ∧ (tupleKind (mixKind prog w)).is s1.heap (ks j) (ka j) := fun j hj => by
      obtain ⟨⟨o, its, k, e1, r⟩, x2⟩ := hk j hj
      exact ⟨⟨o, its, k, mv.heap _ o (fun z => (hnw j hj).1 (hm _ z)) e1, r⟩, keyM_kept x2 fun o z => mv.heap _ o (fun z => (hnw j hj).2 (hm _ z)) z⟩
    have x1 : s1.heap.DictOfH (tupleKind (mixKind prog w)) D ((List.range i).map fun j => (ks j, ka j, va j)) := dictH_moved x (fun o z => mv.heap D o hw z) fun y hy => by
      obtain ⟨j, hj, rfl⟩ := List.mem_map.mp hy
      exact (hk1 j (by have := List.mem_range.mp hj; omega)).2
    obtain ⟨⟨o, its, k, e1, e2, e3, e4⟩, x2⟩ := hk1 i hi
    refine wpAny_bind (wpAny_holding (wpAny_bind (wpAny_tryCatch (pair_items e1 e2 e3 e4 (wpAny_holding (wpAny_dictSet_heap (by show A.units + 1 < cLine; omega) x2 x1 (fun h' x' sb => ?_) ?_))))))
    · have hnew : atKey ((List.range i).map fun j => (ks j, ka j, va j)) (ks i) = none := atKey_none_of_get fun j p z => by
        rw [List.getElem?_map] at z
        cases ej : (List.range i)[j]? with
        | none => rw [ej] at z; cases z
        | some j' =>
          rw [ej] at z
          have hj' := List.mem_range.mp (List.mem_of_getElem? ej)
          have : ks j' = ks i := by simpa using congrArg Prod.fst (Option.some.inj z)
          have := hinj j' i (by omega) hi this
          omega
      rw [storedH_new hnew] at x'
      have er : ((List.range i).map fun j => (ks j, ka j, va j)) ++ [(ks i, ka i, va i)] = (List.range (i + 1)).map fun j => (ks j, ka j, va j) := by
        rw [List.range_succ, List.map_append]; rfl
      rw [er] at x'
      have hk2 : ∀ j, j < n → (∃ o its k, h'.get? (rw_ j) = some o ∧ o.cls = .type "tuple" ∧ o.data = .seq its k ∧ its.toList = [.ref (ka j), va j]) ∧ (tupleKind (mixKind prog w)).is h' (ks j) (ka j) := fun j hj => by
        obtain ⟨⟨o, its, k, e1, r⟩, x2⟩ := hk1 j hj
        exact ⟨⟨o, its, k, (sb.2 _ fun z => (hnw j hj).1 (by rw [z]; exact List.mem_cons_self)).trans e1, r⟩, keyM_kept x2 fun o z => (sb.2 _ fun z => (hnw j hj).2 (by rw [z]; exact List.mem_cons_self)).trans z⟩
      refine wpAny_pure ⟨plainId_quiet plain_dul _, ih (i + 1) _ (by omega) (W.frame _ s1 _ _ st1 (Nat.le_add_right _ _) fun b hb' o z => ?_) x' hk2 fun s2 mv2 x2 => q s2 (Moved.trans W.gtrans ((mv.mono hm).then_heap (Nat.le_add_right _ _) fun b o hb' z => ?_) mv2) x2⟩
      · rw [sb.2 b fun z : b = D => hDf (z ▸ hb')]; exact z
      · rw [sb.2 b fun z : b = D => hb' (z ▸ List.mem_cons_self)]; exact z
    · rw [List.length_map, List.length_range]
      exact zz5' (by omega)
end
/-! ### the rule -/
def qDictT : List V → Hp → VK → Prop := fun xs H Q => ∃ (a : Addr) (vs : List V) (l : List Rw2), xs = [.ref a] ∧ H a = some (.lst vs) ∧ DtA H vs (l.map rowD) ∧ (l.map (·.1)).Nodup ∧ l.length ≤ 100000 ∧
  ∀ (p : Addr) (kvs : List (List Key × V)), H p = none → Paired (fun (kv : List Key × V) (r : Rw2) => kv.1 = r.1.map Sum.inl ∧ Dt H kv.2 r.2) kvs l → Q (.ref p) (upd H p (.dT kvs))
structure Prw where
  r : Addr
  k : Addr
  x : V
  u : Value
instance : Inhabited Prw := ⟨⟨0, 0, .non, .none⟩⟩
section
variable {X : Cx} {pins : List (Addr × Obj)} {σ : St} {H : Hp} {s : Shared}
/-- how a row lies -/
def PrwOk (X : Cx) (H : Hp) (h : Heap) (l : Rw2) (q : Prw) : Prop := H q.r = some (.tup [.ref q.k, q.x]) ∧ H q.k = some (.tup (l.1.map V.int)) ∧ Dt H q.x l.2 ∧ RelV q.x q.u ∧ (∃ o its k, h.get? q.r = some o ∧ o.cls = .type "tuple" ∧ o.data = .seq its k ∧ its.toList = [.ref q.k, q.u]) ∧ (tupleKind (mixKind X.prog X.w)).is h (l.1.map Sum.inl) q.k
theorem prws (I : Inv X pins σ H s) : ∀ {l : List Rw2} {vs : List V} {us : List Value}, DtA H vs (l.map rowD) → Vals vs us → ∃ qs : List Prw, us = qs.map (fun q => Value.ref q.r) ∧ Paired (PrwOk X H s.heap) l qs
  | [], _, _, .nil, .nil => ⟨[], rfl, .nil⟩
  | r :: l, _, _, .cons d t, .cons rr rt => by
    obtain ⟨qs, e, pq⟩ := prws I t rt
    cases d with
    | tup e1 ra =>
      cases rr
      obtain ⟨its, rv, ⟨o, ho, hc, n, hd⟩, _⟩ := I.tuple (SqT.of e1)
      cases ra with
      | cons d1 ra =>
        cases ra with
        | cons d2 ra =>
          cases ra
          cases rv with
          | cons q1 rv =>
            cases rv with
            | cons q2 rv =>
              cases rv
              cases d1 with
              | tup e2 rb =>
                have eb := dtA_ints rb
                subst eb
                cases q1
                refine ⟨⟨_, _, _, _⟩ :: qs, by rw [e]; rfl, .cons ⟨e1, e2, d2, q2, ⟨o, _, n, ho, hc, hd, rfl⟩, ?_⟩ pq⟩
                refine key_of I.hok ?_
                rw [e2, List.map_map]
                rfl
theorem paired_at {α β : Type} {R : α → β → Prop} : ∀ {l : List α} {m : List β}, Paired R l m → l.length = m.length ∧ ∀ (j : Nat) (a : α) (b : β), l[j]? = some a → m[j]? = some b → R a b
  | [], _, .nil => ⟨rfl, fun j a b h => by simp at h⟩
  | x :: l, _, .cons r t => by
    obtain ⟨h1, h2⟩ := paired_at t
    refine ⟨by simp [h1], fun j a b ha hb => ?_⟩
    cases j with
    | zero =>
      have e1 := Option.some.inj ha
      have e2 := Option.some.inj hb
      subst e1 e2
      exact r
    | succ j => exact h2 j a b (by simpa using ha) (by simpa using hb)
theorem paired_of {α β γ δ : Type} {R : α → β → Prop} {S : γ → δ → Prop} {f : α → β → γ} {g : α → β → δ} : ∀ {l : List α} {m : List β}, Paired R l m → (∀ a b, R a b → S (f a b) (g a b)) → Paired S (List.zipWith f l m) (List.zipWith g l m)
  | [], _, .nil, _ => .nil
  | _ :: _, _, .cons r t, h => .cons (h _ _ r) (paired_of t h)
theorem call_dictT (hc : X.calm = true) (hu : X.A.units + 64 < cLine) : CallR X (.type "dict") qDictT := by
  intro pins s σ H xs us Q I r h
  obtain ⟨a, vs, l, rfl, hH, hd, hnd, hz, q⟩ := h
  obtain ⟨u, rfl, r1⟩ := r.one
  cases r1
  obtain ⟨z, its, n, rv, hl, e⟩ := I.lstM hH
  obtain ⟨qs, eq, pq⟩ := prws I hd rv
  subst eq
  obtain ⟨hlen, hat⟩ := paired_at pq
  refine callType_codes (Q₁ := fun obj s₁ => obj = .ref s.heap.objs.size ∧ s₁ = { s with heap := s.heap.push { cls := .type "dict", data := .dict #[] } }) F.kt_called_dict (F.kt_typeCall_dict_1 _) F.entry_dict_init (kt_code_dict_new _ ⟨rfl, rfl⟩) ?_
  rintro obj s₁ ⟨rfl, rfl⟩
  have hnew : (s.heap.push { cls := .type "dict", data := .dict #[] }).DictOfH (tupleKind (mixKind X.prog X.w)) s.heap.objs.size [] := Heap.DictOfH.new s.heap
  refine ⟨hnew.typeIs, F.args_dict_init_2 _ _, ?_⟩
  unfold Builtin.«dict.__init__»
  refine wpAny_bind ?_
  unfold Builtin.Dict.selfAndRest
  refine wpAny_bind (wpAny_notOrdered_dict hnew.typeIs ?_)
  show wpAny _ _ (pure (s.heap.objs.size, [Value.ref a])) _ _ _
  refine wpAny_pure ?_
  show wpAny _ _ (Builtin.Dict.updateFrom "dict.__init__" s.heap.objs.size (.ref a) [] .none) _ _ _
  unfold Builtin.Dict.updateFrom
  have e1 : (s.heap.push { cls := .type "dict", data := .dict #[] }).get? a = some { cls := .type "list", data := .seq (qs.map fun q => Value.ref q.r).toArray n } := Heap.get?_push_of_some _ e
  refine wpAny_bind (wpAny_typeOf (T := "list") ⟨_, e1, rfl⟩ ?_)
  rw [if_pos (by decide)]
  refine wpAny_bind (keys_no (by simpa using I.ok.hd hc) e1 fun h2 tk2 k2 => ?_)
  refine wpAny_ite_split (fun _ => ?_) (fun c => absurd rfl c)
  have e2 := k2 a _ e1
  have eD := k2 _ _ (Heap.get?_push_size s.heap (o := { cls := .type "dict", data := .dict #[] }) rfl)
  have lD : s.heap.objs.size < h2.objs.size := Heap.lt_size eD
  have la : a < s.heap.objs.size := Heap.lt_size e
  have hl2 : h2.IsList a (qs.map fun q => Value.ref q.r).toArray := ⟨_, e2, rfl, n, rfl⟩
  refine wpAny_bind (wpAny_rule (wpAny_bind (wpAny_pyIter_list (s := { s with heap := h2, toks := tk2 }) hl2 (wpAny_pure ⟨plainId_quiet plain_dul _, ?_⟩))))
  have W := (Walks.list (prog := X.prog) (w := X.w) (A := X.A.in1.in1) (by simpa using I.ok.hd hc) h2.objs.size a (Nat.ne_of_lt (Nat.lt_trans la lD)) (qs.map fun q => Value.ref q.r).toArray).toS
  have hsz : (qs.map fun q => Value.ref q.r).toArray.size = qs.length := by simp
  rw [hsz] at W
  have hgq : ∀ j, j < qs.length → qs[j]? = some (qs.getD j default) := fun j hj => by
    rw [List.getD_eq_getElem?_getD, List.getElem?_eq_getElem hj]; rfl
  have hgl : ∀ j, j < qs.length → l[j]? = some (l.getD j ([], .non)) := fun j hj => by
    rw [List.getD_eq_getElem?_getD, List.getElem?_eq_getElem (by omega)]; rfl
  have ok : ∀ j, j < qs.length → PrwOk X H s.heap (l.getD j ([], .non)) (qs.getD j default) := fun j hj => hat j _ _ (hgl j hj) (hgq j hj)
  have kp : ∀ b o, s.heap.get? b = some o → (h2.push { cls := .type "list_iterator", data := .fields #[.ref a, .int 0 0] }).get? b = some o := fun b o q => Heap.get?_push_of_some _ (k2 b o (Heap.get?_push_of_some _ q))
  refine pairs_loop (A := X.A.in1) (D := s.heap.objs.size) (rw_ := fun j => (qs.getD j default).r) (ka := fun j => (qs.getD j default).k) (va := fun j => (qs.getD j default).u) (ks := fun j => (l.getD j ([], .non)).1.map Sum.inl) W ?_ (fun i v hv => ?_) (fun i j hi hj z => ?_) (by omega) (fun j hj => ?_) (by show X.A.units + 1 + 8 < cLine; omega) qs.length 0 _ (Nat.zero_add _) ⟨⟨_, Heap.get?_push_size _ rfl, rfl, rfl⟩, hl2.push _⟩ ?_ (fun j hj => ?_) fun s' mv x => ?_
  · simp only [List.mem_cons, List.not_mem_nil, or_false, not_or]
    exact ⟨Nat.ne_of_lt lD, Nat.ne_of_gt la⟩
  · have hi : i < qs.length := by
      refine Classical.byContradiction fun z => ?_
      rw [Array.getElem?_eq_none (by rw [hsz]; omega)] at hv
      cases hv
    have z : (qs.map fun q => Value.ref q.r)[i]? = some v := by simpa using hv
    rw [List.getElem?_map, hgq i hi] at z
    exact (Option.some.inj z).symm
  · have e' : (l.getD i ([], Dm.non)).1 = (l.getD j ([], Dm.non)).1 := by
      have inj : ∀ (x y : List Int), x.map (Sum.inl : Int → Key) = y.map Sum.inl → x = y := by
        intro x
        induction x with
        | nil => intro y h; cases y with | nil => rfl | cons _ _ => cases h
        | cons a x ih =>
          intro y h
          cases y with
          | nil => cases h
          | cons b y =>
            rw [List.map_cons, List.map_cons] at h
            injection h with h1 h2
            injection h1 with h1
            rw [h1, ih y h2]
      exact inj _ _ z
    have hi' : i < (l.map (·.1)).length := by rw [List.length_map]; omega
    have hj' : j < (l.map (·.1)).length := by rw [List.length_map]; omega
    refine (List.getElem_inj (h₀ := hi') (h₁ := hj') hnd).mp ?_
    rw [List.getElem_map, List.getElem_map]
    have a1 := hgl i hi
    have a2 := hgl j hj
    rw [List.getElem?_eq_getElem (by omega)] at a1
    rw [List.getElem?_eq_getElem (by omega)] at a2
    rw [Option.some.inj a1, Option.some.inj a2]
    exact e'
  · obtain ⟨_, _, _, _, ⟨o, its, k, g1, _⟩, o2, its2, k2', g2, _⟩ := ok j hj
    have b1 := Heap.lt_size g1
    have b2 := Heap.lt_size g2
    simp only [List.mem_cons, List.not_mem_nil, or_false, not_or]
    exact ⟨⟨Nat.ne_of_lt b1, Nat.ne_of_lt (Nat.lt_trans b1 lD)⟩, Nat.ne_of_lt b2, Nat.ne_of_lt (Nat.lt_trans b2 lD)⟩
  · exact dictH_moved hnew (fun o z => Heap.get?_push_of_some _ (k2 _ o z)) fun y hy => absurd hy (by simp)
  · obtain ⟨_, _, _, _, ⟨o, its, k, g1, r1⟩, x2⟩ := ok j hj
    exact ⟨⟨o, its, k, kp _ _ g1, r1⟩, keyM_kept x2 fun o z => kp _ o z⟩
  · obtain ⟨h', g', d', tk', os'⟩ := s'
    have z1 : g' = s.gens := mv.gens
    have z2 : d' = s.drawn := mv.drawn
    have z3 : os' = s.os := mv.os
    subst z1 z2 z3
    refine ⟨rfl, ?_⟩
    have kf : ∀ b o, s.heap.get? b = some o → h'.get? b = some o := fun b o q => by
      have lb := Heap.lt_size q
      refine mv.heap b o ?_ (kp b o q)
      simp only [List.mem_cons, List.not_mem_nil, or_false, not_or]
      exact ⟨Nat.ne_of_lt lb, Nat.ne_of_lt (Nat.lt_trans lb lD)⟩
    obtain ⟨oD, es, ep, f1, f2, f3, f4, f5, f6⟩ := x
    have ez : ((List.range qs.length).map fun j => ((l.getD j ([], Dm.non)).1.map (Sum.inl : Int → Key), (qs.getD j default).k, (qs.getD j default).u)) = List.zipWith (fun (r : Rw2) (q : Prw) => (r.1.map Sum.inl, q.k, q.u)) l qs := by
      refine List.ext_getElem (by simp; omega) fun j h1 h2 => ?_
      have hj : j < qs.length := by simpa using h1
      have a1 := hgl j hj
      have a2 := hgq j hj
      rw [List.getElem?_eq_getElem (by omega)] at a1
      rw [List.getElem?_eq_getElem hj] at a2
      rw [List.getElem_map, List.getElem_range, List.getElem_zipWith, Option.some.inj a1, Option.some.inj a2]
    rw [ez] at f4 f6
    refine ⟨.ref s.heap.objs.size, _, I.laid (t' := tk') kf (Nat.le_refl _) (show ObjOk X.prog X.w _ _ _ (.dT (List.zipWith (fun (r : Rw2) (q : Prw) => (r.1.map Sum.inl, q.x)) l qs)) from ⟨?_, ?_, _, ?_, oD, es, ep, f1, f2, f3, f4, f6⟩), rfl, q _ _ (I.hok.fresh (Nat.le_refl _)) ?_⟩
    · rw [List.length_zipWith]
      exact zz5' (by omega)
    · have := I.big
      exact beq_eq_false_iff_ne.mpr (Nat.ne_of_gt this)
    · refine paired_of pq fun r q ok => ⟨rfl, ?_, ok.2.2.2.1⟩
      rw [upd_ne (Nat.ne_of_lt (I.hok _ _ ok.2.1).lt), ok.2.1, List.map_map]
      rfl
    · have key : ∀ {l : List Rw2} {qs : List Prw}, Paired (PrwOk X H s.heap) l qs → Paired (fun (kv : List Key × V) (r : Rw2) => kv.1 = r.1.map Sum.inl ∧ Dt H kv.2 r.2) (List.zipWith (fun (r : Rw2) (q : Prw) => (r.1.map Sum.inl, q.x)) l qs) l := by
        intro l qs pq
        induction pq with
        | nil => exact .nil
        | cons r t ih => exact .cons ⟨rfl, r.2.2.1⟩ ih
      exact key pq
end
/-- a method of a built-in, where the fragment is known by another name -/
theorem pe_bmK {X : Cx} {K : PySem.W.Frag} {T id : String} {name : Str} {r : V → List V → Hp → VK → Prop} {o e : Expr} {es : List Expr} {to : TE} {t : TA} {apos cpos : Pos} (eK : X.K = K) (pa : PlainAttrs T) (slot : Slot T name id) (hty : typeOf (.builtin id) = pure (.type "method_descriptor")) (hm : MtR X id r) (ho : PE X o to) (ha : PA X (e :: es) t)
    (hbase : attributeBase o name X.env (eval o X.env) = eval o X.env := by rfl)
    (hfew : ((backTo cpos (starEach (e :: es) X.env)).all (fun x => !x.1) && (backToKw cpos (keywordEach [] X.env)).all (fun x => x.1.isSome)
      && decide ((e :: es).length + ([] : List Keyword).length + (if ([] : List Keyword).isEmpty then 0 else 1) < 30)) = true := by rfl)
    (hline : (apos.endLine == cpos.line) = true := by rfl) (hs : starEach (e :: es) X.env = (false, eval e X.env) :: starEach es X.env := by rfl) (hplain : (backTo cpos (starEach es X.env)).any (·.1) = false := by rfl) :
    PE X (.Call (.Attribute o name apos) (e :: es) [] cpos) (tBM K T r to t) := by
  subst eK
  exact pe_bm pa slot hty hm ho ha hbase hfew hline hs hplain
def tItems (td : TE) : TE := fun σ H Q => td σ H fun x H1 => rItems x [] H1 Q
theorem pe_items {X : Cx} {o : Expr} {apos cpos : Pos} {td : TE} (ho : PE X o td) (hbase : attributeBase o "items" X.env (eval o X.env) = eval o X.env := by rfl)
    (hfew : ((backTo cpos (starEach [] X.env)).all (fun x => !x.1) && (backToKw cpos (keywordEach [] X.env)).all (fun x => x.1.isSome)
      && decide (([] : List Expr).length + ([] : List Keyword).length + (if ([] : List Keyword).isEmpty then 0 else 1) < 30)) = true := by rfl)
    (hline : (apos.endLine == cpos.line) = true := by rfl) : PE X (.Call (.Attribute o "items" apos) [] [] cpos) (tItems td) := by
  intro pins s σ H Q I h
  refine wpAny_Call_method hbase hfew hline PySem.F.plainAttrs_dict PySem.F.slot_dict_items PySem.F.type_dict_items (thn (ho pins s σ H _ I h) fun u s1 ⟨x, H1, I1, rx, q1⟩ => ?_)
  obtain ⟨d, kvs, rfl, _, hH, q⟩ := q1
  obtain rfl : u = Value.ref d := rx
  obtain ⟨t1, t2, _⟩ := isD_at I1 (.inl ⟨kvs, .inl hH⟩)
  refine ⟨t1, t2, ?_⟩
  refine Calls.callWith_builtin rfl (PyProof.Rows.evalArgs_nil3 ?_)
  exact mt_items pins s1 σ H1 (.ref d) [] (.ref d) [] Q I1 rfl .nil ⟨d, kvs, rfl, rfl, hH, q⟩
/-- a, b, c = (x, y, z) -/
def tPar3 (i j k : Nat) (ta : TA) : TS := fun D σ H => ta σ H fun vs H1 => ∃ u v w, vs = [u, v, w] ∧ D.nx (((σ.set i (some u)).set j (some v)).set k (some w)) H1
theorem ps_par3 {X : Cx} {i j k : Nat} {x y z : Str} {a b c : Expr} {ta : TA} {px py pz pt pos : Pos} {kt k2 pt2} (hc : X.calm = true) (hN : X.N.Nodup) (hi : X.N[i]? = some x) (hj : X.N[j]? = some y) (hk : X.N[k]? = some z) (hij : i ≠ j) (hik : i ≠ k) (hjk : j ≠ k)
    (hx : X.env.scope.names.lookup x = some .local) (hy : X.env.scope.names.lookup y = some .local) (hz : X.env.scope.names.lookup z = some .local) (ha : PA X [a, b, c] ta)
    (hw : swappedStores [.Tuple [.Name x px, .Name y py, .Name z pz] kt pt] (.Tuple [a, b, c] k2 pt2) X.env = pure (some [x, y, z]))
    (hs : swapsWithSole [.Tuple [.Name x px, .Name y py, .Name z pz] kt pt] (.Tuple [a, b, c] k2 pt2) pos.line X.env = pure false := by rfl) :
    PS X (.Assign [.Tuple [.Name x px, .Name y py, .Name z pz] kt pt] (.Tuple [a, b, c] k2 pt2) pos) (tPar3 i j k ta) := by
  intro pins s σ H D I h
  rw [exec_Assign_arm]
  refine wpAny_bind (wpAny_standAt ?_)
  rw [hs]
  refine wpAny_bind (wpAny_pure ?_)
  rw [if_neg (by decide)]
  refine wpAny_bind (Tuple_ (thn (ha _ pins s σ H _ I h) fun us s1 ⟨vs, H1, I1, r1, q1⟩ => ?_))
  obtain ⟨u, v, w, e1, q1⟩ := q1
  subst e1
  obtain ⟨u1, u2, u3, rfl, ru, rv, rw'⟩ : ∃ u1 u2 u3, us = [u1, u2, u3] ∧ RelV u u1 ∧ RelV v u2 ∧ RelV w u3 := by
    cases r1 with
    | cons p q =>
      cases q with
      | cons p' q' =>
        cases q' with
        | cons p'' q'' =>
          cases q''
          exact ⟨_, _, _, rfl, p, p', p''⟩
  refine wpAny_newObj_type ?_ (by show 3 ≤ sizeLine; decide)
  have I2 : Inv X pins σ H1 { s1 with heap := s1.heap.push { cls := .type "tuple", data := .seq [u1, u2, u3].toArray } } := I1.kept (t' := s1.toks) fun b o e => Heap.get?_push_of_some _ e
  rw [hw]
  refine wpAny_bind (wpAny_pure ?_)
  show wpAny (model X.prog X.w) X.A (do rule "assign.swapped-stores"; let items ← unpackItems (.ref s1.heap.objs.size) 3 none; assignInOrder [fun v => bindName X.env z v, fun v => bindName X.env y v, fun v => bindName X.env x v] items.reverse; pure Flow.next) _ _ _
  refine wpAny_bind (wpAny_rule (wpAny_bind (unpackItems_tuple (items := #[u1, u2, u3]) (I.ok.hd hc) (IsTup.new s1.heap _) fun h' hx' => ?_)))
  have I3 := I2.kept (h' := h') (t' := s1.toks) fun b o e => hx' b o (Nat.ne_of_lt (Heap.lt_size e)) e
  show wpAny _ _ (assignInOrder [fun v => bindName X.env z v, fun v => bindName X.env y v, fun v => bindName X.env x v] [u3, u2, u1] >>= fun _ => pure Flow.next) _ _ _
  refine wpAny_bind (assignInOrder_cons (wpAny_bindName (store_ok I3 hN hk (.inl hz) rw' (fun s2 I4 => ?_) (.inr hz))))
  refine assignInOrder_cons (wpAny_bindName (store_ok I4 hN hj (.inl hy) rv (fun s3 I5 => ?_) (.inr hy)))
  refine assignInOrder_cons (wpAny_bindName (store_ok I5 hN hi (.inl hx) ru (fun s4 I6 => assignInOrder_nil (wpAny_pure ?_)) (.inr hx)))
  rw [List.set_comm _ _ (Ne.symm hjk), List.set_comm _ _ (Ne.symm hik), List.set_comm _ _ (Ne.symm hij)] at I6
  exact ⟨_, H1, I6, q1⟩
end L2


set_option Elab.async false
set_option linter.all false
set_option maxRecDepth 100000
set_option maxHeartbeats 0
namespace SR
open PySem L2
def top (i : Nat) : Stmt := PySem.Challenge.pw_smallrooms_k04_whole_measures.main.body.getD i (.Pass ⟨0, 0, 0, 0⟩)
-- s_spots s_whiles s_term_of s_blocks_of s_deed_with s_all_deeds s_deeds_of_block s_spots_of_term s_words_in s_deeds_in s_depths s_depth_of_term s_depth_of_block s_depth_of_deed s_peeled s_round_and_rest s_block_with s_deed_or s_law_cell s_law_pick s_law_sum s_law_counted s_law_block s_law_program s_law_deeds s_law_sums s_law_deep s_law_blocks s_law
theorem bt_dict : bootBuiltins "dict" = some (.type "dict") := by decide +kernel
theorem bt_isinstance : bootBuiltins "isinstance" = some (.builtin "isinstance") := by decide +kernel
theorem bt_len : bootBuiltins "len" = some (.builtin "len") := by decide +kernel
theorem bt_max : bootBuiltins "max" = some (.builtin "max") := by decide +kernel
theorem bt_sorted : bootBuiltins "sorted" = some (.builtin "sorted") := by decide +kernel
theorem bt_sum : bootBuiltins "sum" = some (.builtin "sum") := by decide +kernel
theorem bt_tuple : bootBuiltins "tuple" = some (.type "tuple") := by decide +kernel
theorem cd__law_at : (("_law_at" : Str) == ("__classdict__" : Str)) = false := by decide +kernel
theorem cd__law_base : (("_law_base" : Str) == ("__classdict__" : Str)) = false := by decide +kernel
theorem cd__law_block_here : (("_law_block_here" : Str) == ("__classdict__" : Str)) = false := by decide +kernel
theorem cd__law_body : (("_law_body" : Str) == ("__classdict__" : Str)) = false := by decide +kernel
theorem cd__law_deed : (("_law_deed" : Str) == ("__classdict__" : Str)) = false := by decide +kernel
theorem cd__law_deeds_here : (("_law_deeds_here" : Str) == ("__classdict__" : Str)) = false := by decide +kernel
theorem cd__law_deep_here : (("_law_deep_here" : Str) == ("__classdict__" : Str)) = false := by decide +kernel
theorem cd__law_drawn : (("_law_drawn" : Str) == ("__classdict__" : Str)) = false := by decide +kernel
theorem cd__law_expr : (("_law_expr" : Str) == ("__classdict__" : Str)) = false := by decide +kernel
theorem cd__law_first : (("_law_first" : Str) == ("__classdict__" : Str)) = false := by decide +kernel
theorem cd__law_goal : (("_law_goal" : Str) == ("__classdict__" : Str)) = false := by decide +kernel
theorem cd__law_inner : (("_law_inner" : Str) == ("__classdict__" : Str)) = false := by decide +kernel
theorem cd__law_ins : (("_law_ins" : Str) == ("__classdict__" : Str)) = false := by decide +kernel
theorem cd__law_j : (("_law_j" : Str) == ("__classdict__" : Str)) = false := by decide +kernel
theorem cd__law_k : (("_law_k" : Str) == ("__classdict__" : Str)) = false := by decide +kernel
theorem cd__law_kinds : (("_law_kinds" : Str) == ("__classdict__" : Str)) = false := by decide +kernel
theorem cd__law_known : (("_law_known" : Str) == ("__classdict__" : Str)) = false := by decide +kernel
theorem cd__law_low : (("_law_low" : Str) == ("__classdict__" : Str)) = false := by decide +kernel
theorem cd__law_made : (("_law_made" : Str) == ("__classdict__" : Str)) = false := by decide +kernel
theorem cd__law_many : (("_law_many" : Str) == ("__classdict__" : Str)) = false := by decide +kernel
theorem cd__law_mine : (("_law_mine" : Str) == ("__classdict__" : Str)) = false := by decide +kernel
theorem cd__law_more : (("_law_more" : Str) == ("__classdict__" : Str)) = false := by decide +kernel
theorem cd__law_most : (("_law_most" : Str) == ("__classdict__" : Str)) = false := by decide +kernel
theorem cd__law_name : (("_law_name" : Str) == ("__classdict__" : Str)) = false := by decide +kernel
theorem cd__law_new : (("_law_new" : Str) == ("__classdict__" : Str)) = false := by decide +kernel
theorem cd__law_one : (("_law_one" : Str) == ("__classdict__" : Str)) = false := by decide +kernel
theorem cd__law_part : (("_law_part" : Str) == ("__classdict__" : Str)) = false := by decide +kernel
theorem cd__law_path : (("_law_path" : Str) == ("__classdict__" : Str)) = false := by decide +kernel
theorem cd__law_program_here : (("_law_program_here" : Str) == ("__classdict__" : Str)) = false := by decide +kernel
theorem cd__law_row : (("_law_row" : Str) == ("__classdict__" : Str)) = false := by decide +kernel
theorem cd__law_script : (("_law_script" : Str) == ("__classdict__" : Str)) = false := by decide +kernel
theorem cd__law_second : (("_law_second" : Str) == ("__classdict__" : Str)) = false := by decide +kernel
theorem cd__law_some : (("_law_some" : Str) == ("__classdict__" : Str)) = false := by decide +kernel
theorem cd__law_way : (("_law_way" : Str) == ("__classdict__" : Str)) = false := by decide +kernel
theorem cd__law_words : (("_law_words" : Str) == ("__classdict__" : Str)) = false := by decide +kernel
theorem cd__law_yours : (("_law_yours" : Str) == ("__classdict__" : Str)) = false := by decide +kernel
theorem cd_at : (("at" : Str) == ("__classdict__" : Str)) = false := by decide +kernel
theorem cd_block : (("block" : Str) == ("__classdict__" : Str)) = false := by decide +kernel
theorem cd_blocks : (("blocks" : Str) == ("__classdict__" : Str)) = false := by decide +kernel
theorem cd_deed : (("deed" : Str) == ("__classdict__" : Str)) = false := by decide +kernel
theorem cd_deed_path : (("deed_path" : Str) == ("__classdict__" : Str)) = false := by decide +kernel
theorem cd_inner : (("inner" : Str) == ("__classdict__" : Str)) = false := by decide +kernel
theorem cd_kind : (("kind" : Str) == ("__classdict__" : Str)) = false := by decide +kernel
theorem cd_kinds : (("kinds" : Str) == ("__classdict__" : Str)) = false := by decide +kernel
theorem cd_many : (("many" : Str) == ("__classdict__" : Str)) = false := by decide +kernel
theorem cd_number : (("number" : Str) == ("__classdict__" : Str)) = false := by decide +kernel
theorem cd_other : (("other" : Str) == ("__classdict__" : Str)) = false := by decide +kernel
theorem cd_path : (("path" : Str) == ("__classdict__" : Str)) = false := by decide +kernel
theorem cd_program : (("program" : Str) == ("__classdict__" : Str)) = false := by decide +kernel
theorem cd_rest : (("rest" : Str) == ("__classdict__" : Str)) = false := by decide +kernel
theorem cd_rows : (("rows" : Str) == ("__classdict__" : Str)) = false := by decide +kernel
theorem cd_term : (("term" : Str) == ("__classdict__" : Str)) = false := by decide +kernel
theorem cd_terms : (("terms" : Str) == ("__classdict__" : Str)) = false := by decide +kernel
theorem db_DEEDS : (("DEEDS" : Str) == ("__debug__" : Str)) = false := by decide +kernel
theorem db_WORDS : (("WORDS" : Str) == ("__debug__" : Str)) = false := by decide +kernel
theorem db__law_at : (("_law_at" : Str) == ("__debug__" : Str)) = false := by decide +kernel
theorem db__law_base : (("_law_base" : Str) == ("__debug__" : Str)) = false := by decide +kernel
theorem db__law_block : (("_law_block" : Str) == ("__debug__" : Str)) = false := by decide +kernel
theorem db__law_block_here : (("_law_block_here" : Str) == ("__debug__" : Str)) = false := by decide +kernel
theorem db__law_blocks : (("_law_blocks" : Str) == ("__debug__" : Str)) = false := by decide +kernel
theorem db__law_body : (("_law_body" : Str) == ("__debug__" : Str)) = false := by decide +kernel
theorem db__law_cell : (("_law_cell" : Str) == ("__debug__" : Str)) = false := by decide +kernel
theorem db__law_counted : (("_law_counted" : Str) == ("__debug__" : Str)) = false := by decide +kernel
theorem db__law_deed : (("_law_deed" : Str) == ("__debug__" : Str)) = false := by decide +kernel
theorem db__law_deeds : (("_law_deeds" : Str) == ("__debug__" : Str)) = false := by decide +kernel
theorem db__law_deeds_here : (("_law_deeds_here" : Str) == ("__debug__" : Str)) = false := by decide +kernel
theorem db__law_deep : (("_law_deep" : Str) == ("__debug__" : Str)) = false := by decide +kernel
theorem db__law_deep_here : (("_law_deep_here" : Str) == ("__debug__" : Str)) = false := by decide +kernel
theorem db__law_drawn : (("_law_drawn" : Str) == ("__debug__" : Str)) = false := by decide +kernel
theorem db__law_expr : (("_law_expr" : Str) == ("__debug__" : Str)) = false := by decide +kernel
theorem db__law_first : (("_law_first" : Str) == ("__debug__" : Str)) = false := by decide +kernel
theorem db__law_goal : (("_law_goal" : Str) == ("__debug__" : Str)) = false := by decide +kernel
theorem db__law_inner : (("_law_inner" : Str) == ("__debug__" : Str)) = false := by decide +kernel
theorem db__law_ins : (("_law_ins" : Str) == ("__debug__" : Str)) = false := by decide +kernel
theorem db__law_j : (("_law_j" : Str) == ("__debug__" : Str)) = false := by decide +kernel
theorem db__law_k : (("_law_k" : Str) == ("__debug__" : Str)) = false := by decide +kernel
theorem db__law_kinds : (("_law_kinds" : Str) == ("__debug__" : Str)) = false := by decide +kernel
theorem db__law_known : (("_law_known" : Str) == ("__debug__" : Str)) = false := by decide +kernel
theorem db__law_low : (("_law_low" : Str) == ("__debug__" : Str)) = false := by decide +kernel
theorem db__law_made : (("_law_made" : Str) == ("__debug__" : Str)) = false := by decide +kernel
theorem db__law_many : (("_law_many" : Str) == ("__debug__" : Str)) = false := by decide +kernel
theorem db__law_mine : (("_law_mine" : Str) == ("__debug__" : Str)) = false := by decide +kernel
theorem db__law_more : (("_law_more" : Str) == ("__debug__" : Str)) = false := by decide +kernel
theorem db__law_most : (("_law_most" : Str) == ("__debug__" : Str)) = false := by decide +kernel
theorem db__law_name : (("_law_name" : Str) == ("__debug__" : Str)) = false := by decide +kernel
theorem db__law_new : (("_law_new" : Str) == ("__debug__" : Str)) = false := by decide +kernel
theorem db__law_one : (("_law_one" : Str) == ("__debug__" : Str)) = false := by decide +kernel
theorem db__law_part : (("_law_part" : Str) == ("__debug__" : Str)) = false := by decide +kernel
theorem db__law_path : (("_law_path" : Str) == ("__debug__" : Str)) = false := by decide +kernel
theorem db__law_pick : (("_law_pick" : Str) == ("__debug__" : Str)) = false := by decide +kernel
theorem db__law_program : (("_law_program" : Str) == ("__debug__" : Str)) = false := by decide +kernel
theorem db__law_program_here : (("_law_program_here" : Str) == ("__debug__" : Str)) = false := by decide +kernel
theorem db__law_row : (("_law_row" : Str) == ("__debug__" : Str)) = false := by decide +kernel
theorem db__law_script : (("_law_script" : Str) == ("__debug__" : Str)) = false := by decide +kernel
theorem db__law_second : (("_law_second" : Str) == ("__debug__" : Str)) = false := by decide +kernel
theorem db__law_some : (("_law_some" : Str) == ("__debug__" : Str)) = false := by decide +kernel
theorem db__law_sum : (("_law_sum" : Str) == ("__debug__" : Str)) = false := by decide +kernel
theorem db__law_way : (("_law_way" : Str) == ("__debug__" : Str)) = false := by decide +kernel
theorem db__law_words : (("_law_words" : Str) == ("__debug__" : Str)) = false := by decide +kernel
theorem db__law_yours : (("_law_yours" : Str) == ("__debug__" : Str)) = false := by decide +kernel
theorem db_all_deeds : (("all_deeds" : Str) == ("__debug__" : Str)) = false := by decide +kernel
theorem db_at : (("at" : Str) == ("__debug__" : Str)) = false := by decide +kernel
theorem db_block : (("block" : Str) == ("__debug__" : Str)) = false := by decide +kernel
theorem db_block_with : (("block_with" : Str) == ("__debug__" : Str)) = false := by decide +kernel
theorem db_blocks : (("blocks" : Str) == ("__debug__" : Str)) = false := by decide +kernel
theorem db_blocks_of : (("blocks_of" : Str) == ("__debug__" : Str)) = false := by decide +kernel
theorem db_deed : (("deed" : Str) == ("__debug__" : Str)) = false := by decide +kernel
theorem db_deed_or : (("deed_or" : Str) == ("__debug__" : Str)) = false := by decide +kernel
theorem db_deed_path : (("deed_path" : Str) == ("__debug__" : Str)) = false := by decide +kernel
theorem db_deed_with : (("deed_with" : Str) == ("__debug__" : Str)) = false := by decide +kernel
theorem db_deeds_in : (("deeds_in" : Str) == ("__debug__" : Str)) = false := by decide +kernel
theorem db_deeds_of_block : (("deeds_of_block" : Str) == ("__debug__" : Str)) = false := by decide +kernel
theorem db_depth_of_block : (("depth_of_block" : Str) == ("__debug__" : Str)) = false := by decide +kernel
theorem db_depth_of_deed : (("depth_of_deed" : Str) == ("__debug__" : Str)) = false := by decide +kernel
theorem db_depth_of_term : (("depth_of_term" : Str) == ("__debug__" : Str)) = false := by decide +kernel
theorem db_depths : (("depths" : Str) == ("__debug__" : Str)) = false := by decide +kernel
theorem db_dict : (("dict" : Str) == ("__debug__" : Str)) = false := by decide +kernel
theorem db_inner : (("inner" : Str) == ("__debug__" : Str)) = false := by decide +kernel
theorem db_isinstance : (("isinstance" : Str) == ("__debug__" : Str)) = false := by decide +kernel
theorem db_kind : (("kind" : Str) == ("__debug__" : Str)) = false := by decide +kernel
theorem db_kinds : (("kinds" : Str) == ("__debug__" : Str)) = false := by decide +kernel
theorem db_len : (("len" : Str) == ("__debug__" : Str)) = false := by decide +kernel
theorem db_many : (("many" : Str) == ("__debug__" : Str)) = false := by decide +kernel
theorem db_max : (("max" : Str) == ("__debug__" : Str)) = false := by decide +kernel
theorem db_number : (("number" : Str) == ("__debug__" : Str)) = false := by decide +kernel
theorem db_other : (("other" : Str) == ("__debug__" : Str)) = false := by decide +kernel
theorem db_path : (("path" : Str) == ("__debug__" : Str)) = false := by decide +kernel
theorem db_peeled : (("peeled" : Str) == ("__debug__" : Str)) = false := by decide +kernel
theorem db_program : (("program" : Str) == ("__debug__" : Str)) = false := by decide +kernel
theorem db_rest : (("rest" : Str) == ("__debug__" : Str)) = false := by decide +kernel
theorem db_round_and_rest : (("round_and_rest" : Str) == ("__debug__" : Str)) = false := by decide +kernel
theorem db_rows : (("rows" : Str) == ("__debug__" : Str)) = false := by decide +kernel
theorem db_sorted : (("sorted" : Str) == ("__debug__" : Str)) = false := by decide +kernel
theorem db_spots : (("spots" : Str) == ("__debug__" : Str)) = false := by decide +kernel
theorem db_spots_of_term : (("spots_of_term" : Str) == ("__debug__" : Str)) = false := by decide +kernel
theorem db_sum : (("sum" : Str) == ("__debug__" : Str)) = false := by decide +kernel
theorem db_term : (("term" : Str) == ("__debug__" : Str)) = false := by decide +kernel
theorem db_term_of : (("term_of" : Str) == ("__debug__" : Str)) = false := by decide +kernel
theorem db_terms : (("terms" : Str) == ("__debug__" : Str)) = false := by decide +kernel
theorem db_tuple : (("tuple" : Str) == ("__debug__" : Str)) = false := by decide +kernel
theorem db_whiles : (("whiles" : Str) == ("__debug__" : Str)) = false := by decide +kernel
theorem db_words_in : (("words_in" : Str) == ("__debug__" : Str)) = false := by decide +kernel
theorem nn_dict : ("dict" : Str) ≠ "__name__" := by decide +kernel
theorem nn_isinstance : ("isinstance" : Str) ≠ "__name__" := by decide +kernel
theorem nn_len : ("len" : Str) ≠ "__name__" := by decide +kernel
theorem nn_max : ("max" : Str) ≠ "__name__" := by decide +kernel
theorem nn_sorted : ("sorted" : Str) ≠ "__name__" := by decide +kernel
theorem nn_sum : ("sum" : Str) ≠ "__name__" := by decide +kernel
theorem nn_tuple : ("tuple" : Str) ≠ "__name__" := by decide +kernel
abbrev s_spots : Stmt := top 3
theorem sc_spots : FnScope ["program", "rows", "path", "deed"] ["program"] (defScope s_spots) := ⟨rfl, rfl, rfl, by decide +kernel, rfl, by decide +kernel, by decide +kernel⟩
theorem gl_spots_all_deeds : (defScope s_spots).names.lookup ("all_deeds" : Str) = some NameKind.globalImplicit := by decide +kernel
theorem gl_spots_spots_of_term : (defScope s_spots).names.lookup ("spots_of_term" : Str) = some NameKind.globalImplicit := by decide +kernel
theorem gl_spots_term_of : (defScope s_spots).names.lookup ("term_of" : Str) = some NameKind.globalImplicit := by decide +kernel
theorem loc_spots_deed : Loc (defScope s_spots) "deed" := Or.inl (by decide +kernel)
theorem loc_spots_path : Loc (defScope s_spots) "path" := Or.inl (by decide +kernel)
theorem loc_spots_rows : Loc (defScope s_spots) "rows" := Or.inl (by decide +kernel)
theorem vis_spots_deed : Vis (defScope s_spots) "deed" := Or.inl (by decide +kernel)
theorem vis_spots_path : Vis (defScope s_spots) "path" := Or.inl (by decide +kernel)
theorem vis_spots_program : Vis (defScope s_spots) "program" := Or.inl (by decide +kernel)
theorem vis_spots_rows : Vis (defScope s_spots) "rows" := Or.inl (by decide +kernel)
abbrev s_whiles : Stmt := top 4
theorem sc_whiles : FnScope ["program"] ["program"] (defScope s_whiles) := ⟨rfl, rfl, rfl, by decide +kernel, rfl, by decide +kernel, by decide +kernel⟩
theorem gl_whiles_all_deeds : (defScope s_whiles).names.lookup ("all_deeds" : Str) = some NameKind.globalImplicit := by decide +kernel
theorem vis_whiles_program : Vis (defScope s_whiles) "program" := Or.inl (by decide +kernel)
abbrev s_term_of : Stmt := top 5
theorem sc_term_of : FnScope ["deed"] ["deed"] (defScope s_term_of) := ⟨rfl, rfl, rfl, by decide +kernel, rfl, by decide +kernel, by decide +kernel⟩
theorem vis_term_of_deed : Vis (defScope s_term_of) "deed" := Or.inl (by decide +kernel)
abbrev s_blocks_of : Stmt := top 6
theorem sc_blocks_of : FnScope ["deed"] ["deed"] (defScope s_blocks_of) := ⟨rfl, rfl, rfl, by decide +kernel, rfl, by decide +kernel, by decide +kernel⟩
theorem vis_blocks_of_deed : Vis (defScope s_blocks_of) "deed" := Or.inl (by decide +kernel)
abbrev s_deed_with : Stmt := top 7
theorem sc_deed_with : FnScope ["deed", "term", "blocks"] ["deed", "term", "blocks"] (defScope s_deed_with) := ⟨rfl, rfl, rfl, by decide +kernel, rfl, by decide +kernel, by decide +kernel⟩
theorem vis_deed_with_blocks : Vis (defScope s_deed_with) "blocks" := Or.inl (by decide +kernel)
theorem vis_deed_with_deed : Vis (defScope s_deed_with) "deed" := Or.inl (by decide +kernel)
theorem vis_deed_with_term : Vis (defScope s_deed_with) "term" := Or.inl (by decide +kernel)
abbrev s_all_deeds : Stmt := top 8
theorem sc_all_deeds : FnScope ["program"] ["program"] (defScope s_all_deeds) := ⟨rfl, rfl, rfl, by decide +kernel, rfl, by decide +kernel, by decide +kernel⟩
theorem gl_all_deeds_deeds_of_block : (defScope s_all_deeds).names.lookup ("deeds_of_block" : Str) = some NameKind.globalImplicit := by decide +kernel
theorem vis_all_deeds_program : Vis (defScope s_all_deeds) "program" := Or.inl (by decide +kernel)
abbrev s_deeds_of_block : Stmt := top 9
theorem sc_deeds_of_block : FnScope ["block", "path", "rows", "at", "deed", "deed_path", "number", "inner"] ["block", "path"] (defScope s_deeds_of_block) := ⟨rfl, rfl, rfl, by decide +kernel, rfl, by decide +kernel, by decide +kernel⟩
theorem gl_deeds_of_block_blocks_of : (defScope s_deeds_of_block).names.lookup ("blocks_of" : Str) = some NameKind.globalImplicit := by decide +kernel
theorem gl_deeds_of_block_deeds_of_block : (defScope s_deeds_of_block).names.lookup ("deeds_of_block" : Str) = some NameKind.globalImplicit := by decide +kernel
theorem gl_deeds_of_block_enumerate : (defScope s_deeds_of_block).names.lookup ("enumerate" : Str) = some NameKind.globalImplicit := by decide +kernel
theorem loc_deeds_of_block_at : Loc (defScope s_deeds_of_block) "at" := Or.inl (by decide +kernel)
theorem loc_deeds_of_block_deed : Loc (defScope s_deeds_of_block) "deed" := Or.inl (by decide +kernel)
theorem loc_deeds_of_block_deed_path : Loc (defScope s_deeds_of_block) "deed_path" := Or.inl (by decide +kernel)
theorem loc_deeds_of_block_inner : Loc (defScope s_deeds_of_block) "inner" := Or.inl (by decide +kernel)
theorem loc_deeds_of_block_number : Loc (defScope s_deeds_of_block) "number" := Or.inl (by decide +kernel)
theorem loc_deeds_of_block_rows : Loc (defScope s_deeds_of_block) "rows" := Or.inl (by decide +kernel)
theorem vis_deeds_of_block_at : Vis (defScope s_deeds_of_block) "at" := Or.inl (by decide +kernel)
theorem vis_deeds_of_block_block : Vis (defScope s_deeds_of_block) "block" := Or.inl (by decide +kernel)
theorem vis_deeds_of_block_deed : Vis (defScope s_deeds_of_block) "deed" := Or.inl (by decide +kernel)
theorem vis_deeds_of_block_deed_path : Vis (defScope s_deeds_of_block) "deed_path" := Or.inl (by decide +kernel)
theorem vis_deeds_of_block_inner : Vis (defScope s_deeds_of_block) "inner" := Or.inl (by decide +kernel)
theorem vis_deeds_of_block_number : Vis (defScope s_deeds_of_block) "number" := Or.inl (by decide +kernel)
theorem vis_deeds_of_block_path : Vis (defScope s_deeds_of_block) "path" := Or.inl (by decide +kernel)
theorem vis_deeds_of_block_rows : Vis (defScope s_deeds_of_block) "rows" := Or.inl (by decide +kernel)
abbrev s_spots_of_term : Stmt := top 10
theorem sc_spots_of_term : FnScope ["term", "path"] ["term", "path"] (defScope s_spots_of_term) := ⟨rfl, rfl, rfl, by decide +kernel, rfl, by decide +kernel, by decide +kernel⟩
theorem gl_spots_of_term_spots_of_term : (defScope s_spots_of_term).names.lookup ("spots_of_term" : Str) = some NameKind.globalImplicit := by decide +kernel
theorem vis_spots_of_term_path : Vis (defScope s_spots_of_term) "path" := Or.inl (by decide +kernel)
theorem vis_spots_of_term_term : Vis (defScope s_spots_of_term) "term" := Or.inl (by decide +kernel)
abbrev s_words_in : Stmt := top 12
theorem sc_words_in : FnScope ["program", "many", "path", "term"] ["program"] (defScope s_words_in) := ⟨rfl, rfl, rfl, by decide +kernel, rfl, by decide +kernel, by decide +kernel⟩
theorem gl_words_in_sorted : (defScope s_words_in).names.lookup ("sorted" : Str) = some NameKind.globalImplicit := by decide +kernel
theorem gl_words_in_spots : (defScope s_words_in).names.lookup ("spots" : Str) = some NameKind.globalImplicit := by decide +kernel
theorem loc_words_in_many : Loc (defScope s_words_in) "many" := Or.inl (by decide +kernel)
theorem loc_words_in_path : Loc (defScope s_words_in) "path" := Or.inl (by decide +kernel)
theorem loc_words_in_term : Loc (defScope s_words_in) "term" := Or.inl (by decide +kernel)
theorem vis_words_in_many : Vis (defScope s_words_in) "many" := Or.inl (by decide +kernel)
theorem vis_words_in_program : Vis (defScope s_words_in) "program" := Or.inl (by decide +kernel)
theorem vis_words_in_term : Vis (defScope s_words_in) "term" := Or.inl (by decide +kernel)
abbrev s_deeds_in : Stmt := top 13
theorem sc_deeds_in : FnScope ["program", "kinds"] ["program"] (defScope s_deeds_in) := ⟨rfl, rfl, rfl, by decide +kernel, rfl, by decide +kernel, by decide +kernel⟩
theorem cell_deeds_in_kinds : (defScope s_deeds_in).names.lookup ("kinds" : Str) = some NameKind.cell := by decide +kernel
theorem gl_deeds_in_DEEDS : (defScope s_deeds_in).names.lookup ("DEEDS" : Str) = some NameKind.globalImplicit := by decide +kernel
theorem gl_deeds_in_all_deeds : (defScope s_deeds_in).names.lookup ("all_deeds" : Str) = some NameKind.globalImplicit := by decide +kernel
theorem gl_deeds_in_tuple : (defScope s_deeds_in).names.lookup ("tuple" : Str) = some NameKind.globalImplicit := by decide +kernel
theorem loc_deeds_in_kinds : Loc (defScope s_deeds_in) "kinds" := Or.inr (by decide +kernel)
theorem vis_deeds_in_program : Vis (defScope s_deeds_in) "program" := Or.inl (by decide +kernel)
abbrev s_depths : Stmt := top 14
theorem sc_depths : FnScope ["program", "terms"] ["program"] (defScope s_depths) := ⟨rfl, rfl, rfl, by decide +kernel, rfl, by decide +kernel, by decide +kernel⟩
theorem gl_depths_all_deeds : (defScope s_depths).names.lookup ("all_deeds" : Str) = some NameKind.globalImplicit := by decide +kernel
theorem gl_depths_depth_of_block : (defScope s_depths).names.lookup ("depth_of_block" : Str) = some NameKind.globalImplicit := by decide +kernel
theorem gl_depths_max : (defScope s_depths).names.lookup ("max" : Str) = some NameKind.globalImplicit := by decide +kernel
theorem loc_depths_terms : Loc (defScope s_depths) "terms" := Or.inl (by decide +kernel)
theorem vis_depths_program : Vis (defScope s_depths) "program" := Or.inl (by decide +kernel)
theorem vis_depths_terms : Vis (defScope s_depths) "terms" := Or.inl (by decide +kernel)
abbrev s_depth_of_term : Stmt := top 15
theorem sc_depth_of_term : FnScope ["term"] ["term"] (defScope s_depth_of_term) := ⟨rfl, rfl, rfl, by decide +kernel, rfl, by decide +kernel, by decide +kernel⟩
theorem gl_depth_of_term_WORDS : (defScope s_depth_of_term).names.lookup ("WORDS" : Str) = some NameKind.globalImplicit := by decide +kernel
theorem gl_depth_of_term_depth_of_term : (defScope s_depth_of_term).names.lookup ("depth_of_term" : Str) = some NameKind.globalImplicit := by decide +kernel
theorem gl_depth_of_term_max : (defScope s_depth_of_term).names.lookup ("max" : Str) = some NameKind.globalImplicit := by decide +kernel
theorem vis_depth_of_term_term : Vis (defScope s_depth_of_term) "term" := Or.inl (by decide +kernel)
abbrev s_depth_of_block : Stmt := top 16
theorem sc_depth_of_block : FnScope ["block"] ["block"] (defScope s_depth_of_block) := ⟨rfl, rfl, rfl, by decide +kernel, rfl, by decide +kernel, by decide +kernel⟩
theorem gl_depth_of_block_max : (defScope s_depth_of_block).names.lookup ("max" : Str) = some NameKind.globalImplicit := by decide +kernel
theorem vis_depth_of_block_block : Vis (defScope s_depth_of_block) "block" := Or.inl (by decide +kernel)
abbrev s_depth_of_deed : Stmt := top 17
theorem sc_depth_of_deed : FnScope ["deed"] ["deed"] (defScope s_depth_of_deed) := ⟨rfl, rfl, rfl, by decide +kernel, rfl, by decide +kernel, by decide +kernel⟩
theorem gl_depth_of_deed_blocks_of : (defScope s_depth_of_deed).names.lookup ("blocks_of" : Str) = some NameKind.globalImplicit := by decide +kernel
theorem gl_depth_of_deed_max : (defScope s_depth_of_deed).names.lookup ("max" : Str) = some NameKind.globalImplicit := by decide +kernel
theorem vis_depth_of_deed_deed : Vis (defScope s_depth_of_deed) "deed" := Or.inl (by decide +kernel)
abbrev s_peeled : Stmt := top 19
theorem sc_peeled : FnScope ["program", "path", "deed"] ["program", "path"] (defScope s_peeled) := ⟨rfl, rfl, rfl, by decide +kernel, rfl, by decide +kernel, by decide +kernel⟩
theorem gl_peeled_all_deeds : (defScope s_peeled).names.lookup ("all_deeds" : Str) = some NameKind.globalImplicit := by decide +kernel
theorem gl_peeled_block_with : (defScope s_peeled).names.lookup ("block_with" : Str) = some NameKind.globalImplicit := by decide +kernel
theorem gl_peeled_dict : (defScope s_peeled).names.lookup ("dict" : Str) = some NameKind.globalImplicit := by decide +kernel
theorem gl_peeled_round_and_rest : (defScope s_peeled).names.lookup ("round_and_rest" : Str) = some NameKind.globalImplicit := by decide +kernel
theorem loc_peeled_deed : Loc (defScope s_peeled) "deed" := Or.inl (by decide +kernel)
theorem vis_peeled_deed : Vis (defScope s_peeled) "deed" := Or.inl (by decide +kernel)
theorem vis_peeled_path : Vis (defScope s_peeled) "path" := Or.inl (by decide +kernel)
theorem vis_peeled_program : Vis (defScope s_peeled) "program" := Or.inl (by decide +kernel)
abbrev s_round_and_rest : Stmt := top 20
theorem sc_round_and_rest : FnScope ["deed", "rest"] ["deed"] (defScope s_round_and_rest) := ⟨rfl, rfl, rfl, by decide +kernel, rfl, by decide +kernel, by decide +kernel⟩
theorem loc_round_and_rest_rest : Loc (defScope s_round_and_rest) "rest" := Or.inl (by decide +kernel)
theorem vis_round_and_rest_deed : Vis (defScope s_round_and_rest) "deed" := Or.inl (by decide +kernel)
theorem vis_round_and_rest_rest : Vis (defScope s_round_and_rest) "rest" := Or.inl (by decide +kernel)
abbrev s_block_with : Stmt := top 21
theorem sc_block_with : FnScope ["block", "path", "deed_path", "other"] ["block", "path", "deed_path", "other"] (defScope s_block_with) := ⟨rfl, rfl, rfl, by decide +kernel, rfl, by decide +kernel, by decide +kernel⟩
theorem gl_block_with_enumerate : (defScope s_block_with).names.lookup ("enumerate" : Str) = some NameKind.globalImplicit := by decide +kernel
theorem gl_block_with_tuple : (defScope s_block_with).names.lookup ("tuple" : Str) = some NameKind.globalImplicit := by decide +kernel
theorem vis_block_with_block : Vis (defScope s_block_with) "block" := Or.inl (by decide +kernel)
abbrev s_deed_or : Stmt := top 22
theorem sc_deed_or : FnScope ["deed", "path", "deed_path", "other", "blocks"] ["deed", "path", "deed_path", "other"] (defScope s_deed_or) := ⟨rfl, rfl, rfl, by decide +kernel, rfl, by decide +kernel, by decide +kernel⟩
theorem gl_deed_or_blocks_of : (defScope s_deed_or).names.lookup ("blocks_of" : Str) = some NameKind.globalImplicit := by decide +kernel
theorem gl_deed_or_deed_with : (defScope s_deed_or).names.lookup ("deed_with" : Str) = some NameKind.globalImplicit := by decide +kernel
theorem gl_deed_or_term_of : (defScope s_deed_or).names.lookup ("term_of" : Str) = some NameKind.globalImplicit := by decide +kernel
theorem loc_deed_or_blocks : Loc (defScope s_deed_or) "blocks" := Or.inl (by decide +kernel)
theorem vis_deed_or_blocks : Vis (defScope s_deed_or) "blocks" := Or.inl (by decide +kernel)
theorem vis_deed_or_deed : Vis (defScope s_deed_or) "deed" := Or.inl (by decide +kernel)
theorem vis_deed_or_deed_path : Vis (defScope s_deed_or) "deed_path" := Or.inr <| Or.inl (by decide +kernel)
theorem vis_deed_or_other : Vis (defScope s_deed_or) "other" := Or.inr <| Or.inl (by decide +kernel)
theorem vis_deed_or_path : Vis (defScope s_deed_or) "path" := Or.inr <| Or.inl (by decide +kernel)
abbrev s_law_cell : Stmt := top 24
theorem sc_law_cell : FnScope ["_law_script", "_law_k"] ["_law_script", "_law_k"] (defScope s_law_cell) := ⟨rfl, rfl, rfl, by decide +kernel, rfl, by decide +kernel, by decide +kernel⟩
theorem gl_law_cell_len : (defScope s_law_cell).names.lookup ("len" : Str) = some NameKind.globalImplicit := by decide +kernel
theorem vis_law_cell__law_k : Vis (defScope s_law_cell) "_law_k" := Or.inl (by decide +kernel)
theorem vis_law_cell__law_script : Vis (defScope s_law_cell) "_law_script" := Or.inl (by decide +kernel)
abbrev s_law_pick : Stmt := top 25
theorem sc_law_pick : FnScope ["_law_script", "_law_k", "_law_many", "_law_drawn"] ["_law_script", "_law_k", "_law_many"] (defScope s_law_pick) := ⟨rfl, rfl, rfl, by decide +kernel, rfl, by decide +kernel, by decide +kernel⟩
theorem gl_law_pick__law_cell : (defScope s_law_pick).names.lookup ("_law_cell" : Str) = some NameKind.globalImplicit := by decide +kernel
theorem loc_law_pick__law_drawn : Loc (defScope s_law_pick) "_law_drawn" := Or.inl (by decide +kernel)
theorem vis_law_pick__law_drawn : Vis (defScope s_law_pick) "_law_drawn" := Or.inl (by decide +kernel)
theorem vis_law_pick__law_k : Vis (defScope s_law_pick) "_law_k" := Or.inl (by decide +kernel)
theorem vis_law_pick__law_many : Vis (defScope s_law_pick) "_law_many" := Or.inl (by decide +kernel)
theorem vis_law_pick__law_script : Vis (defScope s_law_pick) "_law_script" := Or.inl (by decide +kernel)
abbrev s_law_sum : Stmt := top 26
theorem sc_law_sum : FnScope ["_law_script", "_law_at", "_law_known", "_law_deep_here", "_law_way", "_law_words", "_law_one"] ["_law_script", "_law_at", "_law_known", "_law_deep_here"] (defScope s_law_sum) := ⟨rfl, rfl, rfl, by decide +kernel, rfl, by decide +kernel, by decide +kernel⟩
theorem gl_law_sum__law_pick : (defScope s_law_sum).names.lookup ("_law_pick" : Str) = some NameKind.globalImplicit := by decide +kernel
theorem gl_law_sum__law_sum : (defScope s_law_sum).names.lookup ("_law_sum" : Str) = some NameKind.globalImplicit := by decide +kernel
theorem gl_law_sum_len : (defScope s_law_sum).names.lookup ("len" : Str) = some NameKind.globalImplicit := by decide +kernel
theorem loc_law_sum__law_one : Loc (defScope s_law_sum) "_law_one" := Or.inl (by decide +kernel)
theorem loc_law_sum__law_way : Loc (defScope s_law_sum) "_law_way" := Or.inl (by decide +kernel)
theorem loc_law_sum__law_words : Loc (defScope s_law_sum) "_law_words" := Or.inl (by decide +kernel)
theorem vis_law_sum__law_at : Vis (defScope s_law_sum) "_law_at" := Or.inl (by decide +kernel)
theorem vis_law_sum__law_deep_here : Vis (defScope s_law_sum) "_law_deep_here" := Or.inl (by decide +kernel)
theorem vis_law_sum__law_known : Vis (defScope s_law_sum) "_law_known" := Or.inl (by decide +kernel)
theorem vis_law_sum__law_one : Vis (defScope s_law_sum) "_law_one" := Or.inl (by decide +kernel)
theorem vis_law_sum__law_script : Vis (defScope s_law_sum) "_law_script" := Or.inl (by decide +kernel)
theorem vis_law_sum__law_way : Vis (defScope s_law_sum) "_law_way" := Or.inl (by decide +kernel)
theorem vis_law_sum__law_words : Vis (defScope s_law_sum) "_law_words" := Or.inl (by decide +kernel)
abbrev s_law_counted : Stmt := top 27
theorem sc_law_counted : FnScope ["_law_script", "_law_at", "_law_known", "_law_body", "_law_deep_here", "_law_most", "_law_name", "_law_goal", "_law_more"] ["_law_script", "_law_at", "_law_known", "_law_body", "_law_deep_here"] (defScope s_law_counted) := ⟨rfl, rfl, rfl, by decide +kernel, rfl, by decide +kernel, by decide +kernel⟩
theorem gl_law_counted__law_pick : (defScope s_law_counted).names.lookup ("_law_pick" : Str) = some NameKind.globalImplicit := by decide +kernel
theorem gl_law_counted__law_sum : (defScope s_law_counted).names.lookup ("_law_sum" : Str) = some NameKind.globalImplicit := by decide +kernel
theorem gl_law_counted_len : (defScope s_law_counted).names.lookup ("len" : Str) = some NameKind.globalImplicit := by decide +kernel
theorem loc_law_counted__law_goal : Loc (defScope s_law_counted) "_law_goal" := Or.inl (by decide +kernel)
theorem loc_law_counted__law_more : Loc (defScope s_law_counted) "_law_more" := Or.inl (by decide +kernel)
theorem loc_law_counted__law_most : Loc (defScope s_law_counted) "_law_most" := Or.inl (by decide +kernel)
theorem loc_law_counted__law_name : Loc (defScope s_law_counted) "_law_name" := Or.inl (by decide +kernel)
theorem vis_law_counted__law_at : Vis (defScope s_law_counted) "_law_at" := Or.inl (by decide +kernel)
theorem vis_law_counted__law_body : Vis (defScope s_law_counted) "_law_body" := Or.inl (by decide +kernel)
theorem vis_law_counted__law_deep_here : Vis (defScope s_law_counted) "_law_deep_here" := Or.inl (by decide +kernel)
theorem vis_law_counted__law_goal : Vis (defScope s_law_counted) "_law_goal" := Or.inl (by decide +kernel)
theorem vis_law_counted__law_known : Vis (defScope s_law_counted) "_law_known" := Or.inl (by decide +kernel)
theorem vis_law_counted__law_more : Vis (defScope s_law_counted) "_law_more" := Or.inl (by decide +kernel)
theorem vis_law_counted__law_most : Vis (defScope s_law_counted) "_law_most" := Or.inl (by decide +kernel)
theorem vis_law_counted__law_name : Vis (defScope s_law_counted) "_law_name" := Or.inl (by decide +kernel)
theorem vis_law_counted__law_script : Vis (defScope s_law_counted) "_law_script" := Or.inl (by decide +kernel)
abbrev s_law_block : Stmt := top 28
theorem sc_law_block : FnScope ["_law_script", "_law_at", "_law_known", "_law_deep_here", "_law_deeds_here", "_law_k", "_law_base", "_law_way", "_law_name", "_law_first", "_law_mine", "_law_second", "_law_yours", "_law_body"] ["_law_script", "_law_at", "_law_known", "_law_deep_here"] (defScope s_law_block) := ⟨rfl, rfl, rfl, by decide +kernel, rfl, by decide +kernel, by decide +kernel⟩
theorem cell_law_block__law_known : (defScope s_law_block).names.lookup ("_law_known" : Str) = some NameKind.cell := by decide +kernel
theorem gl_law_block__law_block : (defScope s_law_block).names.lookup ("_law_block" : Str) = some NameKind.globalImplicit := by decide +kernel
theorem gl_law_block__law_counted : (defScope s_law_block).names.lookup ("_law_counted" : Str) = some NameKind.globalImplicit := by decide +kernel
theorem gl_law_block__law_pick : (defScope s_law_block).names.lookup ("_law_pick" : Str) = some NameKind.globalImplicit := by decide +kernel
theorem gl_law_block__law_sum : (defScope s_law_block).names.lookup ("_law_sum" : Str) = some NameKind.globalImplicit := by decide +kernel
theorem gl_law_block_range : (defScope s_law_block).names.lookup ("range" : Str) = some NameKind.globalImplicit := by decide +kernel
theorem gl_law_block_tuple : (defScope s_law_block).names.lookup ("tuple" : Str) = some NameKind.globalImplicit := by decide +kernel
theorem loc_law_block__law_base : Loc (defScope s_law_block) "_law_base" := Or.inl (by decide +kernel)
theorem loc_law_block__law_body : Loc (defScope s_law_block) "_law_body" := Or.inl (by decide +kernel)
theorem loc_law_block__law_deeds_here : Loc (defScope s_law_block) "_law_deeds_here" := Or.inl (by decide +kernel)
theorem loc_law_block__law_first : Loc (defScope s_law_block) "_law_first" := Or.inl (by decide +kernel)
theorem loc_law_block__law_k : Loc (defScope s_law_block) "_law_k" := Or.inl (by decide +kernel)
theorem loc_law_block__law_known : Loc (defScope s_law_block) "_law_known" := Or.inr (by decide +kernel)
theorem loc_law_block__law_mine : Loc (defScope s_law_block) "_law_mine" := Or.inl (by decide +kernel)
theorem loc_law_block__law_name : Loc (defScope s_law_block) "_law_name" := Or.inl (by decide +kernel)
theorem loc_law_block__law_second : Loc (defScope s_law_block) "_law_second" := Or.inl (by decide +kernel)
theorem loc_law_block__law_way : Loc (defScope s_law_block) "_law_way" := Or.inl (by decide +kernel)
theorem loc_law_block__law_yours : Loc (defScope s_law_block) "_law_yours" := Or.inr (by decide +kernel)
theorem vis_law_block__law_at : Vis (defScope s_law_block) "_law_at" := Or.inl (by decide +kernel)
theorem vis_law_block__law_base : Vis (defScope s_law_block) "_law_base" := Or.inl (by decide +kernel)
theorem vis_law_block__law_body : Vis (defScope s_law_block) "_law_body" := Or.inl (by decide +kernel)
theorem vis_law_block__law_deeds_here : Vis (defScope s_law_block) "_law_deeds_here" := Or.inl (by decide +kernel)
theorem vis_law_block__law_deep_here : Vis (defScope s_law_block) "_law_deep_here" := Or.inl (by decide +kernel)
theorem vis_law_block__law_first : Vis (defScope s_law_block) "_law_first" := Or.inl (by decide +kernel)
theorem vis_law_block__law_k : Vis (defScope s_law_block) "_law_k" := Or.inl (by decide +kernel)
theorem vis_law_block__law_known : Vis (defScope s_law_block) "_law_known" := Or.inr <| Or.inl (by decide +kernel)
theorem vis_law_block__law_mine : Vis (defScope s_law_block) "_law_mine" := Or.inl (by decide +kernel)
theorem vis_law_block__law_name : Vis (defScope s_law_block) "_law_name" := Or.inl (by decide +kernel)
theorem vis_law_block__law_script : Vis (defScope s_law_block) "_law_script" := Or.inl (by decide +kernel)
theorem vis_law_block__law_second : Vis (defScope s_law_block) "_law_second" := Or.inl (by decide +kernel)
theorem vis_law_block__law_way : Vis (defScope s_law_block) "_law_way" := Or.inl (by decide +kernel)
abbrev s_law_program : Stmt := top 29
theorem sc_law_program : FnScope ["_law_script", "_law_at", "_law_ins", "_law_k", "_law_low"] ["_law_script", "_law_at"] (defScope s_law_program) := ⟨rfl, rfl, rfl, by decide +kernel, rfl, by decide +kernel, by decide +kernel⟩
theorem gl_law_program__law_block : (defScope s_law_program).names.lookup ("_law_block" : Str) = some NameKind.globalImplicit := by decide +kernel
theorem gl_law_program__law_pick : (defScope s_law_program).names.lookup ("_law_pick" : Str) = some NameKind.globalImplicit := by decide +kernel
theorem gl_law_program_range : (defScope s_law_program).names.lookup ("range" : Str) = some NameKind.globalImplicit := by decide +kernel
theorem gl_law_program_tuple : (defScope s_law_program).names.lookup ("tuple" : Str) = some NameKind.globalImplicit := by decide +kernel
theorem loc_law_program__law_ins : Loc (defScope s_law_program) "_law_ins" := Or.inl (by decide +kernel)
theorem loc_law_program__law_k : Loc (defScope s_law_program) "_law_k" := Or.inl (by decide +kernel)
theorem loc_law_program__law_low : Loc (defScope s_law_program) "_law_low" := Or.inl (by decide +kernel)
theorem vis_law_program__law_at : Vis (defScope s_law_program) "_law_at" := Or.inl (by decide +kernel)
theorem vis_law_program__law_ins : Vis (defScope s_law_program) "_law_ins" := Or.inl (by decide +kernel)
theorem vis_law_program__law_k : Vis (defScope s_law_program) "_law_k" := Or.inl (by decide +kernel)
theorem vis_law_program__law_low : Vis (defScope s_law_program) "_law_low" := Or.inl (by decide +kernel)
theorem vis_law_program__law_script : Vis (defScope s_law_program) "_law_script" := Or.inl (by decide +kernel)
abbrev s_law_deeds : Stmt := top 30
theorem sc_law_deeds : FnScope ["_law_block_here", "_law_path", "_law_made", "_law_k", "_law_deed", "_law_j", "_law_part"] ["_law_block_here", "_law_path"] (defScope s_law_deeds) := ⟨rfl, rfl, rfl, by decide +kernel, rfl, by decide +kernel, by decide +kernel⟩
theorem gl_law_deeds__law_deeds : (defScope s_law_deeds).names.lookup ("_law_deeds" : Str) = some NameKind.globalImplicit := by decide +kernel
theorem gl_law_deeds_enumerate : (defScope s_law_deeds).names.lookup ("enumerate" : Str) = some NameKind.globalImplicit := by decide +kernel
theorem gl_law_deeds_isinstance : (defScope s_law_deeds).names.lookup ("isinstance" : Str) = some NameKind.globalImplicit := by decide +kernel
theorem gl_law_deeds_tuple : (defScope s_law_deeds).names.lookup ("tuple" : Str) = some NameKind.globalImplicit := by decide +kernel
theorem loc_law_deeds__law_deed : Loc (defScope s_law_deeds) "_law_deed" := Or.inl (by decide +kernel)
theorem loc_law_deeds__law_j : Loc (defScope s_law_deeds) "_law_j" := Or.inl (by decide +kernel)
theorem loc_law_deeds__law_k : Loc (defScope s_law_deeds) "_law_k" := Or.inl (by decide +kernel)
theorem loc_law_deeds__law_made : Loc (defScope s_law_deeds) "_law_made" := Or.inl (by decide +kernel)
theorem loc_law_deeds__law_part : Loc (defScope s_law_deeds) "_law_part" := Or.inl (by decide +kernel)
theorem vis_law_deeds__law_block_here : Vis (defScope s_law_deeds) "_law_block_here" := Or.inl (by decide +kernel)
theorem vis_law_deeds__law_deed : Vis (defScope s_law_deeds) "_law_deed" := Or.inl (by decide +kernel)
theorem vis_law_deeds__law_j : Vis (defScope s_law_deeds) "_law_j" := Or.inl (by decide +kernel)
theorem vis_law_deeds__law_k : Vis (defScope s_law_deeds) "_law_k" := Or.inl (by decide +kernel)
theorem vis_law_deeds__law_made : Vis (defScope s_law_deeds) "_law_made" := Or.inl (by decide +kernel)
theorem vis_law_deeds__law_part : Vis (defScope s_law_deeds) "_law_part" := Or.inl (by decide +kernel)
theorem vis_law_deeds__law_path : Vis (defScope s_law_deeds) "_law_path" := Or.inl (by decide +kernel)
abbrev s_law_sums : Stmt := top 31
abbrev s_law_deep : Stmt := top 32
theorem sc_law_deep : FnScope ["_law_expr"] ["_law_expr"] (defScope s_law_deep) := ⟨rfl, rfl, rfl, by decide +kernel, rfl, by decide +kernel, by decide +kernel⟩
theorem gl_law_deep__law_deep : (defScope s_law_deep).names.lookup ("_law_deep" : Str) = some NameKind.globalImplicit := by decide +kernel
theorem gl_law_deep_len : (defScope s_law_deep).names.lookup ("len" : Str) = some NameKind.globalImplicit := by decide +kernel
theorem gl_law_deep_max : (defScope s_law_deep).names.lookup ("max" : Str) = some NameKind.globalImplicit := by decide +kernel
theorem vis_law_deep__law_expr : Vis (defScope s_law_deep) "_law_expr" := Or.inl (by decide +kernel)
abbrev s_law_blocks : Stmt := top 33
theorem sc_law_blocks : FnScope ["_law_block_here", "_law_inner", "_law_deed"] ["_law_block_here"] (defScope s_law_blocks) := ⟨rfl, rfl, rfl, by decide +kernel, rfl, by decide +kernel, by decide +kernel⟩
theorem gl_law_blocks_max : (defScope s_law_blocks).names.lookup ("max" : Str) = some NameKind.globalImplicit := by decide +kernel
theorem loc_law_blocks__law_deed : Loc (defScope s_law_blocks) "_law_deed" := Or.inl (by decide +kernel)
theorem loc_law_blocks__law_inner : Loc (defScope s_law_blocks) "_law_inner" := Or.inl (by decide +kernel)
theorem vis_law_blocks__law_block_here : Vis (defScope s_law_blocks) "_law_block_here" := Or.inl (by decide +kernel)
theorem vis_law_blocks__law_deed : Vis (defScope s_law_blocks) "_law_deed" := Or.inl (by decide +kernel)
theorem vis_law_blocks__law_inner : Vis (defScope s_law_blocks) "_law_inner" := Or.inl (by decide +kernel)
abbrev s_law : Stmt := top 34
theorem sc_law : FnScope ["_law_script", "_law_program_here", "_law_some", "_law_words", "_law_deep_here", "_law_path", "_law_expr", "_law_kinds", "_law_new"] ["_law_script"] (defScope s_law) := ⟨rfl, rfl, rfl, by decide +kernel, rfl, by decide +kernel, by decide +kernel⟩
theorem gl_law__law_blocks : (defScope s_law).names.lookup ("_law_blocks" : Str) = some NameKind.globalImplicit := by decide +kernel
theorem gl_law__law_deeds : (defScope s_law).names.lookup ("_law_deeds" : Str) = some NameKind.globalImplicit := by decide +kernel
theorem gl_law__law_deep : (defScope s_law).names.lookup ("_law_deep" : Str) = some NameKind.globalImplicit := by decide +kernel
theorem gl_law__law_program : (defScope s_law).names.lookup ("_law_program" : Str) = some NameKind.globalImplicit := by decide +kernel
theorem gl_law_deeds_in : (defScope s_law).names.lookup ("deeds_in" : Str) = some NameKind.globalImplicit := by decide +kernel
theorem gl_law_depths : (defScope s_law).names.lookup ("depths" : Str) = some NameKind.globalImplicit := by decide +kernel
theorem gl_law_len : (defScope s_law).names.lookup ("len" : Str) = some NameKind.globalImplicit := by decide +kernel
theorem gl_law_max : (defScope s_law).names.lookup ("max" : Str) = some NameKind.globalImplicit := by decide +kernel
theorem gl_law_peeled : (defScope s_law).names.lookup ("peeled" : Str) = some NameKind.globalImplicit := by decide +kernel
theorem gl_law_sorted : (defScope s_law).names.lookup ("sorted" : Str) = some NameKind.globalImplicit := by decide +kernel
theorem gl_law_spots : (defScope s_law).names.lookup ("spots" : Str) = some NameKind.globalImplicit := by decide +kernel
theorem gl_law_sum : (defScope s_law).names.lookup ("sum" : Str) = some NameKind.globalImplicit := by decide +kernel
theorem gl_law_whiles : (defScope s_law).names.lookup ("whiles" : Str) = some NameKind.globalImplicit := by decide +kernel
theorem gl_law_words_in : (defScope s_law).names.lookup ("words_in" : Str) = some NameKind.globalImplicit := by decide +kernel
theorem lcl_law__law_deep_here : (defScope s_law).names.lookup ("_law_deep_here" : Str) = some NameKind.local := by decide +kernel
theorem lcl_law__law_some : (defScope s_law).names.lookup ("_law_some" : Str) = some NameKind.local := by decide +kernel
theorem lcl_law__law_words : (defScope s_law).names.lookup ("_law_words" : Str) = some NameKind.local := by decide +kernel
theorem loc_law__law_deep_here : Loc (defScope s_law) "_law_deep_here" := Or.inl (by decide +kernel)
theorem loc_law__law_expr : Loc (defScope s_law) "_law_expr" := Or.inl (by decide +kernel)
theorem loc_law__law_kinds : Loc (defScope s_law) "_law_kinds" := Or.inl (by decide +kernel)
theorem loc_law__law_new : Loc (defScope s_law) "_law_new" := Or.inl (by decide +kernel)
theorem loc_law__law_path : Loc (defScope s_law) "_law_path" := Or.inl (by decide +kernel)
theorem loc_law__law_program_here : Loc (defScope s_law) "_law_program_here" := Or.inl (by decide +kernel)
theorem vis_law__law_deep_here : Vis (defScope s_law) "_law_deep_here" := Or.inl (by decide +kernel)
theorem vis_law__law_expr : Vis (defScope s_law) "_law_expr" := Or.inl (by decide +kernel)
theorem vis_law__law_kinds : Vis (defScope s_law) "_law_kinds" := Or.inl (by decide +kernel)
theorem vis_law__law_new : Vis (defScope s_law) "_law_new" := Or.inl (by decide +kernel)
theorem vis_law__law_path : Vis (defScope s_law) "_law_path" := Or.inl (by decide +kernel)
theorem vis_law__law_program_here : Vis (defScope s_law) "_law_program_here" := Or.inl (by decide +kernel)
theorem vis_law__law_script : Vis (defScope s_law) "_law_script" := Or.inl (by decide +kernel)
theorem vis_law__law_some : Vis (defScope s_law) "_law_some" := Or.inl (by decide +kernel)
theorem vis_law__law_words : Vis (defScope s_law) "_law_words" := Or.inl (by decide +kernel)
/-! ### the readings of loops and comprehensions, folded -/
abbrev ForW (J : It) (g : TG) (tb : TS) (D : Ends) (σ : St) (H : Hp) : Prop := ∃ W : Nat → Nat → St → Hp → Prop, (∃ m, W 0 m σ H) ∧ ∀ i m σ H, W i m σ H →
  (J.stop i H ∧ D.nx σ H) ∨ (J.go i H ∧ ∃ N : St → Hp → Prop, (∀ σ' H', N σ' H' → ∃ m', m' < m ∧ W (i + 1) m' σ' H') ∧ ∀ x H', J.yld i H x H' → g x σ H' fun σ2 H2 => tb { D with nx := N, ct := N, bk := D.nx } σ2 H2)
theorem tFor_tup {K : PySem.W.Frag} {tl : TE} {g : TG} {tb : TS} {D : Ends} {σ : St} {H : Hp} : tFor (iTup K tl) g tb D σ H = tl σ H fun x H1 => ∃ a, x = .ref a ∧ (∃ xs, SqT K H1 a xs) ∧ ForW (Itt K a) g tb D σ H1 := rfl
theorem tFor_list {K : PySem.W.Frag} {tl : TE} {g : TG} {tb : TS} {D : Ends} {σ : St} {H : Hp} : tFor (iList K tl) g tb D σ H = tl σ H fun x H1 => ∃ a, x = .ref a ∧ (∃ xs, SqL K H1 a xs) ∧ ForW (Itl K a) g tb D σ H1 := rfl
theorem tFor_rng1 {ta : TA} {g : TG} {tb : TS} {D : Ends} {σ : St} {H : Hp} : tFor (iRng1 ta) g tb D σ H = ta σ H fun vs H1 => ∃ j : Int, vs = [.int j] ∧ -(2 ^ 62) ≤ j ∧ j < 2 ^ 62 ∧ ForW (Itr 0 j.toNat) g tb D σ H1 := rfl
theorem tComp_tup {K : PySem.W.Frag} {tl : TE} {g : TG} {tt : TT} {te : TE} {mp : List (Option Nat)} {σ : St} {H : Hp} {Q : VK} : tComp (iTup K tl) g tt te mp σ H Q = tl σ H fun x H1 => ∃ a, x = .ref a ∧ (∃ xs, SqT K H1 a xs) ∧ CompW (Itt K a) g tt te Q (subσ mp σ) H1 := rfl
theorem tComp_list {K : PySem.W.Frag} {tl : TE} {g : TG} {tt : TT} {te : TE} {mp : List (Option Nat)} {σ : St} {H : Hp} {Q : VK} : tComp (iList K tl) g tt te mp σ H Q = tl σ H fun x H1 => ∃ a, x = .ref a ∧ (∃ xs, SqL K H1 a xs) ∧ CompW (Itl K a) g tt te Q (subσ mp σ) H1 := rfl
theorem tComp_str {tl : TE} {g : TG} {tt : TT} {te : TE} {mp : List (Option Nat)} {σ : St} {H : Hp} {Q : VK} : tComp (iStr tl) g tt te mp σ H Q = tl σ H fun x H1 => ∃ z, x = .str z ∧ CompW (Its z) g tt te Q (subσ mp σ) H1 := rfl
/-! ### programs as data -/
inductive Wd where
  | add | sub | mul | quo | less | same | min | max
  deriving DecidableEq
def Wd.str : Wd → Str
  | .add => "add" | .sub => "sub" | .mul => "mul" | .quo => "quo" | .less => "less" | .same => "same" | .min => "min" | .max => "max"
inductive T where
  | num (i : Int) | nm (x : Str) | op (w : Wd) (a b : T)
def T.enc : T → Dm
  | .num i => .tup [.str "num", .int i]
  | .nm x => .tup [.str "name", .str x]
  | .op w a b => .tup [.str w.str, a.enc, b.enc]
/-- so deep at most, of these names, its numbers in the wide room -/
def T.ok (g : List Str) : Nat → T → Prop
  | 0, _ => False
  | _ + 1, .num i => -32768 ≤ i ∧ i ≤ 32767
  | _ + 1, .nm x => x ∈ g
  | n + 1, .op _ a b => T.ok g n a ∧ T.ok g n b
theorem T.ok.mono {g g' : List Str} (hg : ∀ x ∈ g, x ∈ g') : ∀ {n m : Nat} {t : T}, T.ok g n t → n ≤ m → T.ok g' m t
  | 0, _, _, h, _ => h.elim
  | n + 1, 0, _, _, h => absurd h (by omega)
  | n + 1, m + 1, .num i, h, _ => h
  | n + 1, m + 1, .nm x, h, _ => hg x h
  | n + 1, m + 1, .op w a b, h, hm => ⟨T.ok.mono hg h.1 (by omega), T.ok.mono hg h.2 (by omega)⟩
inductive D where
  | set (x : Str) (t : T) | ite (t : T) (b c : List D) | whl (t : T) (m : Int) (b : List D)
mutual
def D.enc : D → Dm
  | .set x t => .tup [.str "set", .str x, t.enc]
  | .ite t b c => .tup [.str "if", t.enc, .tup (encB b), .tup (encB c)]
  | .whl t m b => .tup [.str "while", t.enc, .int m, .tup (encB b)]
def encB : List D → List Dm
  | [] => []
  | d :: r => d.enc :: encB r
end
theorem encB_append : ∀ (b c : List D), encB (b ++ c) = encB b ++ encB c
  | [], c => by simp [encB]
  | d :: b, c => by rw [List.cons_append, encB, encB, encB_append b c, List.cons_append]
theorem encB_length : ∀ b : List D, (encB b).length = b.length
  | [] => by simp [encB]
  | d :: b => by rw [encB, List.length_cons, List.length_cons, encB_length b]
def pool : List Str := ["a", "b", "c", "dd"]
/-- blocks so deep at most -/
def okB : Nat → List D → Prop
  | 0, _ => False
  | n + 1, b => b.length ≤ 6 ∧ ∀ d ∈ b, match d with
    | .set x t => x ∈ pool ∧ t.ok pool 5
    | .ite t b c => t.ok pool 5 ∧ okB n b ∧ okB n c
    | .whl t m b => t.ok pool 5 ∧ 0 ≤ m ∧ m ≤ 20 ∧ okB n b
abbrev okD (n : Nat) (d : D) : Prop := match d with
  | .set x t => x ∈ pool ∧ t.ok pool 5
  | .ite t b c => t.ok pool 5 ∧ okB n b ∧ okB n c
  | .whl t m b => t.ok pool 5 ∧ 0 ≤ m ∧ m ≤ 20 ∧ okB n b
/-! what is known, as the program tells it -/
def T.knows (p : List Str) : T → Bool
  | .num _ => true
  | .nm x => p.contains x
  | .op _ a b => a.knows p && b.knows p
mutual
def kbD (p : List Str) : D → Option (List Str)
  | .set x t => if t.knows p then some (p ++ [x]) else none
  | .ite t b c => if t.knows p then (match kbB p b, kbB p c with | some q, some r => some (q.filter fun x => r.contains x) | _, _ => none) else none
  | .whl t _ b => if t.knows p then (match kbB p b with | some _ => some p | none => none) else none
def kbB (p : List Str) : List D → Option (List Str)
  | [] => some p
  | d :: r => match kbD p d with
    | some q => kbB q r
    | none => none
end
theorem kbB_append (p : List Str) : ∀ (b c : List D), kbB p (b ++ c) = match kbB p b with | some q => kbB q c | none => none
  | [], c => by simp [kbB]
  | d :: b, c => by
    rw [List.cons_append, kbB, kbB]
    cases kbD p d with
    | none => rfl
    | some q => exact kbB_append q b c
def Sub (g p : List Str) : Prop := ∀ x ∈ g, x ∈ p
theorem Sub.refl (g : List Str) : Sub g g := fun _ h => h
theorem Sub.trans {a b c : List Str} (h : Sub a b) (k : Sub b c) : Sub a c := fun x hx => k x (h x hx)
theorem T.ok.knows {g p : List Str} (hg : Sub g p) : ∀ {n : Nat} {t : T}, T.ok g n t → t.knows p = true
  | 0, _, h => h.elim
  | n + 1, .num i, _ => rfl
  | n + 1, .nm x, h => by simpa [T.knows] using hg x h
  | n + 1, .op w a b, h => by simp [T.knows, T.ok.knows hg h.1, T.ok.knows hg h.2]
/-- with g known ahead, a block is gone through, and g' is known behind -/
def Knows (g : List Str) (b : List D) (g' : List Str) : Prop := ∀ p, Sub g p → ∃ q, kbB p b = some q ∧ Sub g' q ∧ Sub p q
def KnowsD (g : List Str) (d : D) (g' : List Str) : Prop := ∀ p, Sub g p → ∃ q, kbD p d = some q ∧ Sub g' q ∧ Sub p q
theorem Knows.nil (g : List Str) : Knows g [] g := fun p h => ⟨p, by simp [kbB], h, Sub.refl p⟩
theorem Knows.snoc {g g1 g2 : List Str} {b : List D} {d : D} (h : Knows g b g1) (k : KnowsD g1 d g2) : Knows g (b ++ [d]) g2 := fun p hp => by
  obtain ⟨q, e, s1, s2⟩ := h p hp
  obtain ⟨r, e2, s3, s4⟩ := k q s1
  refine ⟨r, ?_, s3, s2.trans s4⟩
  rw [kbB_append, e]
  simp [kbB, e2]
theorem KnowsD.set {g g' : List Str} {x : Str} {t : T} {n : Nat} (ht : t.ok g n) (hs : ∀ y ∈ g', y ∈ g ∨ y = x) : KnowsD g (.set x t) g' := fun p hp => by
  refine ⟨p ++ [x], by simp [kbD, ht.knows hp], fun y hy => ?_, fun y hy => List.mem_append_left _ hy⟩
  rcases hs y hy with z | z
  · exact List.mem_append_left _ (hp y z)
  · exact List.mem_append_right _ (by simp [z])
theorem KnowsD.ite {g m y g' : List Str} {t : T} {b c : List D} {n : Nat} (ht : t.ok g n) (hb : Knows g b m) (hc : Knows g c y) (hs : ∀ x ∈ g', x ∈ m ∧ x ∈ y) : KnowsD g (.ite t b c) g' := fun p hp => by
  obtain ⟨q, e, s1, s2⟩ := hb p hp
  obtain ⟨r, e2, s3, s4⟩ := hc p hp
  refine ⟨q.filter fun x => r.contains x, by simp [kbD, ht.knows hp, e, e2], fun x hx => ?_, fun x hx => ?_⟩
  · exact List.mem_filter.mpr ⟨s1 x (hs x hx).1, by simpa using s3 x (hs x hx).2⟩
  · exact List.mem_filter.mpr ⟨s2 x hx, by simpa using s4 x hx⟩
theorem KnowsD.whl {g g1 : List Str} {t : T} {m : Int} {b : List D} {n : Nat} (ht : t.ok g n) (hb : Knows g b g1) : KnowsD g (.whl t m b) g := fun p hp => by
  obtain ⟨q, e, s1, s2⟩ := hb p hp
  exact ⟨p, by simp [kbD, ht.knows hp, e], hp, Sub.refl p⟩
theorem Knows.sub {g g1 : List Str} {b : List D} (h : Knows g b g1) : Knows g b g := fun p hp => by
  obtain ⟨q, e, s1, s2⟩ := h p hp
  exact ⟨q, e, hp.trans s2, s2⟩
/-! ### small facts for the readings -/
theorem atI_lt {xs : List V} {k : Int} (h0 : 0 ≤ k) (h : k < (xs.length : Int)) : ∃ v, xs[k.toNat]? = some v ∧ atI xs k = some v := by
  have hk : k.toNat < xs.length := by omega
  have ek : k = ((k.toNat : Nat) : Int) := by omega
  refine ⟨xs[k.toNat], List.getElem?_eq_getElem hk, ?_⟩
  have q : atI xs ((k.toNat : Nat) : Int) = some xs[k.toNat] := atI_nat (List.getElem?_eq_getElem hk)
  rw [← ek] at q
  exact q
theorem atI_map {α : Type} {c : α → V} {ns : List α} {k : Int} (h0 : 0 ≤ k) (h : k < (ns.length : Int)) : ∃ v ∈ ns, atI (ns.map c) k = some (c v) := by
  obtain ⟨v, e1, e2⟩ := atI_lt (xs := ns.map c) h0 (by rw [List.length_map]; exact h)
  rw [List.getElem?_map] at e1
  cases e : ns[k.toNat]? with
  | none => rw [e] at e1; cases e1
  | some i => rw [e] at e1; cases e1; exact ⟨i, List.mem_of_getElem? e, e2⟩
theorem okInts (ns : List Int) : (ns.map V.int).all okV = true := by simp [okV]
theorem okStrs {g : List Str} (h : Sub g pool) : (g.map V.str).all okV = true := by
  simp only [List.all_map, List.all_eq_true]
  intro x hx
  have := h x hx
  simp only [pool, List.mem_cons, List.not_mem_nil, or_false] at this
  rcases this with rfl | rfl | rfl | rfl <;> decide +kernel
theorem zl (n : Nat) (h : n ≤ 1000) : n ≤ sizeLine := Nat.le_of_lt (small1000 h)
theorem lenL {K : PySem.W.Frag} {H : Hp} {a : Addr} {xs : List V} (h : SqL K H a xs) : LenOf K (.ref a) H xs.length := .inl ⟨a, xs, rfl, .inl h, rfl⟩
theorem lenT {K : PySem.W.Frag} {H : Hp} {a : Addr} {xs : List V} (h : SqT K H a xs) : LenOf K (.ref a) H xs.length := .inl ⟨a, xs, rfl, .inr h, rfl⟩
theorem eqNil {K : PySem.W.Frag} {H : Hp} {a p : Addr} {xs : List V} (h : SqL K H a xs) (ho : xs.all okV = true) (hp : SqL K H p []) : EqOf K (.ref a) (.ref p) H xs.isEmpty := .inr (.inl ⟨a, p, xs, [], rfl, rfl, h, hp, ho, rfl, (eqL_nil xs).symm⟩)
theorem cxOf_K (CX : CXT) (P : Program) (w : World) (K : PySem.W.Frag) (mg : Str → Option Value) (base : Heap) (N : List Str) (qual : Str) (scope : Scope) (f : Addr) (cd : Value) (A : Around) (outer : List Env) (s : Shared) (H : Hp) (E : XK) : (cxOf CX P w K mg base N qual scope f cd A outer s H E).K = K := rfl
theorem cxOf_nox_K (CX : CXT) (P : Program) (w : World) (K : PySem.W.Frag) (mg : Str → Option Value) (base : Heap) (N : List Str) (qual : Str) (scope : Scope) (f : Addr) (cd : Value) (A : Around) (outer : List Env) (s : Shared) (H : Hp) (E : XK) : (cxOf CX P w K mg base N qual scope f cd A outer s H E).nox.K = K := rfl
theorem cxComp_K (X : Cx) (N' : List Str) (scope : Scope) (cl : List (Str × Addr)) (C : Addr) (s₀ : Shared) (H₀ : Hp) (ex : List Addr) : (cxComp X N' scope cl C s₀ H₀ ex).K = X.K := rfl
theorem tFor_enum {K : PySem.W.Frag} {ta : TA} {g : TG} {tb : TS} {D : Ends} {σ : St} {H : Hp} : tFor (iEnum K ta) g tb D σ H = ta σ H fun vs H1 => ∃ a, vs = [.ref a] ∧ (∃ xs, SqL K H1 a xs) ∧ ForW (Ite K a) g tb D σ H1 := rfl
theorem tFor_zip {K : PySem.W.Frag} {ta : TA} {g : TG} {tb : TS} {D : Ends} {σ : St} {H : Hp} : tFor (iZip K ta) g tb D σ H = ta σ H fun vs H1 => ∃ a b, vs = [.ref a, .ref b] ∧ (∃ xs, SqL K H1 a xs) ∧ (∃ ys, SqL K H1 b ys) ∧ ForW (Itz K a b) g tb D σ H1 := rfl
theorem tFor_rng2 {ta : TA} {g : TG} {tb : TS} {D : Ends} {σ : St} {H : Hp} : tFor (iRng2 ta) g tb D σ H = ta σ H fun vs H1 => ∃ i j : Int, vs = [.int i, .int j] ∧ (-(2 ^ 62) ≤ i ∧ i < 2 ^ 62 ∧ -(2 ^ 62) ≤ j ∧ j < 2 ^ 62) ∧ ForW (Itr i (j - i).toNat) g tb D σ H1 := rfl
theorem tComp_seq {K : PySem.W.Frag} {tl : TE} {g : TG} {tt : TT} {te : TE} {mp : List (Option Nat)} {σ : St} {H : Hp} {Q : VK} : tComp (iSeq K tl) g tt te mp σ H Q = tl σ H fun x H1 => ∃ a, x = .ref a ∧ (((∃ xs, SqL K H1 a xs) ∧ CompW (Itl K a) g tt te Q (subσ mp σ) H1) ∨ ((∃ xs, SqT K H1 a xs) ∧ CompW (Itt K a) g tt te Q (subσ mp σ) H1)) := rfl
theorem cxOf_prog (CX : CXT) (P : Program) (w : World) (K : PySem.W.Frag) (mg : Str → Option Value) (base : Heap) (N : List Str) (qual : Str) (scope : Scope) (f : Addr) (cd : Value) (A : Around) (outer : List Env) (s : Shared) (H : Hp) (E : XK) : (cxOf CX P w K mg base N qual scope f cd A outer s H E).prog = P := rfl
theorem cxOf_w (CX : CXT) (P : Program) (w : World) (K : PySem.W.Frag) (mg : Str → Option Value) (base : Heap) (N : List Str) (qual : Str) (scope : Scope) (f : Addr) (cd : Value) (A : Around) (outer : List Env) (s : Shared) (H : Hp) (E : XK) : (cxOf CX P w K mg base N qual scope f cd A outer s H E).w = w := rfl
theorem cxOf_nox_prog (CX : CXT) (P : Program) (w : World) (K : PySem.W.Frag) (mg : Str → Option Value) (base : Heap) (N : List Str) (qual : Str) (scope : Scope) (f : Addr) (cd : Value) (A : Around) (outer : List Env) (s : Shared) (H : Hp) (E : XK) : (cxOf CX P w K mg base N qual scope f cd A outer s H E).nox.prog = P := rfl
theorem cxOf_nox_w (CX : CXT) (P : Program) (w : World) (K : PySem.W.Frag) (mg : Str → Option Value) (base : Heap) (N : List Str) (qual : Str) (scope : Scope) (f : Addr) (cd : Value) (A : Around) (outer : List Env) (s : Shared) (H : Hp) (E : XK) : (cxOf CX P w K mg base N qual scope f cd A outer s H E).nox.w = w := rfl
theorem cxOf_mg (CX : CXT) (P : Program) (w : World) (K : PySem.W.Frag) (mg : Str → Option Value) (base : Heap) (N : List Str) (qual : Str) (scope : Scope) (f : Addr) (cd : Value) (A : Around) (outer : List Env) (s : Shared) (H : Hp) (E : XK) : (cxOf CX P w K mg base N qual scope f cd A outer s H E).mg = mg := rfl
theorem cxOf_nox_mg (CX : CXT) (P : Program) (w : World) (K : PySem.W.Frag) (mg : Str → Option Value) (base : Heap) (N : List Str) (qual : Str) (scope : Scope) (f : Addr) (cd : Value) (A : Around) (outer : List Env) (s : Shared) (H : Hp) (E : XK) : (cxOf CX P w K mg base N qual scope f cd A outer s H E).nox.mg = mg := rfl
theorem cxOf_base (CX : CXT) (P : Program) (w : World) (K : PySem.W.Frag) (mg : Str → Option Value) (base : Heap) (N : List Str) (qual : Str) (scope : Scope) (f : Addr) (cd : Value) (A : Around) (outer : List Env) (s : Shared) (H : Hp) (E : XK) : (cxOf CX P w K mg base N qual scope f cd A outer s H E).base = base := rfl
theorem cxOf_nox_base (CX : CXT) (P : Program) (w : World) (K : PySem.W.Frag) (mg : Str → Option Value) (base : Heap) (N : List Str) (qual : Str) (scope : Scope) (f : Addr) (cd : Value) (A : Around) (outer : List Env) (s : Shared) (H : Hp) (E : XK) : (cxOf CX P w K mg base N qual scope f cd A outer s H E).nox.base = base := rfl
theorem cxComp_prog (X : Cx) (N' : List Str) (scope : Scope) (cl : List (Str × Addr)) (C : Addr) (s₀ : Shared) (H₀ : Hp) (ex : List Addr) : (cxComp X N' scope cl C s₀ H₀ ex).prog = X.prog := rfl
theorem cxComp_w (X : Cx) (N' : List Str) (scope : Scope) (cl : List (Str × Addr)) (C : Addr) (s₀ : Shared) (H₀ : Hp) (ex : List Addr) : (cxComp X N' scope cl C s₀ H₀ ex).w = X.w := rfl
theorem cxComp_mg (X : Cx) (N' : List Str) (scope : Scope) (cl : List (Str × Addr)) (C : Addr) (s₀ : Shared) (H₀ : Hp) (ex : List Addr) : (cxComp X N' scope cl C s₀ H₀ ex).mg = X.mg := rfl
theorem cxComp_base (X : Cx) (N' : List Str) (scope : Scope) (cl : List (Str × Addr)) (C : Addr) (s₀ : Shared) (H₀ : Hp) (ex : List Addr) : (cxComp X N' scope cl C s₀ H₀ ex).base = X.base := rfl
theorem tComp_zipT {K : PySem.W.Frag} {ta : TA} {g : TG} {tt : TT} {te : TE} {mp : List (Option Nat)} {σ : St} {H : Hp} {Q : VK} : tComp (iZipT K ta) g tt te mp σ H Q = ta σ H fun vs H1 => ∃ a b, vs = [.ref a, .ref b] ∧ (∃ xs, SqT K H1 a xs) ∧ (∃ ys, SqT K H1 b ys) ∧ CompW (Itzt K a b) g tt te Q (subσ mp σ) H1 := rfl
local macro_rules | `(tactic| walk_at "rd") => `(tactic| simp only [tSeq, tIfS, tTest, tOp, tVar, tC, tAsg, gName, gTup, gCons, gNil, tRet, tRetN, tDrop, tNext, tCB, tCons, tNil, tCall, tUn, rU, rI0, rI, tAnd, tOr, tNot, tB, tAndV, tOrV, tNotV, tIf, tIfT, tKGet, tChain, tDGet, tDGet1, sDPut, tDNewK, tDisp, tPairs, tCont, tSl, tNoPart, tPart, rSlT, tChain3, qSortS, qEqDL, qNeDL, tFor_enum, tFor_zip, tFor_rng2, tComp_seq, qSetI, qSortSet, cxOf_prog, cxOf_w, cxOf_nox_prog, cxOf_nox_w, cxOf_mg, cxOf_base, cxOf_nox_mg, cxOf_nox_base, cxComp_prog, cxComp_w, cxComp_mg, cxComp_base, tComp_zipT, tCallL, rSlA, rSlL, tDX, tDXs, tTup, tLst, tBM,
  qEq, qNe, qIn, qNotIn, qIsN, qNotN, qIsB, qNotB, qLen, qInst, qEqD, qNeD, qMinL, qMaxL, qSortI, rIx, rIxL, rIxT, rIxS, rCat, rCatT2, rRep, rRepT, rLeS, rLtS, rAppend, rExtend, tNever, tBreak, tYes,
  tFor_tup, tFor_list, tFor_rng1, tComp_tup, tComp_list, tComp_str, L2.start, cxOf_K, cxOf_nox_K, cxComp_K, List.map_cons, List.map_nil, List.length_cons, List.length_nil, List.replicate_succ, List.replicate_zero, Nat.reduceAdd, Nat.reduceSub, Nat.zero_add, Nat.add_zero, Nat.sub_zero, Nat.sub_self, Nat.add_sub_cancel,
  List.getElem?_cons_zero, List.getElem?_cons_succ, List.set_cons_zero, List.set_cons_succ, List.cons_append, List.nil_append, List.append_nil, List.cons.injEq, Option.some.injEq, V.int.injEq, V.ref.injEq, V.str.injEq, V.bl.injEq, V.ty.injEq,
  reduceCtorEq, false_and, and_false, and_true, true_and, exists_false, exists_const, false_or, or_false, exists_eq_left, exists_eq_left', exists_eq_right, exists_eq_right', exists_and_left, decide_eq_true_eq, Bool.not_eq_true', Bool.decide_eq_true, exists_eq, true_or, or_true, Bool.false_eq_true, if_true, if_false, Bool.true_eq_false, Bool.not_true, Bool.not_false, decide_true, decide_false, List.isEmpty_cons, List.isEmpty_nil, Bool.true_and, Bool.false_and, bne_self_eq_false, beq_self_eq_true])
section
variable {P : Program} {w : World} {K : PySem.W.Frag} {mg : Str → Option Value} {base : Heap} {f : Addr} {fd : FuncData}
def spCell (K : PySem.W.Frag) : Sp := fun vs H Q _ => ∃ (a : Addr) (ns : List Int) (k : Int), vs = [.ref a, .int k] ∧ SqL K H a (ns.map V.int) ∧ 0 ≤ k ∧ ∀ (i : Int) (H' : Hp), Same H H' → Q (.int i) H'
theorem ok_cell (F : Fun K "_law_cell" "_law_cell" s_law_cell f fd) (b_len : mg "len" = none) : FnOk P w K mg base CX0 1 f fd ["_law_script", "_law_k"] (spCell K) := by
  refine F.ok sc_law_cell (fun vs H Q E h => ?_) (fun cdv A outer s H vs Q E hr h => ?_)
  · obtain ⟨a, ns, k, rfl, _⟩ := h
    rfl
  obtain ⟨a, ns, k, rfl, hS, h0, q⟩ := h
  refine ⟨_, (pss_cons (ps_if (pt_cmpR op_lt (pe_var (i := 1) rfl vis_law_cell__law_k db__law_k cd__law_k) (pe_cB gLen gl_law_cell_len b_len bt_len (pa_c (pe_var (i := 0) rfl vis_law_cell__law_script db__law_script cd__law_script) pa_nil) nn_len db_len) (nomark _)) (pss_one (ps_ret (pe_ix ix_list (pe_var (i := 0) rfl vis_law_cell__law_script db__law_script cd__law_script) (pe_var (i := 1) rfl vis_law_cell__law_k db__law_k cd__law_k) (fun _ _ => rfl)))) pss_nil)
  (pss_cons (ps_if (pt_cmpR (gEq hr.units) (pe_var (i := 0) rfl vis_law_cell__law_script db__law_script cd__law_script) (pe_lst pa_nil) (nomark _)) (pss_one (ps_ret pe_int)) pss_nil)
  (pss_one (ps_ret (pe_op op_add (pe_op op_mul (pe_ix ix_list (pe_var (i := 0) rfl vis_law_cell__law_script db__law_script cd__law_script) (pe_op op_mod (pe_var (i := 1) rfl vis_law_cell__law_k db__law_k cd__law_k) (pe_cB gLen gl_law_cell_len b_len bt_len (pa_c (pe_var (i := 0) rfl vis_law_cell__law_script db__law_script cd__law_script) pa_nil) nn_len db_len)) (fun _ _ => rfl)) pe_int) (pe_var (i := 1) rfl vis_law_cell__law_k db__law_k cd__law_k)))))), ?_⟩
  walk_at "rd"
  refine ⟨_, lenL hS, ?_⟩
  rw [List.length_map]
  split
  · rename_i hk
    obtain ⟨i, _, e⟩ := atI_map (c := V.int) h0 hk
    exact ⟨_, hS, _, e, q i H (Same.refl _)⟩
  · refine ⟨Nat.zero_le _, fun p hp => ?_⟩
    have s1 := same_new hp (.lst [])
    refine ⟨_, eqNil (s1.seq hS) (okInts ns) (SqL.of upd_same), ?_⟩
    split
    · exact q 0 _ s1
    · rename_i hne
      have hl : 0 < (ns.length : Int) := by
        cases ns with
        | nil => exact absurd rfl hne
        | cons a r => simp only [List.length_cons]; omega
      obtain ⟨i, _, e⟩ := atI_map (c := V.int) (ns := ns) (k := k % (ns.length : Int)) (Int.emod_nonneg _ (by omega)) (Int.emod_lt_of_pos _ hl)
      exact ⟨_, lenL (s1.seq hS), by rw [List.length_map]; exact hl, _, s1.seq hS, _, by rw [List.length_map]; exact e, i, rfl, .inr ⟨by decide, by decide⟩, q _ _ s1⟩
def spPick (K : PySem.W.Frag) : Sp := fun vs H Q _ => ∃ (a : Addr) (ns : List Int) (k m : Int), vs = [.ref a, .int k, .int m] ∧ SqL K H a (ns.map V.int) ∧ 0 ≤ k ∧ 0 < m ∧ ∀ (i : Int) (H' : Hp), 0 ≤ i → i < m → Same H H' → Q (.int i) H'
theorem ok_pick (F : Fun K "_law_pick" "_law_pick" s_law_pick f fd) (c_law_cell : Callee P w K mg base "_law_cell" ["_law_script", "_law_k"] 1 (spCell K)) : FnOk P w K mg base CX0 2 f fd ["_law_script", "_law_k", "_law_many"] (spPick K) := by
  refine F.ok sc_law_pick (fun vs H Q E h => ?_) (fun cdv A outer s H vs Q E hr h => ?_)
  · obtain ⟨a, ns, k, m, rfl, _⟩ := h
    rfl
  obtain ⟨a, ns, k, m, rfl, hS, h0, hm, q⟩ := h
  refine ⟨_, (pss_cons (ps_set (i := 3) sc_law_pick.nd rfl loc_law_pick__law_drawn (pe_op op_mod (pe_op op_mul (pe_op op_add (pe_cc c_law_cell hr (by omega) (pa_c (pe_var (i := 0) rfl vis_law_pick__law_script db__law_script cd__law_script) (pa_c (pe_var (i := 1) rfl vis_law_pick__law_k db__law_k cd__law_k) pa_nil)) gl_law_pick__law_cell db__law_cell) (pe_op op_mul pe_int (pe_op op_add (pe_var (i := 1) rfl vis_law_pick__law_k db__law_k cd__law_k) pe_int))) pe_int) pe_int) (swaps_plain rfl))
  (pss_one (ps_ret (pe_op op_mod (pe_op op_mod (pe_op op_add (pe_op op_mul (pe_var (i := 3) rfl vis_law_pick__law_drawn db__law_drawn cd__law_drawn) (pe_var (i := 3) rfl vis_law_pick__law_drawn db__law_drawn cd__law_drawn)) (pe_op op_fdiv (pe_var (i := 3) rfl vis_law_pick__law_drawn db__law_drawn cd__law_drawn) pe_int)) pe_int) (pe_var (i := 2) rfl vis_law_pick__law_many db__law_many cd__law_many))))), ?_⟩
  walk_at "rd"
  refine ⟨a, ns, k, rfl, hS, h0, fun i H' s1 => ?_⟩
  walk_at "rd"
  refine ⟨.inl ⟨by decide, by decide⟩, .inr ⟨by decide, by decide⟩, by decide, ?_⟩
  have e1 : 0 ≤ (i + 6151 * (k + 1)) * 40692 % 2147483399 := Int.emod_nonneg _ (by decide)
  have e2 : (i + 6151 * (k + 1)) * 40692 % 2147483399 < 2147483399 := Int.emod_lt_of_pos _ (by decide)
  refine ⟨.inl ⟨by omega, by omega⟩, ⟨by decide, by decide⟩, by decide, hm, q _ _ (Int.emod_nonneg _ (by omega)) (Int.emod_lt_of_pos _ hm) s1⟩
/-- a def of the text, for the callers -/
structure Df (K : PySem.W.Frag) (mg : Str → Option Value) (x : Str) (st : Stmt) (ps : List Str) (f : Addr) (fd : FuncData) : Prop where
  F : Fun K x x st f fd
  m : mg x = some (.ref f)
  b : Binds K fd ps []
theorem Df.callee {x : Str} {st : Stmt} {ps : List Str} {k : Nat} {sp : Sp} (d : Df K mg x st ps f fd) (h : FnOk P w K mg base CX0 k f fd ps sp) : Callee P w K mg base x ps k sp := ⟨f, fd, h, d.m, d.F.kp, d.b⟩
theorem inV_strs (x : Str) : ∀ g : List Str, inV (.str x) (g.map V.str) = g.contains x
  | [] => rfl
  | y :: g => by
    have ih := inV_strs x g
    unfold inV at ih ⊢
    rw [List.map_cons, List.any_cons, ih, List.contains_cons]
    have e : eqV (.str y) (.str x) = (x == y) := by
      show (y == x) = (x == y)
      rw [Bool.eq_iff_iff, beq_iff_eq, beq_iff_eq]
      exact eq_comm
    rw [e]
theorem flat_strs (g : List Str) : (g.map V.str).all flatV = true := by simp [flatV]
theorem same_upd {H H' : Hp} {p : Addr} {o : HO} (s : Same H H') (h : H p = none) : Same H (upd H' p o) := fun b u q => by rw [upd_ne (ne_of_none q h)]; exact s b u q
end
end SR


set_option Elab.async false
set_option linter.all false
set_option maxRecDepth 100000
set_option maxHeartbeats 0
namespace SR
open PySem L2
local macro_rules | `(tactic| walk_at "rd") => `(tactic| simp only [tSeq, tIfS, tTest, tOp, tVar, tC, tAsg, gName, gTup, gCons, gNil, tRet, tRetN, tDrop, tNext, tCB, tCons, tNil, tCall, tUn, rU, rI0, rI, tAnd, tOr, tNot, tB, tAndV, tOrV, tNotV, tIf, tIfT, tKGet, tChain, tDGet, tDGet1, sDPut, tDNewK, tDisp, tPairs, tCont, tSl, tNoPart, tPart, rSlT, tChain3, qSortS, qEqDL, qNeDL, tFor_enum, tFor_zip, tFor_rng2, tComp_seq, qSetI, qSortSet, cxOf_prog, cxOf_w, cxOf_nox_prog, cxOf_nox_w, cxOf_mg, cxOf_base, cxOf_nox_mg, cxOf_nox_base, cxComp_prog, cxComp_w, cxComp_mg, cxComp_base, tComp_zipT, tCallL, rSlA, rSlL, tDX, tDXs, tTup, tLst, tBM,
  qEq, qNe, qIn, qNotIn, qIsN, qNotN, qIsB, qNotB, qLen, qInst, qEqD, qNeD, qMinL, qMaxL, qSortI, rIx, rIxL, rIxT, rIxS, rCat, rCatT2, rRep, rRepT, rLeS, rLtS, rAppend, rExtend, tNever, tBreak, tYes,
  tFor_tup, tFor_list, tFor_rng1, tComp_tup, tComp_list, tComp_str, L2.start, cxOf_K, cxOf_nox_K, cxComp_K, List.map_cons, List.map_nil, List.length_cons, List.length_nil, List.replicate_succ, List.replicate_zero, Nat.reduceAdd, Nat.reduceSub, Nat.zero_add, Nat.add_zero, Nat.sub_zero, Nat.sub_self, Nat.add_sub_cancel,
  List.getElem?_cons_zero, List.getElem?_cons_succ, List.set_cons_zero, List.set_cons_succ, List.cons_append, List.nil_append, List.append_nil, List.cons.injEq, Option.some.injEq, V.int.injEq, V.ref.injEq, V.str.injEq, V.bl.injEq, V.ty.injEq,
  reduceCtorEq, false_and, and_false, and_true, true_and, exists_false, exists_const, false_or, or_false, exists_eq_left, exists_eq_left', exists_eq_right, exists_eq_right', exists_and_left, decide_eq_true_eq, Bool.not_eq_true', Bool.decide_eq_true, exists_eq, true_or, or_true, Bool.false_eq_true, if_true, if_false, Bool.true_eq_false, Bool.not_true, Bool.not_false, decide_true, decide_false, List.isEmpty_cons, List.isEmpty_nil, Bool.true_and, Bool.false_and, bne_self_eq_false, beq_self_eq_true])
section
variable {P : Program} {w : World} {K : PySem.W.Frag} {mg : Str → Option Value} {base : Heap} {f : Addr} {fd : FuncData}
theorem tseq_i {a b : TS} {D : Ends} {σ : St} {H : Hp} (h : ∀ N : St → Hp → Prop, N = b D → a { D with nx := N } σ H) : tSeq a b D σ H := h _ rfl
theorem tifs_i {c : TT} {a b : TS} {D : Ends} {σ : St} {H : Hp} (h : ∀ Y Z : St → Hp → Prop, Y = a D → Z = b D → tIfS c (fun _ => Y) (fun _ => Z) D σ H) : tIfS c a b D σ H := h _ _ rfl rfl
theorem tif2_i {t1 t2 : TS} {c : TT} {a b : TS} {D : Ends} {σ : St} {H : Hp} (h : ∀ Y Z : St → Hp → Prop, Y = a D → Z = b D → tSeq t1 (tSeq t2 (tIfS c (fun _ => Y) (fun _ => Z))) D σ H) : tSeq t1 (tSeq t2 (tIfS c a b)) D σ H := h _ _ rfl rfl
/-- a sum of known names and numbers, so deep at most -/
def spSum (K : PySem.W.Frag) (n : Nat) : Sp := fun vs H Q _ => ∃ (a : Addr) (ns : List Int) (k : Int) (kn : Addr) (g : List Str) (d : Nat), vs = [.ref a, .int k, .ref kn, .int d] ∧ SqL K H a (ns.map V.int) ∧ 0 ≤ k ∧ H kn = some (.lst (g.map V.str)) ∧ Sub g pool ∧ 1 ≤ d ∧ d ≤ n ∧
  ∀ (r : V) (H' : Hp) (t : T), Same H H' → Dt H' r t.enc → t.ok g d → Q r H'
theorem ok_sum {n : Nat} (F : Fun K "_law_sum" "_law_sum" s_law_sum f fd) (b_len : mg "len" = none) (c_law_pick : Callee P w K mg base "_law_pick" ["_law_script", "_law_k", "_law_many"] 2 (spPick K))
    (c_law_sum : Callee P w K mg base "_law_sum" ["_law_script", "_law_at", "_law_known", "_law_deep_here"] (n + 3) (spSum K n)) : FnOk P w K mg base CX0 (n + 4) f fd ["_law_script", "_law_at", "_law_known", "_law_deep_here"] (spSum K (n + 1)) := by
  refine F.ok sc_law_sum (fun vs H Q E h => ?_) (fun cdv A outer s H vs Q E hr h => ?_)
  · obtain ⟨a, ns, k, kn, g, d, rfl, _⟩ := h
    rfl
  obtain ⟨a, ns, k, kn, g, d, rfl, hS, h0, hk, hg, hd1, hd2, q⟩ := h
  refine ⟨_, (pss_cons (ps_set (i := 4) sc_law_sum.nd rfl loc_law_sum__law_way (pe_cc c_law_pick hr (by omega) (pa_c (pe_var (i := 0) rfl vis_law_sum__law_script db__law_script cd__law_script) (pa_c (pe_var (i := 1) rfl vis_law_sum__law_at db__law_at cd__law_at) (pa_c pe_int pa_nil))) gl_law_sum__law_pick db__law_pick) (swaps_plain rfl))
  (pss_cons (ps_if (PW.pt (pw_or (pt_cmpR op_eqI (pe_var (i := 3) rfl vis_law_sum__law_deep_here db__law_deep_here cd__law_deep_here) pe_int (nomark _)) (pw_or1 (pt_cmpR op_lt (pe_var (i := 4) rfl vis_law_sum__law_way db__law_way cd__law_way) pe_int (nomark _))))) (pss_cons (ps_if (PW.pt (pw_and (pt_cmpR (gNe hr.units) (pe_var (i := 2) rfl vis_law_sum__law_known db__law_known cd__law_known) (pe_lst pa_nil) (nomark _)) (pw_and1 (pt_cmpR op_gt (pe_cc c_law_pick hr (by omega) (pa_c (pe_var (i := 0) rfl vis_law_sum__law_script db__law_script cd__law_script) (pa_c (pe_op op_add (pe_var (i := 1) rfl vis_law_sum__law_at db__law_at cd__law_at) pe_int) (pa_c pe_int pa_nil))) gl_law_sum__law_pick db__law_pick) pe_int (nomark _))))) (pss_one (ps_ret (pe_tup (pa_c pe_str (pa_c (pe_ix ix_list (pe_var (i := 2) rfl vis_law_sum__law_known db__law_known cd__law_known) (pe_cc c_law_pick hr (by omega) (pa_c (pe_var (i := 0) rfl vis_law_sum__law_script db__law_script cd__law_script) (pa_c (pe_op op_add (pe_var (i := 1) rfl vis_law_sum__law_at db__law_at cd__law_at) pe_int) (pa_c (pe_cB gLen gl_law_sum_len b_len bt_len (pa_c (pe_var (i := 2) rfl vis_law_sum__law_known db__law_known cd__law_known) pa_nil) nn_len db_len) pa_nil))) gl_law_sum__law_pick db__law_pick) (fun _ _ => rfl)) pa_nil))))) pss_nil)
  (pss_one (ps_ret (pe_tup (pa_c pe_str (pa_c (pe_ix ix_list (pe_lst (pa_c pe_int (pa_c pe_int (pa_c (pe_un un_neg pe_int) (pa_c pe_int (pa_c pe_int (pa_c pe_int (pa_c (pe_un un_neg pe_int) (pa_c pe_int (pa_c (pe_un un_neg pe_int) (pa_c pe_int (pa_c pe_int (pa_c (pe_un un_neg pe_int) pa_nil))))))))))))) (pe_cc c_law_pick hr (by omega) (pa_c (pe_var (i := 0) rfl vis_law_sum__law_script db__law_script cd__law_script) (pa_c (pe_op op_add (pe_var (i := 1) rfl vis_law_sum__law_at db__law_at cd__law_at) pe_int) (pa_c pe_int pa_nil))) gl_law_sum__law_pick db__law_pick) (fun _ _ => rfl)) pa_nil)))))) pss_nil)
  (pss_cons (ps_set (i := 5) sc_law_sum.nd rfl loc_law_sum__law_words (pe_lst (pa_c pe_str (pa_c pe_str (pa_c pe_str (pa_c pe_str (pa_c pe_str (pa_c pe_str (pa_c pe_str (pa_c pe_str (pa_c pe_str (pa_c pe_str pa_nil))))))))))) (swaps_plain rfl))
  (pss_cons (ps_set (i := 6) sc_law_sum.nd rfl loc_law_sum__law_one (pe_cc c_law_sum hr (by omega) (pa_c (pe_var (i := 0) rfl vis_law_sum__law_script db__law_script cd__law_script) (pa_c (pe_op op_add (pe_op op_mul pe_int (pe_var (i := 1) rfl vis_law_sum__law_at db__law_at cd__law_at)) pe_int) (pa_c (pe_var (i := 2) rfl vis_law_sum__law_known db__law_known cd__law_known) (pa_c (pe_op op_sub (pe_var (i := 3) rfl vis_law_sum__law_deep_here db__law_deep_here cd__law_deep_here) pe_int) pa_nil)))) gl_law_sum__law_sum db__law_sum) (swaps_plain rfl))
  (pss_one (ps_ret (pe_tup (pa_c (pe_ix ix_list (pe_var (i := 5) rfl vis_law_sum__law_words db__law_words cd__law_words) (pe_cc c_law_pick hr (by omega) (pa_c (pe_var (i := 0) rfl vis_law_sum__law_script db__law_script cd__law_script) (pa_c (pe_op op_add (pe_var (i := 1) rfl vis_law_sum__law_at db__law_at cd__law_at) pe_int) (pa_c pe_int pa_nil))) gl_law_sum__law_pick db__law_pick) (fun _ _ => rfl)) (pa_c (pe_var (i := 6) rfl vis_law_sum__law_one db__law_one cd__law_one) (pa_c (pe_cc c_law_sum hr (by omega) (pa_c (pe_var (i := 0) rfl vis_law_sum__law_script db__law_script cd__law_script) (pa_c (pe_op op_add (pe_op op_mul pe_int (pe_var (i := 1) rfl vis_law_sum__law_at db__law_at cd__law_at)) pe_int) (pa_c (pe_var (i := 2) rfl vis_law_sum__law_known db__law_known cd__law_known) (pa_c (pe_op op_sub (pe_var (i := 3) rfl vis_law_sum__law_deep_here db__law_deep_here cd__law_deep_here) pe_int) pa_nil)))) gl_law_sum__law_sum db__law_sum) pa_nil)))))))))), tseq_i fun N1 e1 => ?_⟩
  walk_at "rd"
  refine ⟨a, ns, k, 10, rfl, hS, h0, by decide, fun i H1 i0 i1 s1 => ?_⟩
  rw [e1]
  refine tseq_i fun N2 e2 => tifs_i fun Y Z eY eZ => ?_
  walk_at "rd"
  have leaf : ∀ (H1 : Hp), Same H H1 → Y [some (.ref a), some (.int k), some (.ref kn), some (.int d), some (.int i), none, none] H1 := by
    intro H1 s1
    rw [eY]
    walk_at "rd"
    have num : ∀ (H2 : Hp) (p : Addr), Same H H2 → H2 p = none → spPick K [V.ref a, V.int (k + 3), V.int 12] (upd H2 p (HO.lst [V.int 0, V.int 1, V.int (-1), V.int 2, V.int 3, V.int 7, V.int (-8), V.int 100, V.int (-129), V.int 300, V.int 32767, V.int (-32768)])) (fun y H2 => ∃ x x_1, y = V.int x_1 ∧ SqL K H2 p x ∧ ∃ x_2, atI x x_1 = some x_2 ∧ 2 ≤ sizeLine ∧ ∀ (p : Addr), H2 p = none → Q (V.ref p) (upd H2 p (HO.tup [V.str (Str.ofString "num"), x_2]))) E0 := by
      intro H2 p s2 hp
      have s3 := same_new hp (HO.lst [V.int 0, V.int 1, V.int (-1), V.int 2, V.int 3, V.int 7, V.int (-8), V.int 100, V.int (-129), V.int 300, V.int 32767, V.int (-32768)])
      refine ⟨a, ns, k + 3, 12, rfl, (s2.trans s3).seq hS, by omega, by decide, fun j H3 j0 j1 s4 => ?_⟩
      obtain ⟨v, hv, e⟩ := atI_map (c := V.int) (ns := [0, 1, -1, 2, 3, 7, -8, 100, -129, 300, 32767, -32768]) (k := j) j0 j1
      refine ⟨_, _, rfl, SqL.of (s4 _ _ upd_same), _, e, zl 2 (by decide), fun r hr' => ?_⟩
      refine q _ _ (.num v) ((s2.trans s3).trans (s4.trans (same_new hr' _))) (.tup upd_same (.cons (.str _) (.cons (.int _) .nil))) ?_
      obtain ⟨d', rfl⟩ : ∃ d', d = d' + 1 := ⟨d - 1, by omega⟩
      show -32768 ≤ v ∧ v ≤ 32767
      simp only [List.mem_cons, List.not_mem_nil, or_false] at hv
      omega
    refine ⟨Nat.zero_le _, fun p hp => ?_⟩
    have s2 := same_new hp (HO.lst [])
    have hk2 : (upd H1 p (HO.lst [])) kn = some (.lst (g.map V.str)) := s2 _ _ (s1 _ _ hk)
    refine ⟨_, .inr ⟨_, SqL.of hk2, _, SqL.of upd_same, okStrs hg, rfl, (eqL_nil _).symm⟩, ?_⟩
    split
    · rename_i hne
      refine ⟨a, ns, k + 1, 3, rfl, (s1.trans s2).seq hS, by omega, by decide, fun j H3 j0 j1 s3 => ?_⟩
      refine ⟨_, rfl, ?_⟩
      have s03 := (s1.trans s2).trans s3
      split
      · have hk3 := s3 _ _ hk2
        refine ⟨_, lenL (SqL.of hk3), ?_⟩
        have hl : 0 < ((g.map V.str).length : Int) := by
          cases g with
          | nil => exact absurd rfl (Bool.eq_false_iff.mp hne)
          | cons x r => simp only [List.map_cons, List.length_cons]; omega
        refine ⟨a, ns, k + 2, _, rfl, s03.seq hS, by omega, hl, fun m H4 m0 m1 s4 => ?_⟩
        obtain ⟨v, hv, e⟩ := atI_map (c := V.str) (ns := g) (k := m) m0 (by rw [List.length_map] at m1; exact m1)
        refine ⟨_, _, rfl, SqL.of (s4 _ _ hk3), _, e, zl 2 (by decide), fun r hr' => ?_⟩
        refine q _ _ (.nm v) (s03.trans (s4.trans (same_new hr' _))) (.tup upd_same (.cons (.str _) (.cons (.str _) .nil))) ?_
        obtain ⟨d', rfl⟩ : ∃ d', d = d' + 1 := ⟨d - 1, by omega⟩
        exact hv
      · exact ⟨zl 12 (by decide), fun p2 hp2 => num _ p2 s03 hp2⟩
    · exact ⟨zl 12 (by decide), fun p2 hp2 => num _ p2 (s1.trans s2) hp2⟩
  split
  · exact leaf H1 s1
  · split
    · exact leaf H1 s1
    · rename_i hd _
      rw [eZ]
      show N2 _ _
      rw [e2]
      refine tseq_i fun N3 e3 => ?_
      walk_at "rd"
      refine ⟨zl 10 (by decide), fun p hp => ?_⟩
      rw [e3]
      refine tseq_i fun N4 e4 => ?_
      walk_at "rd"
      refine ⟨.inl ⟨by decide, by decide⟩, ?_⟩
      have s2 := same_new hp (HO.lst [V.str "add", V.str "sub", V.str "mul", V.str "quo", V.str "less", V.str "same", V.str "min", V.str "max", V.str "add", V.str "less"])
      have s02 := s1.trans s2
      have ed : ((d : Int) - 1) = ((d - 1 : Nat) : Int) := by omega
      have hd3 : 2 ≤ d := by omega
      rw [ed]
      refine ⟨a, ns, _, kn, g, d - 1, rfl, s02.seq hS, by omega, s02 _ _ hk, hg, by omega, by omega, fun r1 H2 t1 s3 d1 k1 => ?_⟩
      have s03 := s02.trans s3
      rw [e4]
      walk_at "rd"
      refine ⟨a, ns, k + 4, 10, rfl, s03.seq hS, by omega, by decide, fun j H3 j0 j1 s4 => ?_⟩
      have s04 := s03.trans s4
      obtain ⟨v, hv, e⟩ := atI_map (c := fun w : Wd => V.str w.str) (ns := [.add, .sub, .mul, .quo, .less, .same, .min, .max, .add, .less]) (k := j) j0 j1
      refine ⟨_, _, rfl, SqL.of (s4 _ _ (s3 _ _ upd_same)), _, e, .inl ⟨by decide, by decide⟩, ?_⟩
      rw [ed]
      refine ⟨a, ns, _, kn, g, d - 1, rfl, s04.seq hS, by omega, s04 _ _ hk, hg, by omega, by omega, fun r2 H4 t2 s5 d2 k2 => ?_⟩
      refine ⟨zl 3 (by decide), fun p3 hp3 => ?_⟩
      have s6 := same_new hp3 (HO.tup [V.str v.str, r1, r2])
      refine q _ _ (.op v t1 t2) (s04.trans (s5.trans s6)) (.tup upd_same (.cons (.str _) (.cons (d1.kp (s4.trans (s5.trans s6)).kp) (.cons (d2.kp s6.kp) .nil)))) ?_
      obtain ⟨d', rfl⟩ : ∃ d', d = d' + 1 := ⟨d - 1, by omega⟩
      exact ⟨k1, k2⟩
theorem none_sum {k : Nat} : FnOk P w K mg base CX0 k f fd ["_law_script", "_law_at", "_law_known", "_law_deep_here"] (spSum K 0) := by
  have no : ∀ vs H Q E, ¬ spSum K 0 vs H Q E := fun vs H Q E h => by
    obtain ⟨a, ns, k, kn, g, d, _, _, _, _, _, h1, h2, _⟩ := h
    omega
  exact ⟨fun vs H Q E h => absurd h (no vs H Q E), fun A outer s H args us vs Q E _ _ _ _ h => absurd h (no vs H Q E)⟩
theorem all_sum (d : Df K mg "_law_sum" s_law_sum ["_law_script", "_law_at", "_law_known", "_law_deep_here"] f fd) (b_len : mg "len" = none) (c_law_pick : Callee P w K mg base "_law_pick" ["_law_script", "_law_k", "_law_many"] 2 (spPick K)) :
    ∀ n : Nat, Callee P w K mg base "_law_sum" ["_law_script", "_law_at", "_law_known", "_law_deep_here"] (n + 3) (spSum K n)
  | 0 => d.callee none_sum
  | n + 1 => d.callee (ok_sum d.F b_len c_law_pick (all_sum d b_len c_law_pick n))
/-- a while: with the body handed in -/
def spCounted (K : PySem.W.Frag) : Sp := fun vs H Q _ => ∃ (a : Addr) (ns : List Int) (k : Int) (kn : Addr) (g g1 : List Str) (rb : V) (b : List D) (d : Nat) (di : Int), vs = [.ref a, .int k, .ref kn, rb, .int di] ∧ SqL K H a (ns.map V.int) ∧ 0 ≤ k ∧ H kn = some (.lst (g.map V.str)) ∧ Sub g pool ∧ g ≠ [] ∧
  Dt H rb (.tup (encB b)) ∧ okB d b ∧ b.length ≤ 4 ∧ b ≠ [] ∧ Knows g b g1 ∧ 1 ≤ d ∧ ∀ (r : V) (H' : Hp) (e : D), Same H H' → Dt H' r e.enc → okD d e → KnowsD g e g → Q r H'
theorem ok_counted (F : Fun K "_law_counted" "_law_counted" s_law_counted f fd) (b_len : mg "len" = none) (c_law_pick : Callee P w K mg base "_law_pick" ["_law_script", "_law_k", "_law_many"] 2 (spPick K))
    (c_law_sum : Callee P w K mg base "_law_sum" ["_law_script", "_law_at", "_law_known", "_law_deep_here"] 6 (spSum K 3)) : FnOk P w K mg base CX0 7 f fd ["_law_script", "_law_at", "_law_known", "_law_body", "_law_deep_here"] (spCounted K) := by
  refine F.ok sc_law_counted (fun vs H Q E h => ?_) (fun cdv A outer s H vs Q E hr h => ?_)
  · obtain ⟨a, ns, k, kn, g, g1, rb, b, d, di, rfl, _⟩ := h
    rfl
  obtain ⟨a, ns, k, kn, g, g1, rb, b, d, di, rfl, hS, h0, hk, hg, hne, hb, hob, hbl, hbn, hkn, hd1, q⟩ := h
  refine ⟨_, (pss_cons (ps_set (i := 5) sc_law_counted.nd rfl loc_law_counted__law_most (pe_ix ix_list (pe_lst (pa_c pe_int (pa_c pe_int (pa_c pe_int (pa_c pe_int (pa_c pe_int pa_nil)))))) (pe_cc c_law_pick hr (by omega) (pa_c (pe_var (i := 0) rfl vis_law_counted__law_script db__law_script cd__law_script) (pa_c (pe_var (i := 1) rfl vis_law_counted__law_at db__law_at cd__law_at) (pa_c pe_int pa_nil))) gl_law_counted__law_pick db__law_pick) (fun _ _ => rfl)) (swaps_plain rfl))
  (pss_cons (ps_if (pt_cmpR op_lt (pe_var (i := 4) rfl vis_law_counted__law_deep_here db__law_deep_here cd__law_deep_here) pe_int (nomark _)) (pss_one (ps_set (i := 5) sc_law_counted.nd rfl loc_law_counted__law_most (pe_op op_mod (pe_var (i := 5) rfl vis_law_counted__law_most db__law_most cd__law_most) pe_int) (swaps_plain rfl))) pss_nil)
  (pss_cons (ps_if (pt_cmpR op_eqI (pe_cc c_law_pick hr (by omega) (pa_c (pe_var (i := 0) rfl vis_law_counted__law_script db__law_script cd__law_script) (pa_c (pe_op op_add (pe_var (i := 1) rfl vis_law_counted__law_at db__law_at cd__law_at) pe_int) (pa_c pe_int pa_nil))) gl_law_counted__law_pick db__law_pick) pe_int (nomark _)) (pss_one (ps_ret (pe_tup (pa_c pe_str (pa_c (pe_cc c_law_sum hr (by omega) (pa_c (pe_var (i := 0) rfl vis_law_counted__law_script db__law_script cd__law_script) (pa_c (pe_op op_add (pe_var (i := 1) rfl vis_law_counted__law_at db__law_at cd__law_at) pe_int) (pa_c (pe_var (i := 2) rfl vis_law_counted__law_known db__law_known cd__law_known) (pa_c pe_int pa_nil)))) gl_law_counted__law_sum db__law_sum) (pa_c (pe_var (i := 5) rfl vis_law_counted__law_most db__law_most cd__law_most) (pa_c (pe_var (i := 3) rfl vis_law_counted__law_body db__law_body cd__law_body) pa_nil))))))) pss_nil)
  (pss_cons (ps_set (i := 6) sc_law_counted.nd rfl loc_law_counted__law_name (pe_tup (pa_c pe_str (pa_c (pe_ix ix_list (pe_var (i := 2) rfl vis_law_counted__law_known db__law_known cd__law_known) (pe_cc c_law_pick hr (by omega) (pa_c (pe_var (i := 0) rfl vis_law_counted__law_script db__law_script cd__law_script) (pa_c (pe_op op_add (pe_var (i := 1) rfl vis_law_counted__law_at db__law_at cd__law_at) pe_int) (pa_c (pe_cB gLen gl_law_counted_len b_len bt_len (pa_c (pe_var (i := 2) rfl vis_law_counted__law_known db__law_known cd__law_known) pa_nil) nn_len db_len) pa_nil))) gl_law_counted__law_pick db__law_pick) (fun _ _ => rfl)) pa_nil))) (swaps_plain rfl))
  (pss_cons (ps_set (i := 7) sc_law_counted.nd rfl loc_law_counted__law_goal (pe_tup (pa_c pe_str (pa_c (pe_ix ix_list (pe_lst (pa_c (pe_un un_neg pe_int) (pa_c pe_int (pa_c pe_int (pa_c pe_int pa_nil))))) (pe_cc c_law_pick hr (by omega) (pa_c (pe_var (i := 0) rfl vis_law_counted__law_script db__law_script cd__law_script) (pa_c (pe_op op_add (pe_var (i := 1) rfl vis_law_counted__law_at db__law_at cd__law_at) pe_int) (pa_c pe_int pa_nil))) gl_law_counted__law_pick db__law_pick) (fun _ _ => rfl)) pa_nil))) (swaps_plain rfl))
  (pss_cons (ps_set (i := 8) sc_law_counted.nd rfl loc_law_counted__law_more (pe_tup (pa_c pe_str (pa_c (pe_ix ix_tup (pe_var (i := 6) rfl vis_law_counted__law_name db__law_name cd__law_name) pe_int (fun _ _ => rfl)) (pa_c (pe_tup (pa_c pe_str (pa_c (pe_var (i := 6) rfl vis_law_counted__law_name db__law_name cd__law_name) (pa_c (pe_tup (pa_c pe_str (pa_c (pe_op op_add pe_int (pe_cc c_law_pick hr (by omega) (pa_c (pe_var (i := 0) rfl vis_law_counted__law_script db__law_script cd__law_script) (pa_c (pe_op op_add (pe_var (i := 1) rfl vis_law_counted__law_at db__law_at cd__law_at) pe_int) (pa_c pe_int pa_nil))) gl_law_counted__law_pick db__law_pick)) pa_nil))) pa_nil)))) pa_nil)))) (swaps_plain rfl))
  (pss_one (ps_ret (pe_tup (pa_c pe_str (pa_c (pe_tup (pa_c pe_str (pa_c (pe_var (i := 6) rfl vis_law_counted__law_name db__law_name cd__law_name) (pa_c (pe_var (i := 7) rfl vis_law_counted__law_goal db__law_goal cd__law_goal) pa_nil)))) (pa_c (pe_var (i := 5) rfl vis_law_counted__law_most db__law_most cd__law_most) (pa_c (pe_op op_catT2 (pe_var (i := 3) rfl vis_law_counted__law_body db__law_body cd__law_body) (pe_tup (pa_c (pe_var (i := 8) rfl vis_law_counted__law_more db__law_more cd__law_more) pa_nil))) pa_nil))))))))))))), tseq_i fun N1 e1 => ?_⟩
  walk_at "rd"
  have hl : 0 < ((g.map V.str).length : Int) := by
    cases g with
    | nil => exact absurd rfl hne
    | cons x r => simp only [List.map_cons, List.length_cons]; omega
  refine ⟨zl 5 (by decide), fun p hp => ?_⟩
  have s1 := same_new hp (HO.lst [V.int 0, V.int 1, V.int 3, V.int 6, V.int 20])
  refine ⟨a, ns, k, 5, rfl, s1.seq hS, h0, by decide, fun i H2 i0 i1 s2 => ?_⟩
  have s02 := s1.trans s2
  obtain ⟨v, hv, e⟩ := atI_map (c := V.int) (ns := [0, 1, 3, 6, 20]) (k := i) i0 i1
  have hv2 : 0 ≤ v ∧ v ≤ 20 := by
    simp only [List.mem_cons, List.not_mem_nil, or_false] at hv
    omega
  refine ⟨_, _, rfl, SqL.of (s2 _ _ upd_same), _, e, ?_⟩
  obtain ⟨ab, xs, rfl, hab, hda⟩ := hb.tupI
  have hxl : xs.length = b.length := by rw [hda.length, encB_length]
  have hxs : xs ≠ [] := fun z => hbn (List.length_eq_zero_iff.mp (by rw [← hxl, z]; rfl))
  rw [e1]
  refine tseq_i fun N2 e2 => ?_
  walk_at "rd"
  suffices key : ∀ mv : Int, 0 ≤ mv ∧ mv ≤ 20 → N2 [some (.ref a), some (.int k), some (.ref kn), some (.ref ab), some (.int di), some (.int mv), none, none, none] H2 by
    split
    · exact ⟨by decide, key (v % 4) (by omega)⟩
    · exact key v hv2
  intro mv hv3
  rw [e2]
  refine tseq_i fun N3 e3 => ?_
  walk_at "rd"
  refine ⟨a, ns, k + 1, 4, rfl, s02.seq hS, by omega, by decide, fun j H3 j0 j1 s3 => ?_⟩
  refine ⟨_, rfl, ?_⟩
  have s03 := s02.trans s3
  split
  · refine ⟨a, ns, k + 2, kn, g, 2, rfl, s03.seq hS, by omega, s03 _ _ hk, hg, by decide, by decide, fun r1 H4 t1 s4 d1 k1 => ?_⟩
    refine ⟨zl 4 (by decide), fun p2 hp2 => ?_⟩
    exact q _ _ (.whl t1 _ b) (s03.trans (s4.trans (same_new hp2 _))) (.tup upd_same (.cons (.str _) (.cons (d1.kp (same_new hp2 _).kp) (.cons (.int _) (.cons (hb.kp (s03.trans (s4.trans (same_new hp2 _))).kp) .nil))))) ⟨k1.mono hg (by decide), by omega, by omega, hob⟩ (KnowsD.whl k1 hkn)
  · have hk3 := s03 _ _ hk
    rw [e3]
    refine tseq_i fun N4 e4 => ?_
    walk_at "rd"
    refine ⟨_, lenL (SqL.of hk3), ?_⟩
    refine ⟨a, ns, k + 3, _, rfl, s03.seq hS, by omega, hl, fun m H4 m0 m1 s4 => ?_⟩
    obtain ⟨x, hx, e⟩ := atI_map (c := V.str) (ns := g) (k := m) m0 (by rw [List.length_map] at m1; exact m1)
    refine ⟨_, _, rfl, SqL.of (s4 _ _ hk3), _, e, zl 2 (by decide), fun pn hpn => ?_⟩
    have s5 := same_new hpn (HO.tup [V.str "name", V.str x])
    rw [e4]
    refine tseq_i fun N5 e5 => ?_
    walk_at "rd"
    refine ⟨zl 4 (by decide), fun pg hpg => ?_⟩
    have s6 := same_new hpg (HO.lst [V.int (-2), V.int 1, V.int 3, V.int 5])
    have s06 := s03.trans (s4.trans (s5.trans s6))
    refine ⟨a, ns, k + 4, 4, rfl, s06.seq hS, by omega, by decide, fun l H5 l0 l1 s7 => ?_⟩
    obtain ⟨gv, hgv, e2⟩ := atI_map (c := V.int) (ns := [-2, 1, 3, 5]) (k := l) l0 l1
    have hgv2 : -32768 ≤ gv ∧ gv ≤ 32767 := by
      simp only [List.mem_cons, List.not_mem_nil, or_false] at hgv
      omega
    refine ⟨_, _, rfl, SqL.of (s7 _ _ upd_same), _, e2, zl 2 (by decide), fun pl hpl => ?_⟩
    have s8 := same_new hpl (HO.tup [V.str "num", V.int gv])
    have s68 := s6.trans (s7.trans s8)
    have s08 := s03.trans (s4.trans (s5.trans s68))
    rw [e5]
    refine tseq_i fun N6 e6 => ?_
    walk_at "rd"
    refine ⟨_, SqT.of (s68 _ _ upd_same), V.str x, rfl, ?_⟩
    refine ⟨a, ns, k + 5, 3, rfl, s08.seq hS, by omega, by decide, fun z H6 z0 z1 s9 => ?_⟩
    refine ⟨_, rfl, zl 2 (by decide), fun p1 h1 => ⟨zl 3 (by decide), fun p2 h2 => ⟨zl 3 (by decide), fun p3 h3 => ?_⟩⟩⟩
    rw [e6]
    walk_at "rd"
    refine ⟨zl 3 (by decide), fun p4 h4 => ⟨zl 1 (by decide), fun p5 h5 => ?_⟩⟩
    have u1 := same_new h1 (HO.tup [V.str "num", V.int (1 + z)])
    have u2 := same_new h2 (HO.tup [V.str "add", V.ref pn, V.ref p1])
    have u3 := same_new h3 (HO.tup [V.str "set", V.str x, V.ref p2])
    have u4 := same_new h4 (HO.tup [V.str "less", V.ref pn, V.ref pl])
    have u5 := same_new h5 (HO.tup [V.ref p3])
    have u05 := s08.trans (s9.trans (u1.trans (u2.trans (u3.trans (u4.trans u5)))))
    refine ⟨xs, SqT.of (u05 _ _ hab), [V.ref p3], SqT.of upd_same, by rw [List.length_singleton]; exact zl _ (by omega), fun h => absurd h hxs, fun _ h => absurd h (by simp), fun _ _ p6 h6 => ⟨zl 4 (by decide), fun p7 h7 => ?_⟩⟩
    have u6 := same_new h6 (HO.tup (xs ++ [V.ref p3]))
    have u67 := u6.trans (same_new h7 (HO.tup [V.str "while", V.ref p4, V.int mv, V.ref p6]))
    have u57 := u5.trans u67
    have dn : Dt (upd H4 pn (HO.tup [V.str "name", V.str x])) (.ref pn) (T.nm x).enc := .tup upd_same (.cons (.str _) (.cons (.str _) .nil))
    have dl : Dt (upd H5 pl (HO.tup [V.str "num", V.int gv])) (.ref pl) (T.num gv).enc := .tup upd_same (.cons (.str _) (.cons (.int _) .nil))
    have dz : Dt (upd H6 p1 (HO.tup [V.str "num", V.int (1 + z)])) (.ref p1) (T.num (1 + z)).enc := .tup upd_same (.cons (.str _) (.cons (.int _) .nil))
    have s9u := s9.trans u1
    have da : Dt _ (.ref p2) (T.op .add (.nm x) (.num (1 + z))).enc := .tup (upd_same (H := upd H6 p1 (HO.tup [V.str "num", V.int (1 + z)]))) (.cons (.str _) (.cons (dn.kp (s68.trans (s9u.trans u2)).kp) (.cons (dz.kp u2.kp) .nil)))
    have ds : Dt _ (.ref p3) (D.set x (T.op .add (.nm x) (.num (1 + z)))).enc := .tup upd_same (.cons (.str _) (.cons (.str _) (.cons (da.kp u3.kp) .nil)))
    have de : Dt _ (.ref p4) (T.op .less (.nm x) (.num gv)).enc := .tup upd_same (.cons (.str _) (.cons (dn.kp (s68.trans (s9u.trans (u2.trans (u3.trans u4)))).kp) (.cons (dl.kp (s9u.trans (u2.trans (u3.trans u4))).kp) .nil)))
    have dB : Dt _ (.ref p6) (.tup (encB b ++ [(D.set x (T.op .add (.nm x) (.num (1 + z)))).enc])) := .tup upd_same ((hda.kp (u05.trans u6).kp).append (.cons (ds.kp (u4.trans (u5.trans u6)).kp) .nil))
    rw [show encB b ++ [(D.set x (T.op .add (.nm x) (.num (1 + z)))).enc] = encB (b ++ [D.set x (T.op .add (.nm x) (.num (1 + z)))]) by rw [encB_append, encB, encB]] at dB
    have hz : -32768 ≤ 1 + z ∧ 1 + z ≤ 32767 := by omega
    refine q _ _ (.whl (.op .less (.nm x) (.num gv)) _ (b ++ [D.set x (T.op .add (.nm x) (.num (1 + z)))])) (u05.trans u67) (.tup upd_same (.cons (.str _) (.cons (de.kp u57.kp) (.cons (.int _) (.cons (dB.kp (same_new h7 _).kp) .nil))))) ⟨⟨hg x hx, hgv2⟩, by omega, by omega, ?_⟩ (KnowsD.whl (n := 2) ⟨hx, hgv2⟩ (hkn.sub.snoc (KnowsD.set (n := 2) (g' := g) ⟨hx, hz⟩ fun y hy => .inl hy)))
    obtain ⟨d', rfl⟩ : ∃ d', d = d' + 1 := ⟨d - 1, by omega⟩
    refine ⟨by rw [List.length_append, List.length_singleton]; omega, fun c hc => ?_⟩
    rcases List.mem_append.mp hc with hc | hc
    · exact hob.2 c hc
    · have ec : c = D.set x (T.op .add (.nm x) (.num (1 + z))) := by simpa using hc
      subst ec
      exact ⟨hg x hx, ⟨hg x hx, hz⟩⟩
def cgrow : Nat → Nat
  | 1 => 1 | 2 => 2 | 3 => 6 | _ => 0
def pgrow : Nat → Nat
  | 3 => 2 | _ => 1
theorem pg1 (d : Nat) : 1 ≤ pgrow d := by unfold pgrow; split <;> decide
theorem pgc {d j : Nat} (h1 : 1 ≤ d) (h3 : d ≤ 3) (hj : j ≤ d) : j * pgrow d ≤ cgrow d := by
  have : d = 1 ∨ d = 2 ∨ d = 3 := by omega
  rcases this with rfl | rfl | rfl <;> simp only [pgrow, cgrow] <;> omega
theorem cgp {d : Nat} (h1 : 2 ≤ d) (h3 : d ≤ 3) : cgrow (d - 1) ≤ pgrow d := by
  have : d = 2 ∨ d = 3 := by omega
  rcases this with rfl | rfl <;> decide
theorem cg6 (d : Nat) : cgrow d ≤ 6 := by unfold cgrow; split <;> decide
theorem way_on {Hy C : Hp → Prop} {G : Prop} (h1 : (∀ Hx, Hy Hx → C Hx) → G) (h2 : ∀ Hx, Hy Hx → C Hx) : G := h1 h2
def spBlock (K : PySem.W.Frag) (n : Nat) : Sp := fun vs H Q _ => ∃ (a : Addr) (ns : List Int) (k : Int) (kn : Addr) (g : List Str) (d : Nat), vs = [.ref a, .int k, .ref kn, .int d] ∧ SqL K H a (ns.map V.int) ∧ 0 ≤ k ∧ H kn = some (.lst (g.map V.str)) ∧ Sub g pool ∧ 1 ≤ d ∧ d ≤ n ∧ d ≤ 3 ∧ g.length + 100 * d ≤ 900 ∧
  ∀ (r rb rk : Addr) (H' : Hp) (b : List D) (g' : List Str), Same H H' → H' r = some (.tup [.ref rb, .ref rk]) → Dt H' (.ref rb) (.tup (encB b)) → H' rk = some (.lst (g'.map V.str)) → okB d b → b.length ≤ d → b ≠ [] → Knows g b g' → Sub g' pool → g'.length ≤ g.length + cgrow d → (rk = kn ∨ H rk = none) → Q (.ref r) H'
def CInv (U3 : Hp) (kc : Addr) (g' : List Str) (x : Str) (i : Nat) (ys : List V) (σ' : St) (H' : Hp) : Prop := H' = U3 ∧ (∃ t, σ' = [t, some (.ref kc)]) ∧ ((i = 0 ∧ ys = []) ∨ (i = 1 ∧ ys = (if g'.contains x then [] else [x]).map V.str))
def FInv (U2 : Hp) (rk2 : Addr) (g1 g2 : List Str) (i : Nat) (ys : List V) (σ' : St) (H' : Hp) : Prop := H' = U2 ∧ (∃ t, σ' = [t, some (.ref rk2)]) ∧ ys = ((g1.take i).filter fun x => g2.contains x).map V.str
def BInv (H : Hp) (kn a : Addr) (k : Int) (d : Nat) (pd : Addr) (g : List Str) (j : Nat) (σ : St) (Hc : Hp) : Prop :=
  ∃ (kc : Addr) (vs : List V) (b : List D) (g' : List Str) (x5 x6 x7 x8 x9 x10 x11 x12 x13 : Option V), σ = [some (.ref a), some (.int k), some (.ref kc), some (.int d), some (.ref pd), x5, x6, x7, x8, x9, x10, x11, x12, x13] ∧
    Same H Hc ∧ Hc pd = some (.lst vs) ∧ DtA Hc vs (encB b) ∧ Hc kc = some (.lst (g'.map V.str)) ∧ kc ≠ pd ∧ Knows g b g' ∧ Sub g' pool ∧ b.length = j ∧ (∀ e ∈ b, okD (d - 1) e) ∧ g'.length ≤ g.length + j * pgrow d ∧ (kc = kn ∨ H kc = none)
theorem ok_block {n : Nat} (F : Fun K "_law_block" "_law_block" s_law_block f fd) (b_range : mg "range" = none) (b_tuple : mg "tuple" = none) (c_law_pick : Callee P w K mg base "_law_pick" ["_law_script", "_law_k", "_law_many"] 2 (spPick K))
    (c_law_sum : Callee P w K mg base "_law_sum" ["_law_script", "_law_at", "_law_known", "_law_deep_here"] 6 (spSum K 3)) (c_law_counted : Callee P w K mg base "_law_counted" ["_law_script", "_law_at", "_law_known", "_law_body", "_law_deep_here"] 7 (spCounted K))
    (c_law_block : Callee P w K mg base "_law_block" ["_law_script", "_law_at", "_law_known", "_law_deep_here"] (n + 7) (spBlock K n)) : FnOk P w K mg base CX0 (n + 8) f fd ["_law_script", "_law_at", "_law_known", "_law_deep_here"] (spBlock K (n + 1)) := by
  refine F.ok sc_law_block (fun vs H Q E h => ?_) (fun cdv A outer s H vs Q E hr h => ?_)
  · obtain ⟨a, ns, k, kn, g, d, rfl, _⟩ := h
    rfl
  obtain ⟨a, ns, k, kn, g, d, rfl, hS, h0, hk, hg, hd1, hd2, hd3, hgb, q⟩ := h
  refine ⟨_, (pss_cons (ps_set (i := 4) sc_law_block.nd rfl loc_law_block__law_deeds_here (pe_lst pa_nil) (swaps_plain rfl))
  (pss_cons (ps_for PassesOwn.never rfl (pi_range1 gl_law_block_range b_range (pa_c (pe_op op_add pe_int (pe_cc c_law_pick hr (by omega) (pa_c (pe_var (i := 0) rfl vis_law_block__law_script db__law_script cd__law_script) (pa_c (pe_var (i := 1) rfl vis_law_block__law_at db__law_at cd__law_at) (pa_c (pe_var (i := 3) rfl vis_law_block__law_deep_here db__law_deep_here cd__law_deep_here) pa_nil))) gl_law_block__law_pick db__law_pick)) pa_nil)) (pg_name (i := 5) sc_law_block.nd rfl loc_law_block__law_k)
  (pss_cons (ps_set (i := 6) sc_law_block.nd rfl loc_law_block__law_base (pe_op op_add (pe_op op_mul pe_int (pe_var (i := 1) rfl vis_law_block__law_at db__law_at cd__law_at)) (pe_op op_mul pe_int (pe_op op_add (pe_var (i := 5) rfl vis_law_block__law_k db__law_k cd__law_k) pe_int))) (swaps_plain rfl))
  (pss_cons (ps_set (i := 7) sc_law_block.nd rfl loc_law_block__law_way (pe_cc c_law_pick hr (by omega) (pa_c (pe_var (i := 0) rfl vis_law_block__law_script db__law_script cd__law_script) (pa_c (pe_var (i := 6) rfl vis_law_block__law_base db__law_base cd__law_base) (pa_c pe_int pa_nil))) gl_law_block__law_pick db__law_pick) (swaps_plain rfl))
  (pss_one (ps_if (PW.pt (pw_or (pt_cmpR op_lt (pe_var (i := 7) rfl vis_law_block__law_way db__law_way cd__law_way) pe_int (nomark _)) (pw_or (pt_cmpR op_eqI (pe_var (i := 3) rfl vis_law_block__law_deep_here db__law_deep_here cd__law_deep_here) pe_int (nomark _)) (pw_or1 (pt_cmpR (gEq hr.units) (pe_var (i := 2) rfl vis_law_block__law_known db__law_known cd__law_known) (pe_lst pa_nil) (nomark _)))))) (pss_cons (ps_set (i := 8) sc_law_block.nd rfl loc_law_block__law_name (pe_ix ix_list (pe_lst (pa_c pe_str (pa_c pe_str (pa_c pe_str (pa_c pe_str pa_nil))))) (pe_cc c_law_pick hr (by omega) (pa_c (pe_var (i := 0) rfl vis_law_block__law_script db__law_script cd__law_script) (pa_c (pe_op op_add (pe_var (i := 6) rfl vis_law_block__law_base db__law_base cd__law_base) pe_int) (pa_c pe_int pa_nil))) gl_law_block__law_pick db__law_pick) (fun _ _ => rfl)) (swaps_plain rfl))
  (pss_cons (ps_expr (pe_bm PySem.F.plainAttrs_list PySem.F.slot_list_append PySem.F.type_list_append mt_append (pe_var (i := 4) rfl vis_law_block__law_deeds_here db__law_deeds_here cd__law_deeds_here) (pa_c (pe_tup (pa_c pe_str (pa_c (pe_var (i := 8) rfl vis_law_block__law_name db__law_name cd__law_name) (pa_c (pe_cc c_law_sum hr (by omega) (pa_c (pe_var (i := 0) rfl vis_law_block__law_script db__law_script cd__law_script) (pa_c (pe_op op_add (pe_var (i := 6) rfl vis_law_block__law_base db__law_base cd__law_base) pe_int) (pa_c (pe_var (i := 2) rfl vis_law_block__law_known db__law_known cd__law_known) (pa_c pe_int pa_nil)))) gl_law_block__law_sum db__law_sum) pa_nil)))) pa_nil)) (swaps_plain rfl))
  (pss_one (ps_set (i := 2) sc_law_block.nd rfl loc_law_block__law_known (pe_op op_cat (pe_var (i := 2) rfl vis_law_block__law_known db__law_known cd__law_known) (pe_comp ["_law_one", "_law_known"] [none, some 2] rfl (CompS.of (by rfl)) (pi_list (pe_lst (pa_c (pe_var (i := 8) rfl vis_law_block__law_name db__law_name cd__law_name) pa_nil))) (fun _ _ _ _ _ => (pg_name (i := 0) (show List.Nodup (["_law_one", "_law_known"] : List Str) from by decide +kernel) rfl (Or.inl rfl))) (fun _ _ _ _ _ => (pif_one (pt_cmpR (opK (r := qNotIn) (K := K) (gNotIn hr.units) rfl) (pe_var (i := 0) rfl (by first | exact Or.inl rfl | exact Or.inr (Or.inl rfl) | exact Or.inr (Or.inr rfl)) db__law_one cd__law_one) (pe_var (i := 1) rfl (by first | exact Or.inl rfl | exact Or.inr (Or.inl rfl) | exact Or.inr (Or.inr rfl)) db__law_known cd__law_known) (by with_unfolding_all rfl)))) (fun _ _ _ _ _ => (pe_var (i := 0) rfl (by first | exact Or.inl rfl | exact Or.inr (Or.inl rfl) | exact Or.inr (Or.inr rfl)) db__law_one cd__law_one)))) (swaps_plain rfl))))) (pss_one (ps_if (pt_cmpR op_lt (pe_var (i := 7) rfl vis_law_block__law_way db__law_way cd__law_way) pe_int (nomark _)) (pss_cons (ps_asg (pe_cc c_law_block hr (by omega) (pa_c (pe_var (i := 0) rfl vis_law_block__law_script db__law_script cd__law_script) (pa_c (pe_op op_add (pe_var (i := 6) rfl vis_law_block__law_base db__law_base cd__law_base) pe_int) (pa_c (pe_var (i := 2) rfl vis_law_block__law_known db__law_known cd__law_known) (pa_c (pe_op op_sub (pe_var (i := 3) rfl vis_law_block__law_deep_here db__law_deep_here cd__law_deep_here) pe_int) pa_nil)))) gl_law_block__law_block db__law_block) (pg_tup (n := 2) rfl (pgs_cons (pg_name (i := 9) sc_law_block.nd rfl loc_law_block__law_first) (pgs_cons (pg_name (i := 10) sc_law_block.nd rfl loc_law_block__law_mine) pgs_nil))))
  (pss_cons (ps_asg (pe_cc c_law_block hr (by omega) (pa_c (pe_var (i := 0) rfl vis_law_block__law_script db__law_script cd__law_script) (pa_c (pe_op op_add (pe_var (i := 6) rfl vis_law_block__law_base db__law_base cd__law_base) pe_int) (pa_c (pe_var (i := 2) rfl vis_law_block__law_known db__law_known cd__law_known) (pa_c (pe_op op_sub (pe_var (i := 3) rfl vis_law_block__law_deep_here db__law_deep_here cd__law_deep_here) pe_int) pa_nil)))) gl_law_block__law_block db__law_block) (pg_tup (n := 2) rfl (pgs_cons (pg_name (i := 11) sc_law_block.nd rfl loc_law_block__law_second) (pgs_cons (pg_name (i := 12) sc_law_block.nd rfl loc_law_block__law_yours) pgs_nil))))
  (pss_cons (ps_expr (pe_bm PySem.F.plainAttrs_list PySem.F.slot_list_append PySem.F.type_list_append mt_append (pe_var (i := 4) rfl vis_law_block__law_deeds_here db__law_deeds_here cd__law_deeds_here) (pa_c (pe_tup (pa_c pe_str (pa_c (pe_cc c_law_sum hr (by omega) (pa_c (pe_var (i := 0) rfl vis_law_block__law_script db__law_script cd__law_script) (pa_c (pe_op op_add (pe_var (i := 6) rfl vis_law_block__law_base db__law_base cd__law_base) pe_int) (pa_c (pe_var (i := 2) rfl vis_law_block__law_known db__law_known cd__law_known) (pa_c pe_int pa_nil)))) gl_law_block__law_sum db__law_sum) (pa_c (pe_var (i := 9) rfl vis_law_block__law_first db__law_first cd__law_first) (pa_c (pe_var (i := 11) rfl vis_law_block__law_second db__law_second cd__law_second) pa_nil))))) pa_nil)) (swaps_plain rfl))
  (pss_one (ps_set (i := 2) sc_law_block.nd rfl loc_law_block__law_known (pe_comp ["_law_one", "_law_yours"] [none, some 12] rfl (CompS.of (by rfl)) (pi_list (pe_var (i := 10) rfl vis_law_block__law_mine db__law_mine cd__law_mine)) (fun _ _ _ _ _ => (pg_name (i := 0) (show List.Nodup (["_law_one", "_law_yours"] : List Str) from by decide +kernel) rfl (Or.inl rfl))) (fun _ _ _ _ _ => (pif_one (pt_cmpR (opK (r := qIn) (K := K) (gIn hr.units) rfl) (pe_var (i := 0) rfl (by first | exact Or.inl rfl | exact Or.inr (Or.inl rfl) | exact Or.inr (Or.inr rfl)) db__law_one cd__law_one) (pe_var (i := 1) rfl (by first | exact Or.inl rfl | exact Or.inr (Or.inl rfl) | exact Or.inr (Or.inr rfl)) db__law_yours cd__law_yours) (by with_unfolding_all rfl)))) (fun _ _ _ _ _ => (pe_var (i := 0) rfl (by first | exact Or.inl rfl | exact Or.inr (Or.inl rfl) | exact Or.inr (Or.inr rfl)) db__law_one cd__law_one))) (swaps_cell cell_law_block__law_known)))))) (pss_cons (ps_set (i := 13) sc_law_block.nd rfl loc_law_block__law_body (pe_ix ix_tup (pe_cc c_law_block hr (by omega) (pa_c (pe_var (i := 0) rfl vis_law_block__law_script db__law_script cd__law_script) (pa_c (pe_op op_add (pe_var (i := 6) rfl vis_law_block__law_base db__law_base cd__law_base) pe_int) (pa_c (pe_var (i := 2) rfl vis_law_block__law_known db__law_known cd__law_known) (pa_c (pe_op op_sub (pe_var (i := 3) rfl vis_law_block__law_deep_here db__law_deep_here cd__law_deep_here) pe_int) pa_nil)))) gl_law_block__law_block db__law_block) pe_int (fun _ _ => rfl)) (swaps_plain rfl))
  (pss_one (ps_expr (pe_bm PySem.F.plainAttrs_list PySem.F.slot_list_append PySem.F.type_list_append mt_append (pe_var (i := 4) rfl vis_law_block__law_deeds_here db__law_deeds_here cd__law_deeds_here) (pa_c (pe_cc c_law_counted hr (by omega) (pa_c (pe_var (i := 0) rfl vis_law_block__law_script db__law_script cd__law_script) (pa_c (pe_op op_add (pe_var (i := 6) rfl vis_law_block__law_base db__law_base cd__law_base) pe_int) (pa_c (pe_var (i := 2) rfl vis_law_block__law_known db__law_known cd__law_known) (pa_c (pe_var (i := 13) rfl vis_law_block__law_body db__law_body cd__law_body) (pa_c (pe_var (i := 3) rfl vis_law_block__law_deep_here db__law_deep_here cd__law_deep_here) pa_nil))))) gl_law_block__law_counted db__law_counted) pa_nil)) (swaps_plain rfl)))))))))))
  (pss_one (ps_ret (pe_tup (pa_c (pe_cT call_tuple_of gl_law_block_tuple b_tuple bt_tuple (pa_c (pe_var (i := 4) rfl vis_law_block__law_deeds_here db__law_deeds_here cd__law_deeds_here) pa_nil) nn_tuple db_tuple) (pa_c (pe_var (i := 2) rfl vis_law_block__law_known db__law_known cd__law_known) pa_nil))))))), ?_⟩
  walk_at "rd"
  refine ⟨Nat.zero_le _, fun pd hpd => ?_⟩
  have s1 := same_new hpd (HO.lst [])
  refine ⟨a, ns, k, d, rfl, s1.seq hS, h0, by omega, fun i H2 i0 i1 s2 => ?_⟩
  have hnk : kn ≠ pd := ne_of_none hk hpd
  refine ⟨_, rfl, by omega, by omega, ?_⟩
  refine for_range (lo := 0) (n := (1 + i).toNat) (BInv H kn a k d pd g) ?start ?step ?done
  case start => exact ⟨kn, [], [], g, none, none, none, none, none, none, none, none, none, rfl, s1.trans s2, s2 _ _ upd_same, .nil, (s1.trans s2) _ _ hk, hnk, Knows.nil g, hg, rfl, fun e he => absurd he (by simp), by omega, .inl rfl⟩
  case done =>
    rintro σ Hc ⟨kc, vs, b, g', x5, x6, x7, x8, x9, x10, x11, x12, x13, rfl, sc, hv, dv, hkc, hne, hkn, hg', hbl, hok, hgl, hkf⟩
    walk_at "rd"
    refine ⟨vs, .inl ⟨SqL.of hv, fun pb hpb => ⟨zl 2 (by decide), fun pr hpr => ?_⟩⟩⟩
    have sa := same_new hpb (HO.tup vs)
    have sb := same_new hpr (HO.tup [V.ref pb, V.ref kc])
    refine q pr pb kc _ b g' (sc.trans (sa.trans sb)) upd_same (.tup (sb _ _ upd_same) (dv.kp (sa.trans sb).kp)) (sb _ _ (sa _ _ hkc)) ?_ (by omega) (fun z => by rw [z] at hbl; simp at hbl; omega) hkn hg' (Nat.le_trans hgl (Nat.add_le_add_left (pgc hd1 hd3 (by omega)) _)) hkf
    obtain ⟨d', rfl⟩ : ∃ d', d = d' + 1 := ⟨d - 1, by omega⟩
    exact ⟨by omega, fun e he => hok e he⟩
  case step =>
    rintro j σ Hc hj ⟨kc, vs, b, g', x5, x6, x7, x8, x9, x10, x11, x12, x13, rfl, sc, hv, dv, hkc, hne, hkn, hg', hbl, hok, hgl, hkf⟩
    have hjd : j < d := by omega
    have hg7 : g'.length ≤ g.length + 6 := Nat.le_trans hgl (Nat.add_le_add_left (Nat.le_trans (pgc hd1 hd3 (Nat.le_of_lt hjd)) (cg6 d)) _)
    have hvl : vs.length = j := by rw [dv.length, encB_length, hbl]
    show tSeq _ (tSeq _ (tIfS _ _ _)) _ _ _
    refine tif2_i fun Y Z eY eZ => ?_
    walk_at "rd"
    refine ⟨.inl ⟨by decide, by decide⟩, .inl ⟨by decide, by decide⟩, ?_⟩
    refine ⟨a, ns, _, 7, rfl, sc.seq hS, by omega, by decide, fun wy H3 w0 w1 s3 => ?_⟩
    walk_at "rd"
    refine way_on (Hy := fun Hx => Same H3 Hx) (C := ?cc) ?kk ?_
    case kk =>
      intro key
      split
      · generalize hH : H3 = H3n
        exact key H3n (hH ▸ Same.refl _)
      · split
        · exact key H3 (Same.refl _)
        · rename_i hd0
          refine ⟨Nat.zero_le _, fun pe hpe => ?_⟩
          have se := same_new hpe (HO.lst [])
          refine ⟨_, eqNil (SqL.of (se _ _ (s3 _ _ hkc))) (okStrs hg') (SqL.of upd_same), ?_⟩
          replace s3 := s3.trans se
          generalize upd H3 pe (HO.lst []) = H3e at s3 se ⊢
          split
          · exact key H3e se
          · rename_i hne2
            rw [eZ]
            refine tifs_i fun Y2 Z2 eY2 eZ2 => ?_
            walk_at "rd"
            split
            · rw [eY2]
              refine tseq_i fun N1 e1 => ?_
              walk_at "rd"
              have hd4 : 2 ≤ d := by
                have : ¬ (d : Int) = 1 := hd0
                omega
              have ed : ((d : Int) - 1) = ((d - 1 : Nat) : Int) := by omega
              rw [ed]
              refine ⟨a, ns, _, kc, g', d - 1, rfl, (sc.trans s3).seq hS, by omega, s3 _ _ hkc, hg', by omega, by omega, by omega, by omega, fun r1 rb1 rk1 H4 b1 g1 s4 hr1 db1 hk1 ob1 lb1 nb1 kn1 sp1 gl1 kf1 => ?_⟩
              refine ⟨_, rfl, _, SqT.of hr1, rfl, _, _, rfl, _, _, rfl, rfl, ?_⟩
              have s34 := s3.trans s4
              rw [e1]
              refine tseq_i fun N2 e2 => ?_
              walk_at "rd"
              rw [ed]
              refine ⟨a, ns, _, kc, g', d - 1, rfl, (sc.trans s34).seq hS, by omega, s34 _ _ hkc, hg', by omega, by omega, by omega, by omega, fun r2 rb2 rk2 H5 b2 g2 s5 hr2 db2 hk2 ob2 lb2 nb2 kn2 sp2 gl2 kf2 => ?_⟩
              have s35 := s34.trans s5
              refine ⟨_, rfl, _, SqT.of hr2, rfl, _, _, rfl, _, _, rfl, rfl, ?_⟩
              rw [e2]
              refine tseq_i fun N3 e3 => ?_
              walk_at "rd"
              refine ⟨.inl ⟨rfl, _, SqL.of (s35 _ _ hv)⟩, ?_⟩
              refine ⟨a, ns, _, kc, g', 2, rfl, (sc.trans s35).seq hS, by omega, s35 _ _ hkc, hg', by decide, by decide, fun r3 H6 t3 s6 d3 k3 => ?_⟩
              refine ⟨zl 4 (by decide), fun pt hpt => ?_⟩
              have s7 := same_new hpt (HO.tup [V.str "if", r3, V.ref rb1, V.ref rb2])
              have s57 := s5.trans (s6.trans s7)
              have s67 := s6.trans s7
              have dt : Dt _ (.ref pt) (D.ite t3 b1 b2).enc := .tup upd_same (.cons (.str _) (.cons (d3.kp s7.kp) (.cons (db1.kp s57.kp) (.cons (db2.kp s67.kp) .nil))))
              have s37 := s34.trans s57
              have n1 : rk1 ≠ pd := by
                rcases kf1 with z | z
                · rw [z]; exact hne
                · intro y; rw [y, s3 _ _ hv] at z; cases z
              have n2 : rk2 ≠ pd := by
                rcases kf2 with z | z
                · rw [z]; exact hne
                · intro y; rw [y, s34 _ _ hv] at z; cases z
              have m1 := s57 _ _ hk1
              have m2 := s67 _ _ hk2
              generalize upd H6 pt (HO.tup [V.str "if", r3, V.ref rb1, V.ref rb2]) = U at s7 s57 s67 dt s37 m1 m2 ⊢
              have hv7 := s37 _ _ hv
              refine ⟨vs, hv7, by rw [hvl]; exact small1000 (by omega), ?_⟩
              have k8 : Kp U (upd U pd (HO.lst (vs ++ [V.ref pt]))) := Kp.set hv7
              have w1 : (upd U pd (HO.lst (vs ++ [V.ref pt]))) rk1 = some (.lst (g1.map V.str)) := by rw [upd_ne n1]; exact m1
              have w2 : (upd U pd (HO.lst (vs ++ [V.ref pt]))) rk2 = some (.lst (g2.map V.str)) := by rw [upd_ne n2]; exact m2
              have vU2 : (upd U pd (HO.lst (vs ++ [V.ref pt]))) pd = some (.lst (vs ++ [V.ref pt])) := upd_same
              have sU2 : Same H (upd U pd (HO.lst (vs ++ [V.ref pt]))) := same_upd (sc.trans s37) hpd
              generalize upd U pd (HO.lst (vs ++ [V.ref pt])) = U2 at k8 w1 w2 vU2 sU2 ⊢
              rw [e3]
              walk_at "rd"
              refine ⟨⟨_, SqL.of w1⟩, ?_⟩
              have hg1 : g1.length ≤ 900 := by
                have := cg6 (d - 1)
                omega
              refine comp_list (K := K) (a := rk1) (xs := g1.map V.str) (FInv U2 rk2 g1 g2) ⟨rfl, ⟨none, rfl⟩, by simp⟩ (by rw [List.length_map]; exact small1000 (by omega)) ?_ ?_ ?_ ?_
              · rintro i ys σ' H' ⟨_, _, rfl⟩
                rw [List.length_map]
                exact Nat.le_trans (List.length_filter_le _ _) (by rw [List.length_take]; omega)
              · rintro i ys σ' H' _ ⟨rfl, _, _⟩
                exact SqL.of w1
              · rintro i ys v σ' H' hxi ⟨rfl, ⟨t, rfl⟩, rfl⟩
                rw [List.getElem?_map] at hxi
                cases hx : g1[i]? with
                | none => rw [hx] at hxi; cases hxi
                | some x =>
                  rw [hx] at hxi
                  have ev : V.str x = v := by simpa using hxi
                  subst ev
                  walk_at "rd"
                  refine ⟨inV (.str x) (g2.map V.str), .inl ⟨rk2, _, rfl, .inl (SqL.of w2), rfl, flat_strs g2, rfl⟩, ?_⟩
                  rw [inV_strs]
                  have et : g1.take (i + 1) = g1.take i ++ [x] := by rw [List.take_add_one, hx]; rfl
                  cases hc : g2.contains x with
                  | true => exact ⟨rfl, ⟨_, rfl⟩, by rw [et, List.filter_append, List.map_append, List.filter_cons, hc]; rfl⟩
                  | false => exact ⟨rfl, ⟨_, rfl⟩, by rw [et, List.filter_append, List.map_append, List.filter_cons, hc]; simp⟩
              · rintro ys σ' H' ⟨rfl, _, rfl⟩ pc hpc
                rw [List.length_map, List.take_length]
                have sa := same_new hpc (HO.lst ((g1.filter fun x => g2.contains x).map V.str))
                have hnp : pc ≠ pd := fun z => by rw [z, vU2] at hpc; cases hpc
                have hlf : (g1.filter fun x => g2.contains x).length ≤ g1.length := List.length_filter_le _ _
                refine ⟨pc, vs ++ [V.ref pt], b ++ [D.ite t3 b1 b2], g1.filter fun x => g2.contains x, _, _, _, _, _, _, _, _, _, rfl, sU2.trans sa, sa _ _ vU2, ?_, upd_same, hnp, hkn.snoc (KnowsD.ite k3 kn1 kn2 ?_), ?_, by rw [List.length_append, List.length_singleton, hbl], ?_, ?_, .inr (sU2.free hpc)⟩
                · rw [encB_append]
                  exact (dv.kp (s37.kp.trans (k8.trans sa.kp))).append (.cons (dt.kp (k8.trans sa.kp)) .nil)
                · intro y hy
                  have := List.mem_filter.mp hy
                  exact ⟨this.1, by simpa using this.2⟩
                · exact fun y hy => sp1 y (List.mem_filter.mp hy).1
                · intro c hc
                  rcases List.mem_append.mp hc with hc | hc
                  · exact hok c hc
                  · have ec : c = D.ite t3 b1 b2 := by simpa using hc
                    subst ec
                    exact ⟨k3.mono hg' (by decide), ob1, ob2⟩
                · rw [Nat.succ_mul]
                  have := cgp hd4 hd3
                  omega
            · rw [eZ2]
              refine tseq_i fun N1 e1 => ?_
              walk_at "rd"
              have hd4 : 2 ≤ d := by
                have : ¬ (d : Int) = 1 := hd0
                omega
              have ed : ((d : Int) - 1) = ((d - 1 : Nat) : Int) := by omega
              rw [ed]
              have hgn : g' ≠ [] := fun z => hne2 (by rw [z]; rfl)
              refine ⟨a, ns, _, kc, g', d - 1, rfl, (sc.trans s3).seq hS, by omega, s3 _ _ hkc, hg', by omega, by omega, by omega, by omega, fun r1 rb1 rk1 H4 b1 g1 s4 hr1 db1 hk1 ob1 lb1 nb1 kn1 sp1 gl1 kf1 => ?_⟩
              have s34 := s3.trans s4
              refine ⟨_, rfl, _, SqT.of hr1, _, rfl, ?_⟩
              rw [e1]
              walk_at "rd"
              refine ⟨.inl ⟨rfl, _, SqL.of (s34 _ _ hv)⟩, ?_⟩
              refine ⟨a, ns, _, kc, g', g1, _, b1, d - 1, d, rfl, (sc.trans s34).seq hS, by omega, s34 _ _ hkc, hg', hgn, db1, ob1, by omega, nb1, kn1, by omega, fun r2 H5 e2 s5 de2 oe2 ke2 => ?_⟩
              have s35 := s34.trans s5
              refine ⟨vs, s35 _ _ hv, by rw [hvl]; exact small1000 (by omega), ?_⟩
              have k8 : Kp H5 (upd H5 pd (HO.lst (vs ++ [r2]))) := Kp.set (s35 _ _ hv)
              refine ⟨kc, vs ++ [r2], b ++ [e2], g', _, _, _, _, _, _, _, _, _, rfl, same_upd (sc.trans s35) hpd, upd_same, ?_, by rw [upd_ne hne]; exact s35 _ _ hkc, hne, hkn.snoc ke2, hg', by rw [List.length_append, List.length_singleton, hbl], ?_, ?_, hkf⟩
              · rw [encB_append]
                exact (dv.kp (s35.kp.trans k8)).append (.cons (de2.kp k8) .nil)
              · intro c hc
                rcases List.mem_append.mp hc with hc | hc
                · exact hok c hc
                · have ec : c = e2 := by simpa using hc
                  subst ec
                  exact oe2
              · rw [Nat.succ_mul]
                omega
    intro Hx sx
    replace s3 := s3.trans sx
    rw [eY]
    refine tseq_i fun N1 e1 => ?_
    walk_at "rd"
    refine ⟨zl 4 (by decide), fun pm hpm => ?_⟩
    have s4 := same_new hpm (HO.lst [V.str "a", V.str "b", V.str "c", V.str "dd"])
    refine ⟨a, ns, _, 4, rfl, ((sc.trans s3).trans s4).seq hS, by omega, by decide, fun m H4 m0 m1 s5 => ?_⟩
    obtain ⟨x, hx, e⟩ := atI_map (c := V.str) (ns := pool) (k := m) m0 m1
    have s35 := s3.trans (s4.trans s5)
    refine ⟨_, _, rfl, SqL.of (s5 _ _ upd_same), _, e, ?_⟩
    rw [e1]
    refine tseq_i fun N2 e2 => ?_
    walk_at "rd"
    refine ⟨.inl ⟨rfl, _, SqL.of (s35 _ _ hv)⟩, ?_⟩
    refine ⟨a, ns, _, kc, g', 3, rfl, (sc.trans s35).seq hS, by omega, s35 _ _ hkc, hg', by decide, by decide, fun r1 H5 t1 s6 d1 k1 => ?_⟩
    refine ⟨zl 3 (by decide), fun pt hpt => ?_⟩
    have s7 := same_new hpt (HO.tup [V.str "set", V.str x, r1])
    have dt : Dt _ (.ref pt) (D.set x t1).enc := .tup upd_same (.cons (.str _) (.cons (.str _) (.cons (d1.kp s7.kp) .nil)))
    have s37 := s35.trans (s6.trans s7)
    generalize upd H5 pt (HO.tup [V.str "set", V.str x, r1]) = U at s7 dt s37 ⊢
    have hv7 := s37 _ _ hv
    refine ⟨vs, hv7, by rw [hvl]; exact small1000 (by omega), ?_⟩
    rw [e2]
    walk_at "rd"
    refine ⟨zl 1 (by decide), fun pl hpl => ?_⟩
    have k8 : Kp U (upd U pd (HO.lst (vs ++ [V.ref pt]))) := Kp.set hv7
    have kU2 : (upd U pd (HO.lst (vs ++ [V.ref pt]))) kc = some (.lst (g'.map V.str)) := by rw [upd_ne hne]; exact s37 _ _ hkc
    have vU2 : (upd U pd (HO.lst (vs ++ [V.ref pt]))) pd = some (.lst (vs ++ [V.ref pt])) := upd_same
    have sU2 : Same H (upd U pd (HO.lst (vs ++ [V.ref pt]))) := same_upd (sc.trans s37) hpd
    generalize upd U pd (HO.lst (vs ++ [V.ref pt])) = U2 at k8 kU2 vU2 sU2 hpl ⊢
    have s9 := same_new hpl (HO.lst [V.str x])
    have hU3 : (upd U2 pl (HO.lst [V.str x])) pl = some (.lst [V.str x]) := upd_same
    generalize upd U2 pl (HO.lst [V.str x]) = U3 at s9 hU3 ⊢
    refine ⟨⟨_, SqL.of hU3⟩, ?_⟩
    refine comp_list (K := K) (a := pl) (xs := [V.str x]) (CInv U3 kc g' x) ⟨rfl, ⟨none, rfl⟩, .inl ⟨rfl, rfl⟩⟩ (small1000 (by show 1 ≤ 1000; decide)) ?_ ?_ ?_ ?_
    · rintro i ys σ' H' ⟨_, _, h⟩
      rcases h with ⟨rfl, rfl⟩ | ⟨rfl, rfl⟩
      · exact Nat.le_refl _
      · split <;> simp
    · rintro i ys σ' H' _ ⟨rfl, _, _⟩
      exact SqL.of hU3
    · rintro i ys v σ' H' hxi ⟨rfl, ⟨t, rfl⟩, h⟩
      rcases h with ⟨rfl, rfl⟩ | ⟨rfl, rfl⟩
      · have ev : V.str x = v := by simpa using hxi
        subst ev
        walk_at "rd"
        refine ⟨!inV (.str x) (g'.map V.str), .inl ⟨kc, _, rfl, .inl (SqL.of (s9 _ _ kU2)), rfl, flat_strs g', rfl⟩, ?_⟩
        rw [inV_strs]
        cases hc : g'.contains x with
        | true => exact ⟨rfl, ⟨_, rfl⟩, .inr ⟨rfl, by rw [hc]; rfl⟩⟩
        | false => exact ⟨rfl, ⟨_, rfl⟩, .inr ⟨rfl, by rw [hc]; rfl⟩⟩
      · simp at hxi
    · rintro ys σ' H' ⟨rfl, _, h⟩ pc hpc
      rcases h with ⟨h, _⟩ | ⟨_, rfl⟩
      · exact absurd h (by simp)
      have sa := same_new hpc (HO.lst ((if g'.contains x then [] else [x]).map V.str))
      refine ⟨_, rfl, _, sa _ _ (s9 _ _ kU2), _, upd_same, ?_, fun pk hpk => ?_⟩
      · have e1 : ((if g'.contains x then [] else [x]).map V.str).length ≤ 1 := by split <;> simp
        rw [List.length_map]
        exact zl _ (by omega)
      · have sb := same_new hpk (HO.lst (g'.map V.str ++ (if g'.contains x then [] else [x]).map V.str))
        have s9b := s9.trans (sa.trans sb)
        have hnp : pk ≠ pd := fun z => by
          have := (s9.trans sa) _ _ vU2
          rw [← z, hpk] at this
          cases this
        refine ⟨pk, vs ++ [V.ref pt], b ++ [D.set x t1], g' ++ (if g'.contains x then [] else [x]), _, _, _, _, _, _, _, _, _, rfl, sU2.trans s9b, s9b _ _ vU2, ?_, ?_, hnp, hkn.snoc (KnowsD.set k1 ?_), ?_, by rw [List.length_append, List.length_singleton, hbl], ?_, ?_, .inr ((sU2.trans (s9.trans sa)).free hpk)⟩
        · rw [encB_append]
          exact (dv.kp (s37.kp.trans (k8.trans s9b.kp))).append (.cons (dt.kp (k8.trans s9b.kp)) .nil)
        · rw [upd_same, List.map_append]
        · intro y hy
          rcases List.mem_append.mp hy with hy | hy
          · exact .inl hy
          · cases hc : g'.contains x with
            | true => rw [hc] at hy; simp at hy
            | false => rw [hc] at hy; simp at hy; exact .inr hy
        · intro y hy
          rcases List.mem_append.mp hy with hy | hy
          · exact hg' y hy
          · cases hc : g'.contains x with
            | true => rw [hc] at hy; simp at hy
            | false => rw [hc] at hy; simp at hy; rw [hy]; exact hx
        · intro c hc
          rcases List.mem_append.mp hc with hc | hc
          · exact hok c hc
          · have ec : c = D.set x t1 := by simpa using hc
            subst ec
            exact ⟨hx, k1.mono hg' (by decide)⟩
        · have e1 : (if g'.contains x then [] else [x]).length ≤ 1 := by split <;> simp
          rw [List.length_append, Nat.succ_mul]
          have := pg1 d
          omega
theorem none_block {k : Nat} : FnOk P w K mg base CX0 k f fd ["_law_script", "_law_at", "_law_known", "_law_deep_here"] (spBlock K 0) := by
  have no : ∀ vs H Q E, ¬ spBlock K 0 vs H Q E := fun vs H Q E h => by
    obtain ⟨a, ns, k, kn, g, d, _, _, _, _, _, h1, h2, _⟩ := h
    omega
  exact ⟨fun vs H Q E h => absurd h (no vs H Q E), fun A outer s H args us vs Q E _ _ _ _ h => absurd h (no vs H Q E)⟩
theorem all_block (dd : Df K mg "_law_block" s_law_block ["_law_script", "_law_at", "_law_known", "_law_deep_here"] f fd) (b_range : mg "range" = none) (b_tuple : mg "tuple" = none) (c_law_pick : Callee P w K mg base "_law_pick" ["_law_script", "_law_k", "_law_many"] 2 (spPick K))
    (c_law_sum : Callee P w K mg base "_law_sum" ["_law_script", "_law_at", "_law_known", "_law_deep_here"] 6 (spSum K 3)) (c_law_counted : Callee P w K mg base "_law_counted" ["_law_script", "_law_at", "_law_known", "_law_body", "_law_deep_here"] 7 (spCounted K)) :
    ∀ n : Nat, Callee P w K mg base "_law_block" ["_law_script", "_law_at", "_law_known", "_law_deep_here"] (n + 7) (spBlock K n)
  | 0 => dd.callee none_block
  | n + 1 => dd.callee (ok_block dd.F b_range b_tuple c_law_pick c_law_sum c_law_counted (all_block dd b_range b_tuple c_law_pick c_law_sum c_law_counted n))
/-! ### a drawn program -/
abbrev Rw := Str × Int × Int
def rowEnc (r : Rw) : Dm := .tup [.str r.1, .int r.2.1, .int r.2.2]
def pair : List Str := ["a", "b"]
def PInv (H : Hp) (a : Addr) (k : Int) (pi : Addr) (j : Nat) (σ : St) (Hc : Hp) : Prop := ∃ (vs : List V) (rows : List Rw) (x3 x4 : Option V), σ = [some (.ref a), some (.int k), some (.ref pi), x3, x4] ∧ Same H Hc ∧ Hc pi = some (.lst vs) ∧ DtA Hc vs (rows.map rowEnc) ∧ rows.length = j ∧ rows.map (·.1) = pair.take j ∧ ∀ r ∈ rows, -6 ≤ r.2.1 ∧ r.2.1 ≤ r.2.2 ∧ r.2.2 ≤ 8
def QInv (U : Hp) (rows : List Rw) (i : Nat) (ys : List V) (σ' : St) (H' : Hp) : Prop := H' = U ∧ (∃ t, σ' = [t]) ∧ ys = (rows.take i).map fun r => V.str r.1
structure okRows (rows : List Rw) : Prop where
  len : rows.length ≤ 2
  nm : rows.map (·.1) = pair.take rows.length
  lo : ∀ r ∈ rows, -6 ≤ r.2.1 ∧ r.2.1 ≤ r.2.2 ∧ r.2.2 ≤ 8
def spProgram (K : PySem.W.Frag) : Sp := fun vs H Q _ => ∃ (a : Addr) (ns : List Int) (k : Int), vs = [.ref a, .int k] ∧ SqL K H a (ns.map V.int) ∧ 0 ≤ k ∧
  ∀ (r ri rb : Addr) (H' : Hp) (rows : List Rw) (b : List D) (g' : List Str), Same H H' → H' r = some (.tup [.ref ri, .ref rb]) → Dt H' (.ref ri) (.tup (rows.map rowEnc)) → Dt H' (.ref rb) (.tup (encB b)) → okRows rows → okB 3 b → b.length ≤ 3 → b ≠ [] → Knows (rows.map (·.1)) b g' → Q (.ref r) H'
theorem ok_program (F : Fun K "_law_program" "_law_program" s_law_program f fd) (b_range : mg "range" = none) (b_tuple : mg "tuple" = none) (c_law_pick : Callee P w K mg base "_law_pick" ["_law_script", "_law_k", "_law_many"] 2 (spPick K))
    (c_law_block : Callee P w K mg base "_law_block" ["_law_script", "_law_at", "_law_known", "_law_deep_here"] 10 (spBlock K 3)) : FnOk P w K mg base CX0 11 f fd ["_law_script", "_law_at"] (spProgram K) := by
  refine F.ok sc_law_program (fun vs H Q E h => ?_) (fun cdv A outer s H vs Q E hr h => ?_)
  · obtain ⟨a, ns, k, rfl, _⟩ := h
    rfl
  obtain ⟨a, ns, k, rfl, hS, h0, q⟩ := h
  refine ⟨_, (pss_cons (ps_set (i := 2) sc_law_program.nd rfl loc_law_program__law_ins (pe_lst pa_nil) (swaps_plain rfl))
  (pss_cons (ps_for PassesOwn.never rfl (pi_range1 gl_law_program_range b_range (pa_c (pe_cc c_law_pick hr (by omega) (pa_c (pe_var (i := 0) rfl vis_law_program__law_script db__law_script cd__law_script) (pa_c (pe_var (i := 1) rfl vis_law_program__law_at db__law_at cd__law_at) (pa_c pe_int pa_nil))) gl_law_program__law_pick db__law_pick) pa_nil)) (pg_name (i := 3) sc_law_program.nd rfl loc_law_program__law_k)
  (pss_cons (ps_set (i := 4) sc_law_program.nd rfl loc_law_program__law_low (pe_op op_sub (pe_cc c_law_pick hr (by omega) (pa_c (pe_var (i := 0) rfl vis_law_program__law_script db__law_script cd__law_script) (pa_c (pe_op op_add (pe_op op_add (pe_var (i := 1) rfl vis_law_program__law_at db__law_at cd__law_at) pe_int) (pe_op op_mul pe_int (pe_var (i := 3) rfl vis_law_program__law_k db__law_k cd__law_k))) (pa_c pe_int pa_nil))) gl_law_program__law_pick db__law_pick) pe_int) (swaps_plain rfl))
  (pss_one (ps_expr (pe_bm PySem.F.plainAttrs_list PySem.F.slot_list_append PySem.F.type_list_append mt_append (pe_var (i := 2) rfl vis_law_program__law_ins db__law_ins cd__law_ins) (pa_c (pe_tup (pa_c (pe_ix ix_list (pe_lst (pa_c pe_str (pa_c pe_str pa_nil))) (pe_var (i := 3) rfl vis_law_program__law_k db__law_k cd__law_k) (fun _ _ => rfl)) (pa_c (pe_var (i := 4) rfl vis_law_program__law_low db__law_low cd__law_low) (pa_c (pe_op op_add (pe_var (i := 4) rfl vis_law_program__law_low db__law_low cd__law_low) (pe_cc c_law_pick hr (by omega) (pa_c (pe_var (i := 0) rfl vis_law_program__law_script db__law_script cd__law_script) (pa_c (pe_op op_add (pe_op op_add (pe_var (i := 1) rfl vis_law_program__law_at db__law_at cd__law_at) pe_int) (pe_op op_mul pe_int (pe_var (i := 3) rfl vis_law_program__law_k db__law_k cd__law_k))) (pa_c pe_int pa_nil))) gl_law_program__law_pick db__law_pick)) pa_nil)))) pa_nil)) (swaps_plain rfl)))))
  (pss_one (ps_ret (pe_tup (pa_c (pe_cT call_tuple_of gl_law_program_tuple b_tuple bt_tuple (pa_c (pe_var (i := 2) rfl vis_law_program__law_ins db__law_ins cd__law_ins) pa_nil) nn_tuple db_tuple) (pa_c (pe_ix ix_tup (pe_cc c_law_block hr (by omega) (pa_c (pe_var (i := 0) rfl vis_law_program__law_script db__law_script cd__law_script) (pa_c (pe_op op_add (pe_var (i := 1) rfl vis_law_program__law_at db__law_at cd__law_at) pe_int) (pa_c (pe_comp ["_law_row"] [none] rfl (CompS.of (by rfl)) (pi_list (pe_var (i := 2) rfl vis_law_program__law_ins db__law_ins cd__law_ins)) (fun _ _ _ _ _ => (pg_name (i := 0) (show List.Nodup (["_law_row"] : List Str) from by decide +kernel) rfl (Or.inl rfl))) (fun _ _ _ _ _ => pif_nil) (fun _ _ _ _ _ => (pe_ix (ixK (r := rIxT) (K := K) ix_tup rfl) (pe_var (i := 0) rfl (by first | exact Or.inl rfl | exact Or.inr (Or.inl rfl) | exact Or.inr (Or.inr rfl)) db__law_row cd__law_row) pe_int (fun _ _ => rfl)))) (pa_c pe_int pa_nil)))) gl_law_program__law_block db__law_block) pe_int (fun _ _ => rfl)) pa_nil))))))), ?_⟩
  walk_at "rd"
  refine ⟨Nat.zero_le _, fun pi hpi => ?_⟩
  have s1 := same_new hpi (HO.lst [])
  refine ⟨a, ns, k, 3, rfl, s1.seq hS, h0, by decide, fun i H2 i0 i1 s2 => ?_⟩
  refine ⟨_, rfl, by omega, by omega, ?_⟩
  refine for_range (lo := 0) (n := i.toNat) (PInv H a k pi) ?start ?step ?done
  case start => exact ⟨[], [], none, none, rfl, s1.trans s2, s2 _ _ upd_same, .nil, rfl, rfl, fun r hr => absurd hr (by simp)⟩
  case step =>
    rintro j σ Hc hj ⟨vs, rows, x3, x4, rfl, sc, hv, dv, hl, hnm, hlo⟩
    have hvl : vs.length = j := by rw [dv.length, List.length_map, hl]
    walk_at "rd"
    refine ⟨.inl ⟨by decide, by decide⟩, ?_⟩
    refine ⟨a, ns, _, 13, rfl, sc.seq hS, by omega, by decide, fun lo H3 l0 l1 s3 => ?_⟩
    walk_at "rd"
    refine ⟨.inl ⟨rfl, _, SqL.of (s3 _ _ hv)⟩, zl 2 (by decide), fun pm hpm => ?_⟩
    have s4 := same_new hpm (HO.lst [V.str "a", V.str "b"])
    have hj2 : j = 0 ∨ j = 1 := by omega
    obtain ⟨x, ex, et⟩ : ∃ x : Str, atI (pair.map V.str) (0 + (j : Int)) = some (V.str x) ∧ pair.take (j + 1) = pair.take j ++ [x] := by
      rcases hj2 with rfl | rfl
      · exact ⟨"a", rfl, rfl⟩
      · exact ⟨"b", rfl, rfl⟩
    refine ⟨_, SqL.of upd_same, _, ex, .inl ⟨by decide, by decide⟩, ?_⟩
    refine ⟨a, ns, _, 3, rfl, ((sc.trans s3).trans s4).seq hS, by omega, by decide, fun z H4 z0 z1 s5 => ?_⟩
    refine ⟨_, rfl, zl 3 (by decide), fun pt hpt => ?_⟩
    have s6 := same_new hpt (HO.tup [V.str x, V.int (lo - 6), V.int (lo - 6 + z)])
    have dt : Dt (upd H4 pt (HO.tup [V.str x, V.int (lo - 6), V.int (lo - 6 + z)])) (.ref pt) (rowEnc (x, lo - 6, lo - 6 + z)) := .tup upd_same (.cons (.str _) (.cons (.int _) (.cons (.int _) .nil)))
    have s36 := s3.trans (s4.trans (s5.trans s6))
    generalize upd H4 pt (HO.tup [V.str x, V.int (lo - 6), V.int (lo - 6 + z)]) = U at s6 dt s36 ⊢
    refine ⟨vs, s36 _ _ hv, by rw [hvl]; exact small1000 (by omega), ?_⟩
    have k8 : Kp U (upd U pi (HO.lst (vs ++ [V.ref pt]))) := Kp.set (s36 _ _ hv)
    refine ⟨vs ++ [V.ref pt], rows ++ [(x, lo - 6, lo - 6 + z)], _, _, rfl, same_upd (sc.trans s36) hpi, upd_same, ?_, by rw [List.length_append, List.length_singleton, hl], ?_, ?_⟩
    · rw [List.map_append]
      exact (dv.kp (s36.kp.trans k8)).append (.cons (dt.kp k8) .nil)
    · rw [List.map_append, hnm, et]; rfl
    · intro r hr'
      rcases List.mem_append.mp hr' with hr' | hr'
      · exact hlo r hr'
      · have er : r = (x, lo - 6, lo - 6 + z) := by simpa using hr'
        subst er
        show -6 ≤ lo - 6 ∧ lo - 6 ≤ lo - 6 + z ∧ lo - 6 + z ≤ 8
        omega
  case done =>
    rintro σ Hc ⟨vs, rows, x3, x4, rfl, sc, hv, dv, hl, hnm, hlo⟩
    walk_at "rd"
    have hvl : vs.length = i.toNat := by rw [dv.length, List.length_map, hl]
    refine ⟨vs, .inl ⟨SqL.of hv, fun pb hpb => ?_⟩⟩
    have sa := same_new hpb (HO.tup vs)
    have dti : Dt _ (.ref pb) (.tup (rows.map rowEnc)) := .tup upd_same (dv.kp sa.kp)
    have hv2 := sa _ _ hv
    have dvU := dv.kp sa.kp
    generalize upd Hc pb (HO.tup vs) = U at sa dti hv2 dvU ⊢
    refine ⟨⟨_, SqL.of hv2⟩, ?_⟩
    refine comp_list (K := K) (a := pi) (xs := vs) (QInv U rows) ⟨rfl, ⟨none, rfl⟩, rfl⟩ (by rw [hvl]; exact small1000 (by omega)) ?_ ?_ ?_ ?_
    · rintro i ys σ' H' ⟨_, _, rfl⟩
      rw [List.length_map, List.length_take]
      omega
    · rintro i ys σ' H' _ ⟨rfl, _, _⟩
      exact SqL.of hv2
    · rintro i' ys v σ' H' hxi ⟨rfl, ⟨t, rfl⟩, rfl⟩
      obtain ⟨d, hd, dd⟩ := dvU.get hxi
      rw [List.getElem?_map] at hd
      cases hr' : rows[i']? with
      | none => rw [hr'] at hd; cases hd
      | some r =>
        rw [hr'] at hd
        have ed : rowEnc r = d := by simpa using hd
        subst ed
        obtain ⟨pa, xs, rfl, hpa, da⟩ := dd.tupI
        rcases da with _ | ⟨d1, _ | ⟨d3, _ | ⟨d5, _ | _⟩⟩⟩
        · cases d1
          walk_at "rd"
          refine ⟨_, SqT.of hpa, _, rfl, rfl, ⟨_, rfl⟩, ?_⟩
          rw [List.take_add_one, hr', List.map_append]
          rfl
    · rintro ys σ' H' ⟨rfl, _, rfl⟩ pc hpc
      rw [show vs.length = rows.length by rw [hvl, hl], List.take_length]
      have sb := same_new hpc (HO.lst (rows.map fun r => V.str r.1))
      have hsub : Sub (rows.map (·.1)) pool := by
        rw [hnm]
        intro y hy
        have := List.mem_of_mem_take hy
        simp only [pair, List.mem_cons, List.not_mem_nil, or_false] at this
        rcases this with rfl | rfl <;> decide +kernel
      refine ⟨a, ns, k + 9, pc, rows.map (·.1), 3, rfl, (sc.trans (sa.trans sb)).seq hS, by omega, ?_, hsub, by decide, by decide, by decide, by rw [List.length_map]; omega, fun r rb rk H5 b g' s5 hr' db hkk ob lb nb kn sp gl kf => ?_⟩
      · rw [upd_same, List.map_map]; rfl
      · refine ⟨_, rfl, _, SqT.of hr', _, rfl, zl 2 (by decide), fun pr hpr => ?_⟩
        have sc2 := same_new hpr (HO.tup [V.ref pb, V.ref rb])
        exact q pr pb rb _ rows b g' (sc.trans (sa.trans (sb.trans (s5.trans sc2)))) upd_same (dti.kp (sb.trans (s5.trans sc2)).kp) (db.kp sc2.kp) ⟨by omega, by rw [hnm, hl], hlo⟩ ob lb nb kn
end
end SR


set_option Elab.async false
set_option linter.all false
set_option maxRecDepth 100000
set_option maxHeartbeats 0
namespace SR
open PySem L2
local macro_rules | `(tactic| walk_at "rd") => `(tactic| simp only [tSeq, tIfS, tTest, tOp, tVar, tC, tAsg, gName, gTup, gCons, gNil, tRet, tRetN, tDrop, tNext, tCB, tCons, tNil, tCall, tUn, rU, rI0, rI, tAnd, tOr, tNot, tB, tAndV, tOrV, tNotV, tIf, tIfT, tKGet, tChain, tDGet, tDGet1, sDPut, tDNewK, tDisp, tPairs, tCont, tSl, tNoPart, tPart, rSlT, tChain3, qSortS, qEqDL, qNeDL, tFor_enum, tFor_zip, tFor_rng2, tComp_seq, qSetI, qSortSet, cxOf_prog, cxOf_w, cxOf_nox_prog, cxOf_nox_w, cxOf_mg, cxOf_base, cxOf_nox_mg, cxOf_nox_base, cxComp_prog, cxComp_w, cxComp_mg, cxComp_base, tComp_zipT, tCallL, rSlA, rSlL, tDX, tDXs, tTup, tLst, tBM,
  qEq, qNe, qIn, qNotIn, qIsN, qNotN, qIsB, qNotB, qLen, qInst, qEqD, qNeD, qMinL, qMaxL, qSortI, rIx, rIxL, rIxT, rIxS, rCat, rCatT2, rRep, rRepT, rLeS, rLtS, rAppend, rExtend, tNever, tBreak, tYes,
  tFor_tup, tFor_list, tFor_rng1, tComp_tup, tComp_list, tComp_str, L2.start, cxOf_K, cxOf_nox_K, cxComp_K, List.map_cons, List.map_nil, List.length_cons, List.length_nil, List.replicate_succ, List.replicate_zero, Nat.reduceAdd, Nat.reduceSub, Nat.zero_add, Nat.add_zero, Nat.sub_zero, Nat.sub_self, Nat.add_sub_cancel,
  List.getElem?_cons_zero, List.getElem?_cons_succ, List.set_cons_zero, List.set_cons_succ, List.cons_append, List.nil_append, List.append_nil, List.cons.injEq, Option.some.injEq, V.int.injEq, V.ref.injEq, V.str.injEq, V.bl.injEq, V.ty.injEq,
  reduceCtorEq, false_and, and_false, and_true, true_and, exists_false, exists_const, false_or, or_false, exists_eq_left, exists_eq_left', exists_eq_right, exists_eq_right', exists_and_left, decide_eq_true_eq, Bool.not_eq_true', Bool.decide_eq_true, exists_eq, true_or, or_true, Bool.false_eq_true, if_true, if_false, Bool.true_eq_false, Bool.not_true, Bool.not_false, decide_true, decide_false, List.isEmpty_cons, List.isEmpty_nil, Bool.true_and, Bool.false_and, bne_self_eq_false, beq_self_eq_true])
section
variable {P : Program} {w : World} {K : PySem.W.Frag} {mg : Str → Option Value} {base : Heap} {f : Addr} {fd : FuncData}
/-! ### what the program asks of things, on data -/
def tyD : Dm → String
  | .non => "NoneType" | .bl _ => "bool" | .int _ => "int" | .str _ => "str" | .tup _ => "tuple" | .lst => "list"
theorem tyOf {H : Hp} {v : V} {d : Dm} (h : Dt H v d) : TyOf K H v (.type (tyD d)) := by
  cases h with
  | non => exact .non
  | bl b => exact .bl b
  | int i => exact .int i
  | str x => exact .str x
  | tup e _ => exact .tup e
  | lst e => exact .lst e
def isT : Dm → Bool
  | .tup _ => true
  | _ => false
theorem inst_tuple {H : Hp} {v : V} {d : Dm} (h : Dt H v d) : ∃ t, TyOf K H v t ∧ PySem.W.kitOne K t (.type "tuple") = some (isT d) := ⟨_, tyOf h, by cases d <;> rfl⟩
theorem tup2 {H : Hp} {v : V} {a b : Dm} (h : Dt H v (.tup [a, b])) : ∃ p x y, v = .ref p ∧ H p = some (.tup [x, y]) ∧ Dt H x a ∧ Dt H y b := by
  obtain ⟨p, xs, rfl, e, r⟩ := h.tupI
  rcases r with _ | ⟨r1, _ | ⟨r2, _ | _⟩⟩
  exact ⟨p, _, _, rfl, e, r1, r2⟩
theorem tup3 {H : Hp} {v : V} {a b c : Dm} (h : Dt H v (.tup [a, b, c])) : ∃ p x y z, v = .ref p ∧ H p = some (.tup [x, y, z]) ∧ Dt H x a ∧ Dt H y b ∧ Dt H z c := by
  obtain ⟨p, xs, rfl, e, r⟩ := h.tupI
  rcases r with _ | ⟨r1, _ | ⟨r2, _ | ⟨r3, _ | _⟩⟩⟩
  exact ⟨p, _, _, _, rfl, e, r1, r2, r3⟩
theorem tup4 {H : Hp} {v : V} {a b c d : Dm} (h : Dt H v (.tup [a, b, c, d])) : ∃ p x y z u, v = .ref p ∧ H p = some (.tup [x, y, z, u]) ∧ Dt H x a ∧ Dt H y b ∧ Dt H z c ∧ Dt H u d := by
  obtain ⟨p, xs, rfl, e, r⟩ := h.tupI
  rcases r with _ | ⟨r1, _ | ⟨r2, _ | ⟨r3, _ | ⟨r4, _ | _⟩⟩⟩⟩
  exact ⟨p, _, _, _, _, rfl, e, r1, r2, r3, r4⟩
def eqS (d : Dm) (z : Str) : Bool := match d with
  | .str x => decide (x = z)
  | _ => false
theorem eq_of {H : Hp} {x : V} {d : Dm} {z : Str} (h : Dt H x d) : EqOf K x (.str z) H (eqS d z) := by
  cases h with
  | str y => exact .inl ⟨rfl, by show decide (y = z) = decide (V.str y = V.str z); simp⟩
  | tup e _ => exact .inr (.inr ⟨_, _, rfl, rfl, .inr ⟨_, SqT.of e⟩, rfl⟩)
  | lst e => exact .inr (.inr ⟨_, _, rfl, rfl, .inl ⟨_, SqL.of e⟩, rfl⟩)
  | non => exact .inl ⟨rfl, by simp [eqS]⟩
  | bl b => exact .inl ⟨rfl, by simp [eqS]⟩
  | int i => exact .inl ⟨rfl, by simp [eqS]⟩
/-! what is known behind -/
def D.term : D → T
  | .set _ t => t
  | .ite t _ _ => t
  | .whl t _ _ => t
def spTermOf : Sp := fun vs H Q _ => ∃ v e, vs = [v] ∧ Dt H v (D.enc e) ∧ ∀ x, Dt H x e.term.enc → Q x H
theorem ok_term_of (F : Fun K "term_of" "term_of" s_term_of f fd) : FnOk P w K mg base CX0 1 f fd ["deed"] spTermOf := by
  refine F.ok sc_term_of (fun vs H Q E h => ?_) (fun cdv A outer s H vs Q E hr h => ?_)
  · obtain ⟨v, d, rfl, _⟩ := h
    rfl
  obtain ⟨v, e, rfl, hd, q⟩ := h
  refine ⟨_, (pss_cons (ps_if (pt_cmpR (gEq hr.units) (pe_ix ix_tup (pe_var (i := 0) rfl vis_term_of_deed db_deed cd_deed) pe_int (fun _ _ => rfl)) pe_str (nomark _)) (pss_one (ps_ret (pe_ix ix_tup (pe_var (i := 0) rfl vis_term_of_deed db_deed cd_deed) pe_int (fun _ _ => rfl)))) pss_nil)
  (pss_one (ps_ret (pe_ix ix_tup (pe_var (i := 0) rfl vis_term_of_deed db_deed cd_deed) pe_int (fun _ _ => rfl))))), ?_⟩
  walk_at "rd"
  cases e with
  | set x t =>
    rw [D.enc] at hd
    obtain ⟨p, x0, x1, x2, rfl, hp, t0, t1, t2⟩ := tup3 hd
    refine ⟨_, rfl, _, SqT.of hp, _, rfl, _, eq_of t0, ?_⟩
    rw [if_pos (show eqS (.str "set") "set" = true from by decide +kernel)]
    exact ⟨_, rfl, _, SqT.of hp, _, rfl, q _ t2⟩
  | ite t b c =>
    rw [D.enc] at hd
    obtain ⟨p, x0, x1, x2, x3, rfl, hp, t0, t1, t2, t3⟩ := tup4 hd
    refine ⟨_, rfl, _, SqT.of hp, _, rfl, _, eq_of t0, ?_⟩
    rw [if_neg (show ¬ eqS (.str "if") "set" = true from by decide +kernel)]
    exact ⟨_, rfl, _, SqT.of hp, _, rfl, q _ t1⟩
  | whl t m b =>
    rw [D.enc] at hd
    obtain ⟨p, x0, x1, x2, x3, rfl, hp, t0, t1, t2, t3⟩ := tup4 hd
    refine ⟨_, rfl, _, SqT.of hp, _, rfl, _, eq_of t0, ?_⟩
    rw [if_neg (show ¬ eqS (.str "while") "set" = true from by decide +kernel)]
    exact ⟨_, rfl, _, SqT.of hp, _, rfl, q _ t1⟩
def D.blocks : D → List (Int × List D)
  | .set _ _ => []
  | .ite _ b c => [(1, b), (2, c)]
  | .whl _ _ b => [(1, b)]
def blkEnc (p : Int × List D) : Dm := .tup [.int p.1, .tup (encB p.2)]
def spBlocksOf : Sp := fun vs H Q _ => ∃ v e, vs = [v] ∧ Dt H v (D.enc e) ∧ ∀ (r : Addr) (H' : Hp) (xs : List V), Same H H' → H r = none → H' r = some (.lst xs) → DtA H' xs (e.blocks.map blkEnc) → Q (.ref r) H'
theorem ok_blocks_of (F : Fun K "blocks_of" "blocks_of" s_blocks_of f fd) : FnOk P w K mg base CX0 1 f fd ["deed"] spBlocksOf := by
  refine F.ok sc_blocks_of (fun vs H Q E h => ?_) (fun cdv A outer s H vs Q E hr h => ?_)
  · obtain ⟨v, d, rfl, _⟩ := h
    rfl
  obtain ⟨v, e, rfl, hd, q⟩ := h
  refine ⟨_, (pss_cons (ps_if (pt_cmpR (gEq hr.units) (pe_ix ix_tup (pe_var (i := 0) rfl vis_blocks_of_deed db_deed cd_deed) pe_int (fun _ _ => rfl)) pe_str (nomark _)) (pss_one (ps_ret (pe_lst (pa_c (pe_tup (pa_c pe_int (pa_c (pe_ix ix_tup (pe_var (i := 0) rfl vis_blocks_of_deed db_deed cd_deed) pe_int (fun _ _ => rfl)) pa_nil))) (pa_c (pe_tup (pa_c pe_int (pa_c (pe_ix ix_tup (pe_var (i := 0) rfl vis_blocks_of_deed db_deed cd_deed) pe_int (fun _ _ => rfl)) pa_nil))) pa_nil))))) pss_nil)
  (pss_cons (ps_if (pt_cmpR (gEq hr.units) (pe_ix ix_tup (pe_var (i := 0) rfl vis_blocks_of_deed db_deed cd_deed) pe_int (fun _ _ => rfl)) pe_str (nomark _)) (pss_one (ps_ret (pe_lst (pa_c (pe_tup (pa_c pe_int (pa_c (pe_ix ix_tup (pe_var (i := 0) rfl vis_blocks_of_deed db_deed cd_deed) pe_int (fun _ _ => rfl)) pa_nil))) pa_nil)))) pss_nil)
  (pss_one (ps_ret (pe_lst pa_nil))))), ?_⟩
  walk_at "rd"
  cases e with
  | set x t =>
    rw [D.enc] at hd
    obtain ⟨p, x0, x1, x2, rfl, hp, t0, t1, t2⟩ := tup3 hd
    refine ⟨_, rfl, _, SqT.of hp, _, rfl, _, eq_of t0, ?_⟩
    rw [if_neg (show ¬ eqS (.str "set") "if" = true from by decide +kernel)]
    refine ⟨_, rfl, _, SqT.of hp, _, rfl, _, eq_of t0, ?_⟩
    rw [if_neg (show ¬ eqS (.str "set") "while" = true from by decide +kernel)]
    exact ⟨Nat.zero_le _, fun r hr' => q r _ [] (same_new hr' _) hr' upd_same .nil⟩
  | ite t b c =>
    rw [D.enc] at hd
    obtain ⟨p, x0, x1, x2, x3, rfl, hp, t0, t1, t2, t3⟩ := tup4 hd
    refine ⟨_, rfl, _, SqT.of hp, _, rfl, _, eq_of t0, ?_⟩
    rw [if_pos (show eqS (.str "if") "if" = true from by decide +kernel)]
    refine ⟨_, rfl, _, SqT.of hp, _, rfl, zl 2 (by decide), fun p1 h1 => ?_⟩
    have s1 := same_new h1 (HO.tup [V.int 1, x2])
    refine ⟨_, rfl, _, SqT.of (s1 _ _ hp), _, rfl, zl 2 (by decide), fun p2 h2 => ⟨zl 2 (by decide), fun r hr' => ?_⟩⟩
    have s2 := same_new h2 (HO.tup [V.int 2, x3])
    have s3 := same_new hr' (HO.lst [V.ref p1, V.ref p2])
    refine q r _ _ (s1.trans (s2.trans s3)) ((s1.trans s2).free hr') upd_same (.cons (.tup (s3 _ _ (s2 _ _ upd_same)) (.cons (.int 1) (.cons (t2.kp (s1.trans (s2.trans s3)).kp) .nil))) (.cons (.tup (s3 _ _ upd_same) (.cons (.int 2) (.cons (t3.kp (s1.trans (s2.trans s3)).kp) .nil))) .nil))
  | whl t m b =>
    rw [D.enc] at hd
    obtain ⟨p, x0, x1, x2, x3, rfl, hp, t0, t1, t2, t3⟩ := tup4 hd
    refine ⟨_, rfl, _, SqT.of hp, _, rfl, _, eq_of t0, ?_⟩
    rw [if_neg (show ¬ eqS (.str "while") "if" = true from by decide +kernel)]
    refine ⟨_, rfl, _, SqT.of hp, _, rfl, _, eq_of t0, ?_⟩
    rw [if_pos (show eqS (.str "while") "while" = true from by decide +kernel)]
    refine ⟨_, rfl, _, SqT.of hp, _, rfl, zl 2 (by decide), fun p1 h1 => ⟨zl 1 (by decide), fun r hr' => ?_⟩⟩
    have s1 := same_new h1 (HO.tup [V.int 1, x3])
    have s3 := same_new hr' (HO.lst [V.ref p1])
    exact q r _ _ (s1.trans s3) (s1.free hr') upd_same (.cons (.tup (s3 _ _ upd_same) (.cons (.int 1) (.cons (t3.kp (s1.trans s3).kp) .nil))) .nil)
/-! names of a sum -/
def T.deep : T → Nat
  | .op _ a b => max a.deep b.deep + 1
  | _ => 1
theorem Wd.ne (w : Wd) : eqS (.str w.str) "num" = false ∧ eqS (.str w.str) "name" = false := by cases w <;> decide +kernel
/-! ### the spots and the deeds, as data -/
abbrev RT := List Int × T
abbrev RD := List Int × D
def rowT (r : RT) : Dm := rowD (r.1, r.2.enc)
def rowE (r : RD) : Dm := rowD (r.1, r.2.enc)
def spotsT (p : List Int) : T → List RT
  | .num i => [(p, .num i)]
  | .nm x => [(p, .nm x)]
  | .op w a b => (p, .op w a b) :: (spotsT (p ++ [0]) a ++ spotsT (p ++ [1]) b)
mutual
def deedsD (p : List Int) : D → List RD
  | .set x t => [(p, .set x t)]
  | .ite t b c => (p, .ite t b c) :: (deedsB (p ++ [1]) 0 b ++ deedsB (p ++ [2]) 0 c)
  | .whl t m b => (p, .whl t m b) :: deedsB (p ++ [1]) 0 b
def deedsB (p : List Int) (k : Int) : List D → List RD
  | [] => []
  | d :: r => deedsD (p ++ [k]) d ++ deedsB p (k + 1) r
end
def flatB (p : List Int) : List (Int × List D) → List RD
  | [] => []
  | q :: r => deedsB (p ++ [q.1]) 0 q.2 ++ flatB p r
theorem deedsD_eq (p : List Int) (d : D) : deedsD p d = (p, d) :: flatB p d.blocks := by
  cases d <;> simp [deedsD, flatB, D.blocks]
theorem flatB_append (p : List Int) : ∀ (a b : List (Int × List D)), flatB p (a ++ b) = flatB p a ++ flatB p b
  | [], b => by simp [flatB]
  | q :: a, b => by rw [List.cons_append, flatB, flatB, flatB_append p a b, List.append_assoc]
theorem deedsB_append (p : List Int) : ∀ (k : Int) (a b : List D), deedsB p k (a ++ b) = deedsB p k a ++ deedsB p (k + a.length) b
  | k, [], b => by simp [deedsB]
  | k, d :: a, b => by
    rw [List.cons_append, deedsB, deedsB, deedsB_append p (k + 1) a b, List.append_assoc, List.length_cons]
    congr 3
    omega
theorem deedsB_snoc (p : List Int) (a : List D) (d : D) : deedsB p 0 (a ++ [d]) = deedsB p 0 a ++ deedsD (p ++ [(a.length : Int)]) d := by
  rw [deedsB_append, deedsB, deedsB, List.append_nil, Int.zero_add]
theorem take_snoc {α : Type} {l : List α} {i : Nat} {x : α} (h : l[i]? = some x) : l.take (i + 1) = l.take i ++ [x] := by
  rw [List.take_add_one, h]; rfl
def bnd : Nat → Nat
  | 0 => 0
  | n + 1 => 6 * (1 + 2 * bnd n)
theorem deedsB_len {n : Nat} (ih : ∀ (b : List D) (p : List Int) (k : Int), okB n b → (deedsB p k b).length ≤ bnd n) : ∀ (b : List D) (p : List Int) (k : Int), (∀ d ∈ b, okD n d) → (deedsB p k b).length ≤ b.length * (1 + 2 * bnd n)
  | [], p, k, _ => by simp [deedsB]
  | d :: b, p, k, h => by
    have h2 := deedsB_len ih b p (k + 1) fun e he => h e (.tail _ he)
    have h1 : (deedsD (p ++ [k]) d).length ≤ 1 + 2 * bnd n := by
      have hd := h d (.head _)
      cases d with
      | set x t => simp [deedsD]
      | ite t b c =>
        have a1 := ih b (p ++ [k] ++ [1]) 0 hd.2.1
        have a2 := ih c (p ++ [k] ++ [2]) 0 hd.2.2
        rw [deedsD, List.length_cons, List.length_append]
        omega
      | whl t m b =>
        have a1 := ih b (p ++ [k] ++ [1]) 0 hd.2.2.2
        rw [deedsD, List.length_cons]
        omega
    rw [deedsB, List.length_append, List.length_cons, Nat.succ_mul]
    omega
theorem deeds_bnd : ∀ (n : Nat) (b : List D) (p : List Int) (k : Int), okB n b → (deedsB p k b).length ≤ bnd n
  | 0, _, _, _, h => h.elim
  | n + 1, b, p, k, h => by
    refine Nat.le_trans (deedsB_len (deeds_bnd n) b p k fun d hd => h.2 d hd) ?_
    exact Nat.mul_le_mul_right _ h.1
theorem bnd_le {n : Nat} (h : n ≤ 3) : bnd n ≤ 942 := by
  match n, h with
  | 0, _ => decide
  | 1, _ => decide
  | 2, _ => decide
  | 3, _ => decide
theorem dtA_mk {H : Hp} : ∀ p : List Int, DtA H (p.map V.int) (p.map Dm.int)
  | [] => .nil
  | i :: p => .cons (.int i) (dtA_mk p)
theorem catP {K : PySem.W.Frag} {H : Hp} {Q : VK} {x y : V} {p q : List Int} (dx : Dt H x (pathD p)) (dy : Dt H y (pathD q)) (hz : p.length + q.length ≤ 1000) (h : ∀ z H', Same H H' → Dt H' z (pathD (p ++ q)) → Q z H') : rCatT2 K x y H Q := by
  obtain ⟨a, xs, rfl, ha, da⟩ := dx.tupI
  obtain ⟨b, ys, rfl, hb, db⟩ := dy.tupI
  have ea := dtA_ints da
  have eb := dtA_ints db
  subst ea eb
  refine ⟨a, b, _, _, rfl, rfl, SqT.of ha, SqT.of hb, ?_, fun e => ?_, fun _ e => ?_, fun _ _ r hr => ?_⟩
  · rw [List.length_map, List.length_map]
    exact Nat.le_of_lt (small1000 hz)
  · have : p = [] := by simpa using e
    subst this
    exact h _ _ (Same.refl _) dy
  · have : q = [] := by simpa using e
    subst this
    rw [List.append_nil] at h
    exact h _ _ (Same.refl _) dx
  · refine h _ _ (same_new hr _) (.tup upd_same ?_)
    rw [← List.map_append]
    exact dtA_mk _
theorem path1 {H : Hp} {r : Addr} {i : Int} : Dt (upd H r (.tup [.int i])) (.ref r) (pathD [i]) := .tup upd_same (.cons (.int i) .nil)
theorem encB_get : ∀ (b : List D) (i : Nat), (encB b)[i]? = (b[i]?).map D.enc
  | [], i => by simp [encB]
  | d :: b, 0 => by simp [encB]
  | d :: b, i + 1 => by simp [encB, encB_get b i]
theorem deed_at {H : Hp} {xs : List V} {b : List D} {i : Nat} {x : V} (h : DtA H xs (encB b)) (hx : xs[i]? = some x) : ∃ d, b[i]? = some d ∧ Dt H x d.enc := by
  obtain ⟨e, he, de⟩ := h.get hx
  rw [encB_get] at he
  cases hb : b[i]? with
  | none => rw [hb] at he; cases he
  | some d =>
    rw [hb] at he
    have : d.enc = e := by simpa using he
    subst this
    exact ⟨d, rfl, de⟩
theorem map_at {α : Type} {f : α → Dm} {H : Hp} {xs : List V} {b : List α} {i : Nat} {x : V} (h : DtA H xs (b.map f)) (hx : xs[i]? = some x) : ∃ d, b[i]? = some d ∧ Dt H x (f d) := by
  obtain ⟨e, he, de⟩ := h.get hx
  rw [List.getElem?_map] at he
  cases hb : b[i]? with
  | none => rw [hb] at he; cases he
  | some d =>
    rw [hb] at he
    have : f d = e := by simpa using he
    subst this
    exact ⟨d, rfl, de⟩
def DInv (H : Hp) (ab : Addr) (pv : V) (p : List Int) (b : List D) (pr : Addr) (i : Nat) (σ : St) (Hc : Hp) : Prop := ∃ (vs : List V) (x3 x4 x5 x6 x7 : Option V), σ = [some (.ref ab), some pv, some (.ref pr), x3, x4, x5, x6, x7] ∧ Same H Hc ∧ Hc pr = some (.lst vs) ∧ DtA Hc vs ((deedsB p 0 (b.take i)).map rowE)
def DInv2 (H H1 : Hp) (rb : Addr) (bs : List V) (ab : Addr) (pv : V) (p : List Int) (b : List D) (pr : Addr) (i : Nat) (d : D) (dv qv : V) (j : Nat) (σ : St) (Hc : Hp) : Prop := ∃ (vs : List V) (x3 x6 x7 : Option V), σ = [some (.ref ab), some pv, some (.ref pr), x3, some dv, some qv, x6, x7] ∧ Same H Hc ∧ Hc pr = some (.lst vs) ∧ DtA Hc vs ((deedsB p 0 (b.take i) ++ (p ++ [(i : Int)], d) :: flatB (p ++ [(i : Int)]) (d.blocks.take j)).map rowE) ∧ Kp H1 Hc ∧ Hc rb = some (.lst bs)
theorem spots_len : ∀ (t : T) (p : List Int), (spotsT p t).length < 2 ^ t.deep
  | .num i, p => by simp [spotsT, T.deep]
  | .nm x, p => by simp [spotsT, T.deep]
  | .op w a b, p => by
    have h1 := spots_len a (p ++ [0])
    have h2 := spots_len b (p ++ [1])
    have g1 : 2 ^ a.deep ≤ 2 ^ max a.deep b.deep := Nat.pow_le_pow_right (by decide) (by omega)
    have g2 : 2 ^ b.deep ≤ 2 ^ max a.deep b.deep := Nat.pow_le_pow_right (by decide) (by omega)
    rw [spotsT, T.deep, List.length_cons, List.length_append, Nat.pow_succ]
    omega
theorem spots_small {t : T} {p : List Int} {n : Nat} (h : t.deep ≤ n) (hn : n ≤ 6) : (spotsT p t).length ≤ 64 := by
  have h1 := spots_len t p
  have h2 : 2 ^ t.deep ≤ 2 ^ 6 := Nat.pow_le_pow_right (by decide) (by omega)
  omega
theorem dinv_end {p : List Int} {b : List D} {i : Nat} {d : D} (h : b[i]? = some d) : deedsB p 0 (b.take (i + 1)) = deedsB p 0 (b.take i) ++ (p ++ [(i : Int)], d) :: flatB (p ++ [(i : Int)]) d.blocks := by
  have hl : i < b.length := (List.getElem?_eq_some_iff.mp h).1
  have e : (b.take i).length = i := by rw [List.length_take]; omega
  rw [take_snoc h, deedsB_snoc, deedsD_eq, e]
theorem blocks_ok {n : Nat} {d : D} {nb : Int × List D} (h : okD n d) (hm : nb ∈ d.blocks) : okB n nb.2 := by
  cases d with
  | set x t => simp [D.blocks] at hm
  | ite t b c =>
    simp only [D.blocks, List.mem_cons, List.not_mem_nil, or_false] at hm
    rcases hm with rfl | rfl
    · exact h.2.1
    · exact h.2.2
  | whl t m b =>
    simp only [D.blocks, List.mem_cons, List.not_mem_nil, or_false] at hm
    subst hm
    exact h.2.2.2
theorem blocks_len (d : D) : d.blocks.length ≤ 2 := by cases d <;> simp [D.blocks]
def upto (d : D) (j : Nat) : List (Int × List D) := match d with
  | .set _ _ => []
  | .ite _ b c => [(1, b), (2, c)].take (j - 2)
  | .whl _ _ b => [(1, b)].take (j - 3)
theorem upto_sub (d : D) (j : Nat) : (∀ q ∈ upto d j, q ∈ d.blocks) ∧ (upto d j).length ≤ 2 := by
  cases d with
  | set x t => exact ⟨fun q h => absurd h (by simp [upto]), by simp [upto]⟩
  | ite t b c => exact ⟨fun q h => List.mem_of_mem_take h, by simp [upto]; omega⟩
  | whl t m b => exact ⟨fun q h => List.mem_of_mem_take h, by simp [upto]; omega⟩
def LInv (H : Hp) (ab : Addr) (pv : V) (p : List Int) (b : List D) (pr : Addr) (i : Nat) (σ : St) (Hc : Hp) : Prop := ∃ (vs : List V) (x3 x4 x5 x6 : Option V), σ = [some (.ref ab), some pv, some (.ref pr), x3, x4, x5, x6] ∧ Same H Hc ∧ Hc pr = some (.lst vs) ∧ DtA Hc vs ((deedsB p 0 (b.take i)).map rowE)
def LInv2 (H : Hp) (ab : Addr) (pv : V) (p : List Int) (b : List D) (pr : Addr) (i : Nat) (d : D) (dv : V) (j : Nat) (σ : St) (Hc : Hp) : Prop := ∃ (vs : List V) (x5 x6 : Option V), σ = [some (.ref ab), some pv, some (.ref pr), some (.int i), some dv, x5, x6] ∧ Same H Hc ∧ Hc pr = some (.lst vs) ∧ DtA Hc vs ((deedsB p 0 (b.take i) ++ (p ++ [(i : Int)], d) :: flatB (p ++ [(i : Int)]) (upto d j)).map rowE)
def D.items : D → List Dm
  | .set x t => [.str "set", .str x, t.enc]
  | .ite t b c => [.str "if", t.enc, .tup (encB b), .tup (encB c)]
  | .whl t m b => [.str "while", t.enc, .int m, .tup (encB b)]
theorem deed_tup {H : Hp} {v : V} {d : D} (h : Dt H v d.enc) : ∃ a xs, v = .ref a ∧ H a = some (.tup xs) ∧ DtA H xs d.items := by
  cases d <;> (rw [D.enc] at h; exact h.tupI)
theorem ok_deep {g : List Str} : ∀ {n : Nat} {t : T}, T.ok g n t → t.deep ≤ n
  | 0, _, h => h.elim
  | n + 1, .num i, _ => by simp [T.deep]
  | n + 1, .nm x, _ => by simp [T.deep]
  | n + 1, .op w a b, h => by
    have h1 := ok_deep h.1
    have h2 := ok_deep h.2
    simp only [T.deep]
    omega
theorem okD_term {n : Nat} {d : D} (h : okD n d) : T.ok pool 5 d.term := by
  cases d with
  | set x t => exact h.2
  | ite t b c => exact h.1
  | whl t m b => exact h.1
theorem rows_step {n : Nat} (ih : ∀ (b : List D) (p : List Int) (k : Int), okB n b → ∀ r ∈ deedsB p k b, r.1.length ≤ p.length + 2 * n ∧ T.ok pool 5 r.2.term) : ∀ (b : List D) (p : List Int) (k : Int), (∀ d ∈ b, okD n d) → ∀ r ∈ deedsB p k b, r.1.length ≤ p.length + 2 * (n + 1) ∧ T.ok pool 5 r.2.term
  | [], p, k, _, r, hr => by simp [deedsB] at hr
  | d :: b, p, k, h, r, hr => by
    rw [deedsB, List.mem_append] at hr
    rcases hr with hr | hr
    · have hd := h d (.head _)
      rw [deedsD_eq, List.mem_cons] at hr
      rcases hr with rfl | hr
      · exact ⟨by simp; omega, okD_term hd⟩
      · have key : ∀ l : List (Int × List D), (∀ q ∈ l, q ∈ d.blocks) → r ∈ flatB (p ++ [k]) l → r.1.length ≤ p.length + 2 * (n + 1) ∧ T.ok pool 5 r.2.term := by
          intro l
          induction l with
          | nil => intro _ hr; simp [flatB] at hr
          | cons q l ihl =>
            intro hl hr
            rw [flatB, List.mem_append] at hr
            rcases hr with hr | hr
            · have := ih q.2 (p ++ [k] ++ [q.1]) 0 (blocks_ok hd (hl q (.head _))) r hr
              exact ⟨by have := this.1; simp at this; omega, this.2⟩
            · exact ihl (fun z hz => hl z (.tail _ hz)) hr
        exact key d.blocks (fun _ z => z) hr
    · exact rows_step ih b p (k + 1) (fun e he => h e (.tail _ he)) r hr
theorem deeds_rows : ∀ (n : Nat) (b : List D) (p : List Int) (k : Int), okB n b → ∀ r ∈ deedsB p k b, r.1.length ≤ p.length + 2 * n ∧ T.ok pool 5 r.2.term
  | 0, _, _, _, h => h.elim
  | n + 1, b, p, k, h => rows_step (deeds_rows n) b p k h.2
def spotsR : List RD → List RT
  | [] => []
  | r :: l => spotsT (r.1 ++ [0]) r.2.term ++ spotsR l
theorem spotsR_append : ∀ (a b : List RD), spotsR (a ++ b) = spotsR a ++ spotsR b
  | [], b => by simp [spotsR]
  | r :: a, b => by rw [List.cons_append, spotsR, spotsR, spotsR_append a b, List.append_assoc]
theorem spotsR_len : ∀ (l : List RD), (∀ r ∈ l, T.ok pool 5 r.2.term) → (spotsR l).length ≤ l.length * 64
  | [], _ => by simp [spotsR]
  | r :: l, h => by
    have h1 := spots_small (p := r.1 ++ [0]) (ok_deep (h r (.head _))) (by decide : 5 ≤ 6)
    have h2 := spotsR_len l fun z hz => h z (.tail _ hz)
    rw [spotsR, List.length_append, List.length_cons, Nat.succ_mul]
    omega
theorem zz5 {n : Nat} (h : n ≤ 200000) : n ≤ sizeLine := Nat.le_trans h (by decide)
def deedsP (b : List D) : List RD := deedsB [] 0 b
def spotsP (b : List D) : List RT := spotsR (deedsP b)
def SInv (H : Hp) (v : V) (ds : List RD) (ra : Addr) (us : List V) (pr : Addr) (i : Nat) (σ : St) (Hc : Hp) : Prop := ∃ (vs : List V) (x2 x3 : Option V), σ = [some v, some (.ref pr), x2, x3] ∧ Same H Hc ∧ Hc pr = some (.lst vs) ∧ DtA Hc vs ((spotsR (ds.take i)).map rowT) ∧ Hc ra = some (.lst us) ∧ DtA Hc us (ds.map rowE)
theorem tFor_enumT {K : PySem.W.Frag} {ta : TA} {g : TG} {tb : TS} {D : Ends} {σ : St} {H : Hp} : tFor (iEnumT K ta) g tb D σ H = ta σ H fun vs H1 => ∃ a, vs = [.ref a] ∧ (∃ xs, SqT K H1 a xs) ∧ ForW (IteT K a) g tb D σ H1 := rfl
end
end SR


set_option Elab.async false
set_option linter.all false
set_option maxRecDepth 100000
set_option maxHeartbeats 0
namespace SR
open PySem L2
local macro_rules | `(tactic| walk_at "rd") => `(tactic| simp only [tSeq, tIfS, tTest, tOp, tVar, tC, tAsg, gName, gTup, gCons, gNil, tRet, tRetN, tDrop, tNext, tCB, tCons, tNil, tCall, tUn, rU, rI0, rI, tAnd, tOr, tNot, tB, tAndV, tOrV, tNotV, tIf, tIfT, tKGet, tChain, tDGet, tDGet1, sDPut, tDNewK, tDisp, tPairs, tCont, tSl, tNoPart, tPart, rSlT, tChain3, qSortS, qEqDL, qNeDL, tFor_enum, tFor_zip, tFor_rng2, tComp_seq, qSetI, qSortSet, cxOf_prog, cxOf_w, cxOf_nox_prog, cxOf_nox_w, cxOf_mg, cxOf_base, cxOf_nox_mg, cxOf_nox_base, cxComp_prog, cxComp_w, cxComp_mg, cxComp_base, tComp_zipT, tCallL, rSlA, rSlL, tDX, tDXs, tTup, tLst, tBM,
  qEq, qNe, qIn, qNotIn, qIsN, qNotN, qIsB, qNotB, qLen, qInst, qEqD, qNeD, qMinL, qMaxL, qSortI, rIx, rIxL, rIxT, rIxS, rCat, rCatT2, rRep, rRepT, rLeS, rLtS, rAppend, rExtend, tNever, tBreak, tYes,
  tFor_tup, tFor_list, tFor_rng1, tComp_tup, tComp_list, tComp_str, L2.start, cxOf_K, cxOf_nox_K, cxComp_K, List.map_cons, List.map_nil, List.length_cons, List.length_nil, List.replicate_succ, List.replicate_zero, Nat.reduceAdd, Nat.reduceSub, Nat.zero_add, Nat.add_zero, Nat.sub_zero, Nat.sub_self, Nat.add_sub_cancel,
  List.getElem?_cons_zero, List.getElem?_cons_succ, List.set_cons_zero, List.set_cons_succ, List.cons_append, List.nil_append, List.append_nil, List.cons.injEq, Option.some.injEq, V.int.injEq, V.ref.injEq, V.str.injEq, V.bl.injEq, V.ty.injEq,
  reduceCtorEq, false_and, and_false, and_true, true_and, exists_false, exists_const, false_or, or_false, exists_eq_left, exists_eq_left', exists_eq_right, exists_eq_right', exists_and_left, decide_eq_true_eq, Bool.not_eq_true', Bool.decide_eq_true, exists_eq, true_or, or_true, Bool.false_eq_true, if_true, if_false, Bool.true_eq_false, Bool.not_true, Bool.not_false, decide_true, decide_false, List.isEmpty_cons, List.isEmpty_nil, Bool.true_and, Bool.false_and, bne_self_eq_false, beq_self_eq_true])
section
variable {P : Program} {w : World} {K : PySem.W.Frag} {mg : Str → Option Value} {base : Heap} {f : Addr} {fd : FuncData}
/-! ### wider blocks: what peeling makes -/
def okW : Nat → List D → Prop
  | 0, _ => False
  | n + 1, b => b.length ≤ 7 ∧ ∀ d ∈ b, match d with
    | .set x t => x ∈ pool ∧ t.ok pool 5
    | .ite t b c => t.ok pool 5 ∧ okW n b ∧ okW n c
    | .whl t m b => t.ok pool 5 ∧ okW n b
abbrev okWD (n : Nat) (d : D) : Prop := match d with
  | .set x t => x ∈ pool ∧ t.ok pool 5
  | .ite t b c => t.ok pool 5 ∧ okW n b ∧ okW n c
  | .whl t m b => t.ok pool 5 ∧ okW n b
theorem okW_of : ∀ {n : Nat} {b : List D}, okB n b → okW n b
  | 0, _, h => h.elim
  | n + 1, b, h => ⟨Nat.le_trans h.1 (by decide), fun d hd => by
    have := h.2 d hd
    cases d with
    | set x t => exact this
    | ite t b c => exact ⟨this.1, okW_of this.2.1, okW_of this.2.2⟩
    | whl t m b => exact ⟨this.1, okW_of this.2.2.2⟩⟩
theorem okWD_of {n : Nat} {d : D} (h : okD n d) : okWD n d := by
  cases d with
  | set x t => exact h
  | ite t b c => exact ⟨h.1, okW_of h.2.1, okW_of h.2.2⟩
  | whl t m b => exact ⟨h.1, okW_of h.2.2.2⟩
theorem okW_up : ∀ {n : Nat} {b : List D}, okW n b → okW (n + 1) b
  | 0, _, h => h.elim
  | n + 1, b, h => ⟨h.1, fun d hd => by
    have := h.2 d hd
    cases d with
    | set x t => exact this
    | ite t b c => exact ⟨this.1, okW_up this.2.1, okW_up this.2.2⟩
    | whl t m b => exact ⟨this.1, okW_up this.2⟩⟩
theorem okWD_up {n : Nat} {d : D} (h : okWD n d) : okWD (n + 1) d := by
  cases d with
  | set x t => exact h
  | ite t b c => exact ⟨h.1, okW_up h.2.1, okW_up h.2.2⟩
  | whl t m b => exact ⟨h.1, okW_up h.2⟩
def bndW : Nat → Nat
  | 0 => 0
  | n + 1 => 7 * (1 + 2 * bndW n)
theorem deedsW_len {n : Nat} (ih : ∀ (b : List D) (p : List Int) (k : Int), okW n b → (deedsB p k b).length ≤ bndW n) : ∀ (b : List D) (p : List Int) (k : Int), (∀ d ∈ b, okWD n d) → (deedsB p k b).length ≤ b.length * (1 + 2 * bndW n)
  | [], p, k, _ => by simp [deedsB]
  | d :: b, p, k, h => by
    have h2 := deedsW_len ih b p (k + 1) fun e he => h e (.tail _ he)
    have h1 : (deedsD (p ++ [k]) d).length ≤ 1 + 2 * bndW n := by
      have hd := h d (.head _)
      cases d with
      | set x t => simp [deedsD]
      | ite t b c =>
        have a1 := ih b (p ++ [k] ++ [1]) 0 hd.2.1
        have a2 := ih c (p ++ [k] ++ [2]) 0 hd.2.2
        rw [deedsD, List.length_cons, List.length_append]
        omega
      | whl t m b =>
        have a1 := ih b (p ++ [k] ++ [1]) 0 hd.2
        rw [deedsD, List.length_cons]
        omega
    rw [deedsB, List.length_append, List.length_cons, Nat.succ_mul]
    omega
theorem deedsW_bnd : ∀ (n : Nat) (b : List D) (p : List Int) (k : Int), okW n b → (deedsB p k b).length ≤ bndW n
  | 0, _, _, _, h => h.elim
  | n + 1, b, p, k, h => by
    refine Nat.le_trans (deedsW_len (deedsW_bnd n) b p k fun d hd => h.2 d hd) ?_
    exact Nat.mul_le_mul_right _ h.1
theorem bndW_le {n : Nat} (h : n ≤ 4) : bndW n ≤ 22155 := by
  match n, h with
  | 0, _ => decide
  | 1, _ => decide
  | 2, _ => decide
  | 3, _ => decide
  | 4, _ => decide
theorem bndW_le3 {n : Nat} (h : n ≤ 3) : bndW n ≤ 1582 := by
  match n, h with
  | 0, _ => decide
  | 1, _ => decide
  | 2, _ => decide
  | 3, _ => decide
theorem deedsW_take {n : Nat} {b : List D} (h : okW (n + 1) b) {i : Nat} (p : List Int) : (deedsB p 0 (b.take i)).length ≤ bndW (n + 1) := by
  refine deedsW_bnd (n + 1) _ p 0 ⟨?_, fun d hd => h.2 d (List.mem_of_mem_take hd)⟩
  rw [List.length_take]
  have := h.1
  omega
theorem blocksW_ok {n : Nat} {d : D} {nb : Int × List D} (h : okWD n d) (hm : nb ∈ d.blocks) : okW n nb.2 := by
  cases d with
  | set x t => simp [D.blocks] at hm
  | ite t b c =>
    simp only [D.blocks, List.mem_cons, List.not_mem_nil, or_false] at hm
    rcases hm with rfl | rfl
    · exact h.2.1
    · exact h.2.2
  | whl t m b =>
    simp only [D.blocks, List.mem_cons, List.not_mem_nil, or_false] at hm
    subst hm
    exact h.2
theorem flatW_len {n : Nat} (p : List Int) : ∀ (l : List (Int × List D)), (∀ q ∈ l, okW n q.2) → (flatB p l).length ≤ l.length * bndW n
  | [], _ => by simp [flatB]
  | q :: l, h => by
    have h1 := deedsW_bnd n q.2 (p ++ [q.1]) 0 (h q (.head _))
    have h2 := flatW_len p l fun r hr => h r (.tail _ hr)
    rw [flatB, List.length_append, List.length_cons, Nat.succ_mul]
    omega
theorem partW_len {n : Nat} {d : D} (h : okWD n d) (hn : n + 1 ≤ 4) (p : List Int) (l : List (Int × List D)) (hl : ∀ q ∈ l, q ∈ d.blocks) (h2 : l.length ≤ 2) : (flatB p l).length ≤ 3164 := by
  have h1 := flatW_len (n := n) p l fun q hq => blocksW_ok h (hl q hq)
  have h3 := bndW_le3 (n := n) (by omega)
  have : l.length * bndW n ≤ 2 * 1582 := Nat.mul_le_mul h2 h3
  omega
theorem zzlt {n : Nat} (h : n ≤ 200000) : n < sizeLine := Nat.lt_of_le_of_lt h (by decide)
def D.kind : D → Str
  | .set _ _ => "set"
  | .ite _ _ _ => "if"
  | .whl _ _ _ => "while"
theorem deed_tupK {H : Hp} {v : V} {d : D} (h : Dt H v d.enc) : ∃ a xs, v = .ref a ∧ H a = some (.tup (.str d.kind :: xs)) ∧ DtA H (.str d.kind :: xs) d.items := by
  obtain ⟨a, xs, e, ha, dx⟩ := deed_tup h
  have key : ∃ ys, xs = .str d.kind :: ys := by
    cases d <;> (cases dx with | cons e0 _ => cases e0; exact ⟨_, rfl⟩)
  obtain ⟨ys, rfl⟩ := key
  exact ⟨a, ys, e, ha, dx⟩
theorem part_cases (d : D) (j : Nat) (dj : Dm) (h : d.items[j]? = some dj) : (d.kind = "set" ∧ upto d (j + 1) = upto d j) ∨ (d.kind ≠ "set" ∧ ¬ (j : Int) > 1 ∧ upto d (j + 1) = upto d j) ∨ (d.kind ≠ "set" ∧ (j : Int) > 1 ∧ isT dj = false ∧ upto d (j + 1) = upto d j) ∨
    (d.kind ≠ "set" ∧ (j : Int) > 1 ∧ isT dj = true ∧ ∃ nb : Int × List D, dj = .tup (encB nb.2) ∧ upto d (j + 1) = upto d j ++ [nb] ∧ nb ∈ d.blocks ∧ ((d.kind = "if" ∧ nb.1 = (j : Int) - 1) ∨ (d.kind ≠ "if" ∧ nb.1 = 1))) := by
  cases d with
  | set x t => exact .inl ⟨rfl, rfl⟩
  | ite t b c =>
    have hk : (D.ite t b c).kind ≠ "set" := show ("if" : Str) ≠ "set" by decide +kernel
    match j, h with
    | 0, _ => exact .inr (.inl ⟨hk, by decide, rfl⟩)
    | 1, _ => exact .inr (.inl ⟨hk, by decide, rfl⟩)
    | 2, h =>
      cases h
      exact .inr (.inr (.inr ⟨hk, by decide, rfl, (1, b), rfl, rfl, by simp [D.blocks], .inl ⟨rfl, rfl⟩⟩))
    | 3, h =>
      cases h
      exact .inr (.inr (.inr ⟨hk, by decide, rfl, (2, c), rfl, rfl, by simp [D.blocks], .inl ⟨rfl, rfl⟩⟩))
    | j + 4, h => simp [D.items] at h
  | whl t m b =>
    have hk : (D.whl t m b).kind ≠ "set" := show ("while" : Str) ≠ "set" by decide +kernel
    have hi : (D.whl t m b).kind ≠ "if" := show ("while" : Str) ≠ "if" by decide +kernel
    match j, h with
    | 0, _ => exact .inr (.inl ⟨hk, by decide, rfl⟩)
    | 1, _ => exact .inr (.inl ⟨hk, by decide, rfl⟩)
    | 2, h =>
      cases h
      exact .inr (.inr (.inl ⟨hk, by decide, rfl, rfl⟩))
    | 3, h =>
      cases h
      exact .inr (.inr (.inr ⟨hk, by decide, rfl, (1, b), rfl, rfl, by simp [D.blocks], .inr ⟨hi, rfl⟩⟩))
    | j + 4, h => simp [D.items] at h
end
end SR


set_option Elab.async false
set_option linter.all false
set_option maxRecDepth 100000
set_option maxHeartbeats 0
namespace SR
open PySem L2
local macro_rules | `(tactic| walk_at "rd") => `(tactic| simp only [tSeq, tIfS, tTest, tOp, tVar, tC, tAsg, gName, gTup, gCons, gNil, tRet, tRetN, tDrop, tNext, tCB, tCons, tNil, tCall, tUn, rU, rI0, rI, tAnd, tOr, tNot, tB, tAndV, tOrV, tNotV, tIf, tIfT, tKGet, tChain, tDGet, tDGet1, sDPut, tDNewK, tDisp, tPairs, tCont, tSl, tNoPart, tPart, rSlT, tChain3, qSortS, qEqDL, qNeDL, tFor_enum, tFor_zip, tFor_rng2, tComp_seq, qSetI, qSortSet, cxOf_prog, cxOf_w, cxOf_nox_prog, cxOf_nox_w, cxOf_mg, cxOf_base, cxOf_nox_mg, cxOf_nox_base, cxComp_prog, cxComp_w, cxComp_mg, cxComp_base, tComp_zipT, tCallL, rSlA, rSlL, tDX, tDXs, tTup, tLst, tBM,
  qEq, qNe, qIn, qNotIn, qIsN, qNotN, qIsB, qNotB, qLen, qInst, qEqD, qNeD, qMinL, qMaxL, qSortI, rIx, rIxL, rIxT, rIxS, rCat, rCatT2, rRep, rRepT, rLeS, rLtS, rAppend, rExtend, tNever, tBreak, tYes,
  tFor_tup, tFor_list, tFor_rng1, tComp_tup, tComp_list, tComp_str, L2.start, cxOf_K, cxOf_nox_K, cxComp_K, List.map_cons, List.map_nil, List.length_cons, List.length_nil, List.replicate_succ, List.replicate_zero, Nat.reduceAdd, Nat.reduceSub, Nat.zero_add, Nat.add_zero, Nat.sub_zero, Nat.sub_self, Nat.add_sub_cancel,
  List.getElem?_cons_zero, List.getElem?_cons_succ, List.set_cons_zero, List.set_cons_succ, List.cons_append, List.nil_append, List.append_nil, List.cons.injEq, Option.some.injEq, V.int.injEq, V.ref.injEq, V.str.injEq, V.bl.injEq, V.ty.injEq,
  reduceCtorEq, false_and, and_false, and_true, true_and, exists_false, exists_const, false_or, or_false, exists_eq_left, exists_eq_left', exists_eq_right, exists_eq_right', exists_and_left, decide_eq_true_eq, Bool.not_eq_true', Bool.decide_eq_true, exists_eq, true_or, or_true, Bool.false_eq_true, if_true, if_false, Bool.true_eq_false, Bool.not_true, Bool.not_false, decide_true, decide_false, List.isEmpty_cons, List.isEmpty_nil, Bool.true_and, Bool.false_and, bne_self_eq_false, beq_self_eq_true])
local macro_rules | `(tactic| walk_at "rd3") => `(tactic| simp only [tSeq, tIfS, tTest, tOp, tVar, tC, tAsg, gName, gTup, gCons, gNil, tRet, tRetN, tDrop, tNext, tCB, tCons, tNil, tCall, tUn, rU, rI0, rI, tAnd, tOr, tNot, tB, tAndV, tOrV, tNotV, tIf, tIfT, tKGet, tChain, tDGet, tDGet1, sDPut, tDNewK, tDisp, tPairs, tCont, tSl, tNoPart, tPart, rSlT, tChain3, qSortS, qEqDL, qNeDL, tFor_enum, tFor_enumT, tFor_zip, tFor_rng2, tComp_seq,  cxOf_prog, cxOf_w, cxOf_nox_prog, cxOf_nox_w, cxOf_mg, cxOf_base, cxOf_nox_mg, cxOf_nox_base, cxComp_prog, cxComp_w, cxComp_mg, cxComp_base, tComp_zipT, tCallL, rSlA, rSlL, tDX, tDXs, tTup, tLst, tBM,
  qEq, qNe, qIn, qNotIn, qIsN, qNotN, qIsB, qNotB, qLen, qInst, qEqD, qNeD, qMinL, qMaxL, qSortI, rIx, rIxL, rIxT, rIxS, rCat, rRep, rRepT, rLeS, rLtS, rAppend, rExtend, tNever, tBreak, tYes,
  tFor_tup, tFor_list, tFor_rng1, tComp_tup, tComp_list, tComp_str, L2.start, cxOf_K, cxOf_nox_K, cxComp_K, List.map_cons, List.map_nil, List.length_cons, List.length_nil, List.replicate_succ, List.replicate_zero, Nat.reduceAdd, Nat.reduceSub, Nat.zero_add, Nat.add_zero, Nat.sub_zero, Nat.sub_self, Nat.add_sub_cancel,
  List.getElem?_cons_zero, List.getElem?_cons_succ, List.set_cons_zero, List.set_cons_succ, List.cons_append, List.nil_append, List.append_nil, List.cons.injEq, Option.some.injEq, V.int.injEq, V.ref.injEq, V.str.injEq, V.bl.injEq, V.ty.injEq,
  reduceCtorEq, false_and, and_false, and_true, true_and, exists_false, exists_const, false_or, or_false, exists_eq_left, exists_eq_left', exists_eq_right, exists_eq_right', exists_and_left, decide_eq_true_eq, Bool.not_eq_true', Bool.decide_eq_true, exists_eq, true_or, or_true, Bool.false_eq_true, if_true, if_false, Bool.true_eq_false, Bool.not_true, Bool.not_false, decide_true, decide_false, List.isEmpty_cons, List.isEmpty_nil, Bool.true_and, Bool.false_and, bne_self_eq_false, beq_self_eq_true])
section
variable {P : Program} {w : World} {K : PySem.W.Frag} {mg : Str → Option Value} {base : Heap} {f : Addr} {fd : FuncData}
def spSpots (n : Nat) : Sp := fun vs H Q _ => ∃ v t pv p, vs = [v, pv] ∧ Dt H v (T.enc t) ∧ Dt H pv (pathD p) ∧ t.deep ≤ n ∧ n ≤ 6 ∧ p.length + n ≤ 100 ∧ ∀ (r : Addr) (H' : Hp) (xs : List V), Same H H' → H r = none → H' r = some (.lst xs) → DtA H' xs ((spotsT p t).map rowT) → Q (.ref r) H'
theorem ok_spots_of_term {n : Nat} (F : Fun K "spots_of_term" "spots_of_term" s_spots_of_term f fd) (c_spots_of_term : Callee P w K mg base "spots_of_term" ["term", "path"] (n + 1) (spSpots n)) : FnOk P w K mg base CX0 (n + 2) f fd ["term", "path"] (spSpots (n + 1)) := by
  refine F.ok sc_spots_of_term (fun vs H Q E h => ?_) (fun cdv A outer s H vs Q E hr h => ?_)
  · obtain ⟨v, t, pv, p, rfl, _⟩ := h
    rfl
  obtain ⟨v, t, pv, p, rfl, hd, hp, hn, hn6, hl, q⟩ := h
  refine ⟨_, (pss_cons (ps_if (PW.pt (pw_or (pt_cmpR (gEq hr.units) (pe_ix ix_tup (pe_var (i := 0) rfl vis_spots_of_term_term db_term cd_term) pe_int (fun _ _ => rfl)) pe_str (nomark _)) (pw_or1 (pt_cmpR (gEq hr.units) (pe_ix ix_tup (pe_var (i := 0) rfl vis_spots_of_term_term db_term cd_term) pe_int (fun _ _ => rfl)) pe_str (nomark _))))) (pss_one (ps_ret (pe_lst (pa_c (pe_tup (pa_c (pe_var (i := 1) rfl vis_spots_of_term_path db_path cd_path) (pa_c (pe_var (i := 0) rfl vis_spots_of_term_term db_term cd_term) pa_nil))) pa_nil)))) pss_nil)
  (pss_one (ps_ret (pe_op op_cat (pe_op op_cat (pe_lst (pa_c (pe_tup (pa_c (pe_var (i := 1) rfl vis_spots_of_term_path db_path cd_path) (pa_c (pe_var (i := 0) rfl vis_spots_of_term_term db_term cd_term) pa_nil))) pa_nil)) (pe_cc c_spots_of_term hr (by omega) (pa_c (pe_ix ix_tup (pe_var (i := 0) rfl vis_spots_of_term_term db_term cd_term) pe_int (fun _ _ => rfl)) (pa_c (pe_op op_catT2 (pe_var (i := 1) rfl vis_spots_of_term_path db_path cd_path) (pe_tup (pa_c pe_int pa_nil))) pa_nil)) gl_spots_of_term_spots_of_term db_spots_of_term)) (pe_cc c_spots_of_term hr (by omega) (pa_c (pe_ix ix_tup (pe_var (i := 0) rfl vis_spots_of_term_term db_term cd_term) pe_int (fun _ _ => rfl)) (pa_c (pe_op op_catT2 (pe_var (i := 1) rfl vis_spots_of_term_path db_path cd_path) (pe_tup (pa_c pe_int pa_nil))) pa_nil)) gl_spots_of_term_spots_of_term db_spots_of_term))))), ?_⟩
  walk_at "rd3"
  have leaf : (spotsT p t = [(p, t)]) → 2 ≤ sizeLine ∧ ∀ (r : Addr), H r = none → 1 ≤ sizeLine ∧ ∀ (r1 : Addr), upd H r (HO.tup [pv, v]) r1 = none → Q (V.ref r1) (upd (upd H r (HO.tup [pv, v])) r1 (HO.lst [V.ref r])) := fun e => by
    refine ⟨zl 2 (by decide), fun r h1 => ⟨zl 1 (by decide), fun r1 h2 => ?_⟩⟩
    have s1 := same_new h1 (HO.tup [pv, v])
    have s2 := same_new h2 (HO.lst [V.ref r])
    refine q r1 _ _ (s1.trans s2) (s1.free h2) upd_same ?_
    rw [e]
    exact .cons (.tup (s2 _ _ upd_same) (.cons (hp.kp (s1.trans s2).kp) (.cons (hd.kp (s1.trans s2).kp) .nil))) .nil
  have hdv := hd
  cases t with
  | num i =>
    rw [T.enc] at hd
    obtain ⟨a, x0, x1, rfl, ha, t0, t1⟩ := tup2 hd
    refine ⟨_, rfl, _, SqT.of ha, _, rfl, _, eq_of t0, ?_⟩
    rw [if_pos (show eqS (.str "num") "num" = true from by decide +kernel)]
    exact leaf rfl
  | nm x =>
    rw [T.enc] at hd
    obtain ⟨a, x0, x1, rfl, ha, t0, t1⟩ := tup2 hd
    refine ⟨_, rfl, _, SqT.of ha, _, rfl, _, eq_of t0, ?_⟩
    rw [if_neg (show ¬ eqS (.str "name") "num" = true from by decide +kernel)]
    refine ⟨_, rfl, _, SqT.of ha, _, rfl, _, eq_of t0, ?_⟩
    rw [if_pos (show eqS (.str "name") "name" = true from by decide +kernel)]
    exact leaf rfl
  | op wd ta tb =>
    rw [T.enc] at hd
    obtain ⟨a, x0, x1, x2, rfl, ha, t0, t1, t2⟩ := tup3 hd
    refine ⟨_, rfl, _, SqT.of ha, _, rfl, _, eq_of t0, ?_⟩
    rw [if_neg (by rw [wd.ne.1]; decide)]
    refine ⟨_, rfl, _, SqT.of ha, _, rfl, _, eq_of t0, ?_⟩
    rw [if_neg (by rw [wd.ne.2]; decide)]
    have hab : ta.deep ≤ n ∧ tb.deep ≤ n := by
      simp only [T.deep] at hn
      omega
    refine ⟨zl 2 (by decide), fun r h1 => ⟨zl 1 (by decide), fun r1 h2 => ?_⟩⟩
    have s1 := same_new h1 (HO.tup [pv, V.ref a])
    have s2 := same_new h2 (HO.lst [V.ref r])
    have s02 := s1.trans s2
    have f1 : H r1 = none := s1.free h2
    have hr1 : (upd (upd H r (HO.tup [pv, V.ref a])) r1 (HO.lst [V.ref r])) r1 = some (.lst [V.ref r]) := upd_same
    have row : Dt (upd (upd H r (HO.tup [pv, V.ref a])) r1 (HO.lst [V.ref r])) (.ref r) (rowT (p, .op wd ta tb)) := .tup (s2 _ _ upd_same) (.cons (hp.kp s02.kp) (.cons (hdv.kp s02.kp) .nil))
    generalize upd (upd H r (HO.tup [pv, V.ref a])) r1 (HO.lst [V.ref r]) = U at s2 s02 hr1 row ⊢
    refine ⟨_, rfl, _, SqT.of (s02 _ _ ha), _, rfl, zl 1 (by decide), fun r3 h3 => ?_⟩
    have s3 := same_new h3 (HO.tup [V.int 0])
    refine catP (hp.kp (s02.trans s3).kp) path1 (by simp; omega) fun z H1 s4 dz => ?_
    have s24 := s3.trans s4
    refine ⟨x1, ta, z, p ++ [0], rfl, t1.kp (s02.trans s24).kp, dz, hab.1, by omega, by simp; omega, fun r4 H2 ys s5 f5 h5 d5 => ?_⟩
    walk_at "rd3"
    have s25 := s24.trans s5
    have l1 := spots_small (p := p ++ [0]) hab.1 (by omega : n ≤ 6)
    have l2 := spots_small (p := p ++ [1]) hab.2 (by omega : n ≤ 6)
    have e5 : ys.length = (spotsT (p ++ [0]) ta).length := by rw [d5.length, List.length_map]
    refine ⟨_, s25 _ _ hr1, _, h5, Nat.le_of_lt (small1000 (by rw [e5, List.length_singleton]; omega)), fun r6 h6 => ?_⟩
    have s6 := same_new h6 (HO.lst ([V.ref r] ++ ys))
    have s26 := s25.trans s6
    have hr6 : (upd H2 r6 (HO.lst ([V.ref r] ++ ys))) r6 = some (.lst ([V.ref r] ++ ys)) := upd_same
    have d6 : DtA (upd H2 r6 (HO.lst ([V.ref r] ++ ys))) ([V.ref r] ++ ys) ((p, T.op wd ta tb) :: spotsT (p ++ [0]) ta |>.map rowT) := .cons (row.kp s26.kp) (d5.kp s6.kp)
    generalize upd H2 r6 (HO.lst ([V.ref r] ++ ys)) = U2 at s6 s26 hr6 d6 ⊢
    refine ⟨_, SqT.of ((s02.trans s26) _ _ ha), _, rfl, zl 1 (by decide), fun r7 h7 => ?_⟩
    have s7 := same_new h7 (HO.tup [V.int 1])
    refine catP (hp.kp ((s02.trans s26).trans s7).kp) path1 (by simp; omega) fun z2 H3 s8 dz2 => ?_
    have s78 := s7.trans s8
    refine ⟨x2, tb, z2, p ++ [1], rfl, t2.kp ((s02.trans s26).trans s78).kp, dz2, hab.2, by omega, by simp; omega, fun r9 H4 zs s9 f9 h9 d9 => ?_⟩
    walk_at "rd3"
    have s79 := s78.trans s9
    have e9 : zs.length = (spotsT (p ++ [1]) tb).length := by rw [d9.length, List.length_map]
    refine ⟨_, s79 _ _ hr6, _, h9, Nat.le_of_lt (small1000 (by rw [List.length_append, e5, e9, List.length_singleton]; omega)), fun r10 h10 => ?_⟩
    have s10 := same_new h10 (HO.lst (([V.ref r] ++ ys) ++ zs))
    refine q r10 _ _ ((s02.trans s26).trans (s79.trans s10)) (((s02.trans s26).trans s79).free h10) upd_same ?_
    rw [spotsT, ← List.cons_append, List.map_append]
    exact (d6.kp (s79.trans s10).kp).append (d9.kp s10.kp)
def spDeeds (n : Nat) : Sp := fun vs H Q _ => ∃ v b pv p, vs = [v, pv] ∧ Dt H v (.tup (encB b)) ∧ Dt H pv (pathD p) ∧ okW n b ∧ n ≤ 4 ∧ p.length + 2 * n ≤ 100 ∧ ∀ (r : Addr) (H' : Hp) (xs : List V), Same H H' → H r = none → H' r = some (.lst xs) → DtA H' xs ((deedsB p 0 b).map rowE) → Q (.ref r) H'
theorem ok_deeds_of_block {n : Nat} (F : Fun K "deeds_of_block" "deeds_of_block" s_deeds_of_block f fd) (b_enumerate : mg "enumerate" = none) (c_blocks_of : Callee P w K mg base "blocks_of" ["deed"] 1 spBlocksOf) (c_deeds_of_block : Callee P w K mg base "deeds_of_block" ["block", "path"] (n + 2) (spDeeds n)) : FnOk P w K mg base CX0 (n + 3) f fd ["block", "path"] (spDeeds (n + 1)) := by
  refine F.ok sc_deeds_of_block (fun vs H Q E h => ?_) (fun cdv A outer s H vs Q E hr h => ?_)
  · obtain ⟨v, t, pv, p, rfl, _⟩ := h
    rfl
  obtain ⟨v, b, pv, p, rfl, hd, hp, hok, hn, hl, q⟩ := h
  refine ⟨_, (pss_cons (ps_set (i := 2) sc_deeds_of_block.nd rfl loc_deeds_of_block_rows (pe_lst pa_nil) (swaps_plain rfl))
  (pss_cons (ps_for PassesOwn.never rfl (pi_enumT gl_deeds_of_block_enumerate b_enumerate (pa_c (pe_var (i := 0) rfl vis_deeds_of_block_block db_block cd_block) pa_nil)) (pg_tup (n := 2) rfl (pgs_cons (pg_name (i := 3) sc_deeds_of_block.nd rfl loc_deeds_of_block_at) (pgs_cons (pg_name (i := 4) sc_deeds_of_block.nd rfl loc_deeds_of_block_deed) pgs_nil)))
  (pss_cons (ps_set (i := 5) sc_deeds_of_block.nd rfl loc_deeds_of_block_deed_path (pe_op op_catT2 (pe_var (i := 1) rfl vis_deeds_of_block_path db_path cd_path) (pe_tup (pa_c (pe_var (i := 3) rfl vis_deeds_of_block_at db_at cd_at) pa_nil))) (swaps_plain rfl))
  (pss_cons (ps_expr (pe_bm PySem.F.plainAttrs_list PySem.F.slot_list_append PySem.F.type_list_append mt_append (pe_var (i := 2) rfl vis_deeds_of_block_rows db_rows cd_rows) (pa_c (pe_tup (pa_c (pe_var (i := 5) rfl vis_deeds_of_block_deed_path db_deed_path cd_deed_path) (pa_c (pe_var (i := 4) rfl vis_deeds_of_block_deed db_deed cd_deed) pa_nil))) pa_nil)) (swaps_plain rfl))
  (pss_one (ps_for PassesOwn.never rfl (pi_list (pe_cc c_blocks_of hr (by omega) (pa_c (pe_var (i := 4) rfl vis_deeds_of_block_deed db_deed cd_deed) pa_nil) gl_deeds_of_block_blocks_of db_blocks_of)) (pg_tup (n := 2) rfl (pgs_cons (pg_name (i := 6) sc_deeds_of_block.nd rfl loc_deeds_of_block_number) (pgs_cons (pg_name (i := 7) sc_deeds_of_block.nd rfl loc_deeds_of_block_inner) pgs_nil)))
  (pss_one (ps_expr (pe_bm PySem.F.plainAttrs_list PySem.F.slot_list_extend PySem.F.type_list_extend mt_extend (pe_var (i := 2) rfl vis_deeds_of_block_rows db_rows cd_rows) (pa_c (pe_cc c_deeds_of_block hr (by omega) (pa_c (pe_var (i := 7) rfl vis_deeds_of_block_inner db_inner cd_inner) (pa_c (pe_op op_catT2 (pe_var (i := 5) rfl vis_deeds_of_block_deed_path db_deed_path cd_deed_path) (pe_tup (pa_c (pe_var (i := 6) rfl vis_deeds_of_block_number db_number cd_number) pa_nil))) pa_nil)) gl_deeds_of_block_deeds_of_block db_deeds_of_block) pa_nil)) (swaps_plain rfl))))))))
  (pss_one (ps_ret (pe_var (i := 2) rfl vis_deeds_of_block_rows db_rows cd_rows))))), ?_⟩
  walk_at "rd3"
  refine ⟨Nat.zero_le _, fun pr hpr => ?_⟩
  obtain ⟨ab, xs, rfl, hab, hda⟩ := hd.tupI
  have s1 := same_new hpr (HO.lst [])
  have hxl : xs.length = b.length := by rw [hda.length, encB_length]
  refine ⟨ab, rfl, ⟨_, SqT.of (s1 _ _ hab)⟩, ?_⟩
  refine for_enumT (xs := xs) (DInv H ab pv p b pr) ?start ?lst ?step ?done
  case start => exact ⟨[], _, _, _, _, _, rfl, s1, upd_same, by rw [List.take_zero, deedsB]; exact .nil⟩
  case lst =>
    rintro i σ Hc _ ⟨vs, _, _, _, _, _, rfl, sc, _⟩
    exact SqT.of (sc _ _ hab)
  case done =>
    rintro σ Hc ⟨vs, _, _, _, _, _, rfl, sc, hv, dv⟩
    walk_at "rd3"
    rw [hxl, List.take_length] at dv
    exact q pr Hc vs sc hpr hv dv
  case step =>
    rintro i x σ Hc Tu hx ⟨vs, _, _, _, _, _, rfl, sc, hv, dv⟩ hT
    obtain ⟨d, hbi, dx⟩ := deed_at hda hx
    have hib : i < b.length := (List.getElem?_eq_some_iff.mp hbi).1
    have s2 := same_new hT (HO.tup [V.int i, x])
    walk_at "rd3"
    refine ⟨_, SqT.of upd_same, rfl, _, _, rfl, _, _, rfl, rfl, zl 1 (by decide), fun r1 h1 => ?_⟩
    have s3 := same_new h1 (HO.tup [V.int i])
    refine catP (hp.kp (sc.trans (s2.trans s3)).kp) path1 (by simp; omega) fun z H1 s4 dz => ?_
    have s24 := (s2.trans s3).trans s4
    refine ⟨.inl ⟨rfl, _, SqL.of (s24 _ _ hv)⟩, zl 2 (by decide), fun r2 h2 => ?_⟩
    have s5 := same_new h2 (HO.tup [z, x])
    have s25 := s24.trans s5
    have hbn := bndW_le hn
    have hvl : vs.length ≤ 22155 := by
      have e : vs.length = (deedsB p 0 (b.take i)).length := by rw [dv.length, List.length_map]
      have := deedsW_take hok (i := i) p
      omega
    refine ⟨_, s25 _ _ hv, zzlt (by omega), ?_⟩
    have hw2 : (upd H1 r2 (HO.tup [z, x])) r2 = some (.tup [z, x]) := upd_same
    have rowW : Dt (upd H1 r2 (HO.tup [z, x])) (.ref r2) (rowE (p ++ [(i : Int)], d)) := .tup hw2 (.cons (dz.kp s5.kp) (.cons (dx.kp (sc.trans s25).kp) .nil))
    have hvW := s25 _ _ hv
    generalize upd H1 r2 (HO.tup [z, x]) = W at s5 s25 hw2 rowW hvW ⊢
    have k6 : Kp W (upd W pr (HO.lst (vs ++ [V.ref r2]))) := Kp.set hvW
    have sU : Same H (upd W pr (HO.lst (vs ++ [V.ref r2]))) := same_upd (sc.trans s25) hpr
    have vU : (upd W pr (HO.lst (vs ++ [V.ref r2]))) pr = some (.lst (vs ++ [V.ref r2])) := upd_same
    have dU : DtA (upd W pr (HO.lst (vs ++ [V.ref r2]))) (vs ++ [V.ref r2]) ((deedsB p 0 (b.take i) ++ [(p ++ [(i : Int)], d)]).map rowE) := by
      rw [List.map_append]
      exact (dv.kp (s25.kp.trans k6)).append (.cons (rowW.kp k6) .nil)
    have hzU := dz.kp (s5.kp.trans k6)
    generalize upd W pr (HO.lst (vs ++ [V.ref r2])) = U at k6 sU vU dU hzU ⊢
    refine ⟨x, d, rfl, dx.kp sU.kp, fun rb H5 bs s6 f6 hb db => ?_⟩
    refine ⟨rb, rfl, ⟨_, SqL.of hb⟩, ?_⟩
    have hnp : rb ≠ pr := fun e => by rw [e, vU] at f6; cases f6
    refine for_list (xs := bs) (DInv2 H H5 rb bs ab pv p b pr i d x z) ?s2 ?l2 ?st2 ?d2
    case s2 => exact ⟨vs ++ [V.ref r2], _, _, _, rfl, sU.trans s6, s6 _ _ vU, by rw [List.take_zero, flatB]; exact dU.kp s6.kp, Kp.refl _, hb⟩
    case l2 =>
      rintro j σ Hd _ ⟨us, _, _, _, rfl, _, _, _, _, hbd⟩
      exact SqL.of hbd
    case d2 =>
      rintro σ Hd ⟨us, _, _, _, rfl, sd, hu, du, _⟩
      have e : bs.length = d.blocks.length := by rw [db.length, List.length_map]
      rw [e, List.take_length, ← dinv_end hbi] at du
      exact ⟨us, _, _, _, _, _, rfl, sd, hu, du⟩
    case st2 =>
      rintro j y σ Hd hy ⟨us, _, _, _, rfl, sd, hu, du, kd, hbd⟩
      obtain ⟨nb, hnb, dnb⟩ := map_at db hy
      obtain ⟨pp, y0, y1, rfl, hpp, u0, u1⟩ := tup2 (dnb.kp kd)
      cases u0
      walk_at "rd3"
      have hdo := hok.2 d (List.mem_of_getElem? hbi)
      have hbok : okW n nb.2 := blocksW_ok hdo (List.mem_of_getElem? hnb)
      refine ⟨_, SqT.of hpp, rfl, _, _, rfl, _, _, rfl, rfl, .inl ⟨rfl, _, SqL.of hu⟩, zl 1 (by decide), fun r3 h3 => ?_⟩
      have s7 := same_new h3 (HO.tup [V.int nb.1])
      refine catP (hzU.kp (s6.kp.trans (kd.trans s7.kp))) path1 (by simp; omega) fun z2 H6 s8 dz2 => ?_
      have s78 := s7.trans s8
      refine ⟨y1, nb.2, z2, _, rfl, u1.kp s78.kp, dz2, hbok, by omega, by simp; omega, fun r4 H7 ws s9 f9 h9 d9 => ?_⟩
      have s79 := s78.trans s9
      have hws : ws.length ≤ 22155 := by
        have e : ws.length = (deedsB (p ++ [(i : Int)] ++ [nb.1]) 0 nb.2).length := by rw [d9.length, List.length_map]
        have g1 := deedsW_bnd n nb.2 (p ++ [(i : Int)] ++ [nb.1]) 0 hbok
        have g2 := bndW_le (n := n) (by omega)
        omega
      have hus : us.length ≤ 26000 := by
        have e := du.length
        rw [List.length_map, List.length_append, List.length_cons] at e
        have g1 := deedsW_take hok (i := i) p
        have g2 := partW_len hdo (by omega) (p ++ [(i : Int)]) (d.blocks.take j) (fun q hq => List.mem_of_mem_take hq) (by rw [List.length_take]; have := blocks_len d; omega)
        omega
      refine ⟨r4, rfl, us, s79 _ _ hu, ws, h9, zz5 (by omega), ?_⟩
      have k7 : Kp H7 (upd H7 pr (HO.lst (us ++ ws))) := Kp.set (s79 _ _ hu)
      refine ⟨us ++ ws, _, _, _, rfl, same_upd (sd.trans s79) hpr, upd_same, ?_, kd.trans (s79.kp.trans k7), by rw [upd_ne hnp]; exact s79 _ _ hbd⟩
      rw [take_snoc hnb, flatB_append, flatB, flatB, List.append_nil, ← List.cons_append, ← List.append_assoc, List.map_append]
      exact (du.kp (s79.kp.trans k7)).append (d9.kp k7)
theorem ok_law_deeds {n : Nat} (F : Fun K "_law_deeds" "_law_deeds" s_law_deeds f fd) (b_enumerate : mg "enumerate" = none) (b_isinstance : mg "isinstance" = none) (b_tuple : mg "tuple" = none) (c_law_deeds : Callee P w K mg base "_law_deeds" ["_law_block_here", "_law_path"] (n + 2) (spDeeds n)) : FnOk P w K mg base CX0 (n + 3) f fd ["_law_block_here", "_law_path"] (spDeeds (n + 1)) := by
  refine F.ok sc_law_deeds (fun vs H Q E h => ?_) (fun cdv A outer s H vs Q E hr h => ?_)
  · obtain ⟨v, t, pv, p, rfl, _⟩ := h
    rfl
  obtain ⟨v, b, pv, p, rfl, hd, hp, hok, hn, hl, q⟩ := h
  refine ⟨_, (pss_cons (ps_set (i := 2) sc_law_deeds.nd rfl loc_law_deeds__law_made (pe_lst pa_nil) (swaps_plain rfl))
  (pss_cons (ps_for PassesOwn.never rfl (pi_enumT gl_law_deeds_enumerate b_enumerate (pa_c (pe_var (i := 0) rfl vis_law_deeds__law_block_here db__law_block_here cd__law_block_here) pa_nil)) (pg_tup (n := 2) rfl (pgs_cons (pg_name (i := 3) sc_law_deeds.nd rfl loc_law_deeds__law_k) (pgs_cons (pg_name (i := 4) sc_law_deeds.nd rfl loc_law_deeds__law_deed) pgs_nil)))
  (pss_cons (ps_expr (pe_bm PySem.F.plainAttrs_list PySem.F.slot_list_append PySem.F.type_list_append mt_append (pe_var (i := 2) rfl vis_law_deeds__law_made db__law_made cd__law_made) (pa_c (pe_tup (pa_c (pe_op op_catT2 (pe_var (i := 1) rfl vis_law_deeds__law_path db__law_path cd__law_path) (pe_tup (pa_c (pe_var (i := 3) rfl vis_law_deeds__law_k db__law_k cd__law_k) pa_nil))) (pa_c (pe_var (i := 4) rfl vis_law_deeds__law_deed db__law_deed cd__law_deed) pa_nil))) pa_nil)) (swaps_plain rfl))
  (pss_one (ps_for PassesOwn.never rfl (pi_enumT gl_law_deeds_enumerate b_enumerate (pa_c (pe_var (i := 4) rfl vis_law_deeds__law_deed db__law_deed cd__law_deed) pa_nil)) (pg_tup (n := 2) rfl (pgs_cons (pg_name (i := 5) sc_law_deeds.nd rfl loc_law_deeds__law_j) (pgs_cons (pg_name (i := 6) sc_law_deeds.nd rfl loc_law_deeds__law_part) pgs_nil)))
  (pss_one (ps_if (PW.pt (pw_and (pt_cmpR (gNe hr.units) (pe_ix ix_tup (pe_var (i := 4) rfl vis_law_deeds__law_deed db__law_deed cd__law_deed) pe_int (fun _ _ => rfl)) pe_str (nomark _)) (pw_and (pt_cmpR op_gt (pe_var (i := 5) rfl vis_law_deeds__law_j db__law_j cd__law_j) pe_int (nomark _)) (pw_and1 (pt_val (pe_cB gInst gl_law_deeds_isinstance b_isinstance bt_isinstance (pa_c (pe_var (i := 6) rfl vis_law_deeds__law_part db__law_part cd__law_part) (pa_c (pe_bltn (v := V.ty "tuple") gl_law_deeds_tuple b_tuple bt_tuple rfl nn_tuple db_tuple) pa_nil)) nn_isinstance db_isinstance)))))) (pss_one (ps_expr (pe_bm PySem.F.plainAttrs_list PySem.F.slot_list_extend PySem.F.type_list_extend mt_extend (pe_var (i := 2) rfl vis_law_deeds__law_made db__law_made cd__law_made) (pa_c (pe_cc c_law_deeds hr (by omega) (pa_c (pe_var (i := 6) rfl vis_law_deeds__law_part db__law_part cd__law_part) (pa_c (pe_op op_catT2 (pe_var (i := 1) rfl vis_law_deeds__law_path db__law_path cd__law_path) (pe_tup (pa_c (pe_var (i := 3) rfl vis_law_deeds__law_k db__law_k cd__law_k) (pa_c (pe_ifExp (pt_cmpR (gEq hr.units) (pe_ix ix_tup (pe_var (i := 4) rfl vis_law_deeds__law_deed db__law_deed cd__law_deed) pe_int (fun _ _ => rfl)) pe_str (nomark _)) (pe_op op_sub (pe_var (i := 5) rfl vis_law_deeds__law_j db__law_j cd__law_j) pe_int) pe_int) pa_nil)))) pa_nil)) gl_law_deeds__law_deeds db__law_deeds) pa_nil)) (swaps_plain rfl))) pss_nil))))))
  (pss_one (ps_ret (pe_var (i := 2) rfl vis_law_deeds__law_made db__law_made cd__law_made))))), ?_⟩
  walk_at "rd3"
  refine ⟨Nat.zero_le _, fun pr hpr => ?_⟩
  obtain ⟨ab, xs, rfl, hab, hda⟩ := hd.tupI
  have s1 := same_new hpr (HO.lst [])
  have hxl : xs.length = b.length := by rw [hda.length, encB_length]
  refine ⟨ab, rfl, ⟨_, SqT.of (s1 _ _ hab)⟩, ?_⟩
  refine for_enumT (xs := xs) (LInv H ab pv p b pr) ?start ?lst ?step ?done
  case start => exact ⟨[], _, _, _, _, rfl, s1, upd_same, by rw [List.take_zero, deedsB]; exact .nil⟩
  case lst =>
    rintro i σ Hc _ ⟨vs, _, _, _, _, rfl, sc, _⟩
    exact SqT.of (sc _ _ hab)
  case done =>
    rintro σ Hc ⟨vs, _, _, _, _, rfl, sc, hv, dv⟩
    walk_at "rd3"
    rw [hxl, List.take_length] at dv
    exact q pr Hc vs sc hpr hv dv
  case step =>
    rintro i x σ Hc Tu hx ⟨vs, _, _, _, _, rfl, sc, hv, dv⟩ hT
    obtain ⟨d, hbi, dx⟩ := deed_at hda hx
    have hib : i < b.length := (List.getElem?_eq_some_iff.mp hbi).1
    have hdo := hok.2 d (List.mem_of_getElem? hbi)
    have s2 := same_new hT (HO.tup [V.int i, x])
    obtain ⟨ad, its, rfl, had, dit⟩ := deed_tupK dx
    generalize hit : V.str d.kind :: its = items at had dit
    walk_at "rd3"
    refine ⟨_, SqT.of upd_same, rfl, _, _, rfl, _, _, rfl, rfl, .inl ⟨rfl, _, SqL.of (s2 _ _ hv)⟩, zl 1 (by decide), fun r1 h1 => ?_⟩
    have s3 := same_new h1 (HO.tup [V.int i])
    refine catP (hp.kp (sc.trans (s2.trans s3)).kp) path1 (by simp; omega) fun z H1 s4 dz => ?_
    have s24 := (s2.trans s3).trans s4
    refine ⟨zl 2 (by decide), fun r2 h2 => ?_⟩
    have s5 := same_new h2 (HO.tup [z, V.ref ad])
    have s25 := s24.trans s5
    have hbn := bndW_le hn
    have hvl : vs.length ≤ 22155 := by
      have e : vs.length = (deedsB p 0 (b.take i)).length := by rw [dv.length, List.length_map]
      have := deedsW_take hok (i := i) p
      omega
    refine ⟨_, s25 _ _ hv, zzlt (by omega), ?_⟩
    have hw2 : (upd H1 r2 (HO.tup [z, V.ref ad])) r2 = some (.tup [z, V.ref ad]) := upd_same
    have rowW : Dt (upd H1 r2 (HO.tup [z, V.ref ad])) (.ref r2) (rowE (p ++ [(i : Int)], d)) := .tup hw2 (.cons (dz.kp s5.kp) (.cons (dx.kp (sc.trans s25).kp) .nil))
    have hvW := s25 _ _ hv
    generalize upd H1 r2 (HO.tup [z, V.ref ad]) = W at s5 s25 hw2 rowW hvW ⊢
    have k6 : Kp W (upd W pr (HO.lst (vs ++ [V.ref r2]))) := Kp.set hvW
    have sU : Same H (upd W pr (HO.lst (vs ++ [V.ref r2]))) := same_upd (sc.trans s25) hpr
    have vU : (upd W pr (HO.lst (vs ++ [V.ref r2]))) pr = some (.lst (vs ++ [V.ref r2])) := upd_same
    have dU : DtA (upd W pr (HO.lst (vs ++ [V.ref r2]))) (vs ++ [V.ref r2]) ((deedsB p 0 (b.take i) ++ [(p ++ [(i : Int)], d)]).map rowE) := by
      rw [List.map_append]
      exact (dv.kp (s25.kp.trans k6)).append (.cons (rowW.kp k6) .nil)
    generalize upd W pr (HO.lst (vs ++ [V.ref r2])) = U at k6 sU vU dU ⊢
    refine ⟨ad, rfl, ⟨_, SqT.of (sU _ _ had)⟩, ?_⟩
    have hil : items.length = d.items.length := dit.length
    refine for_enumT (xs := items) (LInv2 H ab pv p b pr i d (.ref ad)) ?s2 ?l2 ?st2 ?d2
    case s2 => exact ⟨vs ++ [V.ref r2], _, _, rfl, sU, vU, by rw [show upto d 0 = [] by cases d <;> rfl, flatB]; exact dU⟩
    case l2 =>
      rintro j σ Hd _ ⟨us, _, _, rfl, sd, _⟩
      exact SqT.of (sd _ _ had)
    case d2 =>
      rintro σ Hd ⟨us, _, _, rfl, sd, hu, du⟩
      have e : upto d items.length = d.blocks := by rw [hil]; cases d <;> rfl
      rw [e, ← dinv_end hbi] at du
      exact ⟨us, _, _, _, _, rfl, sd, hu, du⟩
    case st2 =>
      rintro j y σ Hd T2 hy ⟨us, _, _, rfl, sd, hu, du⟩ hT2
      obtain ⟨dj, hdj, dy⟩ := dit.get hy
      have s7 := same_new hT2 (HO.tup [V.int j, y])
      have sd7 := sd.trans s7
      walk_at "rd3"
      refine ⟨_, SqT.of upd_same, rfl, _, _, rfl, _, _, rfl, rfl, ?_⟩
      have dyj := dy.kp sd7.kp
      have had7 := sd7 _ _ had
      have hu7 := s7 _ _ hu
      have du7 := du.kp s7.kp
      generalize upd Hd T2 (HO.tup [V.int j, y]) = W2 at s7 sd7 dyj had7 hu7 du7 ⊢
      have stay : upto d (j + 1) = upto d j → LInv2 H ab pv p b pr i d (.ref ad) (j + 1) [some (V.ref ab), some pv, some (V.ref pr), some (V.int i), some (V.ref ad), some (V.int j), some y] W2 := fun e => ⟨us, _, _, rfl, sd7, hu7, by rw [e]; exact du7⟩
      have ext : ∀ (nb : Int × List D), upto d (j + 1) = upto d j ++ [nb] → nb ∈ d.blocks → Dt W2 y (.tup (encB nb.2)) → ∀ (r3 : Addr), W2 r3 = none → rCatT2 K pv (V.ref r3) (upd W2 r3 (HO.tup [V.int i, V.int nb.1])) (fun x H1 => spDeeds n [y, x] H1 (fun x H1 => ∃ x_4, x = V.ref x_4 ∧ ∃ x, H1 pr = some (HO.lst x) ∧ ∃ x_5, H1 x_4 = some (.lst x_5) ∧ x.length + x_5.length ≤ sizeLine ∧ LInv2 H ab pv p b pr i d (.ref ad) (j + 1) [some (V.ref ab), some pv, some (V.ref pr), some (V.int i), some (V.ref ad), some (V.int j), some y] (upd H1 pr (HO.lst (x ++ x_5)))) E0) := by
        intro nb eup hmem dnb r3 h3
        have s8 := same_new h3 (HO.tup [V.int i, V.int nb.1])
        have d2 : Dt (upd W2 r3 (HO.tup [V.int i, V.int nb.1])) (.ref r3) (pathD [(i : Int), nb.1]) := .tup upd_same (.cons (.int _) (.cons (.int _) .nil))
        refine catP (hp.kp (sd7.trans s8).kp) d2 (by simp; omega) fun z2 H6 s9 dz2 => ?_
        have s89 := s8.trans s9
        have hbok : okW n nb.2 := blocksW_ok hdo hmem
        refine ⟨y, nb.2, z2, _, rfl, dnb.kp s89.kp, dz2, hbok, by omega, by simp; omega, fun r4 H7 ws s10 f9 h9 d9 => ?_⟩
        have s80 := s89.trans s10
        have hws : ws.length ≤ 22155 := by
          have e : ws.length = (deedsB (p ++ [(i : Int), nb.1]) 0 nb.2).length := by rw [d9.length, List.length_map]
          have g1 := deedsW_bnd n nb.2 (p ++ [(i : Int), nb.1]) 0 hbok
          have g2 := bndW_le (n := n) (by omega)
          omega
        have hus : us.length ≤ 26000 := by
          have e := du.length
          rw [List.length_map, List.length_append, List.length_cons] at e
          have g1 := deedsW_take hok (i := i) p
          have g2 := partW_len hdo (by omega) (p ++ [(i : Int)]) (upto d j) (upto_sub d j).1 (upto_sub d j).2
          omega
        refine ⟨r4, rfl, us, s80 _ _ hu7, ws, h9, zz5 (by omega), ?_⟩
        have k7 : Kp H7 (upd H7 pr (HO.lst (us ++ ws))) := Kp.set (s80 _ _ hu7)
        refine ⟨us ++ ws, _, _, rfl, same_upd (sd7.trans s80) hpr, upd_same, ?_⟩
        rw [eup, flatB_append, flatB, flatB, List.append_nil, ← List.cons_append, ← List.append_assoc, List.map_append]
        rw [show p ++ [(i : Int), nb.1] = p ++ [(i : Int)] ++ [nb.1] by simp] at d9
        exact (du7.kp (s80.kp.trans k7)).append (d9.kp k7)
      rw [← hit] at had7
      refine ⟨_, SqT.of had7, _, atI_nat (j := 0) rfl, _, ⟨rfl, rfl⟩, ?_⟩
      rcases part_cases d j dj hdj with ⟨hk, hup⟩ | ⟨hk, hj, hup⟩ | ⟨hk, hj, hT, hup⟩ | ⟨hk, hj, hT, nb, rfl, hup, hmem, hnb⟩
      · rw [if_neg (by simp [hk])]
        exact stay hup
      · rw [if_pos (by simpa using hk)]
        refine ⟨_, rfl, ?_⟩
        rw [if_neg hj]
        exact stay hup
      · rw [if_pos (by simpa using hk)]
        refine ⟨_, rfl, ?_⟩
        rw [if_pos hj]
        refine ⟨_, _, ⟨rfl, rfl⟩, _, inst_tuple dyj, ?_⟩
        rw [if_neg (by rw [hT]; decide)]
        exact stay hup
      · rw [if_pos (by simpa using hk)]
        refine ⟨_, rfl, ?_⟩
        rw [if_pos hj]
        refine ⟨_, _, ⟨rfl, rfl⟩, _, inst_tuple dyj, ?_⟩
        rw [if_pos hT]
        refine ⟨.inl ⟨rfl, _, SqL.of hu7⟩, _, SqT.of had7, _, atI_nat (j := 0) rfl, _, eq_of (.str _), ?_⟩
        rcases hnb with ⟨hi, hn1⟩ | ⟨hi, hn1⟩
        · rw [if_pos (show eqS (.str d.kind) "if" = true by simp [eqS, hi])]
          refine ⟨_, rfl, zl 2 (by decide), ?_⟩
          rw [← hn1]
          exact ext nb hup hmem dyj
        · rw [if_neg (show ¬ eqS (.str d.kind) "if" = true by simp [eqS, hi])]
          refine ⟨zl 2 (by decide), ?_⟩
          rw [← hn1]
          exact ext nb hup hmem dyj
end
end SR


set_option Elab.async false
set_option linter.all false
set_option maxRecDepth 100000
set_option maxHeartbeats 0
namespace SR
open PySem L2
local macro_rules | `(tactic| walk_at "rd") => `(tactic| simp only [tSeq, tIfS, tTest, tOp, tVar, tC, tAsg, gName, gTup, gCons, gNil, tRet, tRetN, tDrop, tNext, tCB, tCons, tNil, tCall, tUn, rU, rI0, rI, tAnd, tOr, tNot, tB, tAndV, tOrV, tNotV, tIf, tIfT, tKGet, tChain, tDGet, tDGet1, sDPut, tDNewK, tDisp, tPairs, tCont, tSl, tNoPart, tPart, rSlT, tChain3, qSortS, qEqDL, qNeDL, tFor_enum, tFor_zip, tFor_rng2, tComp_seq, qSetI, qSortSet, cxOf_prog, cxOf_w, cxOf_nox_prog, cxOf_nox_w, cxOf_mg, cxOf_base, cxOf_nox_mg, cxOf_nox_base, cxComp_prog, cxComp_w, cxComp_mg, cxComp_base, tComp_zipT, tCallL, rSlA, rSlL, tDX, tDXs, tTup, tLst, tBM,
  qEq, qNe, qIn, qNotIn, qIsN, qNotN, qIsB, qNotB, qLen, qInst, qEqD, qNeD, qMinL, qMaxL, qSortI, rIx, rIxL, rIxT, rIxS, rCat, rCatT2, rRep, rRepT, rLeS, rLtS, rAppend, rExtend, tNever, tBreak, tYes,
  tFor_tup, tFor_list, tFor_rng1, tComp_tup, tComp_list, tComp_str, L2.start, cxOf_K, cxOf_nox_K, cxComp_K, List.map_cons, List.map_nil, List.length_cons, List.length_nil, List.replicate_succ, List.replicate_zero, Nat.reduceAdd, Nat.reduceSub, Nat.zero_add, Nat.add_zero, Nat.sub_zero, Nat.sub_self, Nat.add_sub_cancel,
  List.getElem?_cons_zero, List.getElem?_cons_succ, List.set_cons_zero, List.set_cons_succ, List.cons_append, List.nil_append, List.append_nil, List.cons.injEq, Option.some.injEq, V.int.injEq, V.ref.injEq, V.str.injEq, V.bl.injEq, V.ty.injEq,
  reduceCtorEq, false_and, and_false, and_true, true_and, exists_false, exists_const, false_or, or_false, exists_eq_left, exists_eq_left', exists_eq_right, exists_eq_right', exists_and_left, decide_eq_true_eq, Bool.not_eq_true', Bool.decide_eq_true, exists_eq, true_or, or_true, Bool.false_eq_true, if_true, if_false, Bool.true_eq_false, Bool.not_true, Bool.not_false, decide_true, decide_false, List.isEmpty_cons, List.isEmpty_nil, Bool.true_and, Bool.false_and, bne_self_eq_false, beq_self_eq_true])
local macro_rules | `(tactic| walk_at "rd3") => `(tactic| simp only [tSeq, tIfS, tTest, tOp, tVar, tC, tAsg, gName, gTup, gCons, gNil, tRet, tRetN, tDrop, tNext, tCB, tCons, tNil, tCall, tUn, rU, rI0, rI, tAnd, tOr, tNot, tB, tAndV, tOrV, tNotV, tIf, tIfT, tKGet, tChain, tDGet, tDGet1, sDPut, tDNewK, tDisp, tPairs, tCont, tSl, tNoPart, tPart, rSlT, tChain3, qSortS, qEqDL, qNeDL, tFor_enum, tFor_enumT, tFor_zip, tFor_rng2, tComp_seq,  cxOf_prog, cxOf_w, cxOf_nox_prog, cxOf_nox_w, cxOf_mg, cxOf_base, cxOf_nox_mg, cxOf_nox_base, cxComp_prog, cxComp_w, cxComp_mg, cxComp_base, tComp_zipT, tCallL, rSlA, rSlL, tDX, tDXs, tTup, tLst, tBM,
  qEq, qNe, qIn, qNotIn, qIsN, qNotN, qIsB, qNotB, qLen, qInst, qEqD, qNeD, qMinL, qMaxL, qSortI, rIx, rIxL, rIxT, rIxS, rCat, rRep, rRepT, rLeS, rLtS, rAppend, rExtend, tNever, tBreak, tYes,
  tFor_tup, tFor_list, tFor_rng1, tComp_tup, tComp_list, tComp_str, L2.start, cxOf_K, cxOf_nox_K, cxComp_K, List.map_cons, List.map_nil, List.length_cons, List.length_nil, List.replicate_succ, List.replicate_zero, Nat.reduceAdd, Nat.reduceSub, Nat.zero_add, Nat.add_zero, Nat.sub_zero, Nat.sub_self, Nat.add_sub_cancel,
  List.getElem?_cons_zero, List.getElem?_cons_succ, List.set_cons_zero, List.set_cons_succ, List.cons_append, List.nil_append, List.append_nil, List.cons.injEq, Option.some.injEq, V.int.injEq, V.ref.injEq, V.str.injEq, V.bl.injEq, V.ty.injEq,
  reduceCtorEq, false_and, and_false, and_true, true_and, exists_false, exists_const, false_or, or_false, exists_eq_left, exists_eq_left', exists_eq_right, exists_eq_right', exists_and_left, decide_eq_true_eq, Bool.not_eq_true', Bool.decide_eq_true, exists_eq, true_or, or_true, Bool.false_eq_true, if_true, if_false, Bool.true_eq_false, Bool.not_true, Bool.not_false, decide_true, decide_false, List.isEmpty_cons, List.isEmpty_nil, Bool.true_and, Bool.false_and, bne_self_eq_false, beq_self_eq_true])
section
variable {P : Program} {w : World} {K : PySem.W.Frag} {mg : Str → Option Value} {base : Heap} {f : Addr} {fd : FuncData}
theorem none_spots {k : Nat} {n1 n2 : Str} : FnOk P w K mg base CX0 k f fd [n1, n2] (spSpots 0) := by
  have no : ∀ vs H Q E, ¬ spSpots 0 vs H Q E := fun vs H Q E h => by
    obtain ⟨v, t, pv, p, _, _, _, h1, _⟩ := h
    cases t <;> simp [T.deep] at h1
  exact ⟨fun vs H Q E h => absurd h (no vs H Q E), fun A outer s H args us vs Q E _ _ _ _ h => absurd h (no vs H Q E)⟩
theorem none_deeds {k : Nat} {n1 n2 : Str} : FnOk P w K mg base CX0 k f fd [n1, n2] (spDeeds 0) := by
  have no : ∀ vs H Q E, ¬ spDeeds 0 vs H Q E := fun vs H Q E h => by
    obtain ⟨v, t, pv, p, _, _, _, h1, _⟩ := h
    exact h1
  exact ⟨fun vs H Q E h => absurd h (no vs H Q E), fun A outer s H args us vs Q E _ _ _ _ h => absurd h (no vs H Q E)⟩
theorem all_spots (d : Df K mg "spots_of_term" s_spots_of_term ["term", "path"] f fd) : ∀ n : Nat, Callee P w K mg base "spots_of_term" ["term", "path"] (n + 1) (spSpots n)
  | 0 => d.callee none_spots
  | n + 1 => d.callee (ok_spots_of_term d.F (all_spots d n))
theorem all_deeds_of (d : Df K mg "deeds_of_block" s_deeds_of_block ["block", "path"] f fd) (b_enumerate : mg "enumerate" = none) (c_blocks_of : Callee P w K mg base "blocks_of" ["deed"] 1 spBlocksOf) : ∀ n : Nat, Callee P w K mg base "deeds_of_block" ["block", "path"] (n + 2) (spDeeds n)
  | 0 => d.callee none_deeds
  | n + 1 => d.callee (ok_deeds_of_block d.F b_enumerate c_blocks_of (all_deeds_of d b_enumerate c_blocks_of n))
theorem all_law_deeds (d : Df K mg "_law_deeds" s_law_deeds ["_law_block_here", "_law_path"] f fd) (b_enumerate : mg "enumerate" = none) (b_isinstance : mg "isinstance" = none) (b_tuple : mg "tuple" = none) : ∀ n : Nat, Callee P w K mg base "_law_deeds" ["_law_block_here", "_law_path"] (n + 2) (spDeeds n)
  | 0 => d.callee none_deeds
  | n + 1 => d.callee (ok_law_deeds d.F b_enumerate b_isinstance b_tuple (all_law_deeds d b_enumerate b_isinstance b_tuple n))
def spAllDeeds : Sp := fun vs H Q _ => ∃ v ins b, vs = [v] ∧ Dt H v (.tup [ins, .tup (encB b)]) ∧ okW 4 b ∧ ∀ (r : Addr) (H' : Hp) (xs : List V), Same H H' → H r = none → H' r = some (.lst xs) → DtA H' xs ((deedsP b).map rowE) → Q (.ref r) H'
theorem ok_all_deeds (F : Fun K "all_deeds" "all_deeds" s_all_deeds f fd) (c_deeds_of_block : Callee P w K mg base "deeds_of_block" ["block", "path"] 6 (spDeeds 4)) : FnOk P w K mg base CX0 7 f fd ["program"] spAllDeeds := by
  refine F.ok sc_all_deeds (fun vs H Q E h => ?_) (fun cdv A outer s H vs Q E hr h => ?_)
  · obtain ⟨v, ins, b, rfl, _⟩ := h
    rfl
  obtain ⟨v, ins, b, rfl, hd, hok, q⟩ := h
  refine ⟨_, (pss_one (ps_ret (pe_cc c_deeds_of_block hr (by omega) (pa_c (pe_ix ix_tup (pe_var (i := 0) rfl vis_all_deeds_program db_program cd_program) pe_int (fun _ _ => rfl)) (pa_c (pe_tup pa_nil) pa_nil)) gl_all_deeds_deeds_of_block db_deeds_of_block))), ?_⟩
  walk_at "rd3"
  obtain ⟨a, x0, x1, rfl, ha, t0, t1⟩ := tup2 hd
  refine ⟨_, rfl, _, SqT.of ha, _, rfl, Nat.zero_le _, fun r1 h1 => ?_⟩
  have s1 := same_new h1 (HO.tup [])
  exact ⟨x1, b, .ref r1, [], rfl, t1.kp s1.kp, .tup upd_same .nil, hok, by decide, by decide, fun r H' xs s2 f2 h2 d2 => q r H' xs (s1.trans s2) (s1.free f2) h2 d2⟩
def spSpotsP : Sp := fun vs H Q _ => ∃ v ins b, vs = [v] ∧ Dt H v (.tup [ins, .tup (encB b)]) ∧ okB 3 b ∧ ∀ (r : Addr) (H' : Hp) (xs : List V), Same H H' → H r = none → H' r = some (.lst xs) → DtA H' xs ((spotsP b).map rowT) → Q (.ref r) H'
theorem ok_spots (F : Fun K "spots" "spots" s_spots f fd) (c_all_deeds : Callee P w K mg base "all_deeds" ["program"] 7 spAllDeeds) (c_spots_of_term : Callee P w K mg base "spots_of_term" ["term", "path"] 6 (spSpots 5)) (c_term_of : Callee P w K mg base "term_of" ["deed"] 1 spTermOf) : FnOk P w K mg base CX0 8 f fd ["program"] spSpotsP := by
  refine F.ok sc_spots (fun vs H Q E h => ?_) (fun cdv A outer s H vs Q E hr h => ?_)
  · obtain ⟨v, ins, b, rfl, _⟩ := h
    rfl
  obtain ⟨v, ins, b, rfl, hd, hok, q⟩ := h
  refine ⟨_, (pss_cons (ps_set (i := 1) sc_spots.nd rfl loc_spots_rows (pe_lst pa_nil) (swaps_plain rfl))
  (pss_cons (ps_for PassesOwn.never rfl (pi_list (pe_cc c_all_deeds hr (by omega) (pa_c (pe_var (i := 0) rfl vis_spots_program db_program cd_program) pa_nil) gl_spots_all_deeds db_all_deeds)) (pg_tup (n := 2) rfl (pgs_cons (pg_name (i := 2) sc_spots.nd rfl loc_spots_path) (pgs_cons (pg_name (i := 3) sc_spots.nd rfl loc_spots_deed) pgs_nil)))
  (pss_one (ps_expr (pe_bm PySem.F.plainAttrs_list PySem.F.slot_list_extend PySem.F.type_list_extend mt_extend (pe_var (i := 1) rfl vis_spots_rows db_rows cd_rows) (pa_c (pe_cc c_spots_of_term hr (by omega) (pa_c (pe_cc c_term_of hr (by omega) (pa_c (pe_var (i := 3) rfl vis_spots_deed db_deed cd_deed) pa_nil) gl_spots_term_of db_term_of) (pa_c (pe_op op_catT2 (pe_var (i := 2) rfl vis_spots_path db_path cd_path) (pe_tup (pa_c pe_int pa_nil))) pa_nil)) gl_spots_spots_of_term db_spots_of_term) pa_nil)) (swaps_plain rfl))))
  (pss_one (ps_ret (pe_var (i := 1) rfl vis_spots_rows db_rows cd_rows))))), ?_⟩
  walk_at "rd3"
  refine ⟨Nat.zero_le _, fun pr hpr => ?_⟩
  have s1 := same_new hpr (HO.lst [])
  refine ⟨v, ins, b, rfl, hd.kp s1.kp, okW_up (okW_of hok), fun ra H1 us s2 f2 h2 d2 => ?_⟩
  have hne : ra ≠ pr := fun e => by rw [e, upd_same] at f2; cases f2
  have hrows := deeds_rows 3 b [] 0 hok
  have hbl := deeds_bnd 3 b [] 0 hok
  have hb3 : bnd 3 = 942 := by decide
  refine ⟨ra, rfl, ⟨_, SqL.of h2⟩, ?_⟩
  refine for_list (xs := us) (SInv H v (deedsP b) ra us pr) ?start ?lst ?step ?done
  case start => exact ⟨[], _, _, rfl, s1.trans s2, s2 _ _ upd_same, by rw [List.take_zero, spotsR]; exact .nil, h2, d2⟩
  case lst =>
    rintro i σ Hc _ ⟨vs, _, _, rfl, _, _, _, hu, _⟩
    exact SqL.of hu
  case done =>
    rintro σ Hc ⟨vs, _, _, rfl, sc, hv, dv, hu, du⟩
    walk_at "rd3"
    rw [show us.length = (deedsP b).length by rw [d2.length, List.length_map], List.take_length] at dv
    exact q pr Hc vs sc hpr hv dv
  case step =>
    rintro i y σ Hc hy ⟨vs, _, _, rfl, sc, hv, dv, hu, du⟩
    obtain ⟨r, hri, dr⟩ := map_at du hy
    obtain ⟨pp, y0, y1, rfl, hpp, u0, u1⟩ := tup2 dr
    walk_at "rd3"
    have hrm := hrows r (List.mem_of_getElem? hri)
    refine ⟨_, SqT.of hpp, rfl, _, _, rfl, _, _, rfl, rfl, .inl ⟨rfl, _, SqL.of hv⟩, y1, r.2, rfl, u1, fun x dx => ⟨zl 1 (by decide), fun r1 h1 => ?_⟩⟩
    have s3 := same_new h1 (HO.tup [V.int 0])
    have hrl : r.1.length ≤ 6 := by have := hrm.1; simp at this; omega
    refine catP (u0.kp s3.kp) path1 (by simp; omega) fun z H2 s4 dz => ?_
    have s34 := s3.trans s4
    refine ⟨x, r.2.term, z, _, rfl, dx.kp s34.kp, dz, ok_deep hrm.2, by decide, by simp; omega, fun r4 H3 ws s5 f5 h5 d5 => ?_⟩
    have s35 := s34.trans s5
    have l1 : ws.length ≤ 64 := by
      rw [d5.length, List.length_map]
      exact spots_small (ok_deep hrm.2) (by decide)
    have l2 : vs.length ≤ 942 * 64 := by
      have e : vs.length = (spotsR ((deedsP b).take i)).length := by rw [dv.length, List.length_map]
      have g1 := spotsR_len ((deedsP b).take i) fun z hz => (hrows z (List.mem_of_mem_take hz)).2
      have g2 : ((deedsP b).take i).length ≤ 942 := by
        rw [List.length_take]
        have : (deedsP b).length ≤ bnd 3 := hbl
        omega
      have g3 : ((deedsP b).take i).length * 64 ≤ 942 * 64 := Nat.mul_le_mul_right _ g2
      omega
    refine ⟨r4, rfl, vs, s35 _ _ hv, ws, h5, zz5 (by omega), ?_⟩
    have k6 : Kp H3 (upd H3 pr (HO.lst (vs ++ ws))) := Kp.set (s35 _ _ hv)
    refine ⟨vs ++ ws, _, _, rfl, same_upd (sc.trans s35) hpr, upd_same, ?_, by rw [upd_ne hne]; exact s35 _ _ hu, du.kp (s35.kp.trans k6)⟩
    rw [take_snoc hri, spotsR_append, spotsR, spotsR, List.append_nil, List.map_append]
    exact (dv.kp (s35.kp.trans k6)).append (d5.kp k6)
end
end SR


set_option Elab.async false
set_option linter.all false
set_option maxRecDepth 100000
set_option maxHeartbeats 0
namespace SR
open PySem L2
local macro_rules | `(tactic| walk_at "rd") => `(tactic| simp only [tSeq, tIfS, tTest, tOp, tVar, tC, tAsg, gName, gTup, gCons, gNil, tRet, tRetN, tDrop, tNext, tCB, tCons, tNil, tCall, tUn, rU, rI0, rI, tAnd, tOr, tNot, tB, tAndV, tOrV, tNotV, tIf, tIfT, tKGet, tChain, tDGet, tDGet1, sDPut, tDNewK, tDisp, tPairs, tCont, tSl, tNoPart, tPart, rSlT, tChain3, qSortS, qEqDL, qNeDL, tFor_enum, tFor_zip, tFor_rng2, tComp_seq, qSetI, qSortSet, cxOf_prog, cxOf_w, cxOf_nox_prog, cxOf_nox_w, cxOf_mg, cxOf_base, cxOf_nox_mg, cxOf_nox_base, cxComp_prog, cxComp_w, cxComp_mg, cxComp_base, tComp_zipT, tCallL, rSlA, rSlL, tDX, tDXs, tTup, tLst, tBM,
  qEq, qNe, qIn, qNotIn, qIsN, qNotN, qIsB, qNotB, qLen, qInst, qEqD, qNeD, qMinL, qMaxL, qSortI, rIx, rIxL, rIxT, rIxS, rCat, rCatT2, rRep, rRepT, rLeS, rLtS, rAppend, rExtend, tNever, tBreak, tYes,
  tFor_tup, tFor_list, tFor_rng1, tComp_tup, tComp_list, tComp_str, L2.start, cxOf_K, cxOf_nox_K, cxComp_K, List.map_cons, List.map_nil, List.length_cons, List.length_nil, List.replicate_succ, List.replicate_zero, Nat.reduceAdd, Nat.reduceSub, Nat.zero_add, Nat.add_zero, Nat.sub_zero, Nat.sub_self, Nat.add_sub_cancel,
  List.getElem?_cons_zero, List.getElem?_cons_succ, List.set_cons_zero, List.set_cons_succ, List.cons_append, List.nil_append, List.append_nil, List.cons.injEq, Option.some.injEq, V.int.injEq, V.ref.injEq, V.str.injEq, V.bl.injEq, V.ty.injEq,
  reduceCtorEq, false_and, and_false, and_true, true_and, exists_false, exists_const, false_or, or_false, exists_eq_left, exists_eq_left', exists_eq_right, exists_eq_right', exists_and_left, decide_eq_true_eq, Bool.not_eq_true', Bool.decide_eq_true, exists_eq, true_or, or_true, Bool.false_eq_true, if_true, if_false, Bool.true_eq_false, Bool.not_true, Bool.not_false, decide_true, decide_false, List.isEmpty_cons, List.isEmpty_nil, Bool.true_and, Bool.false_and, bne_self_eq_false, beq_self_eq_true])
section
variable {P : Program} {w : World} {K : PySem.W.Frag} {mg : Str → Option Value} {base : Heap} {f : Addr} {fd : FuncData}
/-! names, and == of data -/
def setN (r : RD) : Option Str := match r.2 with
  | .set x _ => some x
  | _ => none
def Fine (n : Nat) (d : Dm) : Prop := d.shut = true ∧ d.dat.canLay0 = true ∧ d.dat.depth ≤ n
theorem Fine.mono {n m : Nat} {d : Dm} (h : Fine n d) (k : n ≤ m) : Fine m d := ⟨h.1, h.2.1, Nat.le_trans h.2.2 k⟩
theorem fineA {n : Nat} : ∀ {ds : List Dm}, (∀ d ∈ ds, Fine n d) → shutA ds = true ∧ PyData.canLayAll0 (datA ds) = true ∧ PyData.depthAll (datA ds) ≤ n
  | [], _ => ⟨by simp [shutA], by simp [datA, PyData.canLayAll0], by simp [datA, PyData.depthAll]⟩
  | d :: ds, h => by
    obtain ⟨a, b, c⟩ := fineA (ds := ds) fun e he => h e (.tail _ he)
    obtain ⟨x, y, z⟩ := h d (.head _)
    refine ⟨by simp [shutA, x, a], by simp [datA, PyData.canLayAll0, y, b], ?_⟩
    simp only [datA, PyData.depthAll]
    omega
theorem fine_tup {n : Nat} {ds : List Dm} (h : ∀ d ∈ ds, Fine n d) : Fine (n + 1) (.tup ds) := by
  obtain ⟨a, b, c⟩ := fineA h
  exact ⟨by simpa [Dm.shut] using a, by simpa [Dm.dat, PyData.canLay0] using b, by simp only [Dm.dat, PyData.depth]; omega⟩
theorem fine_int (n : Nat) (i : Int) : Fine n (.int i) := ⟨by simp [Dm.shut], by simp [Dm.dat, PyData.canLay0], by simp [Dm.dat, PyData.depth]⟩
theorem fine_str (n : Nat) {x : Str} (h : PyData.strOk x = true) : Fine n (.str x) := ⟨by simpa [Dm.shut] using h, by simpa [Dm.dat, PyData.canLay0] using h, by simp [Dm.dat, PyData.depth]⟩
theorem Fine.eq {n : Nat} {d : Dm} (h : Fine n d) (k : n ≤ 64) : d.shut = true ∧ SeqAt.shaped d.dat = true := ⟨h.1, by
  unfold SeqAt.shaped
  rw [h.2.1, Bool.true_and, decide_eq_true_eq]
  exact Nat.le_trans h.2.2 k⟩
theorem pool_ok : ∀ x ∈ pool, PyData.strOk x = true := by
  intro x hx
  simp only [pool, List.mem_cons, List.not_mem_nil, or_false] at hx
  rcases hx with rfl | rfl | rfl | rfl <;> decide +kernel
theorem wd_ok (w : Wd) : PyData.strOk w.str = true := by cases w <;> decide +kernel
theorem fine_T : ∀ {n : Nat} {t : T}, T.ok pool n t → Fine n t.enc
  | 0, _, h => h.elim
  | n + 1, .num i, _ => by
    rw [T.enc]
    refine fine_tup fun d hd => ?_
    simp only [List.mem_cons, List.not_mem_nil, or_false] at hd
    rcases hd with rfl | rfl
    · exact fine_str _ (by decide +kernel)
    · exact fine_int _ _
  | n + 1, .nm x, h => by
    rw [T.enc]
    refine fine_tup fun d hd => ?_
    simp only [List.mem_cons, List.not_mem_nil, or_false] at hd
    rcases hd with rfl | rfl
    · exact fine_str _ (by decide +kernel)
    · exact fine_str _ (pool_ok x h)
  | n + 1, .op w a b, h => by
    rw [T.enc]
    refine fine_tup fun d hd => ?_
    simp only [List.mem_cons, List.not_mem_nil, or_false] at hd
    rcases hd with rfl | rfl | rfl
    · exact fine_str _ (wd_ok w)
    · exact fine_T h.1
    · exact fine_T h.2
theorem fine_path (p : List Int) : Fine 1 (pathD p) := fine_tup fun d hd => by
  obtain ⟨i, _, rfl⟩ := List.mem_map.mp hd
  exact fine_int _ _
theorem eqv_self {d : PyData} (h : d.canLay0 = true) : PyData.eqv d d = true := SeqAt.eqv_refl d h
/-- paths gathered from rows, those for which f is so -/
def GInv {α : Type} (U : Hp) (f : List Int × α → Bool) (l : List (List Int × α)) (σ0 : List (Option V)) (i : Nat) (ys : List V) (σ' : St) (H' : Hp) : Prop := Same U H' ∧ (∃ t u, σ' = t :: u :: σ0) ∧ DtA H' ys (((l.take i).filter f).map fun r => pathD r.1) ∧ ys.length ≤ i
theorem ginv_yes {α : Type} {U H' H2 : Hp} {f : List Int × α → Bool} {l : List (List Int × α)} {σ0 : List (Option V)} {i : Nat} {ys : List V} {r : List Int × α} {y : V} {a b : Option V} (s1 : Same U H') (dy : DtA H' ys (((l.take i).filter f).map fun r => pathD r.1)) (hy : ys.length ≤ i) (hr : l[i]? = some r) (hf : f r = true) (s2 : Same H' H2) (dr : Dt H' y (pathD r.1)) :
    GInv U f l σ0 (i + 1) (ys ++ [y]) (a :: b :: σ0) H2 := by
  refine ⟨s1.trans s2, ⟨_, _, rfl⟩, ?_, by rw [List.length_append, List.length_singleton]; omega⟩
  rw [take_snoc hr, List.filter_append, List.filter_cons, hf, List.map_append]
  exact (dy.kp s2.kp).append (.cons (dr.kp s2.kp) .nil)
theorem ginv_no {α : Type} {U H' H2 : Hp} {f : List Int × α → Bool} {l : List (List Int × α)} {σ0 : List (Option V)} {i : Nat} {ys : List V} {r : List Int × α} {a b : Option V} (s1 : Same U H') (dy : DtA H' ys (((l.take i).filter f).map fun r => pathD r.1)) (hy : ys.length ≤ i) (hr : l[i]? = some r) (hf : f r = false) (s2 : Same H' H2) :
    GInv U f l σ0 (i + 1) ys (a :: b :: σ0) H2 := by
  refine ⟨s1.trans s2, ⟨_, _, rfl⟩, ?_, by omega⟩
  rw [take_snoc hr, List.filter_append, List.filter_cons, hf]
  simpa using dy.kp s2.kp
theorem okD_step {n : Nat} (ih : ∀ (b : List D) (p : List Int) (k : Int), okB n b → ∀ r ∈ deedsB p k b, ∃ m, okD m r.2) : ∀ (b : List D) (p : List Int) (k : Int), (∀ d ∈ b, okD n d) → ∀ r ∈ deedsB p k b, ∃ m, okD m r.2
  | [], p, k, _, r, hr => by simp [deedsB] at hr
  | d :: b, p, k, h, r, hr => by
    rw [deedsB, List.mem_append] at hr
    rcases hr with hr | hr
    · have hd := h d (.head _)
      rw [deedsD_eq, List.mem_cons] at hr
      rcases hr with rfl | hr
      · exact ⟨n, hd⟩
      · have key : ∀ l : List (Int × List D), (∀ q ∈ l, q ∈ d.blocks) → r ∈ flatB (p ++ [k]) l → ∃ m, okD m r.2 := by
          intro l
          induction l with
          | nil => intro _ hr; simp [flatB] at hr
          | cons q l ihl =>
            intro hl hr
            rw [flatB, List.mem_append] at hr
            rcases hr with hr | hr
            · exact ih q.2 (p ++ [k] ++ [q.1]) 0 (blocks_ok hd (hl q (.head _))) r hr
            · exact ihl (fun z hz => hl z (.tail _ hz)) hr
        exact key d.blocks (fun _ z => z) hr
    · exact okD_step ih b p (k + 1) (fun e he => h e (.tail _ he)) r hr
theorem deeds_okD : ∀ (n : Nat) (b : List D) (p : List Int) (k : Int), okB n b → ∀ r ∈ deedsB p k b, ∃ m, okD m r.2
  | 0, _, _, _, h => h.elim
  | n + 1, b, p, k, h => okD_step (deeds_okD n) b p k h.2
theorem nodup_le : ∀ (l m : List Str), l.Nodup → (∀ x ∈ l, x ∈ m) → l.length ≤ m.length
  | [], m, _, _ => by simp
  | x :: l, m, h, hs => by
    rw [List.nodup_cons] at h
    have hx := hs x (.head _)
    have ih := nodup_le l (m.erase x) h.2 fun y hy => by
      have hne : y ≠ x := fun e => h.1 (e ▸ hy)
      exact (List.mem_erase_of_ne hne).mpr (hs y (.tail _ hy))
    have e := List.length_erase_of_mem hx
    have hp := List.length_pos_of_mem hx
    rw [List.length_cons]
    omega
theorem ok_sub {n : Nat} : ∀ {t : T} {p : List Int}, T.ok pool n t → ∀ r ∈ spotsT p t, T.ok pool n r.2 := by
  induction n with
  | zero => intro t p h; exact h.elim
  | succ n ih =>
    intro t p h r hr
    cases t with
    | num i => simp only [spotsT, List.mem_cons, List.not_mem_nil, or_false] at hr; subst hr; exact h
    | nm x => simp only [spotsT, List.mem_cons, List.not_mem_nil, or_false] at hr; subst hr; exact h
    | op w a b =>
      rw [spotsT, List.mem_cons, List.mem_append] at hr
      rcases hr with rfl | hr | hr
      · exact h
      · exact (ih h.1 r hr).mono (fun _ z => z) (Nat.le_succ _)
      · exact (ih h.2 r hr).mono (fun _ z => z) (Nat.le_succ _)
theorem spotsR_ok : ∀ {l : List RD}, (∀ r ∈ l, T.ok pool 5 r.2.term) → ∀ r ∈ spotsR l, T.ok pool 5 r.2
  | [], _, r, hr => by simp [spotsR] at hr
  | x :: l, h, r, hr => by
    rw [spotsR, List.mem_append] at hr
    rcases hr with hr | hr
    · exact ok_sub (h x (.head _)) r hr
    · exact spotsR_ok (fun z hz => h z (.tail _ hz)) r hr
theorem spotsP_ok {b : List D} (h : okB 3 b) : ∀ r ∈ spotsP b, T.ok pool 5 r.2 := spotsR_ok fun r hr => (deeds_rows 3 b [] 0 h r hr).2
end
end SR


set_option Elab.async false
set_option linter.all false
set_option maxRecDepth 100000
set_option maxHeartbeats 0
namespace SR
open PySem L2
local macro_rules | `(tactic| walk_at "rd") => `(tactic| simp only [tSeq, tIfS, tTest, tOp, tVar, tC, tAsg, gName, gTup, gCons, gNil, tRet, tRetN, tDrop, tNext, tCB, tCons, tNil, tCall, tUn, rU, rI0, rI, tAnd, tOr, tNot, tB, tAndV, tOrV, tNotV, tIf, tIfT, tKGet, tChain, tDGet, tDGet1, sDPut, tDNewK, tDisp, tPairs, tCont, tSl, tNoPart, tPart, rSlT, tChain3, qSortS, qEqDL, qNeDL, tFor_enum, tFor_zip, tFor_rng2, tComp_seq, qSetI, qSortSet, cxOf_prog, cxOf_w, cxOf_nox_prog, cxOf_nox_w, cxOf_mg, cxOf_base, cxOf_nox_mg, cxOf_nox_base, cxComp_prog, cxComp_w, cxComp_mg, cxComp_base, tComp_zipT, tCallL, rSlA, rSlL, tDX, tDXs, tTup, tLst, tBM,
  qEq, qNe, qIn, qNotIn, qIsN, qNotN, qIsB, qNotB, qLen, qInst, qEqD, qNeD, qMinL, qMaxL, qSortI, rIx, rIxL, rIxT, rIxS, rCat, rCatT2, rRep, rRepT, rLeS, rLtS, rAppend, rExtend, tNever, tBreak, tYes,
  tFor_tup, tFor_list, tFor_rng1, tComp_tup, tComp_list, tComp_str, L2.start, cxOf_K, cxOf_nox_K, cxComp_K, List.map_cons, List.map_nil, List.length_cons, List.length_nil, List.replicate_succ, List.replicate_zero, Nat.reduceAdd, Nat.reduceSub, Nat.zero_add, Nat.add_zero, Nat.sub_zero, Nat.sub_self, Nat.add_sub_cancel,
  List.getElem?_cons_zero, List.getElem?_cons_succ, List.set_cons_zero, List.set_cons_succ, List.cons_append, List.nil_append, List.append_nil, List.cons.injEq, Option.some.injEq, V.int.injEq, V.ref.injEq, V.str.injEq, V.bl.injEq, V.ty.injEq,
  reduceCtorEq, false_and, and_false, and_true, true_and, exists_false, exists_const, false_or, or_false, exists_eq_left, exists_eq_left', exists_eq_right, exists_eq_right', exists_and_left, decide_eq_true_eq, Bool.not_eq_true', Bool.decide_eq_true, exists_eq, true_or, or_true, Bool.false_eq_true, if_true, if_false, Bool.true_eq_false, Bool.not_true, Bool.not_false, decide_true, decide_false, List.isEmpty_cons, List.isEmpty_nil, Bool.true_and, Bool.false_and, bne_self_eq_false, beq_self_eq_true])
section
variable {P : Program} {w : World} {K : PySem.W.Frag} {mg : Str → Option Value} {base : Heap} {f : Addr} {fd : FuncData}
/-! paths rise -/
theorem ltI_app : ∀ (p x y : List Int), ltI (p ++ x) (p ++ y) = ltI x y
  | [], x, y => rfl
  | a :: p, x, y => by rw [List.cons_append, List.cons_append, ltI, if_pos rfl, ltI_app p x y]
theorem ltI_cons {i j : Int} (h : i < j) (x y : List Int) : ltI (i :: x) (j :: y) = true := by
  rw [ltI, if_neg (by omega), decide_eq_true h]
theorem ltI_pre (p : List Int) (i : Int) (x : List Int) : ltI p (p ++ i :: x) = true := by
  have := ltI_app p [] (i :: x)
  rw [List.append_nil] at this
  rw [this]; rfl
def Rel (p q : List Int) : Prop := ltI p q = true ∧ ∀ x y : List Int, ltI (p ++ 0 :: x) (q ++ 0 :: y) = true
theorem rel_side {i j : Int} (h : i < j) (p x y : List Int) : Rel (p ++ i :: x) (p ++ j :: y) := by
  refine ⟨by rw [ltI_app]; exact ltI_cons h _ _, fun z u => ?_⟩
  rw [List.append_assoc, List.append_assoc, ltI_app, List.cons_append, List.cons_append]
  exact ltI_cons h _ _
theorem rel_in {n : Int} (h : 1 ≤ n) (p t : List Int) : Rel p (p ++ n :: t) := by
  refine ⟨ltI_pre p n t, fun z u => ?_⟩
  rw [List.append_assoc, ltI_app, List.cons_append]
  exact ltI_cons (by omega) _ _
mutual
theorem preD : ∀ (d : D) (p : List Int), ∀ r ∈ deedsD p d, r.1 = p ∨ ∃ n t, 1 ≤ n ∧ r.1 = p ++ n :: t
  | .set x t, p, r, hr => by
    simp only [deedsD, List.mem_cons, List.not_mem_nil, or_false] at hr
    subst hr
    exact .inl rfl
  | .ite t b c, p, r, hr => by
    rw [deedsD, List.mem_cons, List.mem_append] at hr
    rcases hr with rfl | hr | hr
    · exact .inl rfl
    · obtain ⟨j, u, _, e⟩ := preB b (p ++ [1]) 0 r hr
      exact .inr ⟨1, j :: u, by decide, by rw [e]; simp⟩
    · obtain ⟨j, u, _, e⟩ := preB c (p ++ [2]) 0 r hr
      exact .inr ⟨2, j :: u, by decide, by rw [e]; simp⟩
  | .whl t m b, p, r, hr => by
    rw [deedsD, List.mem_cons] at hr
    rcases hr with rfl | hr
    · exact .inl rfl
    · obtain ⟨j, u, _, e⟩ := preB b (p ++ [1]) 0 r hr
      exact .inr ⟨1, j :: u, by decide, by rw [e]; simp⟩
theorem preB : ∀ (b : List D) (p : List Int) (k : Int), ∀ r ∈ deedsB p k b, ∃ j t, k ≤ j ∧ r.1 = p ++ j :: t
  | [], p, k, r, hr => by simp [deedsB] at hr
  | d :: b, p, k, r, hr => by
    rw [deedsB, List.mem_append] at hr
    rcases hr with hr | hr
    · rcases preD d (p ++ [k]) r hr with e | ⟨n, t, _, e⟩
      · exact ⟨k, [], by omega, e⟩
      · exact ⟨k, n :: t, by omega, by rw [e]; simp⟩
    · obtain ⟨j, t, h, e⟩ := preB b p (k + 1) r hr
      exact ⟨j, t, by omega, e⟩
end
theorem preH {d : D} {p : List Int} {k : Int} {r : RD} (hr : r ∈ deedsD (p ++ [k]) d) : ∃ t, r.1 = p ++ k :: t := by
  rcases preD d (p ++ [k]) r hr with e | ⟨n, t, _, e⟩
  · exact ⟨[], e⟩
  · exact ⟨n :: t, by rw [e]; simp⟩
mutual
theorem pwD : ∀ (d : D) (p : List Int), (deedsD p d).Pairwise fun r s => Rel r.1 s.1
  | .set x t, p => by rw [deedsD]; exact List.pairwise_singleton _ _
  | .ite t b c, p => by
    rw [deedsD, List.pairwise_cons, List.pairwise_append]
    refine ⟨fun r hr => ?_, pwB b _ _, pwB c _ _, fun r hr s hs => ?_⟩
    · rcases List.mem_append.mp hr with hr | hr
      · obtain ⟨j, u, _, e⟩ := preB b (p ++ [1]) 0 r hr
        rw [e, List.append_assoc]
        exact rel_in (by decide) _ _
      · obtain ⟨j, u, _, e⟩ := preB c (p ++ [2]) 0 r hr
        rw [e, List.append_assoc]
        exact rel_in (by decide) _ _
    · obtain ⟨j, u, _, e⟩ := preB b (p ++ [1]) 0 r hr
      obtain ⟨j2, u2, _, e2⟩ := preB c (p ++ [2]) 0 s hs
      rw [e, e2, List.append_assoc, List.append_assoc]
      exact rel_side (by decide) _ _ _
  | .whl t m b, p => by
    rw [deedsD, List.pairwise_cons]
    refine ⟨fun r hr => ?_, pwB b _ _⟩
    obtain ⟨j, u, _, e⟩ := preB b (p ++ [1]) 0 r hr
    rw [e, List.append_assoc]
    exact rel_in (by decide) _ _
theorem pwB : ∀ (b : List D) (p : List Int) (k : Int), (deedsB p k b).Pairwise fun r s => Rel r.1 s.1
  | [], p, k => by rw [deedsB]; exact .nil
  | d :: b, p, k => by
    rw [deedsB, List.pairwise_append]
    refine ⟨pwD d _, pwB b _ _, fun r hr s hs => ?_⟩
    obtain ⟨t, e⟩ := preH hr
    obtain ⟨j, u, h, e2⟩ := preB b p (k + 1) s hs
    rw [e, e2]
    exact rel_side (by omega) _ _ _
end
/-! names that are used come in or are set -/
theorem knows_mono {p q : List Str} (h : ∀ x ∈ p, x ∈ q) : ∀ {t : T}, t.knows p = true → t.knows q = true
  | .num i, _ => rfl
  | .nm x, k => by
    have : x ∈ p := by simpa [T.knows] using k
    simpa [T.knows] using h x this
  | .op w a b, k => by
    rw [T.knows, Bool.and_eq_true] at k ⊢
    exact ⟨knows_mono h k.1, knows_mono h k.2⟩
def setNs (l : List RD) : List Str := l.filterMap setN
def Good (p : List Str) (l : List RD) (q : List Str) : Prop := (∀ r ∈ l, r.2.term.knows (p ++ setNs l) = true) ∧ ∀ x ∈ q, x ∈ p ++ setNs l
theorem Good.wide {p q p' : List Str} {l l' : List RD} (h : Good p l q) (hp : ∀ x ∈ p ++ setNs l, x ∈ p' ++ setNs l') : (∀ r ∈ l, r.2.term.knows (p' ++ setNs l') = true) ∧ ∀ x ∈ q, x ∈ p' ++ setNs l' :=
  ⟨fun r hr => knows_mono hp (h.1 r hr), fun x hx => hp x (h.2 x hx)⟩
/-! counted -/
/-! texts sorted are one list -/
end
end SR


set_option Elab.async false
set_option linter.all false
set_option maxRecDepth 100000
set_option maxHeartbeats 0
namespace SR
open PySem L2
local macro_rules | `(tactic| walk_at "rd") => `(tactic| simp only [tSeq, tIfS, tTest, tOp, tVar, tC, tAsg, gName, gTup, gCons, gNil, tRet, tRetN, tDrop, tNext, tCB, tCons, tNil, tCall, tUn, rU, rI0, rI, tAnd, tOr, tNot, tB, tAndV, tOrV, tNotV, tIf, tIfT, tKGet, tChain, tDGet, tDGet1, sDPut, tDNewK, tDisp, tPairs, tCont, tSl, tNoPart, tPart, rSlT, tChain3, qSortS, qEqDL, qNeDL, tFor_enum, tFor_zip, tFor_rng2, tComp_seq, qSetI, qSortSet, cxOf_prog, cxOf_w, cxOf_nox_prog, cxOf_nox_w, cxOf_mg, cxOf_base, cxOf_nox_mg, cxOf_nox_base, cxComp_prog, cxComp_w, cxComp_mg, cxComp_base, tComp_zipT, tCallL, rSlA, rSlL, tDX, tDXs, tTup, tLst, tBM,
  qEq, qNe, qIn, qNotIn, qIsN, qNotN, qIsB, qNotB, qLen, qInst, qEqD, qNeD, qMinL, qMaxL, qSortI, rIx, rIxL, rIxT, rIxS, rCat, rCatT2, rRep, rRepT, rLeS, rLtS, rAppend, rExtend, tNever, tBreak, tYes,
  tFor_tup, tFor_list, tFor_rng1, tComp_tup, tComp_list, tComp_str, L2.start, cxOf_K, cxOf_nox_K, cxComp_K, List.map_cons, List.map_nil, List.length_cons, List.length_nil, List.replicate_succ, List.replicate_zero, Nat.reduceAdd, Nat.reduceSub, Nat.zero_add, Nat.add_zero, Nat.sub_zero, Nat.sub_self, Nat.add_sub_cancel,
  List.getElem?_cons_zero, List.getElem?_cons_succ, List.set_cons_zero, List.set_cons_succ, List.cons_append, List.nil_append, List.append_nil, List.cons.injEq, Option.some.injEq, V.int.injEq, V.ref.injEq, V.str.injEq, V.bl.injEq, V.ty.injEq,
  reduceCtorEq, false_and, and_false, and_true, true_and, exists_false, exists_const, false_or, or_false, exists_eq_left, exists_eq_left', exists_eq_right, exists_eq_right', exists_and_left, decide_eq_true_eq, Bool.not_eq_true', Bool.decide_eq_true, exists_eq, true_or, or_true, Bool.false_eq_true, if_true, if_false, Bool.true_eq_false, Bool.not_true, Bool.not_false, decide_true, decide_false, List.isEmpty_cons, List.isEmpty_nil, Bool.true_and, Bool.false_and, bne_self_eq_false, beq_self_eq_true])
section
variable {P : Program} {w : World} {K : PySem.W.Frag} {mg : Str → Option Value} {base : Heap} {f : Addr} {fd : FuncData}
/-! whiles -/
def isWhl (r : RD) : Bool := match r.2 with
  | .whl _ _ _ => true
  | _ => false
def whR (l : List RD) : List (List Int) := (l.filter isWhl).map (·.1)
def whP (b : List D) : List (List Int) := whR (deedsP b)
theorem whR_cons (r : RD) (l : List RD) : whR (r :: l) = (if isWhl r then [r.1] else []) ++ whR l := by
  unfold whR
  rw [List.filter_cons]
  split <;> simp
end
end SR


set_option Elab.async false
set_option linter.all false
set_option maxRecDepth 100000
set_option maxHeartbeats 0
namespace SR
open PySem L2
local macro_rules | `(tactic| walk_at "rd") => `(tactic| simp only [tSeq, tIfS, tTest, tOp, tVar, tC, tAsg, gName, gTup, gCons, gNil, tRet, tRetN, tDrop, tNext, tCB, tCons, tNil, tCall, tUn, rU, rI0, rI, tAnd, tOr, tNot, tB, tAndV, tOrV, tNotV, tIf, tIfT, tKGet, tChain, tDGet, tDGet1, sDPut, tDNewK, tDisp, tPairs, tCont, tSl, tNoPart, tPart, rSlT, tChain3, qSortS, qEqDL, qNeDL, tFor_enum, tFor_zip, tFor_rng2, tComp_seq, qSetI, qSortSet, cxOf_prog, cxOf_w, cxOf_nox_prog, cxOf_nox_w, cxOf_mg, cxOf_base, cxOf_nox_mg, cxOf_nox_base, cxComp_prog, cxComp_w, cxComp_mg, cxComp_base, tComp_zipT, tCallL, rSlA, rSlL, tDX, tDXs, tTup, tLst, tBM,
  qEq, qNe, qIn, qNotIn, qIsN, qNotN, qIsB, qNotB, qLen, qInst, qEqD, qNeD, qMinL, qMaxL, qSortI, rIx, rIxL, rIxT, rIxS, rCat, rCatT2, rRep, rRepT, rLeS, rLtS, rAppend, rExtend, tNever, tBreak, tYes,
  tFor_tup, tFor_list, tFor_rng1, tComp_tup, tComp_list, tComp_str, L2.start, cxOf_K, cxOf_nox_K, cxComp_K, List.map_cons, List.map_nil, List.length_cons, List.length_nil, List.replicate_succ, List.replicate_zero, Nat.reduceAdd, Nat.reduceSub, Nat.zero_add, Nat.add_zero, Nat.sub_zero, Nat.sub_self, Nat.add_sub_cancel,
  List.getElem?_cons_zero, List.getElem?_cons_succ, List.set_cons_zero, List.set_cons_succ, List.cons_append, List.nil_append, List.append_nil, List.cons.injEq, Option.some.injEq, V.int.injEq, V.ref.injEq, V.str.injEq, V.bl.injEq, V.ty.injEq,
  reduceCtorEq, false_and, and_false, and_true, true_and, exists_false, exists_const, false_or, or_false, exists_eq_left, exists_eq_left', exists_eq_right, exists_eq_right', exists_and_left, decide_eq_true_eq, Bool.not_eq_true', Bool.decide_eq_true, exists_eq, true_or, or_true, Bool.false_eq_true, if_true, if_false, Bool.true_eq_false, Bool.not_true, Bool.not_false, decide_true, decide_false, List.isEmpty_cons, List.isEmpty_nil, Bool.true_and, Bool.false_and, bne_self_eq_false, beq_self_eq_true])
local macro_rules | `(tactic| walk_at "rd3") => `(tactic| simp only [tSeq, tIfS, tTest, tOp, tVar, tC, tAsg, gName, gTup, gCons, gNil, tRet, tRetN, tDrop, tNext, tCB, tCons, tNil, tCall, tUn, rU, rI0, rI, tAnd, tOr, tNot, tB, tAndV, tOrV, tNotV, tIf, tIfT, tKGet, tChain, tDGet, tDGet1, sDPut, tDNewK, tDisp, tPairs, tCont, tSl, tNoPart, tPart, rSlT, tChain3, qSortS, qEqDL, qNeDL, tFor_enum, tFor_enumT, tFor_zip, tFor_rng2, tComp_seq,  cxOf_prog, cxOf_w, cxOf_nox_prog, cxOf_nox_w, cxOf_mg, cxOf_base, cxOf_nox_mg, cxOf_nox_base, cxComp_prog, cxComp_w, cxComp_mg, cxComp_base, tComp_zipT, tCallL, rSlA, rSlL, tDX, tDXs, tTup, tLst, tBM,
  qEq, qNe, qIn, qNotIn, qIsN, qNotN, qIsB, qNotB, qLen, qInst, qEqD, qNeD, qMinL, qMaxL, qSortI, rIx, rIxL, rIxT, rIxS, rCat, rRep, rRepT, rLeS, rLtS, rAppend, rExtend, tNever, tBreak, tYes,
  tFor_tup, tFor_list, tFor_rng1, tComp_tup, tComp_list, tComp_str, L2.start, cxOf_K, cxOf_nox_K, cxComp_K, List.map_cons, List.map_nil, List.length_cons, List.length_nil, List.replicate_succ, List.replicate_zero, Nat.reduceAdd, Nat.reduceSub, Nat.zero_add, Nat.add_zero, Nat.sub_zero, Nat.sub_self, Nat.add_sub_cancel,
  List.getElem?_cons_zero, List.getElem?_cons_succ, List.set_cons_zero, List.set_cons_succ, List.cons_append, List.nil_append, List.append_nil, List.cons.injEq, Option.some.injEq, V.int.injEq, V.ref.injEq, V.str.injEq, V.bl.injEq, V.ty.injEq,
  reduceCtorEq, false_and, and_false, and_true, true_and, exists_false, exists_const, false_or, or_false, exists_eq_left, exists_eq_left', exists_eq_right, exists_eq_right', exists_and_left, decide_eq_true_eq, Bool.not_eq_true', Bool.decide_eq_true, exists_eq, true_or, or_true, Bool.false_eq_true, if_true, if_false, Bool.true_eq_false, Bool.not_true, Bool.not_false, decide_true, decide_false, List.isEmpty_cons, List.isEmpty_nil, Bool.true_and, Bool.false_and, bne_self_eq_false, beq_self_eq_true])
section
variable {P : Program} {w : World} {K : PySem.W.Frag} {mg : Str → Option Value} {base : Heap} {f : Addr} {fd : FuncData}
def spWhiles : Sp := fun vs H Q _ => ∃ v ins b, vs = [v] ∧ Dt H v (.tup [ins, .tup (encB b)]) ∧ okB 3 b ∧ ∀ (r : Addr) (H' : Hp) (xs : List V), Same H H' → H r = none → H' r = some (.lst xs) → DtA H' xs ((whP b).map pathD) → Q (.ref r) H'
theorem comp_whl {ra : Addr} {us : List V} {l : List RD} {Q : VK} {H1 : Hp} (h2 : H1 ra = some (.lst us)) (d2 : DtA H1 us (l.map rowE)) (hz : l.length ≤ 1000) (q : ∀ (r : Addr) (H' : Hp) (xs : List V), Same H1 H' → H1 r = none → H' r = some (.lst xs) → DtA H' xs ((whR l).map pathD) → Q (.ref r) H') :
    CompW (Itl K ra) (gTup K 2 (gCons (gName 0) (gCons (gName 1) gNil))) (tTest (tOp (qEq K) (tOp (rIxT K) (tVar 1) (tC (V.int 0))) (tC (V.str (Str.ofString "while"))))) (tVar 0) Q [none, none] H1 := by
  have hul : us.length = l.length := by rw [d2.length, List.length_map]
  refine comp_list (K := K) (a := ra) (xs := us) (GInv H1 isWhl l []) ⟨Same.refl _, ⟨_, _, rfl⟩, by rw [List.take_zero]; exact .nil, Nat.le_refl _⟩ (by rw [hul]; exact small1000 hz) ?_ ?_ ?_ ?_
  · rintro i ys σ' H' ⟨_, _, _, hy⟩
    exact hy
  · rintro i ys σ' H' _ ⟨s2, _, _⟩
    exact SqL.of (s2 _ _ h2)
  · rintro i ys v' σ' H' hxi ⟨s2, ⟨t, u, rfl⟩, dy, hy⟩
    obtain ⟨r, hri, dr⟩ := map_at d2 hxi
    obtain ⟨pp, y0, y1, rfl, hpp, u0, u1⟩ := tup2 (dr.kp s2.kp)
    walk_at "rd3"
    refine ⟨_, SqT.of hpp, rfl, _, _, rfl, _, _, rfl, rfl, ?_⟩
    obtain ⟨rp, d⟩ := r
    cases d with
    | set z tt =>
      obtain ⟨a, x0, x1, x2, rfl, ha, t0, t1, t2⟩ := tup3 (show Dt H' y1 (.tup [.str "set", .str z, tt.enc]) by have := u1; rw [D.enc] at this; exact this)
      refine ⟨_, rfl, _, SqT.of ha, _, rfl, _, eq_of t0, ?_⟩
      rw [if_neg (show ¬ eqS (.str "set") "while" = true from by decide +kernel)]
      exact ginv_no s2 dy hy hri rfl (Same.refl _)
    | ite t b c =>
      obtain ⟨a, x0, x1, x2, x3, rfl, ha, t0, t1, t2, t3⟩ := tup4 (show Dt H' y1 (.tup [.str "if", t.enc, .tup (encB b), .tup (encB c)]) by have := u1; rw [D.enc] at this; exact this)
      refine ⟨_, rfl, _, SqT.of ha, _, rfl, _, eq_of t0, ?_⟩
      rw [if_neg (show ¬ eqS (.str "if") "while" = true from by decide +kernel)]
      exact ginv_no s2 dy hy hri rfl (Same.refl _)
    | whl t m b =>
      obtain ⟨a, x0, x1, x2, x3, rfl, ha, t0, t1, t2, t3⟩ := tup4 (show Dt H' y1 (.tup [.str "while", t.enc, .int m, .tup (encB b)]) by have := u1; rw [D.enc] at this; exact this)
      refine ⟨_, rfl, _, SqT.of ha, _, rfl, _, eq_of t0, ?_⟩
      rw [if_pos (show eqS (.str "while") "while" = true from by decide +kernel)]
      exact ginv_yes s2 dy hy hri rfl (Same.refl _) u0
  · rintro ys σ' H' ⟨s2, _, dy, _⟩ pe hpe
    have s3 := same_new hpe (HO.lst ys)
    refine q pe _ ys (s2.trans s3) (s2.free hpe) upd_same ?_
    rw [hul, List.take_length] at dy
    unfold whR
    rw [List.map_map]
    exact dy.kp s3.kp
theorem ok_whiles (F : Fun K "whiles" "whiles" s_whiles f fd) (c_all_deeds : Callee P w K mg base "all_deeds" ["program"] 7 spAllDeeds) : FnOk P w K mg base CX0 8 f fd ["program"] spWhiles := by
  refine F.ok sc_whiles (fun vs H Q E h => ?_) (fun cdv A outer s H vs Q E hr h => ?_)
  · obtain ⟨v, ins, b, rfl, _⟩ := h
    rfl
  obtain ⟨v, ins, b, rfl, hd, hok, q⟩ := h
  refine ⟨_, (pss_one (ps_ret (pe_comp ["path", "deed"] [none, none] rfl (CompS.of (by rfl)) (pi_list (pe_cc c_all_deeds hr (by omega) (pa_c (pe_var (i := 0) rfl vis_whiles_program db_program cd_program) pa_nil) gl_whiles_all_deeds db_all_deeds)) (fun _ _ _ _ _ => (pg_tupK (n := 2) (K := K) rfl rfl (pgs_cons (pg_name (i := 0) (show List.Nodup (["path", "deed"] : List Str) from by decide +kernel) rfl (Or.inl rfl)) (pgs_cons (pg_name (i := 1) (show List.Nodup (["path", "deed"] : List Str) from by decide +kernel) rfl (Or.inl rfl)) pgs_nil)))) (fun _ _ _ _ _ => (pif_one (pt_cmpR (opK (r := qEq) (K := K) (gEq hr.units) rfl) (pe_ix (ixK (r := rIxT) (K := K) ix_tup rfl) (pe_var (i := 1) rfl (by first | exact Or.inl rfl | exact Or.inr (Or.inl rfl) | exact Or.inr (Or.inr rfl)) db_deed cd_deed) pe_int (fun _ _ => rfl)) pe_str (nomark _)))) (fun _ _ _ _ _ => (pe_var (i := 0) rfl (by first | exact Or.inl rfl | exact Or.inr (Or.inl rfl) | exact Or.inr (Or.inr rfl)) db_path cd_path))))), ?_⟩
  walk_at "rd3"
  refine ⟨v, ins, b, rfl, hd, okW_up (okW_of hok), fun ra H1 us s2 f2 h2 d2 => ?_⟩
  walk_at "rd3"
  have hbl := deeds_bnd 3 b [] 0 hok
  have hb3 : bnd 3 = 942 := by decide
  have hz : (deedsP b).length ≤ 1000 := by have : (deedsP b).length ≤ bnd 3 := hbl; omega
  refine ⟨⟨_, SqL.of h2⟩, comp_whl h2 d2 hz fun r H' xs s3 f3 h3 d3 => q r H' xs (s2.trans s3) (s2.free f3) h3 d3⟩
end
end SR


set_option Elab.async false
set_option linter.all false
set_option maxRecDepth 100000
set_option maxHeartbeats 0
namespace SR
open PySem L2
local macro_rules | `(tactic| walk_at "rd") => `(tactic| simp only [tSeq, tIfS, tTest, tOp, tVar, tC, tAsg, gName, gTup, gCons, gNil, tRet, tRetN, tDrop, tNext, tCB, tCons, tNil, tCall, tUn, rU, rI0, rI, tAnd, tOr, tNot, tB, tAndV, tOrV, tNotV, tIf, tIfT, tKGet, tChain, tDGet, tDGet1, sDPut, tDNewK, tDisp, tPairs, tCont, tSl, tNoPart, tPart, rSlT, tChain3, qSortS, qEqDL, qNeDL, tFor_enum, tFor_zip, tFor_rng2, tComp_seq, qSetI, qSortSet, cxOf_prog, cxOf_w, cxOf_nox_prog, cxOf_nox_w, cxOf_mg, cxOf_base, cxOf_nox_mg, cxOf_nox_base, cxComp_prog, cxComp_w, cxComp_mg, cxComp_base, tComp_zipT, tCallL, rSlA, rSlL, tDX, tDXs, tTup, tLst, tBM,
  qEq, qNe, qIn, qNotIn, qIsN, qNotN, qIsB, qNotB, qLen, qInst, qEqD, qNeD, qMinL, qMaxL, qSortI, rIx, rIxL, rIxT, rIxS, rCat, rCatT2, rRep, rRepT, rLeS, rLtS, rAppend, rExtend, tNever, tBreak, tYes,
  tFor_tup, tFor_list, tFor_rng1, tComp_tup, tComp_list, tComp_str, L2.start, cxOf_K, cxOf_nox_K, cxComp_K, List.map_cons, List.map_nil, List.length_cons, List.length_nil, List.replicate_succ, List.replicate_zero, Nat.reduceAdd, Nat.reduceSub, Nat.zero_add, Nat.add_zero, Nat.sub_zero, Nat.sub_self, Nat.add_sub_cancel,
  List.getElem?_cons_zero, List.getElem?_cons_succ, List.set_cons_zero, List.set_cons_succ, List.cons_append, List.nil_append, List.append_nil, List.cons.injEq, Option.some.injEq, V.int.injEq, V.ref.injEq, V.str.injEq, V.bl.injEq, V.ty.injEq,
  reduceCtorEq, false_and, and_false, and_true, true_and, exists_false, exists_const, false_or, or_false, exists_eq_left, exists_eq_left', exists_eq_right, exists_eq_right', exists_and_left, decide_eq_true_eq, Bool.not_eq_true', Bool.decide_eq_true, exists_eq, true_or, or_true, Bool.false_eq_true, if_true, if_false, Bool.true_eq_false, Bool.not_true, Bool.not_false, decide_true, decide_false, List.isEmpty_cons, List.isEmpty_nil, Bool.true_and, Bool.false_and, bne_self_eq_false, beq_self_eq_true])
section
variable {P : Program} {w : World} {K : PySem.W.Frag} {mg : Str → Option Value} {base : Heap} {f : Addr} {fd : FuncData}
/-! ### words counted -/
def T.word : T → Str
  | .num _ => "num"
  | .nm _ => "name"
  | .op w _ _ => w.str
def ten : List Str := ["num", "name", "add", "sub", "mul", "quo", "less", "same", "min", "max"]
theorem word_ten (t : T) : t.word ∈ ten := by
  cases t with
  | num i => show ("num" : Str) ∈ ten; decide +kernel
  | nm x => show ("name" : Str) ∈ ten; decide +kernel
  | op w a b => show w.str ∈ ten; cases w <;> decide +kernel
abbrev Cnt := List (Str × Int)
def kvC (c : Cnt) : List (Key × V) := c.map fun p => ((Sum.inr p.1 : Key), V.int p.2)
def getC (c : Cnt) (x : Str) : Option Int := (c.find? fun p => decide (p.1 = x)).map (·.2)
def putC (c : Cnt) (x : Str) (i : Int) : Cnt := if (c.any fun p => decide (p.1 = x)) = true then c.map (fun p => if p.1 = x then (p.1, i) else p) else c ++ [(x, i)]
def addC (c : Cnt) (x : Str) : Cnt := putC c x ((getC c x).getD 0 + 1)
theorem inr_eq {x y : Str} : ((Sum.inr x : Key) = Sum.inr y) ↔ x = y := ⟨fun h => by injection h, fun h => by rw [h]⟩
theorem val_kv (x : Str) : ∀ c : Cnt, valV (kvC c) (Sum.inr x) = (getC c x).map V.int
  | [] => rfl
  | p :: c => by
    have ih := val_kv x c
    unfold valV kvC getC at ih ⊢
    rw [List.map_cons, List.find?_cons, List.find?_cons]
    by_cases e : p.1 = x
    · simp [e]
    · have e' : ¬ (Sum.inr p.1 : Key) = Sum.inr x := fun z => e (inr_eq.mp z)
      simp only [e, e', decide_false]
      exact ih
theorem any_kv (x : Str) (c : Cnt) : ((kvC c).any fun kv => decide (kv.1 = Sum.inr x)) = c.any fun p => decide (p.1 = x) := by
  unfold kvC
  rw [List.any_map]
  congr 1
  funext p
  show decide ((Sum.inr p.1 : Key) = Sum.inr x) = decide (p.1 = x)
  by_cases e : p.1 = x
  · rw [decide_eq_true e, decide_eq_true (inr_eq.mpr e)]
  · rw [decide_eq_false e, decide_eq_false fun z => e (inr_eq.mp z)]
theorem put_kv (x : Str) (i : Int) (c : Cnt) : putK (kvC c) (Sum.inr x) (V.int i) = kvC (putC c x i) := by
  unfold putK putC
  rw [any_kv]
  split
  · unfold kvC
    rw [List.map_map, List.map_map]
    refine List.map_congr_left fun p _ => ?_
    show (if (Sum.inr p.1 : Key) = Sum.inr x then _ else _) = _
    by_cases e : p.1 = x
    · simp [e]
    · simp [e]
  · simp [kvC]
def sumC (c : Cnt) : Int := (c.map (·.2)).sum
theorem put_keys (c : Cnt) (x : Str) (i : Int) : (putC c x i).map (·.1) = if x ∈ c.map (·.1) then c.map (·.1) else c.map (·.1) ++ [x] := by
  unfold putC
  have hany : (c.any fun p => decide (p.1 = x)) = true ↔ x ∈ c.map (·.1) := by
    rw [List.any_eq_true, List.mem_map]
    constructor
    · rintro ⟨p, hp, e⟩; exact ⟨p, hp, of_decide_eq_true e⟩
    · rintro ⟨p, hp, e⟩; exact ⟨p, hp, decide_eq_true e⟩
  by_cases h : x ∈ c.map (·.1)
  · rw [if_pos (hany.mpr h), if_pos h, List.map_map]
    refine List.map_congr_left fun p _ => ?_
    show (if p.1 = x then (p.1, i) else p).1 = p.1
    split <;> rfl
  · rw [if_neg fun z => h (hany.mp z), if_neg h, List.map_append]
    rfl
theorem put_sum (i : Int) (x : Str) : ∀ c : Cnt, (c.map (·.1)).Nodup → sumC (putC c x i) = sumC c - (getC c x).getD 0 + i := by
  have upd_ : ∀ c : Cnt, (c.map (·.1)).Nodup → (∀ v, getC c x = some v → sumC (c.map fun p => if p.1 = x then (p.1, i) else p) = sumC c - v + i) ∧ (getC c x = none → (c.map fun p => if p.1 = x then (p.1, i) else p) = c ∧ (c.any fun p => decide (p.1 = x)) = false) ∧ (∀ v, getC c x = some v → (c.any fun p => decide (p.1 = x)) = true) := by
    intro c
    induction c with
    | nil => intro _; exact ⟨fun v h => (by cases h), fun _ => ⟨rfl, rfl⟩, fun v h => (by cases h)⟩
    | cons p c ih =>
      intro hn
      rw [List.map_cons, List.nodup_cons] at hn
      obtain ⟨i1, i2, i3⟩ := ih hn.2
      by_cases e : p.1 = x
      · have hno : getC c x = none := by
          unfold getC
          cases hf : c.find? fun p => decide (p.1 = x) with
          | none => rfl
          | some q =>
            have h1 := List.mem_of_find?_eq_some hf
            have h2 := of_decide_eq_true (List.find?_some (p := fun p : Str × Int => decide (p.1 = x)) hf)
            exact absurd (List.mem_map.mpr ⟨q, h1, h2.trans e.symm⟩) hn.1
        have hg : getC (p :: c) x = some p.2 := by unfold getC; rw [List.find?_cons]; simp [e]
        refine ⟨fun v h => ?_, fun h => (by rw [hg] at h; cases h), fun v h => (by simp [e])⟩
        rw [hg] at h
        have : p.2 = v := Option.some.inj h
        subst this
        rw [List.map_cons, if_pos e, (i2 hno).1]
        simp [sumC]
        omega
      · have hg : getC (p :: c) x = getC c x := by unfold getC; rw [List.find?_cons]; simp [e]
        rw [hg]
        refine ⟨fun v h => ?_, fun h => ?_, fun v h => ?_⟩
        · have := i1 v h
          rw [List.map_cons, if_neg e]
          simp only [sumC, List.map_cons, List.sum_cons] at this ⊢
          omega
        · obtain ⟨j1, j2⟩ := i2 h
          exact ⟨by rw [List.map_cons, if_neg e, j1], by rw [List.any_cons, j2]; simp [e]⟩
        · rw [List.any_cons, i3 v h]; simp
  intro c hn
  obtain ⟨h1, h2, h3⟩ := upd_ c hn
  unfold putC
  cases hg : getC c x with
  | none =>
    rw [if_neg (by rw [(h2 hg).2]; decide)]
    simp [sumC]
  | some v =>
    rw [if_pos (h3 v hg), h1 v hg]
    rfl
structure CntOk (c : Cnt) (n : Nat) : Prop where
  nd : (c.map (·.1)).Nodup
  sub : ∀ p ∈ c, p.1 ∈ ten
  tot : sumC c = n
theorem CntOk.nil : CntOk [] 0 := ⟨.nil, fun p h => by simp at h, rfl⟩
theorem CntOk.add {c : Cnt} {n : Nat} (h : CntOk c n) {x : Str} (hx : x ∈ ten) : CntOk (addC c x) (n + 1) := by
  refine ⟨?_, fun p hp => ?_, ?_⟩
  · unfold addC
    rw [put_keys]
    split
    · exact h.nd
    · rename_i hn
      exact List.nodup_append.mpr ⟨h.nd, by simp, fun a ha b hb e => hn (by rw [List.mem_singleton] at hb; rw [← hb, ← e]; exact ha)⟩
  · have hm : p.1 ∈ (addC c x).map (·.1) := List.mem_map.mpr ⟨p, hp, rfl⟩
    unfold addC at hm
    rw [put_keys] at hm
    split at hm
    · obtain ⟨q, hq, e⟩ := List.mem_map.mp hm
      rw [← e]; exact h.sub q hq
    · rcases List.mem_append.mp hm with hm | hm
      · obtain ⟨q, hq, e⟩ := List.mem_map.mp hm
        rw [← e]; exact h.sub q hq
      · rw [List.mem_singleton] at hm
        rw [hm]; exact hx
  · unfold addC
    rw [put_sum _ _ _ h.nd, h.tot]
    omega
theorem CntOk.len {c : Cnt} {n : Nat} (h : CntOk c n) : c.length ≤ 10 := by
  have := nodup_le (c.map (·.1)) ten h.nd fun x hx => by
    obtain ⟨q, hq, e⟩ := List.mem_map.mp hx
    rw [← e]; exact h.sub q hq
  rw [List.length_map] at this
  exact this
def cntT : Cnt → List RT → Cnt
  | c, [] => c
  | c, r :: l => cntT (addC c r.2.word) l
theorem cntT_append : ∀ (c : Cnt) (a b : List RT), cntT c (a ++ b) = cntT (cntT c a) b
  | c, [], b => rfl
  | c, r :: a, b => by rw [List.cons_append, cntT, cntT, cntT_append]
theorem cntT_ok : ∀ {c : Cnt} {n : Nat} (l : List RT), CntOk c n → CntOk (cntT c l) (n + l.length)
  | c, n, [], h => h
  | c, n, r :: l, h => by
    have := cntT_ok l (h.add (word_ten r.2))
    rw [cntT, List.length_cons, show n + (l.length + 1) = n + 1 + l.length by omega]
    exact this
def rankT (x : Str) : Nat := if x = "add" then 0 else if x = "less" then 1 else if x = "max" then 2 else if x = "min" then 3 else if x = "mul" then 4 else if x = "name" then 5 else if x = "num" then 6 else if x = "quo" then 7 else if x = "same" then 8 else 9
theorem rank_all : (ten.all fun x => ten.all fun y => (decide (x.cps.toList < y.cps.toList) == decide (rankT x < rankT y)) && (!(decide (rankT x = rankT y)) || decide (x = y))) = true := by decide +kernel
theorem rank_ok {x y : Str} (hx : x ∈ ten) (hy : y ∈ ten) : decide (x.cps.toList < y.cps.toList) = decide (rankT x < rankT y) ∧ (rankT x = rankT y → x = y) := by
  have h := rank_all
  rw [List.all_eq_true] at h
  have h1 := h x hx
  rw [List.all_eq_true] at h1
  have h2 := h1 y hy
  rw [Bool.and_eq_true, Bool.or_eq_true] at h2
  refine ⟨beq_iff_eq.mp h2.1, fun e => ?_⟩
  rcases h2.2 with z | z
  · rw [decide_eq_true e] at z; cases z
  · exact of_decide_eq_true z
theorem sorted_pair {a b c : Cnt} (h1 : a.Perm c) (h2 : b.Perm c) (p1 : a.Pairwise fun p q => rankT p.1 < rankT q.1) (p2 : b.Pairwise fun p q => rankT p.1 < rankT q.1) : a = b :=
  List.Perm.eq_of_pairwise (le := fun p q : Str × Int => rankT p.1 < rankT q.1) (fun x y _ _ u v => by omega) p1 p2 (h1.trans h2.symm)
def WInv (H : Hp) (v : V) (S : List RT) (ra : Addr) (us : List V) (d : Addr) (i : Nat) (σ : St) (Hc : Hp) : Prop := ∃ (x2 x3 : Option V), σ = [some v, some (.ref d), x2, x3] ∧ Same H Hc ∧ Hc d = some (.dK (kvC (cntT [] (S.take i)))) ∧ Hc ra = some (.lst us) ∧ DtA Hc us (S.map rowT)
theorem term_tup {H : Hp} {v : V} {t : T} (h : Dt H v t.enc) : ∃ a y xs, v = .ref a ∧ H a = some (.tup (.str t.word :: y :: xs)) := by
  cases t with
  | num i =>
    rw [T.enc] at h
    obtain ⟨a, x0, x1, rfl, ha, t0, t1⟩ := tup2 h
    cases t0
    exact ⟨_, _, _, rfl, ha⟩
  | nm x =>
    rw [T.enc] at h
    obtain ⟨a, x0, x1, rfl, ha, t0, t1⟩ := tup2 h
    cases t0
    exact ⟨_, _, _, rfl, ha⟩
  | op w a b =>
    rw [T.enc] at h
    obtain ⟨a, x0, x1, x2, rfl, ha, t0, t1, t2⟩ := tup3 h
    cases t0
    exact ⟨_, _, _, rfl, ha⟩
/-! ### deeds by kinds -/
def kindsR (l : List RD) : List Str := l.map fun r => r.2.kind
def cntK (l : List RD) (x : Str) : Nat := (kindsR l).count x
theorem deed_kind {H : Hp} {v : V} {d : D} (h : Dt H v d.enc) : ∃ a xs, v = .ref a ∧ H a = some (.tup (.str d.kind :: xs)) := by
  cases d with
  | set x t =>
    rw [D.enc] at h
    obtain ⟨a, x0, x1, x2, rfl, ha, t0, t1, t2⟩ := tup3 h
    cases t0
    exact ⟨_, _, rfl, ha⟩
  | ite t b c =>
    rw [D.enc] at h
    obtain ⟨a, x0, x1, x2, x3, rfl, ha, t0, t1, t2, t3⟩ := tup4 h
    cases t0
    exact ⟨_, _, rfl, ha⟩
  | whl t m b =>
    rw [D.enc] at h
    obtain ⟨a, x0, x1, x2, x3, rfl, ha, t0, t1, t2, t3⟩ := tup4 h
    cases t0
    exact ⟨_, _, rfl, ha⟩
theorem atI_zero {x : V} {xs : List V} : atI (x :: xs) 0 = some x := atI_nat (j := 0) rfl
theorem kp_dict {H : Hp} {p : Addr} {c e : List (Key × V)} (h : H p = some (.dK c)) : Kp H (upd H p (.dK e)) :=
  ⟨fun b zs q => by rw [upd_ne (ne_of q h (by intro z; cases z))]; exact q, fun b zs q => ⟨zs, by rw [upd_ne (ne_of q h (by intro z; cases z))]; exact q⟩⟩
theorem val_getD (c : Cnt) (x : Str) : (valV (kvC c) (Sum.inr x)).getD (V.int 0) = V.int ((getC c x).getD 0) := by
  rw [val_kv]
  cases getC c x <;> rfl
def KInv (U : Hp) (l : List RD) (i : Nat) (ys : List V) (σ' : St) (H' : Hp) : Prop := H' = U ∧ (∃ t u, σ' = [t, u]) ∧ ys = (kindsR (l.take i)).map V.str ∧ ys.length ≤ i
def NInv (U : Hp) (kr : Addr) (l : List RD) (i : Nat) (ys : List V) (σ' : St) (H' : Hp) : Prop := H' = U ∧ (∃ t, σ' = [t, some (.ref kr)]) ∧ ys = (([("set" : Str), "if", "while"].take i).map fun x => V.int (cntK l x)) ∧ ys.length ≤ i
end
end SR


set_option Elab.async false
set_option linter.all false
set_option maxRecDepth 100000
set_option maxHeartbeats 0
namespace SR
open PySem L2
local macro_rules | `(tactic| walk_at "rd") => `(tactic| simp only [tSeq, tIfS, tTest, tOp, tVar, tC, tAsg, gName, gTup, gCons, gNil, tRet, tRetN, tDrop, tNext, tCB, tCons, tNil, tCall, tUn, rU, rI0, rI, tAnd, tOr, tNot, tB, tAndV, tOrV, tNotV, tIf, tIfT, tKGet, tChain, tDGet, tDGet1, sDPut, tDNewK, tDisp, tPairs, tCont, tSl, tNoPart, tPart, rSlT, tChain3, qSortS, qEqDL, qNeDL, tFor_enum, tFor_zip, tFor_rng2, tComp_seq, qSetI, qSortSet, cxOf_prog, cxOf_w, cxOf_nox_prog, cxOf_nox_w, cxOf_mg, cxOf_base, cxOf_nox_mg, cxOf_nox_base, cxComp_prog, cxComp_w, cxComp_mg, cxComp_base, tComp_zipT, tCallL, rSlA, rSlL, tDX, tDXs, tTup, tLst, tBM,
  qEq, qNe, qIn, qNotIn, qIsN, qNotN, qIsB, qNotB, qLen, qInst, qEqD, qNeD, qMinL, qMaxL, qSortI, rIx, rIxL, rIxT, rIxS, rCat, rCatT2, rRep, rRepT, rLeS, rLtS, rAppend, rExtend, tNever, tBreak, tYes,
  tFor_tup, tFor_list, tFor_rng1, tComp_tup, tComp_list, tComp_str, L2.start, cxOf_K, cxOf_nox_K, cxComp_K, List.map_cons, List.map_nil, List.length_cons, List.length_nil, List.replicate_succ, List.replicate_zero, Nat.reduceAdd, Nat.reduceSub, Nat.zero_add, Nat.add_zero, Nat.sub_zero, Nat.sub_self, Nat.add_sub_cancel,
  List.getElem?_cons_zero, List.getElem?_cons_succ, List.set_cons_zero, List.set_cons_succ, List.cons_append, List.nil_append, List.append_nil, List.cons.injEq, Option.some.injEq, V.int.injEq, V.ref.injEq, V.str.injEq, V.bl.injEq, V.ty.injEq,
  reduceCtorEq, false_and, and_false, and_true, true_and, exists_false, exists_const, false_or, or_false, exists_eq_left, exists_eq_left', exists_eq_right, exists_eq_right', exists_and_left, decide_eq_true_eq, Bool.not_eq_true', Bool.decide_eq_true, exists_eq, true_or, or_true, Bool.false_eq_true, if_true, if_false, Bool.true_eq_false, Bool.not_true, Bool.not_false, decide_true, decide_false, List.isEmpty_cons, List.isEmpty_nil, Bool.true_and, Bool.false_and, bne_self_eq_false, beq_self_eq_true])
local macro_rules | `(tactic| walk_at "rd4") => `(tactic| simp only [tPar3, tMaxD, tItems, rItems, qSum, rCountL, tDGet2, tComp_enumT, tSeq, tIfS, tTest, tOp, tVar, tC, tAsg, gName, gTup, gCons, gNil, tRet, tRetN, tDrop, tNext, tCB, tCons, tNil, tCall, tUn, rU, rI0, rI, tAnd, tOr, tNot, tB, tAndV, tOrV, tNotV, tIf, tIfT, tKGet, tChain, tDGet, tDGet1, sDPut, tDNewK, tDisp, tPairs, tCont, tSl, tNoPart, tPart, rSlT, tChain3, qSortS, qEqDL, qNeDL, tFor_enum, tFor_enumT, tFor_zip, tFor_rng2, tComp_seq,  cxOf_prog, cxOf_w, cxOf_nox_prog, cxOf_nox_w, cxOf_mg, cxOf_base, cxOf_nox_mg, cxOf_nox_base, cxComp_prog, cxComp_w, cxComp_mg, cxComp_base, tComp_zipT, tCallL, rSlA, rSlL, tDX, tDXs, tTup, tLst, tBM,
  qEq, qNe, qIn, qNotIn, qIsN, qNotN, qIsB, qNotB, qLen, qInst, qEqD, qNeD, qMinL, qMaxL, qSortI, rIx, rIxL, rIxT, rIxS, rCat, rRep, rRepT, rLeS, rLtS, rAppend, rExtend, tNever, tBreak, tYes,
  tFor_tup, tFor_list, tFor_rng1, tComp_tup, tComp_list, tComp_str, L2.start, cxOf_K, cxOf_nox_K, cxComp_K, List.map_cons, List.map_nil, List.length_cons, List.length_nil, List.replicate_succ, List.replicate_zero, Nat.reduceAdd, Nat.reduceSub, Nat.zero_add, Nat.add_zero, Nat.sub_zero, Nat.sub_self, Nat.add_sub_cancel,
  List.getElem?_cons_zero, List.getElem?_cons_succ, List.set_cons_zero, List.set_cons_succ, List.cons_append, List.nil_append, List.append_nil, List.cons.injEq, Option.some.injEq, V.int.injEq, V.ref.injEq, V.str.injEq, V.bl.injEq, V.ty.injEq,
  reduceCtorEq, false_and, and_false, and_true, true_and, exists_false, exists_const, false_or, or_false, exists_eq_left, exists_eq_left', exists_eq_right, exists_eq_right', exists_and_left, decide_eq_true_eq, Bool.not_eq_true', Bool.decide_eq_true, exists_eq, true_or, or_true, Bool.false_eq_true, if_true, if_false, Bool.true_eq_false, Bool.not_true, Bool.not_false, decide_true, decide_false, List.isEmpty_cons, List.isEmpty_nil, Bool.true_and, Bool.false_and, bne_self_eq_false, beq_self_eq_true])
section
variable {P : Program} {w : World} {K : PySem.W.Frag} {mg : Str → Option Value} {base : Heap} {f : Addr} {fd : FuncData}
def spWords : Sp := fun vs H Q _ => ∃ v ins b, vs = [v] ∧ Dt H v (.tup [ins, .tup (encB b)]) ∧ okB 3 b ∧ ∀ (l : Addr) (H' : Hp) (ws : List V) (ms : Cnt), Same H H' → H l = none → H' l = some (.lst ws) → DtA H' ws (ms.map pairD) → ms.Perm (cntT [] (spotsP b)) → ms.Pairwise (fun p q => rankT p.1 < rankT q.1) → Q (.ref l) H'
theorem ok_words_in (F : Fun K "words_in" "words_in" s_words_in f fd) (b_sorted : mg "sorted" = none) (c_spots : Callee P w K mg base "spots" ["program"] 8 spSpotsP) : FnOk P w K mg base CX0 9 f fd ["program"] spWords := by
  refine F.ok sc_words_in (fun vs H Q E h => ?_) (fun cdv A outer s H vs Q E hr h => ?_)
  · obtain ⟨v, ins, b, rfl, _⟩ := h
    rfl
  obtain ⟨v, ins, b, rfl, hd, hok, q⟩ := h
  refine ⟨_, (pss_cons (ps_set (i := 1) sc_words_in.nd rfl loc_words_in_many pe_dnewK (swaps_plain rfl))
  (pss_cons (ps_for PassesOwn.never rfl (pi_list (pe_cc c_spots hr (by omega) (pa_c (pe_var (i := 0) rfl vis_words_in_program db_program cd_program) pa_nil) gl_words_in_spots db_spots)) (pg_tup (n := 2) rfl (pgs_cons (pg_name (i := 2) sc_words_in.nd rfl loc_words_in_path) (pgs_cons (pg_name (i := 3) sc_words_in.nd rfl loc_words_in_term) pgs_nil)))
  (pss_one (ps_dput hr.units1 (pe_var (i := 1) rfl vis_words_in_many db_many cd_many) (pe_ix ix_tup (pe_var (i := 3) rfl vis_words_in_term db_term cd_term) pe_int (fun _ _ => rfl)) (pe_op op_add (pe_dget2 hr.units1 (pe_var (i := 1) rfl vis_words_in_many db_many cd_many) (pe_ix ix_tup (pe_var (i := 3) rfl vis_words_in_term db_term cd_term) pe_int (fun _ _ => rfl)) pe_int ⟨rfl, rfl, rfl, rfl⟩) pe_int) (swaps_plain rfl))))
  (pss_one (ps_ret (pe_cB (call_sortedItems rfl) gl_words_in_sorted b_sorted bt_sorted (pa_c (pe_items (pe_var (i := 1) rfl vis_words_in_many db_many cd_many)) pa_nil) nn_sorted db_sorted))))), ?_⟩
  walk_at "rd4"
  intro d hdn
  have s1 := same_new hdn (HO.dK [])
  refine ⟨v, ins, b, rfl, hd.kp s1.kp, hok, fun ra H1 us s2 f2 h2 d2 => ?_⟩
  refine ⟨ra, rfl, ⟨_, SqL.of h2⟩, ?_⟩
  have hne : ra ≠ d := fun e => by rw [e, upd_same] at f2; cases f2
  have hul : us.length = (spotsP b).length := by rw [d2.length, List.length_map]
  refine for_list (xs := us) (WInv H v (spotsP b) ra us d) ?start ?lst ?step ?done
  case start => exact ⟨_, _, rfl, s1.trans s2, by rw [List.take_zero]; exact s2 _ _ upd_same, h2, d2⟩
  case lst =>
    rintro i σ Hc _ ⟨_, _, rfl, _, _, hu, _⟩
    exact SqL.of hu
  case done =>
    rintro σ Hc ⟨_, _, rfl, sc, hc, hu, du⟩
    walk_at "rd4"
    rw [hul, List.take_length] at hc
    have ok := cntT_ok (spotsP b) CntOk.nil
    refine ⟨_, hc, fun p hp => ?_⟩
    have s3 := same_new hp (itemsO p d)
    refine ⟨p, d, cntT [] (spotsP b), rankT, rfl, upd_same, s3 _ _ hc, Nat.lt_of_le_of_lt ok.len (by decide), fun x hx y hy => rank_ok (ok.sub x hx) (ok.sub y hy), fun l H' ws ms s4 f4 h4 d4 pm pw => ?_⟩
    exact q l H' ws ms (sc.trans (s3.trans s4)) ((sc.trans s3).free f4) h4 d4 pm pw
  case step =>
    rintro i y σ Hc hy ⟨_, _, rfl, sc, hc, hu, du⟩
    obtain ⟨r, hri, dr⟩ := map_at du hy
    obtain ⟨pp, y0, y1, rfl, hpp, u0, u1⟩ := tup2 dr
    obtain ⟨ta, ty, tx, rfl, hta⟩ := term_tup u1
    walk_at "rd4"
    have ok := cntT_ok ((spotsP b).take i) CntOk.nil
    refine ⟨_, SqT.of hpp, rfl, _, _, rfl, _, _, rfl, rfl, .inl ⟨_, .inl hc⟩, _, rfl, _, SqT.of hta, _, atI_zero, _, DGet.k (k := Sum.inr r.2.word) hc, _, val_getD _ _, _, rfl, _, SqT.of hta, _, atI_zero, _, DPut.k (k := Sum.inr r.2.word) hc ?_, ?_⟩
    · unfold kvC
      rw [List.length_map]
      exact Nat.lt_of_le_of_lt ok.len (by decide)
    · refine ⟨_, _, rfl, same_upd sc hdn, ?_, by rw [upd_ne hne]; exact hu, du.kp (kp_dict hc)⟩
      rw [upd_same, put_kv, take_snoc hri, cntT_append]
      rfl
theorem comp_kinds {ra : Addr} {us : List V} {l : List RD} {Q : VK} {H1 : Hp} (h2 : H1 ra = some (.lst us)) (d2 : DtA H1 us (l.map rowE)) (hz : l.length ≤ 100000) (q : ∀ (r : Addr), H1 r = none → Q (.ref r) (upd H1 r (.lst ((kindsR l).map V.str)))) :
    CompW (Itl K ra) (gTup K 2 (gCons (gName 0) (gCons (gName 1) gNil))) tYes (tOp (rIxT K) (tVar 1) (tC (V.int 0))) Q [none, none] H1 := by
  have hul : us.length = l.length := by rw [d2.length, List.length_map]
  refine comp_list (K := K) (a := ra) (xs := us) (KInv H1 l) ⟨rfl, ⟨_, _, rfl⟩, by rw [List.take_zero]; rfl, Nat.le_refl _⟩ (by rw [hul]; exact Nat.lt_of_le_of_lt hz (by decide)) ?_ ?_ ?_ ?_
  · rintro i ys σ' H' ⟨_, _, _, hy⟩
    exact hy
  · rintro i ys σ' H' _ ⟨rfl, _, _⟩
    exact SqL.of h2
  · rintro i ys v' σ' H' hxi ⟨rfl, ⟨t, u, rfl⟩, ey, hy⟩
    obtain ⟨r, hri, dr⟩ := map_at d2 hxi
    obtain ⟨pp, y0, y1, rfl, hpp, u0, u1⟩ := tup2 dr
    obtain ⟨a, xs, rfl, ha⟩ := deed_kind u1
    walk_at "rd4"
    refine ⟨_, SqT.of hpp, rfl, _, _, rfl, _, _, rfl, rfl, _, rfl, _, SqT.of ha, _, atI_zero, rfl, ⟨_, _, rfl⟩, ?_, by rw [List.length_append, List.length_singleton]; omega⟩
    rw [take_snoc hri, ey, kindsR, kindsR, List.map_append, List.map_append]
    rfl
  · rintro ys σ' H' ⟨rfl, _, ey, _⟩ pe hpe
    rw [hul, List.take_length] at ey
    rw [ey]
    exact q pe hpe
def spKinds : Sp := fun vs H Q _ => ∃ v ins b, vs = [v] ∧ Dt H v (.tup [ins, .tup (encB b)]) ∧ okW 4 b ∧ ∀ (r : Addr) (H' : Hp), Same H H' → H r = none → H' r = some (.tup [.int (cntK (deedsP b) "set"), .int (cntK (deedsP b) "if"), .int (cntK (deedsP b) "while")]) → Q (.ref r) H'
theorem ok_deeds_in (F : Fun K "deeds_in" "deeds_in" s_deeds_in f fd) (b_tuple : mg "tuple" = none) {ad : Addr} (g_DEEDS : GC mg "DEEDS" (.ref ad)) (hD : ∀ H, SqT K H ad [.str "set", .str "if", .str "while"]) (c_all_deeds : Callee P w K mg base "all_deeds" ["program"] 7 spAllDeeds) : FnOk P w K mg base CX0 8 f fd ["program"] spKinds := by
  refine F.ok sc_deeds_in (fun vs H Q E h => ?_) (fun cdv A outer s H vs Q E hr h => ?_)
  · obtain ⟨v, ins, b, rfl, _⟩ := h
    rfl
  obtain ⟨v, ins, b, rfl, hd, hok, q⟩ := h
  refine ⟨_, (pss_cons (ps_set (i := 1) sc_deeds_in.nd rfl loc_deeds_in_kinds (pe_comp ["path", "deed"] [none, none] rfl (CompS.of (by rfl)) (pi_list (pe_cc c_all_deeds hr (by omega) (pa_c (pe_var (i := 0) rfl vis_deeds_in_program db_program cd_program) pa_nil) gl_deeds_in_all_deeds db_all_deeds)) (fun _ _ _ _ _ => (pg_tupK (n := 2) (K := K) rfl rfl (pgs_cons (pg_name (i := 0) (show List.Nodup (["path", "deed"] : List Str) from by decide +kernel) rfl (Or.inl rfl)) (pgs_cons (pg_name (i := 1) (show List.Nodup (["path", "deed"] : List Str) from by decide +kernel) rfl (Or.inl rfl)) pgs_nil)))) (fun _ _ _ _ _ => pif_nil) (fun _ _ _ _ _ => (pe_ix (ixK (r := rIxT) (K := K) ix_tup rfl) (pe_var (i := 1) rfl (by first | exact Or.inl rfl | exact Or.inr (Or.inl rfl) | exact Or.inr (Or.inr rfl)) db_deed cd_deed) pe_int (fun _ _ => rfl)))) (swaps_cell cell_deeds_in_kinds))
  (pss_one (ps_ret (pe_cT call_tuple_of gl_deeds_in_tuple b_tuple bt_tuple (pa_c (pe_comp ["kind", "kinds"] [none, some 1] rfl (CompS.of (by rfl)) (pi_tup (pe_gc g_DEEDS gl_deeds_in_DEEDS db_DEEDS)) (fun _ _ _ _ _ => (pg_name (i := 0) (show List.Nodup (["kind", "kinds"] : List Str) from by decide +kernel) rfl (Or.inl rfl))) (fun _ _ _ _ _ => pif_nil) (fun _ _ _ _ _ => (pe_bmK (K := K) rfl PySem.F.plainAttrs_list PySem.F.slot_list_count PySem.F.type_list_count mt_count (pe_var (i := 1) rfl (by first | exact Or.inl rfl | exact Or.inr (Or.inl rfl) | exact Or.inr (Or.inr rfl)) db_kinds cd_kinds) (pa_c (pe_var (i := 0) rfl (by first | exact Or.inl rfl | exact Or.inr (Or.inl rfl) | exact Or.inr (Or.inr rfl)) db_kind cd_kind) pa_nil)))) pa_nil) nn_tuple db_tuple)))), ?_⟩
  walk_at "rd4"
  refine ⟨v, ins, b, rfl, hd, hok, fun ra H1 us s2 f2 h2 d2 => ?_⟩
  have hz : (deedsP b).length ≤ 100000 := by
    have h1 := deedsW_bnd 4 b [] 0 hok
    have h2 := bndW_le (n := 4) (by decide)
    have h3 : (deedsP b).length ≤ bndW 4 := h1
    omega
  refine ⟨ra, rfl, ⟨_, SqL.of h2⟩, comp_kinds h2 d2 hz fun kr hkr => ?_⟩
  have s3 := same_new hkr (HO.lst ((kindsR (deedsP b)).map V.str))
  have hk : (upd H1 kr (HO.lst ((kindsR (deedsP b)).map V.str))) kr = some (.lst ((kindsR (deedsP b)).map V.str)) := upd_same
  generalize upd H1 kr (HO.lst ((kindsR (deedsP b)).map V.str)) = U at s3 hk ⊢
  refine ⟨⟨_, hD U⟩, ?_⟩
  refine comp_tup (K := K) (a := ad) (xs := [.str "set", .str "if", .str "while"]) (NInv U kr (deedsP b)) ⟨rfl, ⟨_, rfl⟩, rfl, Nat.le_refl _⟩ (by decide) ?_ ?_ ?_ ?_
  · rintro i ys σ' H' ⟨_, _, _, hy⟩
    exact hy
  · rintro i ys σ' H' _ ⟨rfl, _, _⟩
    exact hD _
  · rintro i ys v' σ' H' hxi ⟨rfl, ⟨t, rfl⟩, ey, hy⟩
    walk_at "rd4"
    rcases i with _ | _ | _ | i
    · cases hxi
      refine ⟨.inl ⟨rfl, _, SqL.of hk⟩, _, _, rfl, hk, rfl, ⟨_, rfl⟩, by rw [ey]; rfl, by rw [ey]; exact Nat.le_refl _⟩
    · cases hxi
      refine ⟨.inl ⟨rfl, _, SqL.of hk⟩, _, _, rfl, hk, rfl, ⟨_, rfl⟩, by rw [ey]; rfl, by rw [ey]; exact Nat.le_refl _⟩
    · cases hxi
      refine ⟨.inl ⟨rfl, _, SqL.of hk⟩, _, _, rfl, hk, rfl, ⟨_, rfl⟩, by rw [ey]; rfl, by rw [ey]; exact Nat.le_refl _⟩
    · simp at hxi
  · rintro ys σ' H' ⟨rfl, _, ey, _⟩ pe hpe
    refine ⟨pe, rfl, ys, .inl ⟨SqL.of upd_same, fun l hl => ?_⟩⟩
    have s5 := same_new hpe (HO.lst ys)
    have s6 := same_new hl (HO.tup ys)
    refine q l _ (s2.trans (s3.trans (s5.trans s6))) ((s2.trans (s3.trans s5)).free hl) ?_
    rw [upd_same, ey]
    rfl
end
end SR


set_option Elab.async false
set_option linter.all false
set_option maxRecDepth 100000
set_option maxHeartbeats 0
namespace SR
open PySem L2
local macro_rules | `(tactic| walk_at "rd") => `(tactic| simp only [tSeq, tIfS, tTest, tOp, tVar, tC, tAsg, gName, gTup, gCons, gNil, tRet, tRetN, tDrop, tNext, tCB, tCons, tNil, tCall, tUn, rU, rI0, rI, tAnd, tOr, tNot, tB, tAndV, tOrV, tNotV, tIf, tIfT, tKGet, tChain, tDGet, tDGet1, sDPut, tDNewK, tDisp, tPairs, tCont, tSl, tNoPart, tPart, rSlT, tChain3, qSortS, qEqDL, qNeDL, tFor_enum, tFor_zip, tFor_rng2, tComp_seq, qSetI, qSortSet, cxOf_prog, cxOf_w, cxOf_nox_prog, cxOf_nox_w, cxOf_mg, cxOf_base, cxOf_nox_mg, cxOf_nox_base, cxComp_prog, cxComp_w, cxComp_mg, cxComp_base, tComp_zipT, tCallL, rSlA, rSlL, tDX, tDXs, tTup, tLst, tBM,
  qEq, qNe, qIn, qNotIn, qIsN, qNotN, qIsB, qNotB, qLen, qInst, qEqD, qNeD, qMinL, qMaxL, qSortI, rIx, rIxL, rIxT, rIxS, rCat, rCatT2, rRep, rRepT, rLeS, rLtS, rAppend, rExtend, tNever, tBreak, tYes,
  tFor_tup, tFor_list, tFor_rng1, tComp_tup, tComp_list, tComp_str, L2.start, cxOf_K, cxOf_nox_K, cxComp_K, List.map_cons, List.map_nil, List.length_cons, List.length_nil, List.replicate_succ, List.replicate_zero, Nat.reduceAdd, Nat.reduceSub, Nat.zero_add, Nat.add_zero, Nat.sub_zero, Nat.sub_self, Nat.add_sub_cancel,
  List.getElem?_cons_zero, List.getElem?_cons_succ, List.set_cons_zero, List.set_cons_succ, List.cons_append, List.nil_append, List.append_nil, List.cons.injEq, Option.some.injEq, V.int.injEq, V.ref.injEq, V.str.injEq, V.bl.injEq, V.ty.injEq,
  reduceCtorEq, false_and, and_false, and_true, true_and, exists_false, exists_const, false_or, or_false, exists_eq_left, exists_eq_left', exists_eq_right, exists_eq_right', exists_and_left, decide_eq_true_eq, Bool.not_eq_true', Bool.decide_eq_true, exists_eq, true_or, or_true, Bool.false_eq_true, if_true, if_false, Bool.true_eq_false, Bool.not_true, Bool.not_false, decide_true, decide_false, List.isEmpty_cons, List.isEmpty_nil, Bool.true_and, Bool.false_and, bne_self_eq_false, beq_self_eq_true])
section
variable {P : Program} {w : World} {K : PySem.W.Frag} {mg : Str → Option Value} {base : Heap} {f : Addr} {fd : FuncData}
/-! ### depths -/
def mxL : List Nat → Nat
  | [] => 0
  | a :: l => max a (mxL l)
theorem mxL_append : ∀ a b : List Nat, mxL (a ++ b) = max (mxL a) (mxL b)
  | [], b => by simp [mxL]
  | x :: a, b => by rw [List.cons_append, mxL, mxL, mxL_append a b]; omega
theorem mxL_le : ∀ {l : List Nat} {x : Nat}, x ∈ l → x ≤ mxL l
  | a :: l, x, h => by
    rw [mxL]
    rcases List.mem_cons.mp h with rfl | h
    · omega
    · have := mxL_le h; omega
theorem mxL_in : ∀ {l : List Nat}, l ≠ [] → mxL l ∈ l
  | [a], _ => by simp [mxL]
  | a :: b :: l, _ => by
    have ih := mxL_in (l := b :: l) (by simp)
    rw [mxL]
    rcases Nat.le_total a (mxL (b :: l)) with h | h
    · rw [Nat.max_eq_right h]; exact .tail _ ih
    · rw [Nat.max_eq_left h]; exact .head _
def isMx (l : List Nat) (M : Int) : Prop := (l.map (fun x : Nat => (x : Int)) = [] ∧ M = 0) ∨ (M ∈ l.map (fun x : Nat => (x : Int)) ∧ ∀ a ∈ l.map (fun x : Nat => (x : Int)), a ≤ M)
theorem mx_is {l : List Nat} {M : Int} (h : isMx l M) : M = mxL l := by
  rcases h with ⟨h1, rfl⟩ | ⟨h1, h2⟩
  · rw [List.map_eq_nil_iff] at h1
    rw [h1]; rfl
  · obtain ⟨x, hx, rfl⟩ := List.mem_map.mp h1
    have a := mxL_le hx
    have b := h2 (mxL l) (List.mem_map.mpr ⟨_, mxL_in (fun z => by rw [z] at hx; simp at hx), rfl⟩)
    show (x : Int) = ((mxL l : Nat) : Int)
    omega
mutual
def bdD : D → Nat
  | .set _ _ => 0
  | .ite _ b c => max (bdB b) (bdB c)
  | .whl _ _ b => bdB b
def bdB : List D → Nat
  | [] => 1
  | d :: b => max (1 + bdD d) (bdB b)
end
theorem bdB_mx : ∀ b : List D, bdB b = 1 + mxL (b.map bdD)
  | [] => by simp [bdB, mxL]
  | d :: b => by rw [bdB, bdB_mx b, List.map_cons, mxL]; omega
theorem bdD_mx (d : D) : bdD d = mxL (d.blocks.map fun q => bdB q.2) := by
  cases d with
  | set x t => simp [bdD, D.blocks, mxL]
  | ite t b c => simp [bdD, D.blocks, mxL]
  | whl t m b => simp [bdD, D.blocks, mxL]
def mxT (l : List RD) : Nat := mxL (l.map fun r => r.2.term.deep)
theorem mx_spotsT : ∀ (t : T) (p : List Int), mxL ((spotsT p t).map fun r => r.2.deep) = t.deep
  | .num i, p => by simp [spotsT, mxL, T.deep]
  | .nm x, p => by simp [spotsT, mxL, T.deep]
  | .op w a b, p => by
    rw [spotsT, List.map_cons, mxL, List.map_append, mxL_append, mx_spotsT a, mx_spotsT b]
    simp only [T.deep]
    omega
theorem mx_spotsR : ∀ l : List RD, mxL ((spotsR l).map fun r => r.2.deep) = mxT l
  | [] => by simp [spotsR, mxL, mxT]
  | r :: l => by
    have ih := mx_spotsR l
    unfold mxT at ih ⊢
    rw [spotsR, List.map_append, mxL_append, mx_spotsT, ih, List.map_cons, mxL]
theorem okWD_term {n : Nat} {d : D} (h : okWD n d) : T.ok pool 5 d.term := by
  cases d with
  | set x t => exact h.2
  | ite t b c => exact h.1
  | whl t m b => exact h.1
theorem rowsW_step {n : Nat} (ih : ∀ (b : List D) (p : List Int) (k : Int), okW n b → ∀ r ∈ deedsB p k b, T.ok pool 5 r.2.term) : ∀ (b : List D) (p : List Int) (k : Int), (∀ d ∈ b, okWD n d) → ∀ r ∈ deedsB p k b, T.ok pool 5 r.2.term
  | [], p, k, _, r, hr => by simp [deedsB] at hr
  | d :: b, p, k, h, r, hr => by
    rw [deedsB, List.mem_append] at hr
    rcases hr with hr | hr
    · have hd := h d (.head _)
      rw [deedsD_eq, List.mem_cons] at hr
      rcases hr with rfl | hr
      · exact okWD_term hd
      · have key : ∀ l : List (Int × List D), (∀ q ∈ l, q ∈ d.blocks) → r ∈ flatB (p ++ [k]) l → T.ok pool 5 r.2.term := by
          intro l
          induction l with
          | nil => intro _ hr; simp [flatB] at hr
          | cons q l ihl =>
            intro hl hr
            rw [flatB, List.mem_append] at hr
            rcases hr with hr | hr
            · exact ih q.2 (p ++ [k] ++ [q.1]) 0 (blocksW_ok hd (hl q (.head _))) r hr
            · exact ihl (fun z hz => hl z (.tail _ hz)) hr
        exact key d.blocks (fun _ z => z) hr
    · exact rowsW_step ih b p (k + 1) (fun e he => h e (.tail _ he)) r hr
theorem deedsW_rows : ∀ (n : Nat) (b : List D) (p : List Int) (k : Int), okW n b → ∀ r ∈ deedsB p k b, T.ok pool 5 r.2.term
  | 0, _, _, _, h => h.elim
  | n + 1, b, p, k, h => rowsW_step (deedsW_rows n) b p k h.2
def eight : List Str := ["add", "sub", "mul", "quo", "less", "same", "min", "max"]
def BInvD (H : Hp) (b : List D) (ab : Addr) (i : Nat) (ys : List V) (σ' : St) (H' : Hp) : Prop := Same H H' ∧ (∃ t, σ' = [t]) ∧ ys = ((b.take i).map fun d => V.int (bdD d)) ∧ ys.length ≤ i
def BInvB (H : Hp) (l : List (Int × List D)) (i : Nat) (ys : List V) (σ' : St) (H' : Hp) : Prop := Same H H' ∧ (∃ t u, σ' = [t, u]) ∧ ys = ((l.take i).map fun q => V.int (bdB q.2)) ∧ ys.length ≤ i
def TInv (H : Hp) (l : List RD) (i : Nat) (ys : List V) (σ' : St) (H' : Hp) : Prop := H' = H ∧ (∃ t u, σ' = [t, u]) ∧ DtA H ys ((l.take i).map fun r => r.2.term.enc) ∧ ys.length ≤ i
def DInvT (H : Hp) (l : List RD) (i : Nat) (ys : List V) (σ' : St) (H' : Hp) : Prop := H' = H ∧ (∃ t, σ' = [t]) ∧ ys = ((l.take i).map fun r => V.int r.2.term.deep) ∧ ys.length ≤ i
def lbs : List D → List Nat
  | [] => []
  | d :: b => (d.blocks.map fun q => bdB q.2) ++ lbs b
theorem lbs_append : ∀ a b : List D, lbs (a ++ b) = lbs a ++ lbs b
  | [], b => rfl
  | d :: a, b => by rw [List.cons_append, lbs, lbs, lbs_append a b, List.append_assoc]
theorem lbs_mx : ∀ b : List D, mxL (lbs b) = mxL (b.map bdD)
  | [] => rfl
  | d :: b => by rw [lbs, mxL_append, lbs_mx b, List.map_cons, mxL, bdD_mx]
theorem lbs_len : ∀ b : List D, (lbs b).length ≤ 2 * b.length
  | [] => by simp [lbs]
  | d :: b => by
    have := lbs_len b
    have := blocks_len d
    rw [lbs, List.length_append, List.length_map, List.length_cons]
    omega
def LBInv (H : Hp) (ab p : Addr) (b : List D) (i : Nat) (σ : St) (Hc : Hp) : Prop := ∃ x2 : Option V, σ = [some (.ref ab), some (.ref p), x2] ∧ Same H Hc ∧ Hc p = some (.lst ((0 :: lbs (b.take i)).map fun x : Nat => V.int x))
def LCInv (H : Hp) (bs : List (List D)) (i : Nat) (ys : List V) (σ' : St) (H' : Hp) : Prop := Same H H' ∧ (∃ t, σ' = [t]) ∧ ys = ((bs.take i).map fun q => V.int (bdB q)) ∧ ys.length ≤ i
end
end SR


set_option Elab.async false
set_option linter.all false
set_option maxRecDepth 100000
set_option maxHeartbeats 0
namespace SR
open PySem L2
local macro_rules | `(tactic| walk_at "rd") => `(tactic| simp only [tSeq, tIfS, tTest, tOp, tVar, tC, tAsg, gName, gTup, gCons, gNil, tRet, tRetN, tDrop, tNext, tCB, tCons, tNil, tCall, tUn, rU, rI0, rI, tAnd, tOr, tNot, tB, tAndV, tOrV, tNotV, tIf, tIfT, tKGet, tChain, tDGet, tDGet1, sDPut, tDNewK, tDisp, tPairs, tCont, tSl, tNoPart, tPart, rSlT, tChain3, qSortS, qEqDL, qNeDL, tFor_enum, tFor_zip, tFor_rng2, tComp_seq, qSetI, qSortSet, cxOf_prog, cxOf_w, cxOf_nox_prog, cxOf_nox_w, cxOf_mg, cxOf_base, cxOf_nox_mg, cxOf_nox_base, cxComp_prog, cxComp_w, cxComp_mg, cxComp_base, tComp_zipT, tCallL, rSlA, rSlL, tDX, tDXs, tTup, tLst, tBM,
  qEq, qNe, qIn, qNotIn, qIsN, qNotN, qIsB, qNotB, qLen, qInst, qEqD, qNeD, qMinL, qMaxL, qSortI, rIx, rIxL, rIxT, rIxS, rCat, rCatT2, rRep, rRepT, rLeS, rLtS, rAppend, rExtend, tNever, tBreak, tYes,
  tFor_tup, tFor_list, tFor_rng1, tComp_tup, tComp_list, tComp_str, L2.start, cxOf_K, cxOf_nox_K, cxComp_K, List.map_cons, List.map_nil, List.length_cons, List.length_nil, List.replicate_succ, List.replicate_zero, Nat.reduceAdd, Nat.reduceSub, Nat.zero_add, Nat.add_zero, Nat.sub_zero, Nat.sub_self, Nat.add_sub_cancel,
  List.getElem?_cons_zero, List.getElem?_cons_succ, List.set_cons_zero, List.set_cons_succ, List.cons_append, List.nil_append, List.append_nil, List.cons.injEq, Option.some.injEq, V.int.injEq, V.ref.injEq, V.str.injEq, V.bl.injEq, V.ty.injEq,
  reduceCtorEq, false_and, and_false, and_true, true_and, exists_false, exists_const, false_or, or_false, exists_eq_left, exists_eq_left', exists_eq_right, exists_eq_right', exists_and_left, decide_eq_true_eq, Bool.not_eq_true', Bool.decide_eq_true, exists_eq, true_or, or_true, Bool.false_eq_true, if_true, if_false, Bool.true_eq_false, Bool.not_true, Bool.not_false, decide_true, decide_false, List.isEmpty_cons, List.isEmpty_nil, Bool.true_and, Bool.false_and, bne_self_eq_false, beq_self_eq_true])
local macro_rules | `(tactic| walk_at "rd4") => `(tactic| simp only [tPar3, tMaxD, tItems, rItems, qSum, rCountL, tDGet2, tComp_enumT, tSeq, tIfS, tTest, tOp, tVar, tC, tAsg, gName, gTup, gCons, gNil, tRet, tRetN, tDrop, tNext, tCB, tCons, tNil, tCall, tUn, rU, rI0, rI, tAnd, tOr, tNot, tB, tAndV, tOrV, tNotV, tIf, tIfT, tKGet, tChain, tDGet, tDGet1, sDPut, tDNewK, tDisp, tPairs, tCont, tSl, tNoPart, tPart, rSlT, tChain3, qSortS, qEqDL, qNeDL, tFor_enum, tFor_enumT, tFor_zip, tFor_rng2, tComp_seq,  cxOf_prog, cxOf_w, cxOf_nox_prog, cxOf_nox_w, cxOf_mg, cxOf_base, cxOf_nox_mg, cxOf_nox_base, cxComp_prog, cxComp_w, cxComp_mg, cxComp_base, tComp_zipT, tCallL, rSlA, rSlL, tDX, tDXs, tTup, tLst, tBM,
  qEq, qNe, qIn, qNotIn, qIsN, qNotN, qIsB, qNotB, qLen, qInst, qEqD, qNeD, qMinL, qMaxL, qSortI, rIx, rIxL, rIxT, rIxS, rCat, rRep, rRepT, rLeS, rLtS, rAppend, rExtend, tNever, tBreak, tYes,
  tFor_tup, tFor_list, tFor_rng1, tComp_tup, tComp_list, tComp_str, L2.start, cxOf_K, cxOf_nox_K, cxComp_K, List.map_cons, List.map_nil, List.length_cons, List.length_nil, List.replicate_succ, List.replicate_zero, Nat.reduceAdd, Nat.reduceSub, Nat.zero_add, Nat.add_zero, Nat.sub_zero, Nat.sub_self, Nat.add_sub_cancel,
  List.getElem?_cons_zero, List.getElem?_cons_succ, List.set_cons_zero, List.set_cons_succ, List.cons_append, List.nil_append, List.append_nil, List.cons.injEq, Option.some.injEq, V.int.injEq, V.ref.injEq, V.str.injEq, V.bl.injEq, V.ty.injEq,
  reduceCtorEq, false_and, and_false, and_true, true_and, exists_false, exists_const, false_or, or_false, exists_eq_left, exists_eq_left', exists_eq_right, exists_eq_right', exists_and_left, decide_eq_true_eq, Bool.not_eq_true', Bool.decide_eq_true, exists_eq, true_or, or_true, Bool.false_eq_true, if_true, if_false, Bool.true_eq_false, Bool.not_true, Bool.not_false, decide_true, decide_false, List.isEmpty_cons, List.isEmpty_nil, Bool.true_and, Bool.false_and, bne_self_eq_false, beq_self_eq_true])
section
variable {P : Program} {w : World} {K : PySem.W.Frag} {mg : Str → Option Value} {base : Heap} {f : Addr} {fd : FuncData}
def spDT (n : Nat) : Sp := fun vs H Q _ => ∃ v t, vs = [v] ∧ Dt H v (T.enc t) ∧ t.deep ≤ n ∧ Q (.int t.deep) H
theorem ok_depth_of_term {n : Nat} (F : Fun K "depth_of_term" "depth_of_term" s_depth_of_term f fd) (b_max : mg "max" = none) {aw : Addr} (g_WORDS : GC mg "WORDS" (.ref aw)) (hW : ∀ H, SqT K H aw (eight.map V.str)) (c_depth_of_term : Callee P w K mg base "depth_of_term" ["term"] (n + 1) (spDT n)) : FnOk P w K mg base CX0 (n + 2) f fd ["term"] (spDT (n + 1)) := by
  refine F.ok sc_depth_of_term (fun vs H Q E h => ?_) (fun cdv A outer s H vs Q E hr h => ?_)
  · obtain ⟨v, t, rfl, _⟩ := h
    rfl
  obtain ⟨v, t, rfl, hd, hn, q⟩ := h
  refine ⟨_, (pss_cons (ps_if (pt_cmpR (gNotIn hr.units) (pe_ix ix_tup (pe_var (i := 0) rfl vis_depth_of_term_term db_term cd_term) pe_int (fun _ _ => rfl)) (pe_gc g_WORDS gl_depth_of_term_WORDS db_WORDS) (by with_unfolding_all rfl)) (pss_one (ps_ret pe_int)) pss_nil)
  (pss_one (ps_ret (pe_op op_add pe_int (pe_cB (call_max2 rfl) gl_depth_of_term_max b_max bt_max (pa_c (pe_cc c_depth_of_term hr (by omega) (pa_c (pe_ix ix_tup (pe_var (i := 0) rfl vis_depth_of_term_term db_term cd_term) pe_int (fun _ _ => rfl)) pa_nil) gl_depth_of_term_depth_of_term db_depth_of_term) (pa_c (pe_cc c_depth_of_term hr (by omega) (pa_c (pe_ix ix_tup (pe_var (i := 0) rfl vis_depth_of_term_term db_term cd_term) pe_int (fun _ _ => rfl)) pa_nil) gl_depth_of_term_depth_of_term db_depth_of_term) pa_nil)) nn_max db_max))))), ?_⟩
  walk_at "rd4"
  have no : ∀ x : Str, NotInOf K (.str x) (.ref aw) H (!eight.contains x) := fun x => .inl ⟨aw, _, rfl, .inr (hW H), rfl, flat_strs _, by rw [inV_strs]⟩
  cases t with
  | num i =>
    rw [T.enc] at hd
    obtain ⟨a, x0, x1, rfl, ha, t0, t1⟩ := tup2 hd
    cases t0
    refine ⟨_, rfl, _, SqT.of ha, _, rfl, _, no _, ?_⟩
    rw [if_pos (by decide +kernel)]
    exact q
  | nm x =>
    rw [T.enc] at hd
    obtain ⟨a, x0, x1, rfl, ha, t0, t1⟩ := tup2 hd
    cases t0
    refine ⟨_, rfl, _, SqT.of ha, _, rfl, _, no _, ?_⟩
    rw [if_pos (by decide +kernel)]
    exact q
  | op wd ta tb =>
    rw [T.enc] at hd
    obtain ⟨a, x0, x1, x2, rfl, ha, t0, t1, t2⟩ := tup3 hd
    cases t0
    have hab : ta.deep ≤ n ∧ tb.deep ≤ n := by
      simp only [T.deep] at hn
      omega
    refine ⟨_, rfl, _, SqT.of ha, _, rfl, _, no _, ?_⟩
    rw [if_neg (by cases wd <;> decide +kernel)]
    refine ⟨_, rfl, _, SqT.of ha, _, rfl, x1, ta, rfl, t1, hab.1, ?_⟩
    refine ⟨_, rfl, _, SqT.of ha, _, rfl, x2, tb, rfl, t2, hab.2, ?_⟩
    refine ⟨_, _, ⟨rfl, rfl⟩, ?_⟩
    have e : (1 + if (tb.deep : Int) > ta.deep then (tb.deep : Int) else ta.deep) = ((T.op wd ta tb).deep : Nat) := by
      simp only [T.deep]
      split <;> omega
    rw [e]
    exact q
theorem ok_law_deep {n : Nat} (F : Fun K "_law_deep" "_law_deep" s_law_deep f fd) (b_max : mg "max" = none) (b_len : mg "len" = none) (c_law_deep : Callee P w K mg base "_law_deep" ["_law_expr"] (n + 1) (spDT n)) : FnOk P w K mg base CX0 (n + 2) f fd ["_law_expr"] (spDT (n + 1)) := by
  refine F.ok sc_law_deep (fun vs H Q E h => ?_) (fun cdv A outer s H vs Q E hr h => ?_)
  · obtain ⟨v, t, rfl, _⟩ := h
    rfl
  obtain ⟨v, t, rfl, hd, hn, q⟩ := h
  refine ⟨_, (pss_one (ps_ret (pe_ifExp (pt_cmpR op_eqI (pe_cB gLen gl_law_deep_len b_len bt_len (pa_c (pe_var (i := 0) rfl vis_law_deep__law_expr db__law_expr cd__law_expr) pa_nil) nn_len db_len) pe_int (nomark _)) pe_int (pe_op op_add pe_int (pe_cB (call_max2 rfl) gl_law_deep_max b_max bt_max (pa_c (pe_cc c_law_deep hr (by omega) (pa_c (pe_ix ix_tup (pe_var (i := 0) rfl vis_law_deep__law_expr db__law_expr cd__law_expr) pe_int (fun _ _ => rfl)) pa_nil) gl_law_deep__law_deep db__law_deep) (pa_c (pe_cc c_law_deep hr (by omega) (pa_c (pe_ix ix_tup (pe_var (i := 0) rfl vis_law_deep__law_expr db__law_expr cd__law_expr) pe_int (fun _ _ => rfl)) pa_nil) gl_law_deep__law_deep db__law_deep) pa_nil)) nn_max db_max))))), ?_⟩
  walk_at "rd4"
  cases t with
  | num i =>
    rw [T.enc] at hd
    obtain ⟨a, x0, x1, rfl, ha, t0, t1⟩ := tup2 hd
    refine ⟨_, lenT (SqT.of ha), ?_⟩
    rw [if_pos (show (([x0, x1].length : Nat) : Int) = 2 from rfl)]
    exact q
  | nm x =>
    rw [T.enc] at hd
    obtain ⟨a, x0, x1, rfl, ha, t0, t1⟩ := tup2 hd
    refine ⟨_, lenT (SqT.of ha), ?_⟩
    rw [if_pos (show (([x0, x1].length : Nat) : Int) = 2 from rfl)]
    exact q
  | op wd ta tb =>
    rw [T.enc] at hd
    obtain ⟨a, x0, x1, x2, rfl, ha, t0, t1, t2⟩ := tup3 hd
    have hab : ta.deep ≤ n ∧ tb.deep ≤ n := by
      simp only [T.deep] at hn
      omega
    refine ⟨_, lenT (SqT.of ha), ?_⟩
    rw [if_neg (show ¬ (([x0, x1, x2].length : Nat) : Int) = 2 from by simp)]
    refine ⟨_, rfl, _, SqT.of ha, _, rfl, x1, ta, rfl, t1, hab.1, ?_⟩
    refine ⟨_, rfl, _, SqT.of ha, _, rfl, x2, tb, rfl, t2, hab.2, ?_⟩
    refine ⟨_, _, ⟨rfl, rfl⟩, ?_⟩
    have e : (1 + if (tb.deep : Int) > ta.deep then (tb.deep : Int) else ta.deep) = ((T.op wd ta tb).deep : Nat) := by
      simp only [T.deep]
      split <;> omega
    rw [e]
    exact q
def spDB (n : Nat) : Sp := fun vs H Q _ => ∃ v b, vs = [v] ∧ Dt H v (.tup (encB b)) ∧ okW n b ∧ n ≤ 4 ∧ ∀ H', Same H H' → Q (.int (bdB b)) H'
def spDD (n : Nat) : Sp := fun vs H Q _ => ∃ v d, vs = [v] ∧ Dt H v (D.enc d) ∧ okWD n d ∧ n ≤ 4 ∧ ∀ H', Same H H' → Q (.int (bdD d)) H'
theorem ok_depth_of_deed {n : Nat} (F : Fun K "depth_of_deed" "depth_of_deed" s_depth_of_deed f fd) (b_max : mg "max" = none) (c_blocks_of : Callee P w K mg base "blocks_of" ["deed"] 1 spBlocksOf) (c_depth_of_block : Callee P w K mg base "depth_of_block" ["block"] (2 * n + 1) (spDB n)) : FnOk P w K mg base CX0 (2 * n + 2) f fd ["deed"] (spDD n) := by
  refine F.ok sc_depth_of_deed (fun vs H Q E h => ?_) (fun cdv A outer s H vs Q E hr h => ?_)
  · obtain ⟨v, t, rfl, _⟩ := h
    rfl
  obtain ⟨v, d, rfl, hd, hok, hn, q⟩ := h
  refine ⟨_, (pss_one (ps_ret (pe_maxD rfl gl_depth_of_deed_max b_max bt_max (pa_c (pe_comp ["number", "block"] [none, none] rfl (CompS.of (by rfl)) (pi_list (pe_cc c_blocks_of hr (by omega) (pa_c (pe_var (i := 0) rfl vis_depth_of_deed_deed db_deed cd_deed) pa_nil) gl_depth_of_deed_blocks_of db_blocks_of)) (fun _ _ _ _ _ => (pg_tupK (n := 2) (K := K) rfl rfl (pgs_cons (pg_name (i := 0) (show List.Nodup (["number", "block"] : List Str) from by decide +kernel) rfl (Or.inl rfl)) (pgs_cons (pg_name (i := 1) (show List.Nodup (["number", "block"] : List Str) from by decide +kernel) rfl (Or.inl rfl)) pgs_nil)))) (fun _ _ _ _ _ => pif_nil) (fun _ _ _ _ _ => (pe_cc c_depth_of_block hr (by omega) (pa_c (pe_var (i := 1) rfl (by first | exact Or.inl rfl | exact Or.inr (Or.inl rfl) | exact Or.inr (Or.inr rfl)) db_block cd_block) pa_nil) rfl db_depth_of_block))) pa_nil) pe_int))), ?_⟩
  walk_at "rd4"
  refine ⟨v, d, rfl, hd, fun ra H1 us s1 f1 h1 d1 => ?_⟩
  refine ⟨ra, rfl, ⟨_, SqL.of h1⟩, ?_⟩
  have hul : us.length = d.blocks.length := by rw [d1.length, List.length_map]
  have hbl := blocks_len d
  refine comp_list (K := K) (a := ra) (xs := us) (BInvB H1 d.blocks) ⟨Same.refl _, ⟨_, _, rfl⟩, by rw [List.take_zero]; rfl, Nat.le_refl _⟩ (by rw [hul]; exact zzlt (by omega)) ?_ ?_ ?_ ?_
  · rintro i ys σ' H' ⟨_, _, _, hy⟩
    exact hy
  · rintro i ys σ' H' _ ⟨s2, _, _⟩
    exact SqL.of (s2 _ _ h1)
  · rintro i ys v' σ' H' hxi ⟨s2, ⟨t, u, rfl⟩, ey, hy⟩
    obtain ⟨nb, hnb, dnb⟩ := map_at d1 hxi
    obtain ⟨pp, y0, y1, rfl, hpp, u0, u1⟩ := tup2 (dnb.kp s2.kp)
    walk_at "rd4"
    refine ⟨_, SqT.of hpp, rfl, _, _, rfl, _, _, rfl, rfl, y1, nb.2, rfl, u1, blocksW_ok hok (List.mem_of_getElem? hnb), hn, fun H2 s3 => ?_⟩
    refine ⟨s2.trans s3, ⟨_, _, rfl⟩, ?_, by rw [List.length_append, List.length_singleton]; omega⟩
    rw [take_snoc hnb, List.map_append, ey]
    rfl
  · rintro ys σ' H' ⟨s2, _, ey, _⟩ pe hpe
    have s3 := same_new hpe (HO.lst ys)
    rw [hul, List.take_length] at ey
    refine ⟨pe, rfl, (d.blocks.map fun q => bdB q.2).map (fun x : Nat => (x : Int)), ?_, fun M hM => ?_⟩
    · rw [List.map_map, List.map_map]
      rw [ey] 
      exact SqL.of upd_same
    · have e := mx_is hM
      rw [← bdD_mx] at e
      rw [e]
      exact q _ (s1.trans (s2.trans s3))
theorem ok_depth_of_block {n : Nat} (F : Fun K "depth_of_block" "depth_of_block" s_depth_of_block f fd) (b_max : mg "max" = none) (c_depth_of_deed : Callee P w K mg base "depth_of_deed" ["deed"] (2 * n + 2) (spDD n)) : FnOk P w K mg base CX0 (2 * n + 3) f fd ["block"] (spDB (n + 1)) := by
  refine F.ok sc_depth_of_block (fun vs H Q E h => ?_) (fun cdv A outer s H vs Q E hr h => ?_)
  · obtain ⟨v, t, rfl, _⟩ := h
    rfl
  obtain ⟨v, b, rfl, hd, hok, hn, q⟩ := h
  refine ⟨_, (pss_one (ps_ret (pe_op op_add pe_int (pe_maxD rfl gl_depth_of_block_max b_max bt_max (pa_c (pe_comp ["deed"] [none] rfl (CompS.of (by rfl)) (pi_tup (pe_var (i := 0) rfl vis_depth_of_block_block db_block cd_block)) (fun _ _ _ _ _ => (pg_name (i := 0) (show List.Nodup (["deed"] : List Str) from by decide +kernel) rfl (Or.inl rfl))) (fun _ _ _ _ _ => pif_nil) (fun _ _ _ _ _ => (pe_cc c_depth_of_deed hr (by omega) (pa_c (pe_var (i := 0) rfl (by first | exact Or.inl rfl | exact Or.inr (Or.inl rfl) | exact Or.inr (Or.inr rfl)) db_deed cd_deed) pa_nil) rfl db_depth_of_deed))) pa_nil) pe_int)))), ?_⟩
  walk_at "rd4"
  obtain ⟨ab, xs, rfl, hab, hda⟩ := hd.tupI
  have hxl : xs.length = b.length := by rw [hda.length, encB_length]
  refine ⟨ab, rfl, ⟨_, SqT.of hab⟩, ?_⟩
  have hbl := hok.1
  refine comp_tup (K := K) (a := ab) (xs := xs) (BInvD H b ab) ⟨Same.refl _, ⟨_, rfl⟩, by rw [List.take_zero]; rfl, Nat.le_refl _⟩ (by rw [hxl]; exact zzlt (by omega)) ?_ ?_ ?_ ?_
  · rintro i ys σ' H' ⟨_, _, _, hy⟩
    exact hy
  · rintro i ys σ' H' _ ⟨s2, _, _⟩
    exact SqT.of (s2 _ _ hab)
  · rintro i ys v' σ' H' hxi ⟨s2, ⟨t, rfl⟩, ey, hy⟩
    obtain ⟨d, hbi, dx⟩ := deed_at hda hxi
    walk_at "rd4"
    refine ⟨v', d, rfl, dx.kp s2.kp, hok.2 d (List.mem_of_getElem? hbi), by omega, fun H2 s3 => ?_⟩
    refine ⟨s2.trans s3, ⟨_, rfl⟩, ?_, by rw [List.length_append, List.length_singleton]; omega⟩
    rw [take_snoc hbi, List.map_append, ey]
    rfl
  · rintro ys σ' H' ⟨s2, _, ey, _⟩ pe hpe
    have s3 := same_new hpe (HO.lst ys)
    rw [hxl, List.take_length] at ey
    refine ⟨pe, rfl, (b.map bdD).map (fun x : Nat => (x : Int)), ?_, fun M hM => ?_⟩
    · rw [List.map_map, List.map_map]
      rw [ey]
      exact SqL.of upd_same
    · have e := mx_is hM
      have e2 : (1 + M) = ((bdB b : Nat) : Int) := by
        rw [bdB_mx, e]
        omega
      rw [e2]
      exact q _ (s2.trans s3)
theorem none_dt {k : Nat} {n1 : Str} : FnOk P w K mg base CX0 k f fd [n1] (spDT 0) := by
  have no : ∀ vs H Q E, ¬ spDT 0 vs H Q E := fun vs H Q E h => by
    obtain ⟨v, t, _, _, h1, _⟩ := h
    cases t <;> simp [T.deep] at h1
  exact ⟨fun vs H Q E h => absurd h (no vs H Q E), fun A outer s H args us vs Q E _ _ _ _ h => absurd h (no vs H Q E)⟩
theorem none_db {k : Nat} {n1 : Str} : FnOk P w K mg base CX0 k f fd [n1] (spDB 0) := by
  have no : ∀ vs H Q E, ¬ spDB 0 vs H Q E := fun vs H Q E h => by
    obtain ⟨v, t, _, _, h1, _⟩ := h
    exact h1
  exact ⟨fun vs H Q E h => absurd h (no vs H Q E), fun A outer s H args us vs Q E _ _ _ _ h => absurd h (no vs H Q E)⟩
theorem all_dterm (d : Df K mg "depth_of_term" s_depth_of_term ["term"] f fd) (b_max : mg "max" = none) {aw : Addr} (g_WORDS : GC mg "WORDS" (.ref aw)) (hW : ∀ H, SqT K H aw (eight.map V.str)) : ∀ n : Nat, Callee P w K mg base "depth_of_term" ["term"] (n + 1) (spDT n)
  | 0 => d.callee none_dt
  | n + 1 => d.callee (ok_depth_of_term d.F b_max g_WORDS hW (all_dterm d b_max g_WORDS hW n))
theorem all_ldeep (d : Df K mg "_law_deep" s_law_deep ["_law_expr"] f fd) (b_max : mg "max" = none) (b_len : mg "len" = none) : ∀ n : Nat, Callee P w K mg base "_law_deep" ["_law_expr"] (n + 1) (spDT n)
  | 0 => d.callee none_dt
  | n + 1 => d.callee (ok_law_deep d.F b_max b_len (all_ldeep d b_max b_len n))
theorem all_dblock {f2 : Addr} {fd2 : FuncData} (d : Df K mg "depth_of_block" s_depth_of_block ["block"] f fd) (d2 : Df K mg "depth_of_deed" s_depth_of_deed ["deed"] f2 fd2) (b_max : mg "max" = none) (c_blocks_of : Callee P w K mg base "blocks_of" ["deed"] 1 spBlocksOf) : ∀ n : Nat, Callee P w K mg base "depth_of_block" ["block"] (2 * n + 1) (spDB n)
  | 0 => d.callee none_db
  | n + 1 => d.callee (ok_depth_of_block d.F b_max (d2.callee (ok_depth_of_deed d2.F b_max c_blocks_of (all_dblock d d2 b_max c_blocks_of n))))
def spDepths : Sp := fun vs H Q _ => ∃ v ins b, vs = [v] ∧ Dt H v (.tup [ins, .tup (encB b)]) ∧ okW 4 b ∧ ∀ (r : Addr) (H' : Hp), Same H H' → H r = none → H' r = some (.tup [.int (mxT (deedsP b)), .int (bdB b)]) → Q (.ref r) H'
theorem ok_depths (F : Fun K "depths" "depths" s_depths f fd) (b_max : mg "max" = none) (c_all_deeds : Callee P w K mg base "all_deeds" ["program"] 7 spAllDeeds) (c_term_of : Callee P w K mg base "term_of" ["deed"] 1 spTermOf) (c_depth_of_term : Callee P w K mg base "depth_of_term" ["term"] 6 (spDT 5)) (c_depth_of_block : Callee P w K mg base "depth_of_block" ["block"] 9 (spDB 4)) : FnOk P w K mg base CX0 10 f fd ["program"] spDepths := by
  refine F.ok sc_depths (fun vs H Q E h => ?_) (fun cdv A outer s H vs Q E hr h => ?_)
  · obtain ⟨v, ins, b, rfl, _⟩ := h
    rfl
  obtain ⟨v, ins, b, rfl, hd, hok, q⟩ := h
  refine ⟨_, (pss_cons (ps_setc (i := 1) ["path", "deed"] [none, none] sc_depths.nd rfl loc_depths_terms rfl (CompS.of (by rfl)) (pi_list (pe_cc c_all_deeds hr (by omega) (pa_c (pe_var (i := 0) rfl vis_depths_program db_program cd_program) pa_nil) gl_depths_all_deeds db_all_deeds)) (fun _ _ _ _ _ => (pg_tupK (n := 2) (K := K) rfl rfl (pgs_cons (pg_name (i := 0) (show List.Nodup (["path", "deed"] : List Str) from by decide +kernel) rfl (Or.inl rfl)) (pgs_cons (pg_name (i := 1) (show List.Nodup (["path", "deed"] : List Str) from by decide +kernel) rfl (Or.inl rfl)) pgs_nil)))) (fun _ _ _ _ _ => pif_nil) (fun _ _ _ _ _ => (pe_cc c_term_of hr (by omega) (pa_c (pe_var (i := 1) rfl (by first | exact Or.inl rfl | exact Or.inr (Or.inl rfl) | exact Or.inr (Or.inr rfl)) db_deed cd_deed) pa_nil) rfl db_term_of)))
  (pss_one (ps_ret (pe_tup (pa_c (pe_maxD rfl gl_depths_max b_max bt_max (pa_c (pe_comp ["term"] [none] rfl (CompS.of (by rfl)) (pi_list (pe_var (i := 1) rfl vis_depths_terms db_terms cd_terms)) (fun _ _ _ _ _ => (pg_name (i := 0) (show List.Nodup (["term"] : List Str) from by decide +kernel) rfl (Or.inl rfl))) (fun _ _ _ _ _ => pif_nil) (fun _ _ _ _ _ => (pe_cc c_depth_of_term hr (by omega) (pa_c (pe_var (i := 0) rfl (by first | exact Or.inl rfl | exact Or.inr (Or.inl rfl) | exact Or.inr (Or.inr rfl)) db_term cd_term) pa_nil) rfl db_depth_of_term))) pa_nil) pe_int) (pa_c (pe_cc c_depth_of_block hr (by omega) (pa_c (pe_ix ix_tup (pe_var (i := 0) rfl vis_depths_program db_program cd_program) pe_int (fun _ _ => rfl)) pa_nil) gl_depths_depth_of_block db_depth_of_block) pa_nil)))))), ?_⟩
  walk_at "rd4"
  refine ⟨v, ins, b, rfl, hd, hok, fun ra H1 us s1 f1 h1 d1 => ?_⟩
  have hz : (deedsP b).length ≤ 100000 := by
    have h1 := deedsW_bnd 4 b [] 0 hok
    have h2 := bndW_le (n := 4) (by decide)
    have h3 : (deedsP b).length ≤ bndW 4 := h1
    omega
  have hul : us.length = (deedsP b).length := by rw [d1.length, List.length_map]
  have hrows := deedsW_rows 4 b [] 0 hok
  refine ⟨ra, rfl, ⟨_, SqL.of h1⟩, ?_⟩
  refine comp_list (K := K) (a := ra) (xs := us) (TInv H1 (deedsP b)) ⟨rfl, ⟨_, _, rfl⟩, by rw [List.take_zero]; exact .nil, Nat.le_refl _⟩ (by rw [hul]; exact zzlt (by omega)) ?_ ?_ ?_ ?_
  · rintro i ys σ' H' ⟨_, _, _, hy⟩
    exact hy
  · rintro i ys σ' H' _ ⟨rfl, _, _⟩
    exact SqL.of h1
  · rintro i ys v' σ' H' hxi ⟨rfl, ⟨t, u, rfl⟩, dy, hy⟩
    obtain ⟨r, hri, dr⟩ := map_at d1 hxi
    obtain ⟨pp, y0, y1, rfl, hpp, u0, u1⟩ := tup2 dr
    walk_at "rd4"
    refine ⟨_, SqT.of hpp, rfl, _, _, rfl, _, _, rfl, rfl, y1, r.2, rfl, u1, fun x dx => ?_⟩
    refine ⟨rfl, ⟨_, _, rfl⟩, ?_, by rw [List.length_append, List.length_singleton]; omega⟩
    rw [take_snoc hri, List.map_append]
    exact dy.append (.cons dx .nil)
  · rintro ys σ' H' ⟨rfl, _, dy, _⟩ pe hpe
    rw [hul, List.take_length] at dy
    have s2 := same_new hpe (HO.lst ys)
    have hpe' : (upd H' pe (HO.lst ys)) pe = some (.lst ys) := upd_same
    have dy2 := dy.kp s2.kp
    generalize upd H' pe (HO.lst ys) = U at s2 hpe' dy2 ⊢
    have hyl : ys.length = (deedsP b).length := by rw [dy.length, List.length_map]
    refine ⟨pe, rfl, ⟨_, SqL.of hpe'⟩, ?_⟩
    refine comp_list (K := K) (a := pe) (xs := ys) (DInvT U (deedsP b)) ⟨rfl, ⟨_, rfl⟩, by rw [List.take_zero]; rfl, Nat.le_refl _⟩ (by rw [hyl]; exact zzlt (by omega)) ?_ ?_ ?_ ?_
    · rintro i zs σ' H' ⟨_, _, _, hy⟩
      exact hy
    · rintro i zs σ' H' _ ⟨rfl, _, _⟩
      exact SqL.of hpe'
    · rintro i zs v' σ' H' hxi ⟨rfl, ⟨t, rfl⟩, ey, hy⟩
      obtain ⟨r, hri, dr⟩ := map_at dy2 hxi
      walk_at "rd4"
      refine ⟨v', r.2.term, rfl, dr, ok_deep (hrows r (List.mem_of_getElem? hri)), ?_⟩
      refine ⟨rfl, ⟨_, rfl⟩, ?_, by rw [List.length_append, List.length_singleton]; omega⟩
      rw [take_snoc hri, List.map_append, ey]
      rfl
    · rintro zs σ' H'' ⟨rfl, _, ey, _⟩ pf hpf
      rw [hyl, List.take_length] at ey
      have s3 := same_new hpf (HO.lst zs)
      refine ⟨pf, rfl, ((deedsP b).map fun r => r.2.term.deep).map (fun x : Nat => (x : Int)), ?_, fun M hM => ?_⟩
      · rw [List.map_map, List.map_map, ey]
        exact SqL.of upd_same
      · have e : M = ((mxT (deedsP b) : Nat) : Int) := mx_is hM
        obtain ⟨a, x0, x1, rfl, ha, t0, t1⟩ := tup2 hd
        have s4 := s1.trans (s2.trans s3)
        refine ⟨_, rfl, _, SqT.of (s4 _ _ ha), _, rfl, x1, b, rfl, t1.kp s4.kp, hok, by decide, fun H5 s5 => ⟨zl 2 (by decide), fun r6 h6 => ?_⟩⟩
        have s6 := same_new h6 (HO.tup [V.int M, V.int (bdB b)])
        refine q r6 _ (s4.trans (s5.trans s6)) ((s4.trans s5).free h6) ?_
        rw [upd_same, e]
theorem comp_lb {n : Nat} {a : Addr} {zs : List V} {bs : List (List D)} {U : Hp} {Q : VK} (ha : U a = some (.tup zs)) (dz : DtA U zs (bs.map fun q => .tup (encB q))) (hbs : ∀ q ∈ bs, okW n q) (hn : n ≤ 4) (hl : bs.length ≤ 2) (q : ∀ (r : Addr) (H' : Hp), Same U H' → U r = none → H' r = some (.lst (bs.map fun q => V.int (bdB q))) → Q (.ref r) H') : CompW (Itt K a) (gName 0) tYes (tCall (spDB n) [] E0 (tCons (tVar 0) tNil)) Q [none] U := by
  have hzl : zs.length = bs.length := by rw [dz.length, List.length_map]
  refine comp_tup (K := K) (a := a) (xs := zs) (LCInv U bs) ⟨Same.refl _, ⟨_, rfl⟩, by rw [List.take_zero]; rfl, Nat.le_refl _⟩ (by rw [hzl]; exact zzlt (by omega)) ?_ ?_ ?_ ?_
  · rintro i ys σ' H' ⟨_, _, _, hy⟩
    exact hy
  · rintro i ys σ' H' _ ⟨s2, _, _⟩
    exact SqT.of (s2 _ _ ha)
  · rintro i ys v' σ' H' hxi ⟨s2, ⟨t, rfl⟩, ey, hy⟩
    obtain ⟨nb, hnb, dnb⟩ := map_at dz hxi
    walk_at "rd4"
    refine ⟨v', nb, rfl, dnb.kp s2.kp, hbs nb (List.mem_of_getElem? hnb), hn, fun H2 s3 => ?_⟩
    refine ⟨s2.trans s3, ⟨_, rfl⟩, ?_, by rw [List.length_append, List.length_singleton]; omega⟩
    rw [take_snoc hnb, List.map_append, ey]
    rfl
  · rintro ys σ' H' ⟨s2, _, ey, _⟩ pe hpe
    have s3 := same_new hpe (HO.lst ys)
    rw [hzl, List.take_length] at ey
    refine q pe _ (s2.trans s3) (s2.free hpe) ?_
    rw [upd_same, ey]
theorem ok_law_blocks {n : Nat} (F : Fun K "_law_blocks" "_law_blocks" s_law_blocks f fd) (b_max : mg "max" = none) (c_law_blocks : Callee P w K mg base "_law_blocks" ["_law_block_here"] (n + 1) (spDB n)) : FnOk P w K mg base CX0 (n + 2) f fd ["_law_block_here"] (spDB (n + 1)) := by
  refine F.ok sc_law_blocks (fun vs H Q E h => ?_) (fun cdv A outer s H vs Q E hr h => ?_)
  · obtain ⟨v, b, rfl, _⟩ := h
    rfl
  obtain ⟨v, b, rfl, hd, hok, hn, q⟩ := h
  refine ⟨_, (pss_cons (ps_set (i := 1) sc_law_blocks.nd rfl loc_law_blocks__law_inner (pe_lst (pa_c pe_int pa_nil)) (swaps_plain rfl))
  (pss_cons (ps_for PassesOwn.never rfl (pi_tup (pe_var (i := 0) rfl vis_law_blocks__law_block_here db__law_block_here cd__law_block_here)) (pg_name (i := 2) sc_law_blocks.nd rfl loc_law_blocks__law_deed)
  (pss_one (ps_expr (pe_bm PySem.F.plainAttrs_list PySem.F.slot_list_extend PySem.F.type_list_extend mt_extend (pe_var (i := 1) rfl vis_law_blocks__law_inner db__law_inner cd__law_inner) (pa_c (pe_comp ["_law_part"] [none] rfl (CompS.of (by rfl)) (pi_tup (pe_ifExp (pt_cmpR (gEq hr.units) (pe_ix ix_tup (pe_var (i := 2) rfl vis_law_blocks__law_deed db__law_deed cd__law_deed) pe_int (fun _ _ => rfl)) pe_str (nomark _)) (pe_slice sl_tupA (pe_var (i := 2) rfl vis_law_blocks__law_deed db__law_deed cd__law_deed) (po_some pe_int) po_none) (pe_slice sl_tupA (pe_var (i := 2) rfl vis_law_blocks__law_deed db__law_deed cd__law_deed) (po_some pe_int) po_none))) (fun _ _ _ _ _ => (pg_name (i := 0) (show List.Nodup (["_law_part"] : List Str) from by decide +kernel) rfl (Or.inl rfl))) (fun _ _ _ _ _ => pif_nil) (fun _ _ _ _ _ => (pe_cc c_law_blocks hr (by omega) (pa_c (pe_var (i := 0) rfl (by first | exact Or.inl rfl | exact Or.inr (Or.inl rfl) | exact Or.inr (Or.inr rfl)) db__law_part cd__law_part) pa_nil) rfl db__law_blocks))) pa_nil)) (swaps_plain rfl))))
  (pss_one (ps_ret (pe_op op_add pe_int (pe_cB (call_maxL rfl) gl_law_blocks_max b_max bt_max (pa_c (pe_var (i := 1) rfl vis_law_blocks__law_inner db__law_inner cd__law_inner) pa_nil) nn_max db_max)))))), ?_⟩
  walk_at "rd4"
  refine ⟨zl 1 (by decide), fun p hp => ?_⟩
  have s1 := same_new hp (HO.lst [V.int 0])
  obtain ⟨ab, xs, rfl, hab, hda⟩ := hd.tupI
  have hxl : xs.length = b.length := by rw [hda.length, encB_length]
  refine ⟨ab, rfl, ⟨_, SqT.of (s1 _ _ hab)⟩, ?_⟩
  refine for_tup (xs := xs) (LBInv H ab p b) ?start ?lst ?step ?done
  case start => exact ⟨_, rfl, s1, by rw [List.take_zero, upd_same]; rfl⟩
  case lst =>
    rintro i σ Hc _ ⟨_, rfl, sc, _⟩
    exact SqT.of (sc _ _ hab)
  case done =>
    rintro σ Hc ⟨_, rfl, sc, hc⟩
    walk_at "rd4"
    rw [hxl, List.take_length] at hc
    refine ⟨(0 :: lbs b).map (fun x : Nat => (x : Int)), ?_, by simp, fun M hM hmx => ?_⟩
    · rw [List.map_map]
      exact SqL.of hc
    · have e : M = ((mxL (0 :: lbs b) : Nat) : Int) := mx_is (.inr ⟨hM, hmx⟩)
      have e2 : (1 + M) = ((bdB b : Nat) : Int) := by
        rw [e, mxL, lbs_mx, bdB_mx]
        omega
      rw [e2]
      exact q _ sc
  case step =>
    rintro i x σ Hc hx ⟨_, rfl, sc, hc⟩
    obtain ⟨d, hbi, dx⟩ := deed_at hda hx
    walk_at "rd4"
    have hdo := hok.2 d (List.mem_of_getElem? hbi)
    have hbl := hok.1
    have fin : ∀ (U H1 : Hp) (r : Addr) (bs : List (List D)), Same Hc U → Same U H1 → H1 r = some (.lst (bs.map fun q => V.int (bdB q))) → bs = d.blocks.map (·.2) → ∃ x_5, V.ref r = V.ref x_5 ∧ ∃ x_6, H1 p = some (HO.lst x_6) ∧ ∃ x_7, H1 x_5 = some (HO.lst x_7) ∧ x_6.length + x_7.length ≤ sizeLine ∧ LBInv H ab p b (i + 1) [some (V.ref ab), some (V.ref p), some x] (upd H1 p (HO.lst (x_6 ++ x_7))) := by
      intro U H1 r bs sU s1 hr1 eb
      have hl := lbs_len (b.take i)
      have hl2 : (b.take i).length ≤ b.length := by rw [List.length_take]; omega
      have hl3 := blocks_len d
      have hl4 : bs.length ≤ 2 := by rw [eb, List.length_map]; exact hl3
      refine ⟨r, rfl, _, s1 _ _ (sU _ _ hc), _, hr1, zz5 (by rw [List.length_map, List.length_map, List.length_cons]; omega), ?_⟩
      refine ⟨_, rfl, same_upd ((sc.trans sU).trans s1) hp, ?_⟩
      rw [upd_same, take_snoc hbi, lbs_append, lbs, lbs, List.append_nil, ← List.cons_append, List.map_append, eb, List.map_map, List.map_map]
      rfl
    cases d with
    | set y tt =>
      obtain ⟨ad, x0, x1, x2, rfl, ha, t0, t1, t2⟩ := tup3 (show Dt H x (.tup [.str "set", .str y, tt.enc]) by have := dx; rw [D.enc] at this; exact this)
      cases t0
      refine ⟨.inl ⟨rfl, _, SqL.of hc⟩, _, rfl, _, SqT.of (sc _ _ ha), _, rfl, _, eq_of (.str "set"), ?_⟩
      rw [if_neg (show ¬ eqS (.str "set") "if" = true from by decide +kernel)]
      refine ⟨_, rfl, _, SqT.of (sc _ _ ha), .inr ⟨by intro z; exact absurd z.1 (show ¬ HT.sIx 3 0 (some 3) = 0 from by decide), fun p2 h2 => ⟨⟨_, SqT.of upd_same⟩, ?_⟩⟩⟩
      have sU := same_new h2 (HO.tup (cutV [V.str "set", x1, x2] (some 3) none))
      refine comp_lb (bs := []) upd_same .nil (fun q h => by simp at h) (by omega) (by simp) fun r H1 s2 f2 h2 => fin _ H1 r _ sU s2 h2 rfl
    | ite tt bb cc =>
      obtain ⟨ad, x0, x1, x2, x3, rfl, ha, t0, t1, t2, t3⟩ := tup4 (show Dt H x (.tup [.str "if", tt.enc, .tup (encB bb), .tup (encB cc)]) by have := dx; rw [D.enc] at this; exact this)
      cases t0
      refine ⟨.inl ⟨rfl, _, SqL.of hc⟩, _, rfl, _, SqT.of (sc _ _ ha), _, rfl, _, eq_of (.str "if"), ?_⟩
      rw [if_pos (show eqS (.str "if") "if" = true from by decide +kernel)]
      refine ⟨_, rfl, _, SqT.of (sc _ _ ha), .inr ⟨by intro z; exact absurd z.1 (show ¬ HT.sIx 4 0 (some 2) = 0 from by decide), fun p2 h2 => ⟨⟨_, SqT.of upd_same⟩, ?_⟩⟩⟩
      have sU := same_new h2 (HO.tup (cutV [V.str "if", x1, x2, x3] (some 2) none))
      refine comp_lb (bs := [bb, cc]) upd_same (.cons (t2.kp (sc.trans sU).kp) (.cons (t3.kp (sc.trans sU).kp) .nil)) (fun q h => ?_) (by omega) (by simp) fun r H1 s2 f2 h2 => fin _ H1 r _ sU s2 h2 rfl
      simp only [List.mem_cons, List.not_mem_nil, or_false] at h
      rcases h with rfl | rfl
      · exact hdo.2.1
      · exact hdo.2.2
    | whl tt m bb =>
      obtain ⟨ad, x0, x1, x2, x3, rfl, ha, t0, t1, t2, t3⟩ := tup4 (show Dt H x (.tup [.str "while", tt.enc, .int m, .tup (encB bb)]) by have := dx; rw [D.enc] at this; exact this)
      cases t0
      refine ⟨.inl ⟨rfl, _, SqL.of hc⟩, _, rfl, _, SqT.of (sc _ _ ha), _, rfl, _, eq_of (.str "while"), ?_⟩
      rw [if_neg (show ¬ eqS (.str "while") "if" = true from by decide +kernel)]
      refine ⟨_, rfl, _, SqT.of (sc _ _ ha), .inr ⟨by intro z; exact absurd z.1 (show ¬ HT.sIx 4 0 (some 3) = 0 from by decide), fun p2 h2 => ⟨⟨_, SqT.of upd_same⟩, ?_⟩⟩⟩
      have sU := same_new h2 (HO.tup (cutV [V.str "while", x1, x2, x3] (some 3) none))
      refine comp_lb (bs := [bb]) upd_same (.cons (t3.kp (sc.trans sU).kp) .nil) (fun q h => ?_) (by omega) (by simp) fun r H1 s2 f2 h2 => fin _ H1 r _ sU s2 h2 rfl
      simp only [List.mem_cons, List.not_mem_nil, or_false] at h
      subst h
      exact hdo.2
theorem all_lblocks (d : Df K mg "_law_blocks" s_law_blocks ["_law_block_here"] f fd) (b_max : mg "max" = none) : ∀ n : Nat, Callee P w K mg base "_law_blocks" ["_law_block_here"] (n + 1) (spDB n)
  | 0 => d.callee none_db
  | n + 1 => d.callee (ok_law_blocks d.F b_max (all_lblocks d b_max n))
end
end SR


set_option Elab.async false
set_option linter.all false
set_option maxRecDepth 100000
set_option maxHeartbeats 0
namespace SR
open PySem L2
local macro_rules | `(tactic| walk_at "rd") => `(tactic| simp only [tSeq, tIfS, tTest, tOp, tVar, tC, tAsg, gName, gTup, gCons, gNil, tRet, tRetN, tDrop, tNext, tCB, tCons, tNil, tCall, tUn, rU, rI0, rI, tAnd, tOr, tNot, tB, tAndV, tOrV, tNotV, tIf, tIfT, tKGet, tChain, tDGet, tDGet1, sDPut, tDNewK, tDisp, tPairs, tCont, tSl, tNoPart, tPart, rSlT, tChain3, qSortS, qEqDL, qNeDL, tFor_enum, tFor_zip, tFor_rng2, tComp_seq, qSetI, qSortSet, cxOf_prog, cxOf_w, cxOf_nox_prog, cxOf_nox_w, cxOf_mg, cxOf_base, cxOf_nox_mg, cxOf_nox_base, cxComp_prog, cxComp_w, cxComp_mg, cxComp_base, tComp_zipT, tCallL, rSlA, rSlL, tDX, tDXs, tTup, tLst, tBM,
  qEq, qNe, qIn, qNotIn, qIsN, qNotN, qIsB, qNotB, qLen, qInst, qEqD, qNeD, qMinL, qMaxL, qSortI, rIx, rIxL, rIxT, rIxS, rCat, rCatT2, rRep, rRepT, rLeS, rLtS, rAppend, rExtend, tNever, tBreak, tYes,
  tFor_tup, tFor_list, tFor_rng1, tComp_tup, tComp_list, tComp_str, L2.start, cxOf_K, cxOf_nox_K, cxComp_K, List.map_cons, List.map_nil, List.length_cons, List.length_nil, List.replicate_succ, List.replicate_zero, Nat.reduceAdd, Nat.reduceSub, Nat.zero_add, Nat.add_zero, Nat.sub_zero, Nat.sub_self, Nat.add_sub_cancel,
  List.getElem?_cons_zero, List.getElem?_cons_succ, List.set_cons_zero, List.set_cons_succ, List.cons_append, List.nil_append, List.append_nil, List.cons.injEq, Option.some.injEq, V.int.injEq, V.ref.injEq, V.str.injEq, V.bl.injEq, V.ty.injEq,
  reduceCtorEq, false_and, and_false, and_true, true_and, exists_false, exists_const, false_or, or_false, exists_eq_left, exists_eq_left', exists_eq_right, exists_eq_right', exists_and_left, decide_eq_true_eq, Bool.not_eq_true', Bool.decide_eq_true, exists_eq, true_or, or_true, Bool.false_eq_true, if_true, if_false, Bool.true_eq_false, Bool.not_true, Bool.not_false, decide_true, decide_false, List.isEmpty_cons, List.isEmpty_nil, Bool.true_and, Bool.false_and, bne_self_eq_false, beq_self_eq_true])
section
variable {P : Program} {w : World} {K : PySem.W.Frag} {mg : Str → Option Value} {base : Heap} {f : Addr} {fd : FuncData}
/-! ### peeling -/
mutual
def prD (dp : List Int) (o : D) (p : List Int) : D → D
  | .set x t => if p = dp then o else .set x t
  | .ite t b c => if p = dp then o else .ite t (prB dp o (p ++ [1]) 0 b) (prB dp o (p ++ [2]) 0 c)
  | .whl t m b => if p = dp then o else .whl t m (prB dp o (p ++ [1]) 0 b)
def prB (dp : List Int) (o : D) (p : List Int) (k : Int) : List D → List D
  | [] => []
  | d :: r => prD dp o (p ++ [k]) d :: prB dp o p (k + 1) r
end
def D.withB (d : D) (bs : List (List D)) : D := match d, bs with
  | .ite t _ _, [b, c] => .ite t b c
  | .whl t m _, [b] => .whl t m b
  | d, _ => d
def newBs (dp : List Int) (o : D) (p : List Int) (d : D) : List (List D) := d.blocks.map fun q => prB dp o (p ++ [q.1]) 0 q.2
theorem prD_eq (dp : List Int) (o : D) (p : List Int) (d : D) : prD dp o p d = if p = dp then o else d.withB (newBs dp o p d) := by
  cases d <;> simp [prD, D.withB, newBs, D.blocks]
theorem prB_append (dp : List Int) (o : D) (p : List Int) : ∀ (k : Int) (a b : List D), prB dp o p k (a ++ b) = prB dp o p k a ++ prB dp o p (k + a.length) b
  | k, [], b => by simp [prB]
  | k, d :: a, b => by
    rw [List.cons_append, prB, prB, prB_append dp o p (k + 1) a b, List.cons_append, List.length_cons]
    congr 3
    omega
theorem prB_snoc (dp : List Int) (o : D) (p : List Int) (a : List D) (d : D) : prB dp o p 0 (a ++ [d]) = prB dp o p 0 a ++ [prD dp o (p ++ [(a.length : Int)]) d] := by
  rw [prB_append, prB, prB, Int.zero_add]
theorem prB_len (dp : List Int) (o : D) (p : List Int) : ∀ (k : Int) (b : List D), (prB dp o p k b).length = b.length
  | k, [] => rfl
  | k, d :: b => by rw [prB, List.length_cons, List.length_cons, prB_len dp o p (k + 1) b]
theorem pr_end {dp : List Int} {o : D} {p : List Int} {b : List D} {i : Nat} {d : D} (h : b[i]? = some d) : prB dp o p 0 (b.take (i + 1)) = prB dp o p 0 (b.take i) ++ [prD dp o (p ++ [(i : Int)]) d] := by
  have hl : i < b.length := (List.getElem?_eq_some_iff.mp h).1
  have e : (b.take i).length = i := by rw [List.length_take]; omega
  rw [take_snoc h, prB_snoc, e]
def peel : D → D
  | .whl t m b => .ite t (b ++ [.whl t (m - 1) b]) []
  | d => d
theorem peel_ok {n : Nat} {d : D} (h : okD n d) : okWD (n + 1) (peel d) := by
  cases d with
  | set x t => exact h
  | ite t b c => exact okWD_up (okWD_of h)
  | whl t m b =>
    have hb := h.2.2.2
    cases n with
    | zero => exact hb.elim
    | succ n =>
      refine ⟨h.1, ⟨?_, fun d hd => ?_⟩, ⟨by simp, fun d hd => by simp at hd⟩⟩
      · have := hb.1
        rw [List.length_append, List.length_singleton]
        omega
      · rcases List.mem_append.mp hd with hd | hd
        · exact okWD_up (okWD_of (hb.2 d hd))
        · rw [List.mem_singleton] at hd
          subst hd
          exact ⟨h.1, okW_of hb⟩
theorem okW_in {n : Nat} {b : List D} (hl : b.length ≤ 7) (h : ∀ d ∈ b, okWD n d) : okW (n + 1) b := ⟨hl, fun d hd => h d hd⟩
mutual
theorem prD_okW {dp : List Int} {d0 : D} : ∀ (d : D) (p : List Int) (n : Nat), okD n d → (∀ r ∈ deedsD p d, r.1 = dp → r.2 = d0) → okWD (n + 1) (prD dp (peel d0) p d)
  | .set x t, p, n, h, hu => by
    rw [prD]
    split
    · rename_i e
      have := hu (p, .set x t) (by simp [deedsD]) e
      rw [← this]
      exact peel_ok h
    · exact h
  | .ite t b c, p, n, h, hu => by
    rw [prD]
    split
    · rename_i e
      have := hu (p, .ite t b c) (by simp [deedsD]) e
      rw [← this]
      exact peel_ok h
    · cases n with
      | zero => exact h.2.1.elim
      | succ n =>
        refine ⟨h.1, okW_in ?_ (prB_okW b (p ++ [1]) 0 n (fun d hd => h.2.1.2 d hd) fun r hr => hu r (by rw [deedsD]; exact .tail _ (List.mem_append_left _ hr))), okW_in ?_ (prB_okW c (p ++ [2]) 0 n (fun d hd => h.2.2.2 d hd) fun r hr => hu r (by rw [deedsD]; exact .tail _ (List.mem_append_right _ hr)))⟩
        · rw [prB_len]; exact Nat.le_trans h.2.1.1 (by decide)
        · rw [prB_len]; exact Nat.le_trans h.2.2.1 (by decide)
  | .whl t m b, p, n, h, hu => by
    rw [prD]
    split
    · rename_i e
      have := hu (p, .whl t m b) (by simp [deedsD]) e
      rw [← this]
      exact peel_ok h
    · cases n with
      | zero => exact h.2.2.2.elim
      | succ n =>
        refine ⟨h.1, okW_in ?_ (prB_okW b (p ++ [1]) 0 n (fun d hd => h.2.2.2.2 d hd) fun r hr => hu r (by rw [deedsD]; exact .tail _ hr))⟩
        rw [prB_len]; exact Nat.le_trans h.2.2.2.1 (by decide)
theorem prB_okW {dp : List Int} {d0 : D} : ∀ (b : List D) (p : List Int) (k : Int) (n : Nat), (∀ d ∈ b, okD n d) → (∀ r ∈ deedsB p k b, r.1 = dp → r.2 = d0) → ∀ d ∈ prB dp (peel d0) p k b, okWD (n + 1) d
  | [], p, k, n, h, hu, d, hd => by simp [prB] at hd
  | e :: b, p, k, n, h, hu, d, hd => by
    rw [prB] at hd
    rcases List.mem_cons.mp hd with hd | hd
    · rw [hd]
      exact prD_okW e (p ++ [k]) n (h e (.head _)) fun r hr => hu r (by rw [deedsB]; exact List.mem_append_left _ hr)
    · exact prB_okW b p (k + 1) n (fun d hd => h d (.tail _ hd)) (fun r hr => hu r (by rw [deedsB]; exact List.mem_append_right _ hr)) d hd
end
theorem pr_okW {dp : List Int} {d0 : D} {b : List D} (h : okB 3 b) (hu : ∀ r ∈ deedsB [] 0 b, r.1 = dp → r.2 = d0) : okW 4 (prB dp (peel d0) [] 0 b) :=
  okW_in (by rw [prB_len]; exact Nat.le_trans h.1 (by decide)) (prB_okW b [] 0 2 (fun d hd => h.2 d hd) hu)
mutual
def itD : D → Nat
  | .set _ _ => 0
  | .ite _ b c => 1 + itB b + itB c
  | .whl _ _ b => itB b
def itB : List D → Nat
  | [] => 0
  | d :: r => itD d + itB r
end
theorem itB_append : ∀ a b : List D, itB (a ++ b) = itB a + itB b
  | [], b => by simp [itB]
  | d :: a, b => by rw [List.cons_append, itB, itB, itB_append a b]; omega
theorem cntK_append (a b : List RD) (x : Str) : cntK (a ++ b) x = cntK a x + cntK b x := by
  unfold cntK kindsR
  rw [List.map_append, List.count_append]
theorem cntK_cons (r : RD) (l : List RD) (x : Str) : cntK (r :: l) x = (if r.2.kind = x then 1 else 0) + cntK l x := by
  unfold cntK kindsR
  rw [List.map_cons, List.count_cons]
  by_cases e : r.2.kind = x
  · simp [e]; omega
  · simp [e]
mutual
theorem cnt_itD : ∀ (d : D) (p : List Int), cntK (deedsD p d) "if" = itD d
  | .set x t, p => by
    rw [deedsD, cntK_cons, itD, if_neg (show ¬ (D.set x t).kind = "if" from fun z => absurd z (show ¬ ("set" : Str) = "if" by decide +kernel))]
    rfl
  | .ite t b c, p => by
    rw [deedsD, cntK_cons, cntK_append, cnt_itB b, cnt_itB c, itD, if_pos (show (D.ite t b c).kind = "if" from rfl)]
    omega
  | .whl t m b, p => by
    rw [deedsD, cntK_cons, cnt_itB b, itD, if_neg (show ¬ (D.whl t m b).kind = "if" from fun z => absurd z (show ¬ ("while" : Str) = "if" by decide +kernel))]
    omega
theorem cnt_itB : ∀ (b : List D) (p : List Int) (k : Int), cntK (deedsB p k b) "if" = itB b
  | [], p, k => rfl
  | d :: b, p, k => by rw [deedsB, cntK_append, cnt_itD d, cnt_itB b, itB]
end
mutual
theorem prD_it {dp : List Int} {d0 : D} (h0 : itD d0 + 1 ≤ itD (peel d0)) : ∀ (d : D) (p : List Int), (∀ r ∈ deedsD p d, r.1 = dp → r.2 = d0) → itD d ≤ itD (prD dp (peel d0) p d) ∧ ((∃ r ∈ deedsD p d, r.1 = dp) → itD d + 1 ≤ itD (prD dp (peel d0) p d))
  | .set x t, p, hu => by
    rw [prD]
    split
    · rename_i e
      have e0 : (D.set x t) = d0 := hu (p, .set x t) (by simp [deedsD]) e
      rw [← e0] at h0 ⊢
      exact ⟨by omega, fun _ => h0⟩
    · rename_i e
      refine ⟨Nat.le_refl _, ?_⟩
      rintro ⟨r, hr, er⟩
      simp only [deedsD, List.mem_cons, List.not_mem_nil, or_false] at hr
      subst hr
      exact absurd er e
  | .ite t b c, p, hu => by
    rw [prD]
    split
    · rename_i e
      have e0 : (D.ite t b c) = d0 := hu (p, .ite t b c) (by simp [deedsD]) e
      rw [← e0] at h0 ⊢
      exact ⟨by omega, fun _ => h0⟩
    · rename_i e
      obtain ⟨a1, a2⟩ := prB_it h0 b (p ++ [1]) 0 fun r hr => hu r (by rw [deedsD]; exact .tail _ (List.mem_append_left _ hr))
      obtain ⟨c1, c2⟩ := prB_it h0 c (p ++ [2]) 0 fun r hr => hu r (by rw [deedsD]; exact .tail _ (List.mem_append_right _ hr))
      rw [itD, itD]
      refine ⟨by omega, ?_⟩
      rintro ⟨r, hr, er⟩
      rw [deedsD, List.mem_cons, List.mem_append] at hr
      rcases hr with rfl | hr | hr
      · exact absurd er e
      · have := a2 ⟨r, hr, er⟩; omega
      · have := c2 ⟨r, hr, er⟩; omega
  | .whl t m b, p, hu => by
    rw [prD]
    split
    · rename_i e
      have e0 : (D.whl t m b) = d0 := hu (p, .whl t m b) (by simp [deedsD]) e
      rw [← e0] at h0 ⊢
      exact ⟨by omega, fun _ => h0⟩
    · rename_i e
      obtain ⟨a1, a2⟩ := prB_it h0 b (p ++ [1]) 0 fun r hr => hu r (by rw [deedsD]; exact .tail _ hr)
      rw [itD, itD]
      refine ⟨a1, ?_⟩
      rintro ⟨r, hr, er⟩
      rw [deedsD, List.mem_cons] at hr
      rcases hr with rfl | hr
      · exact absurd er e
      · exact a2 ⟨r, hr, er⟩
theorem prB_it {dp : List Int} {d0 : D} (h0 : itD d0 + 1 ≤ itD (peel d0)) : ∀ (b : List D) (p : List Int) (k : Int), (∀ r ∈ deedsB p k b, r.1 = dp → r.2 = d0) → itB b ≤ itB (prB dp (peel d0) p k b) ∧ ((∃ r ∈ deedsB p k b, r.1 = dp) → itB b + 1 ≤ itB (prB dp (peel d0) p k b))
  | [], p, k, hu => ⟨by simp [prB], fun ⟨r, hr, _⟩ => by simp [deedsB] at hr⟩
  | d :: b, p, k, hu => by
    obtain ⟨a1, a2⟩ := prD_it h0 d (p ++ [k]) fun r hr => hu r (by rw [deedsB]; exact List.mem_append_left _ hr)
    obtain ⟨c1, c2⟩ := prB_it h0 b p (k + 1) fun r hr => hu r (by rw [deedsB]; exact List.mem_append_right _ hr)
    rw [prB, itB, itB]
    refine ⟨by omega, ?_⟩
    rintro ⟨r, hr, er⟩
    rw [deedsB, List.mem_append] at hr
    rcases hr with hr | hr
    · have := a2 ⟨r, hr, er⟩; omega
    · have := c2 ⟨r, hr, er⟩; omega
end
theorem peel_it (t : T) (m : Int) (b : List D) : itD (.whl t m b) + 1 ≤ itD (peel (.whl t m b)) := by
  rw [peel, itD, itD, itB_append, itB, itB, itB, itD]
  omega
theorem pr_cnt {dp : List Int} {t : T} {m : Int} {bb b : List D} (hm : (dp, D.whl t m bb) ∈ deedsP b) (hu : ∀ r ∈ deedsP b, r.1 = dp → r.2 = .whl t m bb) : cntK (deedsP b) "if" + 1 ≤ cntK (deedsP (prB dp (peel (.whl t m bb)) [] 0 b)) "if" := by
  unfold deedsP
  rw [cnt_itB, cnt_itB]
  exact (prB_it (peel_it t m bb) b [] 0 hu).2 ⟨_, hm, rfl⟩
/-- a path is at one place -/
theorem path_once {b : List D} {r s : RD} (hr : r ∈ deedsP b) (hs : s ∈ deedsP b) (e : r.1 = s.1) : r = s := by
  have pw := (pwB b [] 0).imp (S := fun r s : RD => ltI r.1 s.1 = true) fun h => h.1
  have key : ∀ l : List RD, l.Pairwise (fun r s : RD => ltI r.1 s.1 = true) → ∀ r ∈ l, ∀ s ∈ l, r.1 = s.1 → r = s := by
    intro l pw
    induction pw with
    | nil => intro r hr; simp at hr
    | cons h _ ih =>
      intro r hr s hs e
      rcases List.mem_cons.mp hr with hr1 | hr1
      · rcases List.mem_cons.mp hs with hs1 | hs1
        · rw [hr1, hs1]
        · have := h s hs1
          rw [← hr1, e] at this
          exact absurd rfl (ltI_ne this)
      · rcases List.mem_cons.mp hs with hs1 | hs1
        · have := h r hr1
          rw [← hs1, e] at this
          exact absurd rfl (ltI_ne this)
        · exact ih r hr1 s hs1 e
  exact key _ pw r hr s hs e
theorem paths_nodup (b : List D) : ((deedsP b).map (·.1)).Nodup := by
  refine List.pairwise_map.mpr ((pwB b [] 0).imp fun h => ltI_ne h.1)
theorem catD {K : PySem.W.Frag} {H : Hp} {Q : VK} {x y : V} {ds es : List Dm} (dx : Dt H x (.tup ds)) (dy : Dt H y (.tup es)) (hz : ds.length + es.length ≤ 1000) (h : ∀ z H', Same H H' → Dt H' z (.tup (ds ++ es)) → Q z H') : rCatT2 K x y H Q := by
  obtain ⟨a, xs, rfl, ha, da⟩ := dx.tupI
  obtain ⟨b, ys, rfl, hb, db⟩ := dy.tupI
  have la := da.length
  have lb := db.length
  refine ⟨a, b, _, _, rfl, rfl, SqT.of ha, SqT.of hb, ?_, fun e => ?_, fun _ e => ?_, fun _ _ r hr => ?_⟩
  · exact Nat.le_of_lt (small1000 (by omega))
  · subst e
    have : ds = [] := List.length_eq_zero_iff.mp la.symm
    subst this
    exact h _ _ (Same.refl _) dy
  · subst e
    have : es = [] := List.length_eq_zero_iff.mp lb.symm
    subst this
    rw [List.append_nil] at h
    exact h _ _ (Same.refl _) dx
  · have s := same_new hr (HO.tup (xs ++ ys))
    exact h _ _ s (.tup upd_same ((da.kp s.kp).append (db.kp s.kp)))
theorem eqv_path : ∀ (p q : List Int), PyData.eqvAll (datA (p.map Dm.int)) (datA (q.map Dm.int)) = decide (p = q)
  | [], [] => by simp [datA, PyData.eqvAll]
  | [], _ :: _ => by simp [datA, PyData.eqvAll]
  | _ :: _, [] => by simp [datA, PyData.eqvAll]
  | a :: p, b :: q => by
    simp only [List.map_cons, datA, PyData.eqvAll, eqv_path p q, Dm.dat, PyData.eqv]
    by_cases e : a = b
    · subst e; simp
    · simp [e]
def PBInv (U : Hp) (pv dv ov : V) (dp : List Int) (o : D) (p : List Int) (b : List D) (i : Nat) (ys : List V) (σ' : St) (H' : Hp) : Prop := Same U H' ∧ (∃ t u, σ' = [t, u, some dv, some ov, some pv]) ∧ DtA H' ys (encB (prB dp o p 0 (b.take i))) ∧ ys.length ≤ i
def POInv (U : Hp) (pv dv ov : V) (dp : List Int) (o : D) (p : List Int) (l : List (Int × List D)) (i : Nat) (ys : List V) (σ' : St) (H' : Hp) : Prop := Same U H' ∧ (∃ t u, σ' = [t, u, some dv, some ov, some pv]) ∧ DtA H' ys ((l.take i).map fun q => Dm.tup (encB (prB dp o (p ++ [q.1]) 0 q.2))) ∧ ys.length ≤ i
theorem inl_inj : ∀ (x y : List Int), x.map (Sum.inl : Int → Key) = y.map Sum.inl → x = y
  | [], [], _ => rfl
  | [], _ :: _, h => by cases h
  | _ :: _, [], h => by cases h
  | a :: x, b :: y, h => by
    rw [List.map_cons, List.map_cons] at h
    injection h with h1 h2
    injection h1 with h1
    rw [h1, inl_inj x y h2]
theorem val_paired {H : Hp} {r : Rw2} : ∀ {kvs : List (List Key × V)} {l : List Rw2}, Paired (fun (kv : List Key × V) (r : Rw2) => kv.1 = r.1.map Sum.inl ∧ Dt H kv.2 r.2) kvs l → r ∈ l → (∀ s ∈ l, s.1 = r.1 → s = r) → ∃ x, valV kvs (r.1.map Sum.inl) = some x ∧ Dt H x r.2
  | _, _, .nil, h, _ => by simp at h
  | _, s :: l, .cons (a := kv) e t, h, hu => by
    by_cases c : kv.1 = r.1.map Sum.inl
    · have : s.1 = r.1 := inl_inj _ _ (e.1.symm.trans c)
      have := hu s (.head _) this
      subst this
      exact ⟨kv.2, valV_pos c, e.2⟩
    · rw [valV_neg c]
      refine val_paired t ?_ fun s' hs' => hu s' (.tail _ hs')
      rcases List.mem_cons.mp h with h | h
      · subst h
        exact absurd e.1 c
      · exact h
def LWI (H2 : Hp) (a r so d rs : Addr) (S : List RT) (xs : List V) (i : Nat) (σ : St) (Hc : Hp) : Prop := ∃ (x5 x6 : Option V), σ = [some (.ref a), some (.ref r), some (.ref so), some (.ref d), some (.int (mxL ((S.take i).map fun r => r.2.deep))), x5, x6, none, none] ∧ Same H2 Hc ∧ Hc d = some (.dK (kvC (cntT [] (S.take i)))) ∧ Hc rs = some (.lst xs) ∧ DtA Hc xs (S.map rowT)
end
end SR


set_option Elab.async false
set_option linter.all false
set_option maxRecDepth 100000
set_option maxHeartbeats 0
namespace SR
open PySem L2
local macro_rules | `(tactic| walk_at "rd") => `(tactic| simp only [tSeq, tIfS, tTest, tOp, tVar, tC, tAsg, gName, gTup, gCons, gNil, tRet, tRetN, tDrop, tNext, tCB, tCons, tNil, tCall, tUn, rU, rI0, rI, tAnd, tOr, tNot, tB, tAndV, tOrV, tNotV, tIf, tIfT, tKGet, tChain, tDGet, tDGet1, sDPut, tDNewK, tDisp, tPairs, tCont, tSl, tNoPart, tPart, rSlT, tChain3, qSortS, qEqDL, qNeDL, tFor_enum, tFor_zip, tFor_rng2, tComp_seq, qSetI, qSortSet, cxOf_prog, cxOf_w, cxOf_nox_prog, cxOf_nox_w, cxOf_mg, cxOf_base, cxOf_nox_mg, cxOf_nox_base, cxComp_prog, cxComp_w, cxComp_mg, cxComp_base, tComp_zipT, tCallL, rSlA, rSlL, tDX, tDXs, tTup, tLst, tBM,
  qEq, qNe, qIn, qNotIn, qIsN, qNotN, qIsB, qNotB, qLen, qInst, qEqD, qNeD, qMinL, qMaxL, qSortI, rIx, rIxL, rIxT, rIxS, rCat, rCatT2, rRep, rRepT, rLeS, rLtS, rAppend, rExtend, tNever, tBreak, tYes,
  tFor_tup, tFor_list, tFor_rng1, tComp_tup, tComp_list, tComp_str, L2.start, cxOf_K, cxOf_nox_K, cxComp_K, List.map_cons, List.map_nil, List.length_cons, List.length_nil, List.replicate_succ, List.replicate_zero, Nat.reduceAdd, Nat.reduceSub, Nat.zero_add, Nat.add_zero, Nat.sub_zero, Nat.sub_self, Nat.add_sub_cancel,
  List.getElem?_cons_zero, List.getElem?_cons_succ, List.set_cons_zero, List.set_cons_succ, List.cons_append, List.nil_append, List.append_nil, List.cons.injEq, Option.some.injEq, V.int.injEq, V.ref.injEq, V.str.injEq, V.bl.injEq, V.ty.injEq,
  reduceCtorEq, false_and, and_false, and_true, true_and, exists_false, exists_const, false_or, or_false, exists_eq_left, exists_eq_left', exists_eq_right, exists_eq_right', exists_and_left, decide_eq_true_eq, Bool.not_eq_true', Bool.decide_eq_true, exists_eq, true_or, or_true, Bool.false_eq_true, if_true, if_false, Bool.true_eq_false, Bool.not_true, Bool.not_false, decide_true, decide_false, List.isEmpty_cons, List.isEmpty_nil, Bool.true_and, Bool.false_and, bne_self_eq_false, beq_self_eq_true])
local macro_rules | `(tactic| walk_at "rd4") => `(tactic| simp only [tPar3, tMaxD, tItems, rItems, qSum, rCountL, tDGet2, tComp_enumT, tSeq, tIfS, tTest, tOp, tVar, tC, tAsg, gName, gTup, gCons, gNil, tRet, tRetN, tDrop, tNext, tCB, tCons, tNil, tCall, tUn, rU, rI0, rI, tAnd, tOr, tNot, tB, tAndV, tOrV, tNotV, tIf, tIfT, tKGet, tChain, tDGet, tDGet1, sDPut, tDNewK, tDisp, tPairs, tCont, tSl, tNoPart, tPart, rSlT, tChain3, qSortS, qEqDL, qNeDL, tFor_enum, tFor_enumT, tFor_zip, tFor_rng2, tComp_seq,  cxOf_prog, cxOf_w, cxOf_nox_prog, cxOf_nox_w, cxOf_mg, cxOf_base, cxOf_nox_mg, cxOf_nox_base, cxComp_prog, cxComp_w, cxComp_mg, cxComp_base, tComp_zipT, tCallL, rSlA, rSlL, tDX, tDXs, tTup, tLst, tBM,
  qEq, qNe, qIn, qNotIn, qIsN, qNotN, qIsB, qNotB, qLen, qInst, qEqD, qNeD, qMinL, qMaxL, qSortI, rIx, rIxL, rIxT, rIxS, rCat, rRep, rRepT, rLeS, rLtS, rAppend, rExtend, tNever, tBreak, tYes,
  tFor_tup, tFor_list, tFor_rng1, tComp_tup, tComp_list, tComp_str, L2.start, cxOf_K, cxOf_nox_K, cxComp_K, List.map_cons, List.map_nil, List.length_cons, List.length_nil, List.replicate_succ, List.replicate_zero, Nat.reduceAdd, Nat.reduceSub, Nat.zero_add, Nat.add_zero, Nat.sub_zero, Nat.sub_self, Nat.add_sub_cancel,
  List.getElem?_cons_zero, List.getElem?_cons_succ, List.set_cons_zero, List.set_cons_succ, List.cons_append, List.nil_append, List.append_nil, List.cons.injEq, Option.some.injEq, V.int.injEq, V.ref.injEq, V.str.injEq, V.bl.injEq, V.ty.injEq,
  reduceCtorEq, false_and, and_false, and_true, true_and, exists_false, exists_const, false_or, or_false, exists_eq_left, exists_eq_left', exists_eq_right, exists_eq_right', exists_and_left, decide_eq_true_eq, Bool.not_eq_true', Bool.decide_eq_true, exists_eq, true_or, or_true, Bool.false_eq_true, if_true, if_false, Bool.true_eq_false, Bool.not_true, Bool.not_false, decide_true, decide_false, List.isEmpty_cons, List.isEmpty_nil, Bool.true_and, Bool.false_and, bne_self_eq_false, beq_self_eq_true])
section
variable {P : Program} {w : World} {K : PySem.W.Frag} {mg : Str → Option Value} {base : Heap} {f : Addr} {fd : FuncData}
def spDW : Sp := fun vs H Q _ => ∃ v tv l d ws bs, vs = [v, tv, .ref l] ∧ Dt H v (D.enc d) ∧ Dt H tv d.term.enc ∧ H l = some (.lst ws) ∧ DtA H ws (bs.map fun q => Dm.tup (encB q)) ∧ bs.length = d.blocks.length ∧ ∀ x H', Same H H' → Dt H' x (D.withB d bs).enc → Q x H'
theorem ok_deed_with (F : Fun K "deed_with" "deed_with" s_deed_with f fd) : FnOk P w K mg base CX0 1 f fd ["deed", "term", "blocks"] spDW := by
  refine F.ok sc_deed_with (fun vs H Q E h => ?_) (fun cdv A outer s H vs Q E hr h => ?_)
  · obtain ⟨v, tv, l, d, ws, bs, rfl, _⟩ := h
    rfl
  obtain ⟨v, tv, l, d, ws, bs, rfl, hd, ht, hl, dw, hlen, q⟩ := h
  refine ⟨_, (pss_cons (ps_if (pt_cmpR (gEq hr.units) (pe_ix ix_tup (pe_var (i := 0) rfl vis_deed_with_deed db_deed cd_deed) pe_int (fun _ _ => rfl)) pe_str (nomark _)) (pss_one (ps_ret (pe_tup (pa_c pe_str (pa_c (pe_ix ix_tup (pe_var (i := 0) rfl vis_deed_with_deed db_deed cd_deed) pe_int (fun _ _ => rfl)) (pa_c (pe_var (i := 1) rfl vis_deed_with_term db_term cd_term) pa_nil)))))) pss_nil)
  (pss_cons (ps_if (pt_cmpR (gEq hr.units) (pe_ix ix_tup (pe_var (i := 0) rfl vis_deed_with_deed db_deed cd_deed) pe_int (fun _ _ => rfl)) pe_str (nomark _)) (pss_one (ps_ret (pe_tup (pa_c pe_str (pa_c (pe_var (i := 1) rfl vis_deed_with_term db_term cd_term) (pa_c (pe_ix ix_list (pe_var (i := 2) rfl vis_deed_with_blocks db_blocks cd_blocks) pe_int (fun _ _ => rfl)) (pa_c (pe_ix ix_list (pe_var (i := 2) rfl vis_deed_with_blocks db_blocks cd_blocks) pe_int (fun _ _ => rfl)) pa_nil))))))) pss_nil)
  (pss_one (ps_ret (pe_tup (pa_c pe_str (pa_c (pe_var (i := 1) rfl vis_deed_with_term db_term cd_term) (pa_c (pe_ix ix_tup (pe_var (i := 0) rfl vis_deed_with_deed db_deed cd_deed) pe_int (fun _ _ => rfl)) (pa_c (pe_ix ix_list (pe_var (i := 2) rfl vis_deed_with_blocks db_blocks cd_blocks) pe_int (fun _ _ => rfl)) pa_nil))))))))), ?_⟩
  walk_at "rd4"
  cases d with
  | set y tt =>
    obtain ⟨ad, x0, x1, x2, rfl, ha, t0, t1, t2⟩ := tup3 (show Dt H v (.tup [.str "set", .str y, tt.enc]) by have := hd; rw [D.enc] at this; exact this)
    refine ⟨_, rfl, _, SqT.of ha, _, rfl, _, eq_of t0, ?_⟩
    rw [if_pos (show eqS (.str "set") "set" = true from by decide +kernel)]
    refine ⟨_, rfl, _, SqT.of ha, _, rfl, zl 3 (by decide), fun r hr' => ?_⟩
    have s1 := same_new hr' (HO.tup [V.str "set", x1, tv])
    refine q _ _ s1 ?_
    show Dt _ _ (D.set y tt).enc
    rw [D.enc]
    exact .tup upd_same (.cons (.str _) (.cons (t1.kp s1.kp) (.cons (ht.kp s1.kp) .nil)))
  | ite tt bb cc =>
    obtain ⟨ad, x0, x1, x2, x3, rfl, ha, t0, t1, t2, t3⟩ := tup4 (show Dt H v (.tup [.str "if", tt.enc, .tup (encB bb), .tup (encB cc)]) by have := hd; rw [D.enc] at this; exact this)
    match bs, hlen with
    | [b1, b2], _ =>
      rcases dw with _ | ⟨w1, _ | ⟨w2, _ | _⟩⟩
      refine ⟨_, rfl, _, SqT.of ha, _, rfl, _, eq_of t0, ?_⟩
      rw [if_neg (show ¬ eqS (.str "if") "set" = true from by decide +kernel)]
      refine ⟨_, rfl, _, SqT.of ha, _, rfl, _, eq_of t0, ?_⟩
      rw [if_pos (show eqS (.str "if") "if" = true from by decide +kernel)]
      refine ⟨_, SqL.of hl, _, rfl, _, SqL.of hl, _, rfl, zl 4 (by decide), fun r hr' => ?_⟩
      refine q _ _ (same_new hr' _) ?_
      show Dt _ _ (D.ite tt b1 b2).enc
      rw [D.enc]
      exact .tup upd_same (.cons (.str _) (.cons (ht.kp (same_new hr' _).kp) (.cons (w1.kp (same_new hr' _).kp) (.cons (w2.kp (same_new hr' _).kp) .nil))))
  | whl tt m bb =>
    obtain ⟨ad, x0, x1, x2, x3, rfl, ha, t0, t1, t2, t3⟩ := tup4 (show Dt H v (.tup [.str "while", tt.enc, .int m, .tup (encB bb)]) by have := hd; rw [D.enc] at this; exact this)
    match bs, hlen with
    | [b1], _ =>
      rcases dw with _ | ⟨w1, _ | _⟩
      refine ⟨_, rfl, _, SqT.of ha, _, rfl, _, eq_of t0, ?_⟩
      rw [if_neg (show ¬ eqS (.str "while") "set" = true from by decide +kernel)]
      refine ⟨_, rfl, _, SqT.of ha, _, rfl, _, eq_of t0, ?_⟩
      rw [if_neg (show ¬ eqS (.str "while") "if" = true from by decide +kernel)]
      refine ⟨_, rfl, _, SqT.of ha, _, rfl, _, SqL.of hl, _, rfl, zl 4 (by decide), fun r hr' => ?_⟩
      refine q _ _ (same_new hr' _) ?_
      show Dt _ _ (D.whl tt m b1).enc
      rw [D.enc]
      exact .tup upd_same (.cons (.str _) (.cons (ht.kp (same_new hr' _).kp) (.cons (t2.kp (same_new hr' _).kp) (.cons (w1.kp (same_new hr' _).kp) .nil))))
def spRR : Sp := fun vs H Q _ => ∃ v t m b, vs = [v] ∧ Dt H v (D.whl t m b).enc ∧ b.length ≤ 6 ∧ ∀ x H', Same H H' → Dt H' x (peel (.whl t m b)).enc → Q x H'
theorem ok_round_and_rest (F : Fun K "round_and_rest" "round_and_rest" s_round_and_rest f fd) : FnOk P w K mg base CX0 1 f fd ["deed"] spRR := by
  refine F.ok sc_round_and_rest (fun vs H Q E h => ?_) (fun cdv A outer s H vs Q E hr h => ?_)
  · obtain ⟨v, t, m, b, rfl, _⟩ := h
    rfl
  obtain ⟨v, t, m, b, rfl, hd, hb, q⟩ := h
  refine ⟨_, (pss_cons (ps_set (i := 1) sc_round_and_rest.nd rfl loc_round_and_rest_rest (pe_tup (pa_c pe_str (pa_c (pe_ix ix_tup (pe_var (i := 0) rfl vis_round_and_rest_deed db_deed cd_deed) pe_int (fun _ _ => rfl)) (pa_c (pe_op op_sub (pe_ix ix_tup (pe_var (i := 0) rfl vis_round_and_rest_deed db_deed cd_deed) pe_int (fun _ _ => rfl)) pe_int) (pa_c (pe_ix ix_tup (pe_var (i := 0) rfl vis_round_and_rest_deed db_deed cd_deed) pe_int (fun _ _ => rfl)) pa_nil))))) (swaps_plain rfl))
  (pss_one (ps_ret (pe_tup (pa_c pe_str (pa_c (pe_ix ix_tup (pe_var (i := 0) rfl vis_round_and_rest_deed db_deed cd_deed) pe_int (fun _ _ => rfl)) (pa_c (pe_op op_catT2 (pe_ix ix_tup (pe_var (i := 0) rfl vis_round_and_rest_deed db_deed cd_deed) pe_int (fun _ _ => rfl)) (pe_tup (pa_c (pe_var (i := 1) rfl vis_round_and_rest_rest db_rest cd_rest) pa_nil))) (pa_c (pe_tup pa_nil) pa_nil)))))))), ?_⟩
  walk_at "rd4"
  obtain ⟨ad, x0, x1, x2, x3, rfl, ha, t0, t1, t2, t3⟩ := tup4 (show Dt H v (.tup [.str "while", t.enc, .int m, .tup (encB b)]) by have := hd; rw [D.enc] at this; exact this)
  cases t2
  refine ⟨_, rfl, _, SqT.of ha, _, rfl, _, rfl, _, SqT.of ha, _, rfl, _, rfl, _, rfl, _, SqT.of ha, _, rfl, zl 4 (by decide), fun r1 h1 => ?_⟩
  have s1 := same_new h1 (HO.tup [V.str "while", x1, V.int (m - 1), x3])
  have dr : Dt (upd H r1 (HO.tup [V.str "while", x1, V.int (m - 1), x3])) (.ref r1) (D.whl t (m - 1) b).enc := by
    rw [D.enc]
    exact .tup upd_same (.cons (.str _) (.cons (t1.kp s1.kp) (.cons (.int _) (.cons (t3.kp s1.kp) .nil))))
  generalize upd H r1 (HO.tup [V.str "while", x1, V.int (m - 1), x3]) = U at s1 dr ⊢
  refine ⟨_, rfl, _, SqT.of (s1 _ _ ha), _, rfl, _, rfl, _, SqT.of (s1 _ _ ha), _, rfl, zl 1 (by decide), fun r2 h2 => ?_⟩
  have s2 := same_new h2 (HO.tup [V.ref r1])
  refine catD (t3.kp (s1.trans s2).kp) (.tup upd_same (.cons (dr.kp s2.kp) .nil)) (by rw [encB_length]; simp; omega) fun z H3 s3 dz => ?_
  refine ⟨Nat.zero_le _, fun r4 h4 => ⟨zl 4 (by decide), fun r5 h5 => ?_⟩⟩
  have s4 := same_new h4 (HO.tup [])
  have s5 := same_new h5 (HO.tup [V.str "if", x1, z, V.ref r4])
  have s45 := s4.trans s5
  have s15 := s1.trans (s2.trans (s3.trans s45))
  refine q _ _ s15 ?_
  show Dt _ _ (D.ite t (b ++ [.whl t (m - 1) b]) []).enc
  rw [D.enc, encB_append]
  exact .tup upd_same (.cons (.str _) (.cons (t1.kp s15.kp) (.cons (dz.kp s45.kp) (.cons (.tup (s5 _ _ upd_same) .nil) .nil))))
def spPB (n : Nat) : Sp := fun vs H Q _ => ∃ v b pv p dv dp ov o, vs = [v, pv, dv, ov] ∧ Dt H v (.tup (encB b)) ∧ Dt H pv (pathD p) ∧ Dt H dv (pathD dp) ∧ Dt H ov (D.enc o) ∧ okW n b ∧ n ≤ 3 ∧ p.length + 2 * n ≤ 50 ∧ ∀ x H', Same H H' → Dt H' x (.tup (encB (prB dp o p 0 b))) → Q x H'
def spPD (n : Nat) : Sp := fun vs H Q _ => ∃ v d pv p dv dp ov o, vs = [v, pv, dv, ov] ∧ Dt H v (D.enc d) ∧ Dt H pv (pathD p) ∧ Dt H dv (pathD dp) ∧ Dt H ov (D.enc o) ∧ okWD n d ∧ n ≤ 3 ∧ p.length + 2 * n ≤ 49 ∧ ∀ x H', Same H H' → Dt H' x (prD dp o p d).enc → Q x H'
theorem ok_block_with {n : Nat} (F : Fun K "block_with" "block_with" s_block_with f fd) (b_enumerate : mg "enumerate" = none) (b_tuple : mg "tuple" = none) (c_deed_or : Callee P w K mg base "deed_or" ["deed", "path", "deed_path", "other"] (2 * n + 2) (spPD n)) : FnOk P w K mg base CX0 (2 * n + 3) f fd ["block", "path", "deed_path", "other"] (spPB (n + 1)) := by
  refine F.ok sc_block_with (fun vs H Q E h => ?_) (fun cdv A outer s H vs Q E hr h => ?_)
  · obtain ⟨v, b, pv, p, dv, dp, ov, o, rfl, _⟩ := h
    rfl
  obtain ⟨v, b, pv, p, dv, dp, ov, o, rfl, hd, hp, hdp, ho, hok, hn, hl, q⟩ := h
  refine ⟨_, (pss_one (ps_ret (pe_cT call_tuple_of gl_block_with_tuple b_tuple bt_tuple (pa_c (pe_comp ["at", "deed", "deed_path", "other", "path"] [none, none, some 2, some 3, some 1] rfl (CompS.of (by rfl)) (pi_enumT gl_block_with_enumerate b_enumerate (pa_c (pe_var (i := 0) rfl vis_block_with_block db_block cd_block) pa_nil)) (fun _ _ _ _ _ => (pg_tupK (n := 2) (K := K) rfl rfl (pgs_cons (pg_name (i := 0) (show List.Nodup (["at", "deed", "deed_path", "other", "path"] : List Str) from by decide +kernel) rfl (Or.inl rfl)) (pgs_cons (pg_name (i := 1) (show List.Nodup (["at", "deed", "deed_path", "other", "path"] : List Str) from by decide +kernel) rfl (Or.inl rfl)) pgs_nil)))) (fun _ _ _ _ _ => pif_nil) (fun _ _ _ _ _ => (pe_cc c_deed_or hr (by omega) (pa_c (pe_var (i := 1) rfl (by first | exact Or.inl rfl | exact Or.inr (Or.inl rfl) | exact Or.inr (Or.inr rfl)) db_deed cd_deed) (pa_c (pe_op (opK (r := rCatT2) (K := K) op_catT2 rfl) (pe_var (i := 4) rfl (by first | exact Or.inl rfl | exact Or.inr (Or.inl rfl) | exact Or.inr (Or.inr rfl)) db_path cd_path) (pe_tup (pa_c (pe_var (i := 0) rfl (by first | exact Or.inl rfl | exact Or.inr (Or.inl rfl) | exact Or.inr (Or.inr rfl)) db_at cd_at) pa_nil))) (pa_c (pe_var (i := 2) rfl (by first | exact Or.inl rfl | exact Or.inr (Or.inl rfl) | exact Or.inr (Or.inr rfl)) db_deed_path cd_deed_path) (pa_c (pe_var (i := 3) rfl (by first | exact Or.inl rfl | exact Or.inr (Or.inl rfl) | exact Or.inr (Or.inr rfl)) db_other cd_other) pa_nil)))) rfl db_deed_or))) pa_nil) nn_tuple db_tuple))), ?_⟩
  walk_at "rd4"
  obtain ⟨ab, xs, rfl, hab, hda⟩ := hd.tupI
  have hxl : xs.length = b.length := by rw [hda.length, encB_length]
  have hbl := hok.1
  refine ⟨ab, rfl, ⟨_, SqT.of hab⟩, ?_⟩
  refine comp_enumT (K := K) (a := ab) (xs := xs) (PBInv H pv dv ov dp o p b) ⟨Same.refl _, ⟨_, _, rfl⟩, by rw [List.take_zero, prB, encB]; exact .nil, Nat.le_refl _⟩ (by rw [hxl]; exact zzlt (by omega)) ?_ ?_ ?_ ?_
  · rintro i ys σ' H' ⟨_, _, _, hy⟩
    exact hy
  · rintro i ys σ' H' _ ⟨s2, _, _⟩
    exact SqT.of (s2 _ _ hab)
  · rintro i ys x σ' H' Tu hxi ⟨s2, ⟨t, u, rfl⟩, dy, hy⟩ hT
    obtain ⟨d, hbi, dx⟩ := deed_at hda hxi
    have s3 := same_new hT (HO.tup [V.int i, x])
    have s23 := s2.trans s3
    walk_at "rd4"
    refine ⟨_, SqT.of upd_same, rfl, _, _, rfl, _, _, rfl, rfl, zl 1 (by decide), fun r1 h1 => ?_⟩
    have s4 := same_new h1 (HO.tup [V.int i])
    refine catP (hp.kp (s23.trans s4).kp) path1 (by simp; omega) fun z H1 s5 dz => ?_
    have s35 := (s3.trans s4).trans s5
    have s25 := s2.trans s35
    refine ⟨x, d, z, _, dv, dp, ov, o, rfl, dx.kp s25.kp, dz, hdp.kp s25.kp, ho.kp s25.kp, hok.2 d (List.mem_of_getElem? hbi), by omega, by simp; omega, fun y H2 s6 dy2 => ?_⟩
    refine ⟨s25.trans s6, ⟨_, _, rfl⟩, ?_, by rw [List.length_append, List.length_singleton]; omega⟩
    rw [pr_end hbi, encB_append]
    exact (dy.kp (s35.trans s6).kp).append (.cons dy2 .nil)
  · rintro ys σ' H' ⟨s2, _, dy, _⟩ pe hpe
    rw [hxl, List.take_length] at dy
    have s3 := same_new hpe (HO.lst ys)
    refine ⟨pe, rfl, ys, .inl ⟨SqL.of upd_same, fun l hl' => ?_⟩⟩
    have s4 := same_new hl' (HO.tup ys)
    exact q _ _ (s2.trans (s3.trans s4)) (.tup upd_same (dy.kp (s3.trans s4).kp))
theorem ok_deed_or {n : Nat} (F : Fun K "deed_or" "deed_or" s_deed_or f fd) (c_blocks_of : Callee P w K mg base "blocks_of" ["deed"] 1 spBlocksOf) (c_term_of : Callee P w K mg base "term_of" ["deed"] 1 spTermOf) (c_deed_with : Callee P w K mg base "deed_with" ["deed", "term", "blocks"] 1 spDW) (c_block_with : Callee P w K mg base "block_with" ["block", "path", "deed_path", "other"] (2 * n + 1) (spPB n)) : FnOk P w K mg base CX0 (2 * n + 2) f fd ["deed", "path", "deed_path", "other"] (spPD n) := by
  refine F.ok sc_deed_or (fun vs H Q E h => ?_) (fun cdv A outer s H vs Q E hr h => ?_)
  · obtain ⟨v, b, pv, p, dv, dp, ov, o, rfl, _⟩ := h
    rfl
  obtain ⟨v, d, pv, p, dv, dp, ov, o, rfl, hd, hp, hdp, ho, hok, hn, hl, q⟩ := h
  refine ⟨_, (pss_cons (ps_if (pt_cmpR (dEq hr.units) (pe_var (i := 1) rfl vis_deed_or_path db_path cd_path) (pe_var (i := 2) rfl vis_deed_or_deed_path db_deed_path cd_deed_path) (nomark _)) (pss_one (ps_ret (pe_var (i := 3) rfl vis_deed_or_other db_other cd_other))) pss_nil)
  (pss_cons (ps_setc (i := 4) ["number", "block", "deed_path", "other", "path"] [none, none, some 2, some 3, some 1] sc_deed_or.nd rfl loc_deed_or_blocks rfl (CompS.of (by rfl)) (pi_list (pe_cc c_blocks_of hr (by omega) (pa_c (pe_var (i := 0) rfl vis_deed_or_deed db_deed cd_deed) pa_nil) gl_deed_or_blocks_of db_blocks_of)) (fun _ _ _ _ _ => (pg_tupK (n := 2) (K := K) rfl rfl (pgs_cons (pg_name (i := 0) (show List.Nodup (["number", "block", "deed_path", "other", "path"] : List Str) from by decide +kernel) rfl (Or.inl rfl)) (pgs_cons (pg_name (i := 1) (show List.Nodup (["number", "block", "deed_path", "other", "path"] : List Str) from by decide +kernel) rfl (Or.inl rfl)) pgs_nil)))) (fun _ _ _ _ _ => pif_nil) (fun _ _ _ _ _ => (pe_cc c_block_with hr (by omega) (pa_c (pe_var (i := 1) rfl (by first | exact Or.inl rfl | exact Or.inr (Or.inl rfl) | exact Or.inr (Or.inr rfl)) db_block cd_block) (pa_c (pe_op (opK (r := rCatT2) (K := K) op_catT2 rfl) (pe_var (i := 4) rfl (by first | exact Or.inl rfl | exact Or.inr (Or.inl rfl) | exact Or.inr (Or.inr rfl)) db_path cd_path) (pe_tup (pa_c (pe_var (i := 0) rfl (by first | exact Or.inl rfl | exact Or.inr (Or.inl rfl) | exact Or.inr (Or.inr rfl)) db_number cd_number) pa_nil))) (pa_c (pe_var (i := 2) rfl (by first | exact Or.inl rfl | exact Or.inr (Or.inl rfl) | exact Or.inr (Or.inr rfl)) db_deed_path cd_deed_path) (pa_c (pe_var (i := 3) rfl (by first | exact Or.inl rfl | exact Or.inr (Or.inl rfl) | exact Or.inr (Or.inr rfl)) db_other cd_other) pa_nil)))) rfl db_block_with)))
  (pss_one (ps_ret (pe_cc c_deed_with hr (by omega) (pa_c (pe_var (i := 0) rfl vis_deed_or_deed db_deed cd_deed) (pa_c (pe_cc c_term_of hr (by omega) (pa_c (pe_var (i := 0) rfl vis_deed_or_deed db_deed cd_deed) pa_nil) gl_deed_or_term_of db_term_of) (pa_c (pe_var (i := 4) rfl vis_deed_or_blocks db_blocks cd_blocks) pa_nil))) gl_deed_or_deed_with db_deed_with))))), ?_⟩
  walk_at "rd4"
  have ep : PyData.eqv (pathD p).dat (pathD dp).dat = decide (p = dp) := by
    simp only [pathD, Dm.dat, PyData.eqv, eqv_path]
  refine ⟨_, ⟨_, _, hp, hdp, (fine_path p).eq (by decide), (fine_path dp).eq (by decide), rfl⟩, ?_⟩
  rw [ep]
  by_cases epd : p = dp
  · rw [if_pos (decide_eq_true epd)]
    refine q _ _ (Same.refl _) ?_
    rw [prD_eq, if_pos epd]
    exact ho
  · rw [if_neg (by rw [decide_eq_false epd]; decide)]
    refine ⟨v, d, rfl, hd, fun ra H1 us s1 f1 h1 d1 => ?_⟩
    have hul : us.length = d.blocks.length := by rw [d1.length, List.length_map]
    have hbl := blocks_len d
    refine ⟨ra, rfl, ⟨_, SqL.of h1⟩, ?_⟩
    refine comp_list (K := K) (a := ra) (xs := us) (POInv H1 pv dv ov dp o p d.blocks) ⟨Same.refl _, ⟨_, _, rfl⟩, by rw [List.take_zero]; exact .nil, Nat.le_refl _⟩ (by rw [hul]; exact zzlt (by omega)) ?_ ?_ ?_ ?_
    · rintro i ys σ' H' ⟨_, _, _, hy⟩
      exact hy
    · rintro i ys σ' H' _ ⟨s2, _, _⟩
      exact SqL.of (s2 _ _ h1)
    · rintro i ys v' σ' H' hxi ⟨s2, ⟨t, u, rfl⟩, dy, hy⟩
      obtain ⟨nb, hnb, dnb⟩ := map_at d1 hxi
      obtain ⟨pp, y0, y1, rfl, hpp, u0, u1⟩ := tup2 (dnb.kp s2.kp)
      cases u0
      walk_at "rd4"
      refine ⟨_, SqT.of hpp, rfl, _, _, rfl, _, _, rfl, rfl, zl 1 (by decide), fun r1 h1 => ?_⟩
      have s4 := same_new h1 (HO.tup [V.int nb.1])
      have s12 := s1.trans s2
      refine catP (hp.kp (s12.trans s4).kp) path1 (by simp; omega) fun z H3 s5 dz => ?_
      have s45 := s4.trans s5
      have s15 := s12.trans s45
      refine ⟨y1, nb.2, z, _, dv, dp, ov, o, rfl, u1.kp s45.kp, dz, hdp.kp s15.kp, ho.kp s15.kp, blocksW_ok hok (List.mem_of_getElem? hnb), hn, by simp; omega, fun y H4 s6 dy2 => ?_⟩
      refine ⟨s2.trans (s45.trans s6), ⟨_, _, rfl⟩, ?_, by rw [List.length_append, List.length_singleton]; omega⟩
      rw [take_snoc hnb, List.map_append]
      exact (dy.kp (s45.trans s6).kp).append (.cons dy2 .nil)
    · rintro ys σ' H' ⟨s2, _, dy, _⟩ pe hpe
      rw [hul, List.take_length] at dy
      have s3 := same_new hpe (HO.lst ys)
      have s13 := s1.trans (s2.trans s3)
      refine ⟨v, d, rfl, hd.kp s13.kp, fun x dx => ?_⟩
      refine ⟨v, x, pe, d, ys, newBs dp o p d, rfl, hd.kp s13.kp, dx, upd_same, ?_, by simp [newBs], fun y H5 s5 dy5 => ?_⟩
      · unfold newBs
        rw [List.map_map]
        exact dy.kp s3.kp
      · refine q _ _ (s13.trans s5) ?_
        rw [prD_eq, if_neg epd]
        exact dy5
theorem none_pb {k : Nat} {n1 n2 n3 n4 : Str} : FnOk P w K mg base CX0 k f fd [n1, n2, n3, n4] (spPB 0) := by
  have no : ∀ vs H Q E, ¬ spPB 0 vs H Q E := fun vs H Q E h => by
    obtain ⟨v, b, pv, p, dv, dp, ov, o, _, _, _, _, _, h1, _⟩ := h
    exact h1
  exact ⟨fun vs H Q E h => absurd h (no vs H Q E), fun A outer s H args us vs Q E _ _ _ _ h => absurd h (no vs H Q E)⟩
theorem all_bwith {f2 : Addr} {fd2 : FuncData} (d : Df K mg "block_with" s_block_with ["block", "path", "deed_path", "other"] f fd) (d2 : Df K mg "deed_or" s_deed_or ["deed", "path", "deed_path", "other"] f2 fd2) (b_enumerate : mg "enumerate" = none) (b_tuple : mg "tuple" = none) (c_blocks_of : Callee P w K mg base "blocks_of" ["deed"] 1 spBlocksOf) (c_term_of : Callee P w K mg base "term_of" ["deed"] 1 spTermOf) (c_deed_with : Callee P w K mg base "deed_with" ["deed", "term", "blocks"] 1 spDW) : ∀ n : Nat, Callee P w K mg base "block_with" ["block", "path", "deed_path", "other"] (2 * n + 1) (spPB n)
  | 0 => d.callee none_pb
  | n + 1 => d.callee (ok_block_with d.F b_enumerate b_tuple (d2.callee (ok_deed_or d2.F c_blocks_of c_term_of c_deed_with (all_bwith d d2 b_enumerate b_tuple c_blocks_of c_term_of c_deed_with n))))
def spPeel : Sp := fun vs H Q _ => ∃ v ins b pv p, vs = [v, pv] ∧ Dt H v (.tup [ins, .tup (encB b)]) ∧ Dt H pv (pathD p) ∧ okB 3 b ∧ p ∈ whP b ∧ ∀ x H' b', Same H H' → Dt H' x (.tup [ins, .tup (encB b')]) → okW 4 b' → (b' = b ∨ cntK (deedsP b) "if" + 1 ≤ cntK (deedsP b') "if") → Q x H'
theorem ok_peeled (F : Fun K "peeled" "peeled" s_peeled f fd) (b_dict : mg "dict" = none) (c_all_deeds : Callee P w K mg base "all_deeds" ["program"] 7 spAllDeeds) (c_block_with : Callee P w K mg base "block_with" ["block", "path", "deed_path", "other"] 7 (spPB 3)) (c_round_and_rest : Callee P w K mg base "round_and_rest" ["deed"] 1 spRR) : FnOk P w K mg base CX0 8 f fd ["program", "path"] spPeel := by
  refine F.ok sc_peeled (fun vs H Q E h => ?_) (fun cdv A outer s H vs Q E hr h => ?_)
  · obtain ⟨v, ins, b, pv, p, rfl, _⟩ := h
    rfl
  obtain ⟨v, ins, b, pv, p, rfl, hd, hp, hok, hm, q⟩ := h
  refine ⟨_, (pss_cons (ps_set (i := 2) sc_peeled.nd rfl loc_peeled_deed (pe_dget1 hr.units1 (pe_cT (call_dictT rfl hr.units) gl_peeled_dict b_dict bt_dict (pa_c (pe_cc c_all_deeds hr (by omega) (pa_c (pe_var (i := 0) rfl vis_peeled_program db_program cd_program) pa_nil) gl_peeled_all_deeds db_all_deeds) pa_nil) nn_dict db_dict) (pe_var (i := 1) rfl vis_peeled_path db_path cd_path) ⟨rfl, rfl, rfl, rfl⟩) (swaps_plain rfl))
  (pss_cons (ps_if (PW.pt (pw_or (pt_cmpR gIsN (pe_var (i := 2) rfl vis_peeled_deed db_deed cd_deed) pe_non (nomark _)) (pw_or (pt_cmpR (gNe hr.units) (pe_ix ix_tup (pe_var (i := 2) rfl vis_peeled_deed db_deed cd_deed) pe_int (fun _ _ => rfl)) pe_str (nomark _)) (pw_or1 (pt_cmpR op_lt (pe_ix ix_tup (pe_var (i := 2) rfl vis_peeled_deed db_deed cd_deed) pe_int (fun _ _ => rfl)) pe_int (nomark _)))))) (pss_one (ps_ret (pe_var (i := 0) rfl vis_peeled_program db_program cd_program))) pss_nil)
  (pss_one (ps_ret (pe_tup (pa_c (pe_ix ix_tup (pe_var (i := 0) rfl vis_peeled_program db_program cd_program) pe_int (fun _ _ => rfl)) (pa_c (pe_cc c_block_with hr (by omega) (pa_c (pe_ix ix_tup (pe_var (i := 0) rfl vis_peeled_program db_program cd_program) pe_int (fun _ _ => rfl)) (pa_c (pe_tup pa_nil) (pa_c (pe_var (i := 1) rfl vis_peeled_path db_path cd_path) (pa_c (pe_cc c_round_and_rest hr (by omega) (pa_c (pe_var (i := 2) rfl vis_peeled_deed db_deed cd_deed) pa_nil) gl_peeled_round_and_rest db_round_and_rest) pa_nil)))) gl_peeled_block_with db_block_with) pa_nil))))))), ?_⟩
  walk_at "rd4"
  obtain ⟨r, hr', er⟩ := List.mem_map.mp hm
  obtain ⟨hr1, hr2⟩ := List.mem_filter.mp hr'
  obtain ⟨rp, rd⟩ := r
  have er : rp = p := er
  subst er
  cases rd with
  | set x t => cases hr2
  | ite t b1 c1 => cases hr2
  | whl t m bb =>
    have hu : ∀ s ∈ deedsP b, s.1 = rp → s.2 = .whl t m bb := fun s hs e => by rw [path_once hs hr1 e]
    refine ⟨v, ins, b, rfl, hd, okW_up (okW_of hok), fun ra H1 us s1 f1 h1 d1 => ?_⟩
    have hz : (deedsP b).length ≤ 100000 := by
      have h1 := deeds_bnd 3 b [] 0 hok
      have h2 := bnd_le (n := 3) (by decide)
      have h3 : (deedsP b).length ≤ bnd 3 := h1
      omega
    refine ⟨ra, us, (deedsP b).map fun r => (r.1, r.2.enc), rfl, h1, by rw [List.map_map]; exact d1, by rw [List.map_map]; exact paths_nodup b, by rw [List.length_map]; exact hz, fun pd kvs hpd pk => ?_⟩
    have s2 := same_new hpd (HO.dT kvs)
    obtain ⟨x, ex, dx⟩ := val_paired (r := (rp, (D.whl t m bb).enc)) pk (List.mem_map.mpr ⟨_, hr1, rfl⟩) (fun s hs e => by
      obtain ⟨s', hs', rfl⟩ := List.mem_map.mp hs
      rw [path_once hs' hr1 e])
    have s12 := s1.trans s2
    obtain ⟨pa, ps, rfl, hpa, dpa⟩ := hp.tupI
    have eps := dtA_ints dpa
    subst eps
    have hpa2 : (upd H1 pd (HO.dT kvs)) pa = some (.tup ((rp.map (Sum.inl : Int → Key)).map kV)) := by
      rw [s12 _ _ hpa, List.map_map]
      rfl
    obtain ⟨ad, x0, x1, x2, x3, rfl, ha, t0, t1, t2, t3⟩ := tup4 (show Dt H1 x (.tup [.str "while", t.enc, .int m, .tup (encB bb)]) by have := dx; rw [D.enc] at this; exact this)
    cases t0
    cases t2
    refine ⟨pd, rfl, .inr ⟨_, .inl upd_same⟩, _, DGet.t upd_same hpa2, ?_⟩
    have hd2 := hd.kp s12.kp
    have ha2 := s2 _ _ ha
    have dx2 := dx.kp s2.kp
    have hp2 := hp.kp s12.kp
    generalize upd H1 pd (HO.dT kvs) = U at s2 s12 hpa2 hd2 ha2 dx2 hp2 ⊢
    rw [ex]
    rw [if_neg (show ¬ (some (V.ref ad)).getD V.non = V.non from by intro z; cases z)]
    refine ⟨ad, rfl, _, SqT.of ha2, _, rfl, _, ⟨rfl, rfl⟩, ?_⟩
    rw [if_neg (by decide +kernel)]
    refine ⟨ad, rfl, _, SqT.of ha2, _, rfl, _, rfl, ?_⟩
    by_cases hm1 : m < 1
    · rw [if_pos hm1]
      exact q _ _ b s12 hd2 (okW_up (okW_of hok)) (.inl rfl)
    · rw [if_neg hm1]
      obtain ⟨va, y0, y1, rfl, hva, w0, w1⟩ := tup2 hd
      have hbb : bb.length ≤ 6 := by
        obtain ⟨k, hk⟩ := deeds_okD 3 b [] 0 hok _ hr1
        have hb := hk.2.2.2
        cases k with
        | zero => exact hb.elim
        | succ k => exact hb.1
      refine ⟨_, rfl, _, SqT.of (s12 _ _ hva), _, rfl, _, rfl, _, SqT.of (s12 _ _ hva), _, rfl, Nat.zero_le _, fun r3 h3 => ?_⟩
      have s3 := same_new h3 (HO.tup [])
      refine ⟨.ref ad, t, m, bb, rfl, dx2.kp s3.kp, hbb, fun x H4 s4 dx4 => ?_⟩
      have s34 := s3.trans s4
      have s14 := s12.trans s34
      refine ⟨y1, b, .ref r3, [], .ref pa, rp, x, peel (.whl t m bb), rfl, w1.kp s14.kp, .tup (s4 _ _ upd_same) .nil, hp.kp s14.kp, dx4, okW_of hok, by decide, by decide, fun y H5 s5 dy5 => ⟨zl 2 (by decide), fun r6 h6 => ?_⟩⟩
      have s6 := same_new h6 (HO.tup [y0, y])
      have s15 := s14.trans s5
      exact q _ _ (prB rp (peel (.whl t m bb)) [] 0 b) (s15.trans s6) (.tup upd_same (.cons (w0.kp (s15.trans s6).kp) (.cons (dy5.kp s6.kp) .nil))) (pr_okW hok hu) (.inr (pr_cnt hr1 hu))
end
end SR


set_option Elab.async false
set_option linter.all false
set_option maxRecDepth 100000
set_option maxHeartbeats 0
namespace SR
open PySem L2
local macro_rules | `(tactic| walk_at "rd") => `(tactic| simp only [tSeq, tIfS, tTest, tOp, tVar, tC, tAsg, gName, gTup, gCons, gNil, tRet, tRetN, tDrop, tNext, tCB, tCons, tNil, tCall, tUn, rU, rI0, rI, tAnd, tOr, tNot, tB, tAndV, tOrV, tNotV, tIf, tIfT, tKGet, tChain, tDGet, tDGet1, sDPut, tDNewK, tDisp, tPairs, tCont, tSl, tNoPart, tPart, rSlT, tChain3, qSortS, qEqDL, qNeDL, tFor_enum, tFor_zip, tFor_rng2, tComp_seq, qSetI, qSortSet, cxOf_prog, cxOf_w, cxOf_nox_prog, cxOf_nox_w, cxOf_mg, cxOf_base, cxOf_nox_mg, cxOf_nox_base, cxComp_prog, cxComp_w, cxComp_mg, cxComp_base, tComp_zipT, tCallL, rSlA, rSlL, tDX, tDXs, tTup, tLst, tBM,
  qEq, qNe, qIn, qNotIn, qIsN, qNotN, qIsB, qNotB, qLen, qInst, qEqD, qNeD, qMinL, qMaxL, qSortI, rIx, rIxL, rIxT, rIxS, rCat, rCatT2, rRep, rRepT, rLeS, rLtS, rAppend, rExtend, tNever, tBreak, tYes,
  tFor_tup, tFor_list, tFor_rng1, tComp_tup, tComp_list, tComp_str, L2.start, cxOf_K, cxOf_nox_K, cxComp_K, List.map_cons, List.map_nil, List.length_cons, List.length_nil, List.replicate_succ, List.replicate_zero, Nat.reduceAdd, Nat.reduceSub, Nat.zero_add, Nat.add_zero, Nat.sub_zero, Nat.sub_self, Nat.add_sub_cancel,
  List.getElem?_cons_zero, List.getElem?_cons_succ, List.set_cons_zero, List.set_cons_succ, List.cons_append, List.nil_append, List.append_nil, List.cons.injEq, Option.some.injEq, V.int.injEq, V.ref.injEq, V.str.injEq, V.bl.injEq, V.ty.injEq,
  reduceCtorEq, false_and, and_false, and_true, true_and, exists_false, exists_const, false_or, or_false, exists_eq_left, exists_eq_left', exists_eq_right, exists_eq_right', exists_and_left, decide_eq_true_eq, Bool.not_eq_true', Bool.decide_eq_true, exists_eq, true_or, or_true, Bool.false_eq_true, if_true, if_false, Bool.true_eq_false, Bool.not_true, Bool.not_false, decide_true, decide_false, List.isEmpty_cons, List.isEmpty_nil, Bool.true_and, Bool.false_and, bne_self_eq_false, beq_self_eq_true])
section
variable {P : Program} {w : World} {K : PySem.W.Frag} {mg : Str → Option Value} {base : Heap} {f : Addr} {fd : FuncData}
/-! ### for the law -/
theorem ten_str : ∀ x ∈ ten, PyData.strOk x = true := by
  intro x hx
  simp only [ten, List.mem_cons, List.not_mem_nil, or_false] at hx
  rcases hx with rfl | rfl | rfl | rfl | rfl | rfl | rfl | rfl | rfl | rfl <;> decide +kernel
theorem fine_pair {p : Str × Int} (h : p.1 ∈ ten) : Fine 1 (pairD p) := by
  refine fine_tup fun d hd => ?_
  simp only [List.mem_cons, List.not_mem_nil, or_false] at hd
  rcases hd with rfl | rfl
  · exact fine_str _ (ten_str _ h)
  · exact fine_int _ _
theorem fine_pairs {c : Cnt} (h : ∀ p ∈ c, p.1 ∈ ten) : shutA (c.map pairD) = true ∧ SeqAt.shaped (.list (datA (c.map pairD))) = true ∧ PyData.canLay0 (.list (datA (c.map pairD))) = true := by
  obtain ⟨fa1, fa2, fa3⟩ := fineA (ds := c.map pairD) (n := 1) fun d hd => by
    obtain ⟨r, hr, rfl⟩ := List.mem_map.mp hd
    exact fine_pair (h r hr)
  have h0 : PyData.canLay0 (.list (datA (c.map pairD))) = true := by simpa [PyData.canLay0] using fa2
  refine ⟨fa1, ?_, h0⟩
  unfold SeqAt.shaped
  rw [h0, Bool.true_and, decide_eq_true_eq]
  simp only [PyData.depth]
  omega
theorem perm_ten {ms : Cnt} {l : List RT} (h : ms.Perm (cntT [] l)) : ∀ p ∈ ms, p.1 ∈ ten := fun p hp => (cntT_ok l CntOk.nil).sub p (h.mem_iff.mp hp)
theorem perm_sum {a b : List Int} (h : a.Perm b) : a.sum = b.sum := by
  induction h with
  | nil => rfl
  | cons x _ ih => rw [List.sum_cons, List.sum_cons, ih]
  | swap x y l => simp only [List.sum_cons]; omega
  | trans _ _ i j => rw [i, j]
theorem cnt_total {ms : Cnt} {l : List RT} (h : ms.Perm (cntT [] l)) : (ms.map (·.2)).sum = (l.length : Int) := by
  rw [perm_sum (h.map (·.2))]
  have := (cntT_ok l CntOk.nil).tot
  unfold sumC at this
  rw [this]
  omega
theorem wh_cnt : ∀ l : List RD, (whR l).length = cntK l "while"
  | [] => rfl
  | r :: l => by
    rw [whR_cons, cntK_cons, List.length_append, wh_cnt l]
    obtain ⟨p, d⟩ := r
    cases d with
    | set x t =>
      rw [if_neg (show ¬ isWhl (p, D.set x t) = true by simp [isWhl]), if_neg (show ¬ (D.set x t).kind = "while" from fun z => absurd z (show ¬ ("set" : Str) = "while" by decide +kernel))]
      rfl
    | ite t b c =>
      rw [if_neg (show ¬ isWhl (p, D.ite t b c) = true by simp [isWhl]), if_neg (show ¬ (D.ite t b c).kind = "while" from fun z => absurd z (show ¬ ("if" : Str) = "while" by decide +kernel))]
      rfl
    | whl t m b =>
      rw [if_pos (show isWhl (p, D.whl t m b) = true from rfl), if_pos (show (D.whl t m b).kind = "while" from rfl)]
      rfl
mutual
theorem fine_D : ∀ (n : Nat) (d : D), okWD n d → Fine (5 + 2 * n + 2) d.enc
  | n, .set x t, h => by
    rw [D.enc]
    refine (fine_tup (n := 5) fun e he => ?_).mono (by omega)
    simp only [List.mem_cons, List.not_mem_nil, or_false] at he
    rcases he with rfl | rfl | rfl
    · exact fine_str _ (by decide +kernel)
    · exact fine_str _ (pool_ok x h.1)
    · exact fine_T h.2
  | n, .ite t b c, h => by
    rw [D.enc]
    refine (fine_tup (n := 5 + 2 * n + 1) fun e he => ?_).mono (by omega)
    simp only [List.mem_cons, List.not_mem_nil, or_false] at he
    rcases he with rfl | rfl | rfl | rfl
    · exact fine_str _ (by decide +kernel)
    · exact (fine_T h.1).mono (by omega)
    · exact fine_tup (fine_B n b h.2.1)
    · exact fine_tup (fine_B n c h.2.2)
  | n, .whl t m b, h => by
    rw [D.enc]
    refine (fine_tup (n := 5 + 2 * n + 1) fun e he => ?_).mono (by omega)
    simp only [List.mem_cons, List.not_mem_nil, or_false] at he
    rcases he with rfl | rfl | rfl | rfl
    · exact fine_str _ (by decide +kernel)
    · exact (fine_T h.1).mono (by omega)
    · exact fine_int _ _
    · exact fine_tup (fine_B n b h.2)
theorem fine_B : ∀ (n : Nat) (b : List D), okW n b → ∀ e ∈ encB b, Fine (5 + 2 * n) e
  | 0, _, h => h.elim
  | n + 1, [], h => fun e he => by simp [encB] at he
  | n + 1, d :: b, h => fun e he => by
    rw [encB] at he
    rcases List.mem_cons.mp he with he | he
    · rw [he]
      exact (fine_D n d (h.2 d (.head _))).mono (by omega)
    · exact fine_B (n + 1) b ⟨by have := h.1; rw [List.length_cons] at this; omega, fun d hd => h.2 d (.tail _ hd)⟩ e he
end
theorem fine_row {r : Rw} (h : PyData.strOk r.1 = true) : Fine 1 (rowEnc r) := by
  refine fine_tup fun d hd => ?_
  simp only [List.mem_cons, List.not_mem_nil, or_false] at hd
  rcases hd with rfl | rfl | rfl
  · exact fine_str _ h
  · exact fine_int _ _
  · exact fine_int _ _
theorem fine_prog {rows : List Rw} {b : List D} (hr : okRows rows) (h : okW 4 b) : Fine 20 (.tup [.tup (rows.map rowEnc), .tup (encB b)]) := by
  refine (fine_tup (n := 15) fun d hd => ?_).mono (by decide)
  simp only [List.mem_cons, List.not_mem_nil, or_false] at hd
  rcases hd with rfl | rfl
  · refine (fine_tup (n := 1) fun d hd => ?_).mono (by decide)
    obtain ⟨r, hr', rfl⟩ := List.mem_map.mp hd
    refine fine_row (pool_ok _ ?_)
    have h1 : r.1 ∈ rows.map (·.1) := List.mem_map.mpr ⟨r, hr', rfl⟩
    rw [hr.nm] at h1
    have h2 := List.mem_of_mem_take h1
    simp only [pair, List.mem_cons, List.not_mem_nil, or_false] at h2
    rcases h2 with h2 | h2 <;> rw [h2] <;> decide +kernel
  · exact (fine_tup (fine_B 4 b h)).mono (by decide)
theorem trio_eq {H : Hp} {r s : Addr} {xs : List Int} (h1 : H r = some (.tup (xs.map V.int))) (h2 : H s = some (.tup (xs.map V.int))) : EqD H (.ref r) (.ref s) true := by
  have key : ∀ xs : List Int, DtA H (xs.map V.int) (xs.map Dm.int) := by
    intro xs
    induction xs with
    | nil => exact .nil
    | cons x xs ih => exact .cons (.int _) ih
  have f : Fine 1 (Dm.tup (xs.map Dm.int)) := fine_path xs
  exact ⟨_, _, .tup h1 (key xs), .tup h2 (key xs), f.eq (by decide), f.eq (by decide), (eqv_self f.2.1).symm⟩
def CWI (U : Hp) (σ0 : List (Option V)) (ms : Cnt) (i : Nat) (ys : List V) (σ' : St) (H' : Hp) : Prop := H' = U ∧ (∃ t u, σ' = t :: u :: σ0) ∧ ys = ((ms.take i).map fun p => V.int p.2) ∧ ys.length ≤ i
def LPI (H0 : Hp) (y0 y1 y2 y3 y4 y6 y7 : Option V) (i : Nat) (σ : St) (Hc : Hp) : Prop := ∃ (x5 x8 : Option V), σ = [y0, y1, y2, y3, y4, x5, y6, y7, x8] ∧ Same H0 Hc
theorem empty_prog {V : Hp} {e1 e2 e3 : Addr} (h1 : V e1 = none) (h2 : upd V e1 (HO.tup []) e2 = none) (h3 : upd (upd V e1 (HO.tup [])) e2 (HO.tup []) e3 = none) : Same V (upd (upd (upd V e1 (HO.tup [])) e2 (HO.tup [])) e3 (HO.tup [.ref e1, .ref e2])) ∧ Dt (upd (upd (upd V e1 (HO.tup [])) e2 (HO.tup [])) e3 (HO.tup [.ref e1, .ref e2])) (.ref e3) (.tup [.tup [], .tup (encB [])]) := by
  have s1 := same_new h1 (HO.tup [])
  have s2 := same_new h2 (HO.tup [])
  have s3 := same_new h3 (HO.tup [.ref e1, .ref e2])
  refine ⟨s1.trans (s2.trans s3), .tup upd_same (.cons (.tup ((s2.trans s3) _ _ upd_same) .nil) (.cons ?_ .nil))⟩
  rw [encB]
  exact .tup (s3 _ _ upd_same) .nil
theorem okW_nil : okW 4 [] := ⟨by simp, fun d hd => by simp at hd⟩
theorem okB_nil : okB 3 [] := ⟨by simp, fun d hd => by simp at hd⟩
theorem deeds_nil : deedsP [] = [] := by simp [deedsP, deedsB]
theorem spots_nil : spotsP [] = [] := by simp [spotsP, deeds_nil, spotsR]
theorem mxT_nil : mxT (deedsP []) = 0 := by simp [deeds_nil, mxT, mxL]
theorem bdB_nil : bdB [] = 1 := by simp [bdB]
theorem cntK_nil (x : Str) : cntK (deedsP []) x = 0 := by simp [deeds_nil, cntK, kindsR]
theorem mx_if (a b : Nat) : (if (b : Int) > (a : Int) then (b : Int) else (a : Int)) = ((max a (max b 0) : Nat) : Int) := by split <;> omega
theorem tseq_cut3 {t1 t2 t3 b : TS} {D : Ends} {σ : St} {H : Hp} (R : St → Hp → Prop) (h1 : ∀ N : St → Hp → Prop, (∀ σ' H', R σ' H' → N σ' H') → tSeq t1 (tSeq t2 fun D' => t3 { D' with nx := N }) D σ H) (h2 : ∀ σ' H', R σ' H' → b D σ' H') : tSeq t1 (tSeq t2 (tSeq t3 b)) D σ H := h1 _ h2
theorem tseq_cut5 {t1 t2 t3 t4 t5 b : TS} {D : Ends} {σ : St} {H : Hp} (R : St → Hp → Prop) (h1 : ∀ N : St → Hp → Prop, (∀ σ' H', R σ' H' → N σ' H') → tSeq t1 (tSeq t2 (tSeq t3 (tSeq t4 fun D' => t5 { D' with nx := N }))) D σ H) (h2 : ∀ σ' H', R σ' H' → b D σ' H') : tSeq t1 (tSeq t2 (tSeq t3 (tSeq t4 (tSeq t5 b)))) D σ H := h1 _ h2
def LR1 (a : Addr) (σ : St) (Hc : Hp) : Prop := ∃ (r ri rb so d : Addr) (us : List V) (rows : List Rw) (b : List D) (x5 x6 : Option V), σ = [some (.ref a), some (.ref r), some (.ref so), some (.ref d), some (.int (mxT (deedsP b))), x5, x6, none, none] ∧ Hc r = some (.tup [.ref ri, .ref rb]) ∧ Dt Hc (.ref ri) (.tup (rows.map rowEnc)) ∧ Dt Hc (.ref rb) (.tup (encB b)) ∧ okRows rows ∧ okB 3 b ∧ Hc so = some (.lst us) ∧ DtA Hc us ((deedsP b).map rowE) ∧ Hc d = some (.dK (kvC (cntT [] (spotsP b))))
def LR2 (σ : St) (Hc : Hp) : Prop := ∃ (r : Addr) (rows : List Rw) (b : List D) (y0 y2 y3 y4 y5 y6 y7 : Option V), σ = [y0, some (.ref r), y2, y3, y4, y5, y6, y7, none] ∧ Dt Hc (.ref r) (.tup [.tup (rows.map rowEnc), .tup (encB b)]) ∧ okRows rows ∧ okB 3 b
end
end SR


set_option Elab.async false
set_option linter.all false
set_option maxRecDepth 100000
set_option maxHeartbeats 0
namespace SR
open PySem L2
local macro_rules | `(tactic| walk_at "rd") => `(tactic| simp only [tSeq, tIfS, tTest, tOp, tVar, tC, tAsg, gName, gTup, gCons, gNil, tRet, tRetN, tDrop, tNext, tCB, tCons, tNil, tCall, tUn, rU, rI0, rI, tAnd, tOr, tNot, tB, tAndV, tOrV, tNotV, tIf, tIfT, tKGet, tChain, tDGet, tDGet1, sDPut, tDNewK, tDisp, tPairs, tCont, tSl, tNoPart, tPart, rSlT, tChain3, qSortS, qEqDL, qNeDL, tFor_enum, tFor_zip, tFor_rng2, tComp_seq, qSetI, qSortSet, cxOf_prog, cxOf_w, cxOf_nox_prog, cxOf_nox_w, cxOf_mg, cxOf_base, cxOf_nox_mg, cxOf_nox_base, cxComp_prog, cxComp_w, cxComp_mg, cxComp_base, tComp_zipT, tCallL, rSlA, rSlL, tDX, tDXs, tTup, tLst, tBM,
  qEq, qNe, qIn, qNotIn, qIsN, qNotN, qIsB, qNotB, qLen, qInst, qEqD, qNeD, qMinL, qMaxL, qSortI, rIx, rIxL, rIxT, rIxS, rCat, rCatT2, rRep, rRepT, rLeS, rLtS, rAppend, rExtend, tNever, tBreak, tYes,
  tFor_tup, tFor_list, tFor_rng1, tComp_tup, tComp_list, tComp_str, L2.start, cxOf_K, cxOf_nox_K, cxComp_K, List.map_cons, List.map_nil, List.length_cons, List.length_nil, List.replicate_succ, List.replicate_zero, Nat.reduceAdd, Nat.reduceSub, Nat.zero_add, Nat.add_zero, Nat.sub_zero, Nat.sub_self, Nat.add_sub_cancel,
  List.getElem?_cons_zero, List.getElem?_cons_succ, List.set_cons_zero, List.set_cons_succ, List.cons_append, List.nil_append, List.append_nil, List.cons.injEq, Option.some.injEq, V.int.injEq, V.ref.injEq, V.str.injEq, V.bl.injEq, V.ty.injEq,
  reduceCtorEq, false_and, and_false, and_true, true_and, exists_false, exists_const, false_or, or_false, exists_eq_left, exists_eq_left', exists_eq_right, exists_eq_right', exists_and_left, decide_eq_true_eq, Bool.not_eq_true', Bool.decide_eq_true, exists_eq, true_or, or_true, Bool.false_eq_true, if_true, if_false, Bool.true_eq_false, Bool.not_true, Bool.not_false, decide_true, decide_false, List.isEmpty_cons, List.isEmpty_nil, Bool.true_and, Bool.false_and, bne_self_eq_false, beq_self_eq_true])
local macro_rules | `(tactic| walk_at "rd4") => `(tactic| simp only [tPar3, tMaxD, tItems, rItems, qSum, rCountL, tDGet2, tComp_enumT, tSeq, tIfS, tTest, tOp, tVar, tC, tAsg, gName, gTup, gCons, gNil, tRet, tRetN, tDrop, tNext, tCB, tCons, tNil, tCall, tUn, rU, rI0, rI, tAnd, tOr, tNot, tB, tAndV, tOrV, tNotV, tIf, tIfT, tKGet, tChain, tDGet, tDGet1, sDPut, tDNewK, tDisp, tPairs, tCont, tSl, tNoPart, tPart, rSlT, tChain3, qSortS, qEqDL, qNeDL, tFor_enum, tFor_enumT, tFor_zip, tFor_rng2, tComp_seq,  cxOf_prog, cxOf_w, cxOf_nox_prog, cxOf_nox_w, cxOf_mg, cxOf_base, cxOf_nox_mg, cxOf_nox_base, cxComp_prog, cxComp_w, cxComp_mg, cxComp_base, tComp_zipT, tCallL, rSlA, rSlL, tDX, tDXs, tTup, tLst, tBM,
  qEq, qNe, qIn, qNotIn, qIsN, qNotN, qIsB, qNotB, qLen, qInst, qEqD, qNeD, qMinL, qMaxL, qSortI, rIx, rIxL, rIxT, rIxS, rCat, rRep, rRepT, rLeS, rLtS, rAppend, rExtend, tNever, tBreak, tYes,
  tFor_tup, tFor_list, tFor_rng1, tComp_tup, tComp_list, tComp_str, L2.start, cxOf_K, cxOf_nox_K, cxComp_K, List.map_cons, List.map_nil, List.length_cons, List.length_nil, List.replicate_succ, List.replicate_zero, Nat.reduceAdd, Nat.reduceSub, Nat.zero_add, Nat.add_zero, Nat.sub_zero, Nat.sub_self, Nat.add_sub_cancel,
  List.getElem?_cons_zero, List.getElem?_cons_succ, List.set_cons_zero, List.set_cons_succ, List.cons_append, List.nil_append, List.append_nil, List.cons.injEq, Option.some.injEq, V.int.injEq, V.ref.injEq, V.str.injEq, V.bl.injEq, V.ty.injEq,
  reduceCtorEq, false_and, and_false, and_true, true_and, exists_false, exists_const, false_or, or_false, exists_eq_left, exists_eq_left', exists_eq_right, exists_eq_right', exists_and_left, decide_eq_true_eq, Bool.not_eq_true', Bool.decide_eq_true, exists_eq, true_or, or_true, Bool.false_eq_true, if_true, if_false, Bool.true_eq_false, Bool.not_true, Bool.not_false, decide_true, decide_false, List.isEmpty_cons, List.isEmpty_nil, Bool.true_and, Bool.false_and, bne_self_eq_false, beq_self_eq_true])
section
variable {P : Program} {w : World} {K : PySem.W.Frag} {mg : Str → Option Value} {base : Heap} {f : Addr} {fd : FuncData}
theorem comp_counts {ra : Addr} {us : List V} {ms : Cnt} {Q : VK} {H1 : Hp} (h2 : H1 ra = some (.lst us)) (d2 : DtA H1 us (ms.map pairD)) (hz : ms.length ≤ 100000) (q : ∀ (r : Addr), H1 r = none → Q (.ref r) (upd H1 r (.lst (ms.map fun p => V.int p.2)))) :
    CompW (Itl K ra) (gTup K 2 (gCons (gName 0) (gCons (gName 1) gNil))) tYes (tVar 1) Q [none, none] H1 := by
  have hul : us.length = ms.length := by rw [d2.length, List.length_map]
  refine comp_list (K := K) (a := ra) (xs := us) (CWI H1 [] ms) ⟨rfl, ⟨_, _, rfl⟩, by rw [List.take_zero]; rfl, Nat.le_refl _⟩ (by rw [hul]; exact Nat.lt_of_le_of_lt hz (by decide)) ?_ ?_ ?_ ?_
  · rintro i ys σ' H' ⟨_, _, _, hy⟩
    exact hy
  · rintro i ys σ' H' _ ⟨rfl, _, _⟩
    exact SqL.of h2
  · rintro i ys v' σ' H' hxi ⟨rfl, ⟨t, u, rfl⟩, ey, hy⟩
    obtain ⟨r, hri, dr⟩ := map_at d2 hxi
    obtain ⟨pp, y0, y1, rfl, hpp, u0, u1⟩ := tup2 dr
    cases u1
    walk_at "rd4"
    refine ⟨_, SqT.of hpp, rfl, _, _, rfl, _, _, rfl, rfl, rfl, ⟨_, _, rfl⟩, ?_, by rw [List.length_append, List.length_singleton]; omega⟩
    rw [take_snoc hri, ey, List.map_append]
    rfl
  · rintro ys σ' H' ⟨rfl, _, ey, _⟩ pe hpe
    rw [hul, List.take_length] at ey
    rw [ey]
    exact q pe hpe
def spLaw (K : PySem.W.Frag) : Sp := fun vs H Q _ => ∃ (a : Addr) (ns : List Int), vs = [.ref a] ∧ SqL K H a (ns.map V.int) ∧ ns.length ≤ 63 ∧ ∀ H', Q (.bl true) H'
theorem ok_law (F : Fun K "law" "law" s_law f fd) (b_sorted : mg "sorted" = none) (b_sum : mg "sum" = none) (b_len : mg "len" = none) (b_max : mg "max" = none) (c_law_program : Callee P w K mg base "_law_program" ["_law_script", "_law_at"] 11 (spProgram K))
    (c_law_deeds : Callee P w K mg base "_law_deeds" ["_law_block_here", "_law_path"] 6 (spDeeds 4)) (c_spots : Callee P w K mg base "spots" ["program"] 8 spSpotsP) (c_words_in : Callee P w K mg base "words_in" ["program"] 9 spWords) (c_deeds_in : Callee P w K mg base "deeds_in" ["program"] 8 spKinds)
    (c_depths : Callee P w K mg base "depths" ["program"] 10 spDepths) (c_law_deep : Callee P w K mg base "_law_deep" ["_law_expr"] 6 (spDT 5)) (c_law_blocks : Callee P w K mg base "_law_blocks" ["_law_block_here"] 5 (spDB 4)) (c_whiles : Callee P w K mg base "whiles" ["program"] 8 spWhiles) (c_peeled : Callee P w K mg base "peeled" ["program", "path"] 8 spPeel) : FnOk P w K mg base CX0 12 f fd ["_law_script"] (spLaw K) := by
  refine F.ok sc_law (fun vs H Q E h => ?_) (fun cdv A outer s H vs Q E hr h => ?_)
  · obtain ⟨a, ns, rfl, _⟩ := h
    rfl
  obtain ⟨a, ns, rfl, hS, _, q⟩ := h
  refine ⟨_, (pss_cons (ps_set (i := 1) sc_law.nd rfl loc_law__law_program_here (pe_cc c_law_program hr (by omega) (pa_c (pe_var (i := 0) rfl vis_law__law_script db__law_script cd__law_script) (pa_c pe_int pa_nil)) gl_law__law_program db__law_program) (swaps_plain rfl))
  (pss_cons (ps_par3 (i := 2) (j := 3) (k := 4) rfl sc_law.nd rfl rfl rfl (by decide) (by decide) (by decide) lcl_law__law_some lcl_law__law_words lcl_law__law_deep_here (pa_c (pe_cc c_law_deeds hr (by omega) (pa_c (pe_ix ix_tup (pe_var (i := 1) rfl vis_law__law_program_here db__law_program_here cd__law_program_here) pe_int (fun _ _ => rfl)) (pa_c (pe_tup pa_nil) pa_nil)) gl_law__law_deeds db__law_deeds) (pa_c pe_dnewK (pa_c pe_int pa_nil))) (by rfl))
  (pss_cons (ps_for PassesOwn.never rfl (pi_list (pe_cc c_spots hr (by omega) (pa_c (pe_var (i := 1) rfl vis_law__law_program_here db__law_program_here cd__law_program_here) pa_nil) gl_law_spots db_spots)) (pg_tup (n := 2) rfl (pgs_cons (pg_name (i := 5) sc_law.nd rfl loc_law__law_path) (pgs_cons (pg_name (i := 6) sc_law.nd rfl loc_law__law_expr) pgs_nil)))
  (pss_cons (ps_dput hr.units1 (pe_var (i := 3) rfl vis_law__law_words db__law_words cd__law_words) (pe_ix ix_tup (pe_var (i := 6) rfl vis_law__law_expr db__law_expr cd__law_expr) pe_int (fun _ _ => rfl)) (pe_op op_add (pe_dget2 hr.units1 (pe_var (i := 3) rfl vis_law__law_words db__law_words cd__law_words) (pe_ix ix_tup (pe_var (i := 6) rfl vis_law__law_expr db__law_expr cd__law_expr) pe_int (fun _ _ => rfl)) pe_int ⟨rfl, rfl, rfl, rfl⟩) pe_int) (swaps_plain rfl))
  (pss_one (ps_set (i := 4) sc_law.nd rfl loc_law__law_deep_here (pe_cB (call_max2 rfl) gl_law_max b_max bt_max (pa_c (pe_var (i := 4) rfl vis_law__law_deep_here db__law_deep_here cd__law_deep_here) (pa_c (pe_cc c_law_deep hr (by omega) (pa_c (pe_var (i := 6) rfl vis_law__law_expr db__law_expr cd__law_expr) pa_nil) gl_law__law_deep db__law_deep) pa_nil)) nn_max db_max) (swaps_plain rfl)))))
  (pss_cons (ps_if (pt_cmpR (dlNe hr.units) (pe_cc c_words_in hr (by omega) (pa_c (pe_var (i := 1) rfl vis_law__law_program_here db__law_program_here cd__law_program_here) pa_nil) gl_law_words_in db_words_in) (pe_cB (call_sortedItems rfl) gl_law_sorted b_sorted bt_sorted (pa_c (pe_items (pe_var (i := 3) rfl vis_law__law_words db__law_words cd__law_words)) pa_nil) nn_sorted db_sorted) (nomark _)) (pss_one (ps_ret pe_bl)) pss_nil)
  (pss_cons (ps_if (pt_cmpR op_neI (pe_cB (call_sumL rfl) gl_law_sum b_sum bt_sum (pa_c (pe_comp ["_law_word", "_law_many"] [none, none] rfl (CompS.of (by rfl)) (pi_list (pe_cc c_words_in hr (by omega) (pa_c (pe_var (i := 1) rfl vis_law__law_program_here db__law_program_here cd__law_program_here) pa_nil) gl_law_words_in db_words_in)) (fun _ _ _ _ _ => (pg_tupK (n := 2) (K := K) rfl rfl (pgs_cons (pg_name (i := 0) (show List.Nodup (["_law_word", "_law_many"] : List Str) from by decide +kernel) rfl (Or.inl rfl)) (pgs_cons (pg_name (i := 1) (show List.Nodup (["_law_word", "_law_many"] : List Str) from by decide +kernel) rfl (Or.inl rfl)) pgs_nil)))) (fun _ _ _ _ _ => pif_nil) (fun _ _ _ _ _ => (pe_var (i := 1) rfl (by first | exact Or.inl rfl | exact Or.inr (Or.inl rfl) | exact Or.inr (Or.inr rfl)) db__law_many cd__law_many))) pa_nil) nn_sum db_sum) (pe_cB gLen gl_law_len b_len bt_len (pa_c (pe_cc c_spots hr (by omega) (pa_c (pe_var (i := 1) rfl vis_law__law_program_here db__law_program_here cd__law_program_here) pa_nil) gl_law_spots db_spots) pa_nil) nn_len db_len) (nomark _)) (pss_one (ps_ret pe_bl)) pss_nil)
  (pss_cons (ps_setc (i := 7) ["_law_path", "_law_deed"] [none, none] sc_law.nd rfl loc_law__law_kinds rfl (CompS.of (by rfl)) (pi_list (pe_var (i := 2) rfl vis_law__law_some db__law_some cd__law_some)) (fun _ _ _ _ _ => (pg_tupK (n := 2) (K := K) rfl rfl (pgs_cons (pg_name (i := 0) (show List.Nodup (["_law_path", "_law_deed"] : List Str) from by decide +kernel) rfl (Or.inl rfl)) (pgs_cons (pg_name (i := 1) (show List.Nodup (["_law_path", "_law_deed"] : List Str) from by decide +kernel) rfl (Or.inl rfl)) pgs_nil)))) (fun _ _ _ _ _ => pif_nil) (fun _ _ _ _ _ => (pe_ix (ixK (r := rIxT) (K := K) ix_tup rfl) (pe_var (i := 1) rfl (by first | exact Or.inl rfl | exact Or.inr (Or.inl rfl) | exact Or.inr (Or.inr rfl)) db__law_deed cd__law_deed) pe_int (fun _ _ => rfl))))
  (pss_cons (ps_if (pt_cmpR (dNe hr.units) (pe_cc c_deeds_in hr (by omega) (pa_c (pe_var (i := 1) rfl vis_law__law_program_here db__law_program_here cd__law_program_here) pa_nil) gl_law_deeds_in db_deeds_in) (pe_tup (pa_c (pe_bm PySem.F.plainAttrs_list PySem.F.slot_list_count PySem.F.type_list_count mt_count (pe_var (i := 7) rfl vis_law__law_kinds db__law_kinds cd__law_kinds) (pa_c pe_str pa_nil)) (pa_c (pe_bm PySem.F.plainAttrs_list PySem.F.slot_list_count PySem.F.type_list_count mt_count (pe_var (i := 7) rfl vis_law__law_kinds db__law_kinds cd__law_kinds) (pa_c pe_str pa_nil)) (pa_c (pe_bm PySem.F.plainAttrs_list PySem.F.slot_list_count PySem.F.type_list_count mt_count (pe_var (i := 7) rfl vis_law__law_kinds db__law_kinds cd__law_kinds) (pa_c pe_str pa_nil)) pa_nil)))) (nomark _)) (pss_one (ps_ret pe_bl)) pss_nil)
  (pss_cons (ps_if (PW.pt (pw_or (pt_cmpR (dNe hr.units) (pe_cc c_depths hr (by omega) (pa_c (pe_var (i := 1) rfl vis_law__law_program_here db__law_program_here cd__law_program_here) pa_nil) gl_law_depths db_depths) (pe_tup (pa_c (pe_var (i := 4) rfl vis_law__law_deep_here db__law_deep_here cd__law_deep_here) (pa_c (pe_cc c_law_blocks hr (by omega) (pa_c (pe_ix ix_tup (pe_var (i := 1) rfl vis_law__law_program_here db__law_program_here cd__law_program_here) pe_int (fun _ _ => rfl)) pa_nil) gl_law__law_blocks db__law_blocks) pa_nil))) (nomark _)) (pw_or1 (pt_cmpR (dNe hr.units) (pe_cc c_depths hr (by omega) (pa_c (pe_tup (pa_c (pe_tup pa_nil) (pa_c (pe_tup pa_nil) pa_nil))) pa_nil) gl_law_depths db_depths) (pe_tup (pa_c pe_int (pa_c pe_int pa_nil))) (nomark _))))) (pss_one (ps_ret pe_bl)) pss_nil)
  (pss_cons (ps_if (pt_cmpR op_neI (pe_cB gLen gl_law_len b_len bt_len (pa_c (pe_cc c_whiles hr (by omega) (pa_c (pe_var (i := 1) rfl vis_law__law_program_here db__law_program_here cd__law_program_here) pa_nil) gl_law_whiles db_whiles) pa_nil) nn_len db_len) (pe_ix ix_seq (pe_cc c_deeds_in hr (by omega) (pa_c (pe_var (i := 1) rfl vis_law__law_program_here db__law_program_here cd__law_program_here) pa_nil) gl_law_deeds_in db_deeds_in) pe_int (fun _ _ => rfl)) (nomark _)) (pss_one (ps_ret pe_bl)) pss_nil)
  (pss_cons (ps_for PassesOwn.never rfl (pi_list (pe_cc c_whiles hr (by omega) (pa_c (pe_var (i := 1) rfl vis_law__law_program_here db__law_program_here cd__law_program_here) pa_nil) gl_law_whiles db_whiles)) (pg_name (i := 5) sc_law.nd rfl loc_law__law_path)
  (pss_cons (ps_set (i := 8) sc_law.nd rfl loc_law__law_new (pe_cc c_peeled hr (by omega) (pa_c (pe_var (i := 1) rfl vis_law__law_program_here db__law_program_here cd__law_program_here) (pa_c (pe_var (i := 5) rfl vis_law__law_path db__law_path cd__law_path) pa_nil)) gl_law_peeled db_peeled) (swaps_plain rfl))
  (pss_one (ps_if (PW.pt (pw_and (pt_cmpR (dNe hr.units) (pe_var (i := 8) rfl vis_law__law_new db__law_new cd__law_new) (pe_var (i := 1) rfl vis_law__law_program_here db__law_program_here cd__law_program_here) (nomark _)) (pw_and1 (pt_cmpR op_lt (pe_ix ix_seq (pe_cc c_deeds_in hr (by omega) (pa_c (pe_var (i := 8) rfl vis_law__law_new db__law_new cd__law_new) pa_nil) gl_law_deeds_in db_deeds_in) pe_int (fun _ _ => rfl)) (pe_op op_add (pe_ix ix_seq (pe_cc c_deeds_in hr (by omega) (pa_c (pe_var (i := 1) rfl vis_law__law_program_here db__law_program_here cd__law_program_here) pa_nil) gl_law_deeds_in db_deeds_in) pe_int (fun _ _ => rfl)) pe_int) (nomark _))))) (pss_one (ps_ret pe_bl)) pss_nil))))
  (pss_one (ps_ret (pe_and (pe_cmpR (gEq hr.units) (pe_cc c_words_in hr (by omega) (pa_c (pe_tup (pa_c (pe_tup pa_nil) (pa_c (pe_tup pa_nil) pa_nil))) pa_nil) gl_law_words_in db_words_in) (pe_lst pa_nil) (nomark _)) (pe_one (pe_cmpR (dEq hr.units) (pe_cc c_deeds_in hr (by omega) (pa_c (pe_tup (pa_c (pe_tup pa_nil) (pa_c (pe_tup pa_nil) pa_nil))) pa_nil) gl_law_deeds_in db_deeds_in) (pe_tup (pa_c pe_int (pa_c pe_int (pa_c pe_int pa_nil)))) (nomark _)))))))))))))))), tseq_cut3 (LR1 a) (fun N hN => ?_) fun σ Hc hR => ?_⟩
  · refine tseq_i fun M1 m1 => ?_
    walk_at "rd4"
    refine ⟨a, ns, 0, rfl, hS, by decide, fun r ri rb H1 rows b g' s1 hr1 dri drb hrow hok hbl hbn hkn => ?_⟩
    rw [m1]
    refine tseq_i fun M2 m2 => ?_
    walk_at "rd4"
    have drg : Dt H1 (.ref r) (.tup [.tup (rows.map rowEnc), .tup (encB b)]) := .tup hr1 (.cons dri (.cons drb .nil))
    have hokW : okW 4 b := okW_up (okW_of hok)
    have hz : (deedsP b).length ≤ 100000 := by
      have h1 := deeds_bnd 3 b [] 0 hok
      have h2 := bnd_le (n := 3) (by decide)
      have h3 : (deedsP b).length ≤ bnd 3 := h1
      omega
    refine ⟨_, SqT.of hr1, _, rfl, Nat.zero_le _, fun r0 h0 => ?_⟩
    have s0 := same_new h0 (HO.tup [])
    refine ⟨.ref rb, b, .ref r0, [], rfl, drb.kp s0.kp, .tup upd_same .nil, hokW, by decide, by decide, fun so H2 us s2 f2 h2 d2 => ?_⟩
    walk_at "rd4"
    intro d hdn
    have s3 := same_new hdn (HO.dK [])
    have s02 := s0.trans s2
    refine ⟨_, _, _, ⟨rfl, rfl, rfl⟩, ?_⟩
    rw [m2]
    walk_at "rd4"
    refine ⟨.ref r, _, b, rfl, drg.kp (s02.trans s3).kp, hok, fun rs H4 xs s4 f4 h4 d4 => ?_⟩
    have hul : us.length = (deedsP b).length := by rw [d2.length, List.length_map]; rfl
    have hxl : xs.length = (spotsP b).length := by rw [d4.length, List.length_map]
    have hnd : rs ≠ d := fun e => by rw [e, upd_same] at f4; cases f4
    refine ⟨rs, rfl, ⟨_, SqL.of h4⟩, ?_⟩
    refine for_list (xs := xs) (LWI H2 a r so d rs (spotsP b) xs) ?start ?lst ?step ?done
    case start => exact ⟨_, _, rfl, s3.trans s4, by rw [List.take_zero]; exact s4 _ _ upd_same, h4, d4⟩
    case lst =>
      rintro i σ Hc _ ⟨_, _, rfl, _, _, hu, _⟩
      exact SqL.of hu
    case step =>
      rintro i y σ Hc hy ⟨_, _, rfl, sc, hc, hu, du⟩
      obtain ⟨rr, hri, dr⟩ := map_at du hy
      obtain ⟨pp, y0, y1, rfl, hpp, u0, u1⟩ := tup2 dr
      have u1' := u1
      obtain ⟨ta, ty, tx, rfl, hta⟩ := term_tup u1
      walk_at "rd4"
      have ok := cntT_ok ((spotsP b).take i) CntOk.nil
      refine ⟨_, SqT.of hpp, rfl, _, _, rfl, _, _, rfl, rfl, .inl ⟨_, .inl hc⟩, _, rfl, _, SqT.of hta, _, atI_zero, _, DGet.k (k := Sum.inr rr.2.word) hc, _, val_getD _ _, _, rfl, _, SqT.of hta, _, atI_zero, _, DPut.k (k := Sum.inr rr.2.word) hc ?_, ?_⟩
      · unfold kvC
        rw [List.length_map]
        exact Nat.lt_of_le_of_lt ok.len (by decide)
      refine ⟨_, rr.2, rfl, u1'.kp (kp_dict hc), ok_deep (spotsP_ok hok rr (List.mem_of_getElem? hri)), ?_⟩
      refine ⟨_, _, ⟨rfl, rfl⟩, ?_⟩
      refine ⟨some y0, some (.ref ta), ?_, same_upd sc hdn, ?_, by rw [upd_ne hnd]; exact hu, du.kp (kp_dict hc)⟩
      · rw [take_snoc hri, List.map_append, mxL_append, mx_if]
        rfl
      · rw [upd_same, put_kv, take_snoc hri, cntT_append]
        rfl
    case done =>
      rintro σ Hc ⟨x5o, x6o, rfl, sc, hc, hu, du⟩
      rw [hxl, List.take_length] at hc
      rw [hxl, List.take_length, show mxL ((spotsP b).map fun r => r.2.deep) = mxT (deedsP b) from mx_spotsR _]
      exact hN _ _ ⟨r, ri, rb, so, d, us, rows, b, _, _, rfl, (s02.trans sc) _ _ hr1, dri.kp (s02.trans sc).kp, drb.kp (s02.trans sc).kp, hrow, hok, sc _ _ h2, d2.kp sc.kp, hc⟩
  · obtain ⟨r, ri, rb, so, d, us, rows, b, x5o, x6o, rfl, hr1c, dric, drbc, hrow, hok, h2c, d2c, hc⟩ := hR
    refine tseq_cut5 LR2 (fun N hN => ?_) fun σ Hc hR => ?_
    · refine tseq_i fun M4 m4 => ?_
      walk_at "rd4"
      have ok := cntT_ok (spotsP b) CntOk.nil
      have dr5 : Dt Hc (.ref r) (.tup [.tup (rows.map rowEnc), .tup (encB b)]) := .tup hr1c (.cons dric (.cons drbc .nil))
      have hokW : okW 4 b := okW_up (okW_of hok)
      have hz : (deedsP b).length ≤ 100000 := by
        have h1 := deeds_bnd 3 b [] 0 hok
        have h2 := bnd_le (n := 3) (by decide)
        have h3 : (deedsP b).length ≤ bnd 3 := h1
        omega
      refine ⟨.ref r, _, b, rfl, dr5, hok, fun l5 H5 ws ms s5 f5 h5 d5 pm pw => ?_⟩
      refine ⟨_, s5 _ _ hc, fun p hp => ?_⟩
      have s6 := same_new hp (itemsO p d)
      refine ⟨p, d, cntT [] (spotsP b), rankT, rfl, upd_same, s6 _ _ (s5 _ _ hc), Nat.lt_of_le_of_lt ok.len (by decide), fun x hx y hy => rank_ok (ok.sub x hx) (ok.sub y hy), fun l7 H7 wt mt s7 f7 h7 d7 pm7 pw7 => ?_⟩
      have e := sorted_pair pm pm7 pw pw7
      subst e
      obtain ⟨fa1, fa2, fa3⟩ := fine_pairs (perm_ten pm)
      have s67 := s6.trans s7
      have s57 := s5.trans s67
      refine ⟨_, ⟨_, _, _, _, _, _, rfl, rfl, SqL.of (s67 _ _ h5), SqL.of h7, d5.kp s67.kp, d7, fa1, fa1, fa2, fa2, rfl⟩, ?_⟩
      rw [eqv_self fa3]
      simp only [Bool.true_eq_false, if_false]
      rw [m4]
      refine tseq_i fun M5 m5 => ?_
      walk_at "rd4"
      refine ⟨.ref r, _, b, rfl, dr5.kp s57.kp, hok, fun l8 H8 wu mu s8 f8 h8 d8 pm8 pw8 => ?_⟩
      have lmu : mu.length ≤ 100000 := by rw [pm8.length_eq]; exact Nat.le_trans ok.len (by decide)
      refine ⟨l8, rfl, ⟨_, SqL.of h8⟩, comp_counts h8 d8 lmu fun r9 h9 => ?_⟩
      have s9 := same_new h9 (HO.lst (mu.map fun p => V.int p.2))
      have s59 := s57.trans (s8.trans s9)
      refine ⟨r9, rfl, mu.map (·.2), by rw [List.map_map]; exact SqL.of upd_same, ?_⟩
      refine ⟨.ref r, _, b, rfl, dr5.kp s59.kp, hok, fun r10 H10 ys s10 f10 h10 d10 => ?_⟩
      refine ⟨_, .inl ⟨r10, _, rfl, .inl (SqL.of h10), rfl⟩, ?_⟩
      rw [d10.length, List.length_map, cnt_total pm8, decide_eq_true rfl]
      simp only [Bool.true_eq_false, if_false]
      rw [m5]
      refine tseq_i fun M6 m6 => ?_
      walk_at "rd4"
      have s510 := s59.trans s10
      refine ⟨⟨_, SqL.of (s510 _ _ h2c)⟩, comp_kinds (l := deedsP b) (s510 _ _ h2c) (d2c.kp s510.kp) hz fun kr hkr => ?_⟩
      have s11 := same_new hkr (HO.lst ((kindsR (deedsP b)).map V.str))
      have hk : (upd H10 kr (HO.lst ((kindsR (deedsP b)).map V.str))) kr = some (.lst ((kindsR (deedsP b)).map V.str)) := upd_same
      have s511 := s510.trans s11
      generalize upd H10 kr (HO.lst ((kindsR (deedsP b)).map V.str)) = U at s511 hk ⊢
      have drU := dr5.kp s511.kp
      have drbU := drbc.kp s511.kp
      have hr1U := s511 _ _ hr1c
      clear s511 s11 s510 s59 s57 s67 s5 s6 s7 s8 s9 s10
      have kl : ∀ {W : Hp}, Same U W → tyV K "list" (V.ref kr) W := fun t => .inl ⟨rfl, _, SqL.of (t _ _ hk)⟩
      rw [m6]
      refine tseq_i fun M7 m7 => ?_
      walk_at "rd4"
      refine ⟨.ref r, _, b, rfl, drU, hokW, fun k1 U1 t1 g1 w1 => ?_⟩
      refine ⟨kl t1, _, t1 _ _ hk, kl t1, _, t1 _ _ hk, kl t1, _, t1 _ _ hk, by decide, fun p1 hp1 => ?_⟩
      have t1' := t1.trans (same_new hp1 (HO.tup [V.int (cntK (deedsP b) "set"), V.int (cntK (deedsP b) "if"), V.int (cntK (deedsP b) "while")]))
      refine ⟨true, trio_eq (xs := [(cntK (deedsP b) "set" : Int), (cntK (deedsP b) "if" : Int), (cntK (deedsP b) "while" : Int)]) (same_new hp1 _ _ _ w1) upd_same, ?_⟩
      simp only [Bool.true_eq_false, if_false]
      rw [m7]
      walk_at "rd4"
      refine ⟨.ref r, _, b, rfl, drU.kp t1'.kp, hokW, fun k2 U2 t2 g2 w2 => ?_⟩
      have t2' := t1'.trans t2
      refine ⟨_, SqT.of (t2' _ _ hr1U), _, atI_nat (j := 1) rfl, ?_⟩
      refine ⟨_, b, rfl, drbU.kp t2'.kp, hokW, by decide, fun U3 t3 => ?_⟩
      have t3' := t2'.trans t3
      refine ⟨by decide, fun p3 hp3 => ?_⟩
      have t4 := same_new hp3 (HO.tup [V.int (mxT (deedsP b)), V.int (bdB b)])
      refine ⟨true, trio_eq (xs := [(mxT (deedsP b) : Int), (bdB b : Int)]) (t4 _ _ (t3 _ _ w2)) upd_same, ?_⟩
      simp only [Bool.true_eq_false, if_false]
      have t4' := t3'.trans t4
      generalize upd U3 p3 (HO.tup [V.int (mxT (deedsP b)), V.int (bdB b)]) = V4 at t4' ⊢
      have drV := drU.kp t4'.kp
      clear t4 t3 t2 t1 t1' t2' t3' kl
      refine ⟨Nat.zero_le _, fun e1 he1 => ⟨Nat.zero_le _, fun e2 he2 => ⟨by decide, fun e3 he3 => ?_⟩⟩⟩
      obtain ⟨t5, dE⟩ := empty_prog he1 he2 he3
      refine ⟨.ref e3, _, [], rfl, dE, okW_nil, fun k5 V5 t6 g5 w5 => ⟨by decide, fun p5 hp5 => ?_⟩⟩
      rw [mxT_nil, bdB_nil] at w5
      have t7 := same_new hp5 (HO.tup [.int 0, .int 1])
      refine ⟨true, trio_eq (xs := [0, 1]) (t7 _ _ w5) upd_same, ?_⟩
      simp only [Bool.true_eq_false, if_false]
      have t57 := t5.trans (t6.trans t7)
      exact hN _ _ ⟨r, rows, b, _, _, _, _, _, _, _, rfl, drV.kp t57.kp, hrow, hok⟩
    · obtain ⟨r, rows, b, y0, y2, y3, y4, y5, y6, y7, rfl, drV, hrow, hok⟩ := hR
      have hokW : okW 4 b := okW_up (okW_of hok)
      refine tseq_i fun M9 m9 => ?_
      walk_at "rd4"
      refine ⟨.ref r, _, b, rfl, drV, hok, fun r6 V6 zs t8 g6 h6 d6 => ⟨_, .inl ⟨r6, _, rfl, .inl (SqL.of h6), rfl⟩, ?_⟩⟩
      refine ⟨.ref r, _, b, rfl, drV.kp t8.kp, hokW, fun k7 V7 t9 g7 w7 => .inr ⟨k7, rfl, _, SqT.of w7, _, atI_nat (j := 2) rfl, _, rfl, ?_⟩⟩
      rw [d6.length, List.length_map, show (whP b).length = cntK (deedsP b) "while" from wh_cnt _, decide_eq_true rfl]
      simp only [Bool.true_eq_false, if_false]
      rw [m9]
      refine tseq_i fun M10 m10 => ?_
      walk_at "rd4"
      have t59 := t8.trans t9
      refine ⟨.ref r, _, b, rfl, drV.kp t59.kp, hok, fun r8 V8 zs8 t10 g8 h8 d8 => ⟨r8, rfl, ⟨_, SqL.of h8⟩, ?_⟩⟩
      have drW := drV.kp (t59.trans t10).kp
      refine for_list (xs := zs8) (LPI V8 y0 (some (.ref r)) y2 y3 y4 y6 y7) ?pst ?pls ?pstep ?pdone
      case pst => exact ⟨_, _, rfl, Same.refl _⟩
      case pls =>
        rintro i σ Hx _ ⟨_, _, rfl, sx⟩
        exact SqL.of (sx _ _ h8)
      case pstep =>
        rintro i y σ Hx hy ⟨_, _, rfl, sx⟩
        obtain ⟨pp, hpi, dp⟩ := map_at d8 hy
        walk_at "rd4"
        refine ⟨.ref r, _, b, _, pp, rfl, drW.kp sx.kp, dp.kp sx.kp, hok, List.mem_of_getElem? hpi, fun x H9 b' s9 dx ok' hor => ?_⟩
        show ∃ b_1, EqD H9 x (V.ref r) b_1 ∧ _
        have dr9 := drW.kp (sx.trans s9).kp
        refine ⟨_, ⟨_, _, dx, dr9, (fine_prog hrow ok').eq (by decide), (fine_prog hrow hokW).eq (by decide), rfl⟩, ?_⟩
        split
        · rename_i hne
          rcases hor with rfl | hor
          · rw [eqv_self (fine_prog hrow hokW).2.1] at hne
            cases hne
          refine ⟨x, _, b', rfl, dx, ok', fun k1 U1 t1 g1 w1 => .inr (.inl ⟨k1, rfl, _, SqT.of w1, _, atI_nat (j := 1) rfl, ?_⟩)⟩
          refine ⟨.ref r, _, b, rfl, dr9.kp t1.kp, hokW, fun k2 U2 t2 g2 w2 => .inr ⟨k2, rfl, _, SqT.of w2, _, atI_nat (j := 1) rfl, _, rfl, _, rfl, ?_⟩⟩
          rw [if_neg (by omega)]
          exact ⟨_, _, rfl, sx.trans (s9.trans (t1.trans t2))⟩
        · exact ⟨_, _, rfl, sx.trans s9⟩
      case pdone =>
        rintro σ Hx ⟨_, _, rfl, sx⟩
        show M10 _ _
        rw [m10]
        walk_at "rd4"
        refine ⟨Nat.zero_le _, fun e1 he1 => ⟨Nat.zero_le _, fun e2 he2 => ⟨by decide, fun e3 he3 => ?_⟩⟩⟩
        obtain ⟨t5, dE⟩ := empty_prog he1 he2 he3
        refine ⟨.ref e3, _, [], rfl, dE, okB_nil, fun l5 U5 ws ms s5 f5 h5 d5 pm pw => ⟨Nat.zero_le _, fun l6 h6 => ?_⟩⟩
        rw [spots_nil] at pm
        have hm : ms = [] := pm.eq_nil
        subst hm
        cases d5
        have s6 := same_new h6 (HO.lst [])
        refine ⟨true, .inr (.inl ⟨l5, l6, [], [], rfl, rfl, SqL.of (s6 _ _ h5), SqL.of upd_same, rfl, rfl, rfl⟩), ?_⟩
        simp only [if_true]
        refine ⟨Nat.zero_le _, fun e4 he4 => ⟨Nat.zero_le _, fun e5 he5 => ⟨by decide, fun e6 he6 => ?_⟩⟩⟩
        obtain ⟨t6, dF⟩ := empty_prog he4 he5 he6
        refine ⟨.ref e6, _, [], rfl, dF, okW_nil, fun k7 V7 t7 g7 w7 => ⟨by decide, fun p8 hp8 => ?_⟩⟩
        rw [cntK_nil, cntK_nil, cntK_nil] at w7
        have t8 := same_new hp8 (HO.tup [.int 0, .int 0, .int 0])
        exact ⟨true, trio_eq (xs := [0, 0, 0]) (t8 _ _ w7) upd_same, q _⟩
end
end SR


set_option Elab.async false
set_option linter.all false
set_option maxRecDepth 100000
set_option maxHeartbeats 0
namespace SR
open PySem L2
theorem sqT_K {K : PySem.W.Frag} {a : Addr} {o : Option Addr} {its : Array Value} {n : Nat} {l : Array (Option Value)} {xs : List V} (h : K.lookup a = some ⟨.type "tuple", o, .seq its n, l⟩) (r : Vals xs its.toList) (hz : its.size ≤ sizeLine := by decide) : ∀ H, SqT K H a xs := fun H => .inr ⟨_, _, _, h, rfl, rfl, hz, r⟩

theorem all_mk {l : PySem.W.OpenLaw} {w : World} {K : PySem.W.Frag} {h : Heap} {mg : Str → Option Value} {fa f0 f1 f2 f3 f4 f5 f6 f7 f8 f9 f10 f11 f12 f13 f14 f15 f16 f17 f18 f19 f20 f21 f22 f23 f24 f25 f26 f27 : Addr} (X : K.In h) (G : h.Ns mainGlobals mg) (hfa : mg "law" = some (.ref fa))
    {od0 an0 od1 an1 od2 an2 od3 an3 od4 an4 od5 an5 od6 an6 od7 an7 od8 an8 od9 an9 od10 an10 od11 an11 od12 an12 od13 an13 od14 an14 od15 an15 od16 an16 od17 an17 od18 an18 od19 an19 od20 an20 od21 an21 od22 an22 od23 an23 od24 an24 od25 an25 od26 an26 od27 an27 : Option Addr} {sl0 sl1 sl2 sl3 sl4 sl5 sl6 sl7 sl8 sl9 sl10 sl11 sl12 sl13 sl14 sl15 sl16 sl17 sl18 sl19 sl20 sl21 sl22 sl23 sl24 sl25 sl26 sl27 : Array (Option Value)} {oc0 kV0 dc0 pm0 cd0 ct0 oc1 kV1 dc1 pm1 cd1 ct1 oc2 kV2 dc2 pm2 cd2 ct2 oc3 kV3 dc3 pm3 cd3 ct3 oc4 kV4 dc4 pm4 cd4 ct4 oc5 kV5 dc5 pm5 cd5 ct5 oc6 kV6 dc6 pm6 cd6 ct6 oc7 kV7 dc7 pm7 cd7 ct7 oc8 kV8 dc8 pm8 cd8 ct8 oc9 kV9 dc9 pm9 cd9 ct9 oc10 kV10 dc10 pm10 cd10 ct10 oc11 kV11 dc11 pm11 cd11 ct11 oc12 kV12 dc12 pm12 cd12 ct12 oc13 kV13 dc13 pm13 cd13 ct13 oc14 kV14 dc14 pm14 cd14 ct14 oc15 kV15 dc15 pm15 cd15 ct15 oc16 kV16 dc16 pm16 cd16 ct16 oc17 kV17 dc17 pm17 cd17 ct17 oc18 kV18 dc18 pm18 cd18 ct18 oc19 kV19 dc19 pm19 cd19 ct19 oc20 kV20 dc20 pm20 cd20 ct20 oc21 kV21 dc21 pm21 cd21 ct21 oc22 kV22 dc22 pm22 cd22 ct22 oc23 kV23 dc23 pm23 cd23 ct23 oc24 kV24 dc24 pm24 cd24 ct24 oc25 kV25 dc25 pm25 cd25 ct25 oc26 kV26 dc26 pm26 cd26 ct26 oc27 kV27 dc27 pm27 cd27 ct27 : Value}
    {aw ad : Addr} {ow od : Option Addr} {nw nd : Nat} {lw ld : Array (Option Value)} {tw0 tw1 tw2 tw3 tw4 tw5 tw6 tw7 td0 td1 td2 : Tok}
    (a0 : PySem.W.nsIn K mainGlobals "spots" = some (some (.ref f0))) (l0 : K.lookup f0 = some ⟨oc0, od0, .func (PySem.W.fnOf "spots" "spots" (defArgs s_spots) (defBody s_spots) (defScope s_spots) .none kV0 dc0 pm0 an0 cd0 ct0), sl0⟩) (c0 : PySem.W.codeIn K cd0 "spots" = true) (k0 : PySem.W.keepIn K (.ref f0) = true)
    (a1 : PySem.W.nsIn K mainGlobals "whiles" = some (some (.ref f1))) (l1 : K.lookup f1 = some ⟨oc1, od1, .func (PySem.W.fnOf "whiles" "whiles" (defArgs s_whiles) (defBody s_whiles) (defScope s_whiles) .none kV1 dc1 pm1 an1 cd1 ct1), sl1⟩) (c1 : PySem.W.codeIn K cd1 "whiles" = true) (k1 : PySem.W.keepIn K (.ref f1) = true)
    (a2 : PySem.W.nsIn K mainGlobals "term_of" = some (some (.ref f2))) (l2 : K.lookup f2 = some ⟨oc2, od2, .func (PySem.W.fnOf "term_of" "term_of" (defArgs s_term_of) (defBody s_term_of) (defScope s_term_of) .none kV2 dc2 pm2 an2 cd2 ct2), sl2⟩) (c2 : PySem.W.codeIn K cd2 "term_of" = true) (k2 : PySem.W.keepIn K (.ref f2) = true)
    (a3 : PySem.W.nsIn K mainGlobals "blocks_of" = some (some (.ref f3))) (l3 : K.lookup f3 = some ⟨oc3, od3, .func (PySem.W.fnOf "blocks_of" "blocks_of" (defArgs s_blocks_of) (defBody s_blocks_of) (defScope s_blocks_of) .none kV3 dc3 pm3 an3 cd3 ct3), sl3⟩) (c3 : PySem.W.codeIn K cd3 "blocks_of" = true) (k3 : PySem.W.keepIn K (.ref f3) = true)
    (a4 : PySem.W.nsIn K mainGlobals "deed_with" = some (some (.ref f4))) (l4 : K.lookup f4 = some ⟨oc4, od4, .func (PySem.W.fnOf "deed_with" "deed_with" (defArgs s_deed_with) (defBody s_deed_with) (defScope s_deed_with) .none kV4 dc4 pm4 an4 cd4 ct4), sl4⟩) (c4 : PySem.W.codeIn K cd4 "deed_with" = true) (k4 : PySem.W.keepIn K (.ref f4) = true)
    (a5 : PySem.W.nsIn K mainGlobals "all_deeds" = some (some (.ref f5))) (l5 : K.lookup f5 = some ⟨oc5, od5, .func (PySem.W.fnOf "all_deeds" "all_deeds" (defArgs s_all_deeds) (defBody s_all_deeds) (defScope s_all_deeds) .none kV5 dc5 pm5 an5 cd5 ct5), sl5⟩) (c5 : PySem.W.codeIn K cd5 "all_deeds" = true) (k5 : PySem.W.keepIn K (.ref f5) = true)
    (a6 : PySem.W.nsIn K mainGlobals "deeds_of_block" = some (some (.ref f6))) (l6 : K.lookup f6 = some ⟨oc6, od6, .func (PySem.W.fnOf "deeds_of_block" "deeds_of_block" (defArgs s_deeds_of_block) (defBody s_deeds_of_block) (defScope s_deeds_of_block) .none kV6 dc6 pm6 an6 cd6 ct6), sl6⟩) (c6 : PySem.W.codeIn K cd6 "deeds_of_block" = true) (k6 : PySem.W.keepIn K (.ref f6) = true)
    (a7 : PySem.W.nsIn K mainGlobals "spots_of_term" = some (some (.ref f7))) (l7 : K.lookup f7 = some ⟨oc7, od7, .func (PySem.W.fnOf "spots_of_term" "spots_of_term" (defArgs s_spots_of_term) (defBody s_spots_of_term) (defScope s_spots_of_term) .none kV7 dc7 pm7 an7 cd7 ct7), sl7⟩) (c7 : PySem.W.codeIn K cd7 "spots_of_term" = true) (k7 : PySem.W.keepIn K (.ref f7) = true)
    (a8 : PySem.W.nsIn K mainGlobals "words_in" = some (some (.ref f8))) (l8 : K.lookup f8 = some ⟨oc8, od8, .func (PySem.W.fnOf "words_in" "words_in" (defArgs s_words_in) (defBody s_words_in) (defScope s_words_in) .none kV8 dc8 pm8 an8 cd8 ct8), sl8⟩) (c8 : PySem.W.codeIn K cd8 "words_in" = true) (k8 : PySem.W.keepIn K (.ref f8) = true)
    (a9 : PySem.W.nsIn K mainGlobals "deeds_in" = some (some (.ref f9))) (l9 : K.lookup f9 = some ⟨oc9, od9, .func (PySem.W.fnOf "deeds_in" "deeds_in" (defArgs s_deeds_in) (defBody s_deeds_in) (defScope s_deeds_in) .none kV9 dc9 pm9 an9 cd9 ct9), sl9⟩) (c9 : PySem.W.codeIn K cd9 "deeds_in" = true) (k9 : PySem.W.keepIn K (.ref f9) = true)
    (a10 : PySem.W.nsIn K mainGlobals "depths" = some (some (.ref f10))) (l10 : K.lookup f10 = some ⟨oc10, od10, .func (PySem.W.fnOf "depths" "depths" (defArgs s_depths) (defBody s_depths) (defScope s_depths) .none kV10 dc10 pm10 an10 cd10 ct10), sl10⟩) (c10 : PySem.W.codeIn K cd10 "depths" = true) (k10 : PySem.W.keepIn K (.ref f10) = true)
    (a11 : PySem.W.nsIn K mainGlobals "depth_of_term" = some (some (.ref f11))) (l11 : K.lookup f11 = some ⟨oc11, od11, .func (PySem.W.fnOf "depth_of_term" "depth_of_term" (defArgs s_depth_of_term) (defBody s_depth_of_term) (defScope s_depth_of_term) .none kV11 dc11 pm11 an11 cd11 ct11), sl11⟩) (c11 : PySem.W.codeIn K cd11 "depth_of_term" = true) (k11 : PySem.W.keepIn K (.ref f11) = true)
    (a12 : PySem.W.nsIn K mainGlobals "depth_of_block" = some (some (.ref f12))) (l12 : K.lookup f12 = some ⟨oc12, od12, .func (PySem.W.fnOf "depth_of_block" "depth_of_block" (defArgs s_depth_of_block) (defBody s_depth_of_block) (defScope s_depth_of_block) .none kV12 dc12 pm12 an12 cd12 ct12), sl12⟩) (c12 : PySem.W.codeIn K cd12 "depth_of_block" = true) (k12 : PySem.W.keepIn K (.ref f12) = true)
    (a13 : PySem.W.nsIn K mainGlobals "depth_of_deed" = some (some (.ref f13))) (l13 : K.lookup f13 = some ⟨oc13, od13, .func (PySem.W.fnOf "depth_of_deed" "depth_of_deed" (defArgs s_depth_of_deed) (defBody s_depth_of_deed) (defScope s_depth_of_deed) .none kV13 dc13 pm13 an13 cd13 ct13), sl13⟩) (c13 : PySem.W.codeIn K cd13 "depth_of_deed" = true) (k13 : PySem.W.keepIn K (.ref f13) = true)
    (a14 : PySem.W.nsIn K mainGlobals "peeled" = some (some (.ref f14))) (l14 : K.lookup f14 = some ⟨oc14, od14, .func (PySem.W.fnOf "peeled" "peeled" (defArgs s_peeled) (defBody s_peeled) (defScope s_peeled) .none kV14 dc14 pm14 an14 cd14 ct14), sl14⟩) (c14 : PySem.W.codeIn K cd14 "peeled" = true) (k14 : PySem.W.keepIn K (.ref f14) = true)
    (a15 : PySem.W.nsIn K mainGlobals "round_and_rest" = some (some (.ref f15))) (l15 : K.lookup f15 = some ⟨oc15, od15, .func (PySem.W.fnOf "round_and_rest" "round_and_rest" (defArgs s_round_and_rest) (defBody s_round_and_rest) (defScope s_round_and_rest) .none kV15 dc15 pm15 an15 cd15 ct15), sl15⟩) (c15 : PySem.W.codeIn K cd15 "round_and_rest" = true) (k15 : PySem.W.keepIn K (.ref f15) = true)
    (a16 : PySem.W.nsIn K mainGlobals "block_with" = some (some (.ref f16))) (l16 : K.lookup f16 = some ⟨oc16, od16, .func (PySem.W.fnOf "block_with" "block_with" (defArgs s_block_with) (defBody s_block_with) (defScope s_block_with) .none kV16 dc16 pm16 an16 cd16 ct16), sl16⟩) (c16 : PySem.W.codeIn K cd16 "block_with" = true) (k16 : PySem.W.keepIn K (.ref f16) = true)
    (a17 : PySem.W.nsIn K mainGlobals "deed_or" = some (some (.ref f17))) (l17 : K.lookup f17 = some ⟨oc17, od17, .func (PySem.W.fnOf "deed_or" "deed_or" (defArgs s_deed_or) (defBody s_deed_or) (defScope s_deed_or) .none kV17 dc17 pm17 an17 cd17 ct17), sl17⟩) (c17 : PySem.W.codeIn K cd17 "deed_or" = true) (k17 : PySem.W.keepIn K (.ref f17) = true)
    (a18 : PySem.W.nsIn K mainGlobals "_law_cell" = some (some (.ref f18))) (l18 : K.lookup f18 = some ⟨oc18, od18, .func (PySem.W.fnOf "_law_cell" "_law_cell" (defArgs s_law_cell) (defBody s_law_cell) (defScope s_law_cell) .none kV18 dc18 pm18 an18 cd18 ct18), sl18⟩) (c18 : PySem.W.codeIn K cd18 "_law_cell" = true) (k18 : PySem.W.keepIn K (.ref f18) = true)
    (a19 : PySem.W.nsIn K mainGlobals "_law_pick" = some (some (.ref f19))) (l19 : K.lookup f19 = some ⟨oc19, od19, .func (PySem.W.fnOf "_law_pick" "_law_pick" (defArgs s_law_pick) (defBody s_law_pick) (defScope s_law_pick) .none kV19 dc19 pm19 an19 cd19 ct19), sl19⟩) (c19 : PySem.W.codeIn K cd19 "_law_pick" = true) (k19 : PySem.W.keepIn K (.ref f19) = true)
    (a20 : PySem.W.nsIn K mainGlobals "_law_sum" = some (some (.ref f20))) (l20 : K.lookup f20 = some ⟨oc20, od20, .func (PySem.W.fnOf "_law_sum" "_law_sum" (defArgs s_law_sum) (defBody s_law_sum) (defScope s_law_sum) .none kV20 dc20 pm20 an20 cd20 ct20), sl20⟩) (c20 : PySem.W.codeIn K cd20 "_law_sum" = true) (k20 : PySem.W.keepIn K (.ref f20) = true)
    (a21 : PySem.W.nsIn K mainGlobals "_law_counted" = some (some (.ref f21))) (l21 : K.lookup f21 = some ⟨oc21, od21, .func (PySem.W.fnOf "_law_counted" "_law_counted" (defArgs s_law_counted) (defBody s_law_counted) (defScope s_law_counted) .none kV21 dc21 pm21 an21 cd21 ct21), sl21⟩) (c21 : PySem.W.codeIn K cd21 "_law_counted" = true) (k21 : PySem.W.keepIn K (.ref f21) = true)
    (a22 : PySem.W.nsIn K mainGlobals "_law_block" = some (some (.ref f22))) (l22 : K.lookup f22 = some ⟨oc22, od22, .func (PySem.W.fnOf "_law_block" "_law_block" (defArgs s_law_block) (defBody s_law_block) (defScope s_law_block) .none kV22 dc22 pm22 an22 cd22 ct22), sl22⟩) (c22 : PySem.W.codeIn K cd22 "_law_block" = true) (k22 : PySem.W.keepIn K (.ref f22) = true)
    (a23 : PySem.W.nsIn K mainGlobals "_law_program" = some (some (.ref f23))) (l23 : K.lookup f23 = some ⟨oc23, od23, .func (PySem.W.fnOf "_law_program" "_law_program" (defArgs s_law_program) (defBody s_law_program) (defScope s_law_program) .none kV23 dc23 pm23 an23 cd23 ct23), sl23⟩) (c23 : PySem.W.codeIn K cd23 "_law_program" = true) (k23 : PySem.W.keepIn K (.ref f23) = true)
    (a24 : PySem.W.nsIn K mainGlobals "_law_deeds" = some (some (.ref f24))) (l24 : K.lookup f24 = some ⟨oc24, od24, .func (PySem.W.fnOf "_law_deeds" "_law_deeds" (defArgs s_law_deeds) (defBody s_law_deeds) (defScope s_law_deeds) .none kV24 dc24 pm24 an24 cd24 ct24), sl24⟩) (c24 : PySem.W.codeIn K cd24 "_law_deeds" = true) (k24 : PySem.W.keepIn K (.ref f24) = true)
    (a25 : PySem.W.nsIn K mainGlobals "_law_deep" = some (some (.ref f25))) (l25 : K.lookup f25 = some ⟨oc25, od25, .func (PySem.W.fnOf "_law_deep" "_law_deep" (defArgs s_law_deep) (defBody s_law_deep) (defScope s_law_deep) .none kV25 dc25 pm25 an25 cd25 ct25), sl25⟩) (c25 : PySem.W.codeIn K cd25 "_law_deep" = true) (k25 : PySem.W.keepIn K (.ref f25) = true)
    (a26 : PySem.W.nsIn K mainGlobals "_law_blocks" = some (some (.ref f26))) (l26 : K.lookup f26 = some ⟨oc26, od26, .func (PySem.W.fnOf "_law_blocks" "_law_blocks" (defArgs s_law_blocks) (defBody s_law_blocks) (defScope s_law_blocks) .none kV26 dc26 pm26 an26 cd26 ct26), sl26⟩) (c26 : PySem.W.codeIn K cd26 "_law_blocks" = true) (k26 : PySem.W.keepIn K (.ref f26) = true)
    (a27 : PySem.W.nsIn K mainGlobals "law" = some (some (.ref f27))) (l27 : K.lookup f27 = some ⟨oc27, od27, .func (PySem.W.fnOf "law" "law" (defArgs s_law) (defBody s_law) (defScope s_law) .none kV27 dc27 pm27 an27 cd27 ct27), sl27⟩) (c27 : PySem.W.codeIn K cd27 "law" = true) (k27 : PySem.W.keepIn K (.ref f27) = true)
    (z_enumerate : PySem.W.nsIn K mainGlobals "enumerate" = some none)
    (z_sorted : PySem.W.nsIn K mainGlobals "sorted" = some none)
    (z_sum : PySem.W.nsIn K mainGlobals "sum" = some none)
    (z_len : PySem.W.nsIn K mainGlobals "len" = some none)
    (z_max : PySem.W.nsIn K mainGlobals "max" = some none)
    (z_dict : PySem.W.nsIn K mainGlobals "dict" = some none)
    (z_tuple : PySem.W.nsIn K mainGlobals "tuple" = some none)
    (z_range : PySem.W.nsIn K mainGlobals "range" = some none)
    (z_isinstance : PySem.W.nsIn K mainGlobals "isinstance" = some none)
    (pw : PySem.W.nsIn K mainGlobals "WORDS" = some (some (.ref aw)))
    (ph : K.lookup aw = some ⟨.type "tuple", ow, .seq #[.str "add" tw0, .str "sub" tw1, .str "mul" tw2, .str "quo" tw3, .str "less" tw4, .str "same" tw5, .str "min" tw6, .str "max" tw7] nw, lw⟩)
    (pd : PySem.W.nsIn K mainGlobals "DEEDS" = some (some (.ref ad)))
    (pg : K.lookup ad = some ⟨.type "tuple", od, .seq #[.str "set" td0, .str "if" td1, .str "while" td2] nd, ld⟩)
    : ∃ fd : FuncData, (∀ (s : Shared) (v : Value), BindsTo s fd ⟨[v], []⟩ [("_law_script", v)]) ∧ ∀ base : Heap, K.In base → base.Ns mainGlobals mg → FnOk l.prog w K mg base CX0 12 fa fd ["_law_script"] (spLaw K) := by
  have e := hfa.symm.trans (PySem.W.mg_of X G a27)
  cases e
  have F_spots := fun_mk (st := s_spots) l0 c0 k0
  have B_spots := F_spots.binds (ps := ["program"]) fun _ _ _ _ _ _ us hl => match us, hl with | [_], _ => rfl
  have d_spots : Df K mg "spots" s_spots ["program"] f0 _ := ⟨F_spots, PySem.W.mg_of X G a0, B_spots⟩
  have F_whiles := fun_mk (st := s_whiles) l1 c1 k1
  have B_whiles := F_whiles.binds (ps := ["program"]) fun _ _ _ _ _ _ us hl => match us, hl with | [_], _ => rfl
  have d_whiles : Df K mg "whiles" s_whiles ["program"] f1 _ := ⟨F_whiles, PySem.W.mg_of X G a1, B_whiles⟩
  have F_term_of := fun_mk (st := s_term_of) l2 c2 k2
  have B_term_of := F_term_of.binds (ps := ["deed"]) fun _ _ _ _ _ _ us hl => match us, hl with | [_], _ => rfl
  have d_term_of : Df K mg "term_of" s_term_of ["deed"] f2 _ := ⟨F_term_of, PySem.W.mg_of X G a2, B_term_of⟩
  have F_blocks_of := fun_mk (st := s_blocks_of) l3 c3 k3
  have B_blocks_of := F_blocks_of.binds (ps := ["deed"]) fun _ _ _ _ _ _ us hl => match us, hl with | [_], _ => rfl
  have d_blocks_of : Df K mg "blocks_of" s_blocks_of ["deed"] f3 _ := ⟨F_blocks_of, PySem.W.mg_of X G a3, B_blocks_of⟩
  have F_deed_with := fun_mk (st := s_deed_with) l4 c4 k4
  have B_deed_with := F_deed_with.binds (ps := ["deed", "term", "blocks"]) fun _ _ _ _ _ _ us hl => match us, hl with | [_, _, _], _ => rfl
  have d_deed_with : Df K mg "deed_with" s_deed_with ["deed", "term", "blocks"] f4 _ := ⟨F_deed_with, PySem.W.mg_of X G a4, B_deed_with⟩
  have F_all_deeds := fun_mk (st := s_all_deeds) l5 c5 k5
  have B_all_deeds := F_all_deeds.binds (ps := ["program"]) fun _ _ _ _ _ _ us hl => match us, hl with | [_], _ => rfl
  have d_all_deeds : Df K mg "all_deeds" s_all_deeds ["program"] f5 _ := ⟨F_all_deeds, PySem.W.mg_of X G a5, B_all_deeds⟩
  have F_deeds_of_block := fun_mk (st := s_deeds_of_block) l6 c6 k6
  have B_deeds_of_block := F_deeds_of_block.binds (ps := ["block", "path"]) fun _ _ _ _ _ _ us hl => match us, hl with | [_, _], _ => rfl
  have d_deeds_of_block : Df K mg "deeds_of_block" s_deeds_of_block ["block", "path"] f6 _ := ⟨F_deeds_of_block, PySem.W.mg_of X G a6, B_deeds_of_block⟩
  have F_spots_of_term := fun_mk (st := s_spots_of_term) l7 c7 k7
  have B_spots_of_term := F_spots_of_term.binds (ps := ["term", "path"]) fun _ _ _ _ _ _ us hl => match us, hl with | [_, _], _ => rfl
  have d_spots_of_term : Df K mg "spots_of_term" s_spots_of_term ["term", "path"] f7 _ := ⟨F_spots_of_term, PySem.W.mg_of X G a7, B_spots_of_term⟩
  have F_words_in := fun_mk (st := s_words_in) l8 c8 k8
  have B_words_in := F_words_in.binds (ps := ["program"]) fun _ _ _ _ _ _ us hl => match us, hl with | [_], _ => rfl
  have d_words_in : Df K mg "words_in" s_words_in ["program"] f8 _ := ⟨F_words_in, PySem.W.mg_of X G a8, B_words_in⟩
  have F_deeds_in := fun_mk (st := s_deeds_in) l9 c9 k9
  have B_deeds_in := F_deeds_in.binds (ps := ["program"]) fun _ _ _ _ _ _ us hl => match us, hl with | [_], _ => rfl
  have d_deeds_in : Df K mg "deeds_in" s_deeds_in ["program"] f9 _ := ⟨F_deeds_in, PySem.W.mg_of X G a9, B_deeds_in⟩
  have F_depths := fun_mk (st := s_depths) l10 c10 k10
  have B_depths := F_depths.binds (ps := ["program"]) fun _ _ _ _ _ _ us hl => match us, hl with | [_], _ => rfl
  have d_depths : Df K mg "depths" s_depths ["program"] f10 _ := ⟨F_depths, PySem.W.mg_of X G a10, B_depths⟩
  have F_depth_of_term := fun_mk (st := s_depth_of_term) l11 c11 k11
  have B_depth_of_term := F_depth_of_term.binds (ps := ["term"]) fun _ _ _ _ _ _ us hl => match us, hl with | [_], _ => rfl
  have d_depth_of_term : Df K mg "depth_of_term" s_depth_of_term ["term"] f11 _ := ⟨F_depth_of_term, PySem.W.mg_of X G a11, B_depth_of_term⟩
  have F_depth_of_block := fun_mk (st := s_depth_of_block) l12 c12 k12
  have B_depth_of_block := F_depth_of_block.binds (ps := ["block"]) fun _ _ _ _ _ _ us hl => match us, hl with | [_], _ => rfl
  have d_depth_of_block : Df K mg "depth_of_block" s_depth_of_block ["block"] f12 _ := ⟨F_depth_of_block, PySem.W.mg_of X G a12, B_depth_of_block⟩
  have F_depth_of_deed := fun_mk (st := s_depth_of_deed) l13 c13 k13
  have B_depth_of_deed := F_depth_of_deed.binds (ps := ["deed"]) fun _ _ _ _ _ _ us hl => match us, hl with | [_], _ => rfl
  have d_depth_of_deed : Df K mg "depth_of_deed" s_depth_of_deed ["deed"] f13 _ := ⟨F_depth_of_deed, PySem.W.mg_of X G a13, B_depth_of_deed⟩
  have F_peeled := fun_mk (st := s_peeled) l14 c14 k14
  have B_peeled := F_peeled.binds (ps := ["program", "path"]) fun _ _ _ _ _ _ us hl => match us, hl with | [_, _], _ => rfl
  have d_peeled : Df K mg "peeled" s_peeled ["program", "path"] f14 _ := ⟨F_peeled, PySem.W.mg_of X G a14, B_peeled⟩
  have F_round_and_rest := fun_mk (st := s_round_and_rest) l15 c15 k15
  have B_round_and_rest := F_round_and_rest.binds (ps := ["deed"]) fun _ _ _ _ _ _ us hl => match us, hl with | [_], _ => rfl
  have d_round_and_rest : Df K mg "round_and_rest" s_round_and_rest ["deed"] f15 _ := ⟨F_round_and_rest, PySem.W.mg_of X G a15, B_round_and_rest⟩
  have F_block_with := fun_mk (st := s_block_with) l16 c16 k16
  have B_block_with := F_block_with.binds (ps := ["block", "path", "deed_path", "other"]) fun _ _ _ _ _ _ us hl => match us, hl with | [_, _, _, _], _ => rfl
  have d_block_with : Df K mg "block_with" s_block_with ["block", "path", "deed_path", "other"] f16 _ := ⟨F_block_with, PySem.W.mg_of X G a16, B_block_with⟩
  have F_deed_or := fun_mk (st := s_deed_or) l17 c17 k17
  have B_deed_or := F_deed_or.binds (ps := ["deed", "path", "deed_path", "other"]) fun _ _ _ _ _ _ us hl => match us, hl with | [_, _, _, _], _ => rfl
  have d_deed_or : Df K mg "deed_or" s_deed_or ["deed", "path", "deed_path", "other"] f17 _ := ⟨F_deed_or, PySem.W.mg_of X G a17, B_deed_or⟩
  have F_law_cell := fun_mk (st := s_law_cell) l18 c18 k18
  have B_law_cell := F_law_cell.binds (ps := ["_law_script", "_law_k"]) fun _ _ _ _ _ _ us hl => match us, hl with | [_, _], _ => rfl
  have d_law_cell : Df K mg "_law_cell" s_law_cell ["_law_script", "_law_k"] f18 _ := ⟨F_law_cell, PySem.W.mg_of X G a18, B_law_cell⟩
  have F_law_pick := fun_mk (st := s_law_pick) l19 c19 k19
  have B_law_pick := F_law_pick.binds (ps := ["_law_script", "_law_k", "_law_many"]) fun _ _ _ _ _ _ us hl => match us, hl with | [_, _, _], _ => rfl
  have d_law_pick : Df K mg "_law_pick" s_law_pick ["_law_script", "_law_k", "_law_many"] f19 _ := ⟨F_law_pick, PySem.W.mg_of X G a19, B_law_pick⟩
  have F_law_sum := fun_mk (st := s_law_sum) l20 c20 k20
  have B_law_sum := F_law_sum.binds (ps := ["_law_script", "_law_at", "_law_known", "_law_deep_here"]) fun _ _ _ _ _ _ us hl => match us, hl with | [_, _, _, _], _ => rfl
  have d_law_sum : Df K mg "_law_sum" s_law_sum ["_law_script", "_law_at", "_law_known", "_law_deep_here"] f20 _ := ⟨F_law_sum, PySem.W.mg_of X G a20, B_law_sum⟩
  have F_law_counted := fun_mk (st := s_law_counted) l21 c21 k21
  have B_law_counted := F_law_counted.binds (ps := ["_law_script", "_law_at", "_law_known", "_law_body", "_law_deep_here"]) fun _ _ _ _ _ _ us hl => match us, hl with | [_, _, _, _, _], _ => rfl
  have d_law_counted : Df K mg "_law_counted" s_law_counted ["_law_script", "_law_at", "_law_known", "_law_body", "_law_deep_here"] f21 _ := ⟨F_law_counted, PySem.W.mg_of X G a21, B_law_counted⟩
  have F_law_block := fun_mk (st := s_law_block) l22 c22 k22
  have B_law_block := F_law_block.binds (ps := ["_law_script", "_law_at", "_law_known", "_law_deep_here"]) fun _ _ _ _ _ _ us hl => match us, hl with | [_, _, _, _], _ => rfl
  have d_law_block : Df K mg "_law_block" s_law_block ["_law_script", "_law_at", "_law_known", "_law_deep_here"] f22 _ := ⟨F_law_block, PySem.W.mg_of X G a22, B_law_block⟩
  have F_law_program := fun_mk (st := s_law_program) l23 c23 k23
  have B_law_program := F_law_program.binds (ps := ["_law_script", "_law_at"]) fun _ _ _ _ _ _ us hl => match us, hl with | [_, _], _ => rfl
  have d_law_program : Df K mg "_law_program" s_law_program ["_law_script", "_law_at"] f23 _ := ⟨F_law_program, PySem.W.mg_of X G a23, B_law_program⟩
  have F_law_deeds := fun_mk (st := s_law_deeds) l24 c24 k24
  have B_law_deeds := F_law_deeds.binds (ps := ["_law_block_here", "_law_path"]) fun _ _ _ _ _ _ us hl => match us, hl with | [_, _], _ => rfl
  have d_law_deeds : Df K mg "_law_deeds" s_law_deeds ["_law_block_here", "_law_path"] f24 _ := ⟨F_law_deeds, PySem.W.mg_of X G a24, B_law_deeds⟩
  have F_law_deep := fun_mk (st := s_law_deep) l25 c25 k25
  have B_law_deep := F_law_deep.binds (ps := ["_law_expr"]) fun _ _ _ _ _ _ us hl => match us, hl with | [_], _ => rfl
  have d_law_deep : Df K mg "_law_deep" s_law_deep ["_law_expr"] f25 _ := ⟨F_law_deep, PySem.W.mg_of X G a25, B_law_deep⟩
  have F_law_blocks := fun_mk (st := s_law_blocks) l26 c26 k26
  have B_law_blocks := F_law_blocks.binds (ps := ["_law_block_here"]) fun _ _ _ _ _ _ us hl => match us, hl with | [_], _ => rfl
  have d_law_blocks : Df K mg "_law_blocks" s_law_blocks ["_law_block_here"] f26 _ := ⟨F_law_blocks, PySem.W.mg_of X G a26, B_law_blocks⟩
  have F_law := fun_mk (st := s_law) l27 c27 k27
  have b_enumerate := PySem.W.mg_none_of X G z_enumerate
  have b_sorted := PySem.W.mg_none_of X G z_sorted
  have b_sum := PySem.W.mg_none_of X G z_sum
  have b_len := PySem.W.mg_none_of X G z_len
  have b_max := PySem.W.mg_none_of X G z_max
  have b_dict := PySem.W.mg_none_of X G z_dict
  have b_tuple := PySem.W.mg_none_of X G z_tuple
  have b_range := PySem.W.mg_none_of X G z_range
  have b_isinstance := PySem.W.mg_none_of X G z_isinstance
  refine ⟨PySem.W.fnOf "law" "law" (defArgs s_law) (defBody s_law) (defScope s_law) .none kV27 dc27 pm27 an27 cd27 ct27, fun s v => .of_eq rfl, fun base _ _ => ?_⟩
  have g_WORDS : GC mg "WORDS" (.ref aw) := ⟨_, PySem.W.mg_of X G pw, rfl⟩
  have g_DEEDS : GC mg "DEEDS" (.ref ad) := ⟨_, PySem.W.mg_of X G pd, rfl⟩
  have hW : ∀ H, SqT K H aw (eight.map V.str) := sqT_K ph (.cons ⟨_, rfl⟩ (.cons ⟨_, rfl⟩ (.cons ⟨_, rfl⟩ (.cons ⟨_, rfl⟩ (.cons ⟨_, rfl⟩ (.cons ⟨_, rfl⟩ (.cons ⟨_, rfl⟩ (.cons ⟨_, rfl⟩ .nil)))))))) (show (8 : Nat) ≤ sizeLine by decide)
  have hD : ∀ H, SqT K H ad [.str "set", .str "if", .str "while"] := sqT_K pg (.cons ⟨_, rfl⟩ (.cons ⟨_, rfl⟩ (.cons ⟨_, rfl⟩ .nil))) (show (3 : Nat) ≤ sizeLine by decide)
  have c_to := d_term_of.callee (ok_term_of (P := l.prog) (w := w) (base := base) F_term_of)
  have c_bo := d_blocks_of.callee (ok_blocks_of (P := l.prog) (w := w) (base := base) F_blocks_of)
  have c_dw := d_deed_with.callee (ok_deed_with (P := l.prog) (w := w) (base := base) F_deed_with)
  have c_db := all_deeds_of (P := l.prog) (w := w) (base := base) d_deeds_of_block b_enumerate c_bo 4
  have c_ad := d_all_deeds.callee (ok_all_deeds F_all_deeds c_db)
  have c_st := all_spots (P := l.prog) (w := w) (base := base) d_spots_of_term 5
  have c_sp := d_spots.callee (ok_spots F_spots c_ad c_st c_to)
  have c_wh := d_whiles.callee (ok_whiles F_whiles c_ad)
  have c_wi := d_words_in.callee (ok_words_in F_words_in b_sorted c_sp)
  have c_di := d_deeds_in.callee (ok_deeds_in F_deeds_in b_tuple g_DEEDS hD c_ad)
  have c_dt := all_dterm (P := l.prog) (w := w) (base := base) d_depth_of_term b_max g_WORDS hW 5
  have c_dbl := all_dblock d_depth_of_block d_depth_of_deed b_max c_bo 4
  have c_dep := d_depths.callee (ok_depths F_depths b_max c_ad c_to c_dt c_dbl)
  have c_rr := d_round_and_rest.callee (ok_round_and_rest (P := l.prog) (w := w) (base := base) F_round_and_rest)
  have c_bw := all_bwith d_block_with d_deed_or b_enumerate b_tuple c_bo c_to c_dw 3
  have c_pe := d_peeled.callee (ok_peeled F_peeled b_dict c_ad c_bw c_rr)
  have c_cell := d_law_cell.callee (ok_cell (P := l.prog) (w := w) (base := base) F_law_cell b_len)
  have c_pick := d_law_pick.callee (ok_pick F_law_pick c_cell)
  have c_sum := all_sum d_law_sum b_len c_pick 3
  have c_cnt := d_law_counted.callee (ok_counted F_law_counted b_len c_pick c_sum)
  have c_blk := all_block d_law_block b_range b_tuple c_pick c_sum c_cnt 3
  have c_prg := d_law_program.callee (ok_program F_law_program b_range b_tuple c_pick c_blk)
  have c_ld := all_law_deeds (P := l.prog) (w := w) (base := base) d_law_deeds b_enumerate b_isinstance b_tuple 4
  have c_lp := all_ldeep (P := l.prog) (w := w) (base := base) d_law_deep b_max b_len 5
  have c_lb := all_lblocks (P := l.prog) (w := w) (base := base) d_law_blocks b_max 4
  exact ok_law F_law b_sorted b_sum b_len b_max c_prg c_ld c_sp c_wi c_di c_dep c_lp c_lb c_wh c_pe
theorem walk {l : PySem.W.OpenLaw} {q : Program} {loose : List Str} {XP : (Str → Option Value) → Heap → Prop} {YP : World → Heap → Prop} {d : DefRec} {K : Params → PySem.W.Frag} (hn : l.most = some 63) (hdf : d.params.defaults = [])
    (hY : ∀ (w : World) (h : Heap), YP w h → (K w.params).In h)
    (F : ∀ (w : World) (mg : Str → Option Value) (fa : Addr) (h : Heap), (K w.params).In h → h.Ns mainGlobals mg → mg d.name = some (.ref fa) →
      ∃ fd : FuncData, (∀ (s : Shared) (u : Value), BindsTo s fd ⟨[u], []⟩ [("_law_script", u)]) ∧ ∀ base : Heap, (K w.params).In base → base.Ns mainGlobals mg → FnOk l.prog w (K w.params) mg base CX0 12 fa fd ["_law_script"] (spLaw (K w.params))) :
    PySem.W.WalkO q loose XP YP l.row.toRowW d [] (fun f vs => PySem.call f vs) :=
  L2.walk_of (n := 63) (k := 12) (x := "_law_script") (CX := fun _ => CX0) (sp := fun w => spLaw (K w.params)) hn (by decide) hdf ⟨rfl, by decide, by decide⟩ hY F (fun _ _ a ns hl _ hS => ⟨a, ns, rfl, hS, hl, fun _ => rfl⟩) fun _ _ _ _ _ z => z
end SR
open PySem PySem.W PyProof.Rows
set_option maxRecDepth 100000 in
set_option maxHeartbeats 0 in
theorem PySem.Challenge.cw_smallrooms_k04_whole_measures_holds : PySem.Challenge.rw_smallrooms_k04_whole_measures.Holds := by
  w_on; o_law; k_head; (case hw => w_witness2)
  k_fill
  refine SR.walk (l := PySem.Challenge.rw_smallrooms_k04_whole_measures) rfl rfl (fun w h Y => PySem.W.kIn_of Y) ?F
  case F =>
    intro w mg fa h KX G hmg
    refine' SR.all_mk KX G hmg ?a0 ?l0 ?c0 ?k0 ?a1 ?l1 ?c1 ?k1 ?a2 ?l2 ?c2 ?k2 ?a3 ?l3 ?c3 ?k3 ?a4 ?l4 ?c4 ?k4 ?a5 ?l5 ?c5 ?k5 ?a6 ?l6 ?c6 ?k6 ?a7 ?l7 ?c7 ?k7 ?a8 ?l8 ?c8 ?k8 ?a9 ?l9 ?c9 ?k9 ?a10 ?l10 ?c10 ?k10 ?a11 ?l11 ?c11 ?k11 ?a12 ?l12 ?c12 ?k12 ?a13 ?l13 ?c13 ?k13 ?a14 ?l14 ?c14 ?k14 ?a15 ?l15 ?c15 ?k15 ?a16 ?l16 ?c16 ?k16 ?a17 ?l17 ?c17 ?k17 ?a18 ?l18 ?c18 ?k18 ?a19 ?l19 ?c19 ?k19 ?a20 ?l20 ?c20 ?k20 ?a21 ?l21 ?c21 ?k21 ?a22 ?l22 ?c22 ?k22 ?a23 ?l23 ?c23 ?k23 ?a24 ?l24 ?c24 ?k24 ?a25 ?l25 ?c25 ?k25 ?a26 ?l26 ?c26 ?k26 ?a27 ?l27 ?c27 ?k27 ?z_enumerate ?z_sorted ?z_sum ?z_len ?z_max ?z_dict ?z_tuple ?z_range ?z_isinstance ?pw ?ph ?pd ?pg
    (case a0 => k_is); (case l0 => k_is); (case c0 => k_is); (case k0 => k_is)
    (case a1 => k_is); (case l1 => k_is); (case c1 => k_is); (case k1 => k_is)
    (case a2 => k_is); (case l2 => k_is); (case c2 => k_is); (case k2 => k_is)
    (case a3 => k_is); (case l3 => k_is); (case c3 => k_is); (case k3 => k_is)
    (case a4 => k_is); (case l4 => k_is); (case c4 => k_is); (case k4 => k_is)
    (case a5 => k_is); (case l5 => k_is); (case c5 => k_is); (case k5 => k_is)
    (case a6 => k_is); (case l6 => k_is); (case c6 => k_is); (case k6 => k_is)
    (case a7 => k_is); (case l7 => k_is); (case c7 => k_is); (case k7 => k_is)
    (case a8 => k_is); (case l8 => k_is); (case c8 => k_is); (case k8 => k_is)
    (case a9 => k_is); (case l9 => k_is); (case c9 => k_is); (case k9 => k_is)
    (case a10 => k_is); (case l10 => k_is); (case c10 => k_is); (case k10 => k_is)
    (case a11 => k_is); (case l11 => k_is); (case c11 => k_is); (case k11 => k_is)
    (case a12 => k_is); (case l12 => k_is); (case c12 => k_is); (case k12 => k_is)
    (case a13 => k_is); (case l13 => k_is); (case c13 => k_is); (case k13 => k_is)
    (case a14 => k_is); (case l14 => k_is); (case c14 => k_is); (case k14 => k_is)
    (case a15 => k_is); (case l15 => k_is); (case c15 => k_is); (case k15 => k_is)
    (case a16 => k_is); (case l16 => k_is); (case c16 => k_is); (case k16 => k_is)
    (case a17 => k_is); (case l17 => k_is); (case c17 => k_is); (case k17 => k_is)
    (case a18 => k_is); (case l18 => k_is); (case c18 => k_is); (case k18 => k_is)
    (case a19 => k_is); (case l19 => k_is); (case c19 => k_is); (case k19 => k_is)
    (case a20 => k_is); (case l20 => k_is); (case c20 => k_is); (case k20 => k_is)
    (case a21 => k_is); (case l21 => k_is); (case c21 => k_is); (case k21 => k_is)
    (case a22 => k_is); (case l22 => k_is); (case c22 => k_is); (case k22 => k_is)
    (case a23 => k_is); (case l23 => k_is); (case c23 => k_is); (case k23 => k_is)
    (case a24 => k_is); (case l24 => k_is); (case c24 => k_is); (case k24 => k_is)
    (case a25 => k_is); (case l25 => k_is); (case c25 => k_is); (case k25 => k_is)
    (case a26 => k_is); (case l26 => k_is); (case c26 => k_is); (case k26 => k_is)
    (case a27 => k_is); (case l27 => k_is); (case c27 => k_is); (case k27 => k_is)
    (case z_enumerate => k_is); (case z_sorted => k_is); (case z_sum => k_is); (case z_len => k_is)
    (case z_max => k_is); (case z_dict => k_is); (case z_tuple => k_is); (case z_range => k_is)
    (case z_isinstance => k_is); (case pw => k_is); (case ph => k_is); (case pd => k_is)
    (case pg => k_is)

