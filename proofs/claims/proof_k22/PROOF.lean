import PyProof.Rows.All
import Wide.All
import OpenK.AllK
import Wide.FinOn
import Lean
import PyProof.EqAt
import PyProof.EqKinds
import PyProof.TupleCall
import PySem.Challenge.RW_smallrooms_k22_whole_behind
set_option Elab.async false
set_option linter.all false
set_option maxRecDepth 100000
set_option Elab.async false
set_option linter.all false
set_option maxRecDepth 100000
/-! THE HAND LAYER, for ints, bools, texts, own classes, LISTS and tuples (index, slices, in, append, pop ..), calls, loops. Paste it whole ahead of your own text; what your proof does not reach may be deleted. -/
namespace L2
open PySem PySem.Spec PyProof.Rows

/-- a key: an int or a str -/
abbrev Key := Sum Int Str
def keyIs : Key → Value → Bool
  | .inl k, v => Value.isInt k v
  | .inr x, v => Value.isStrOf x v
def keyH (w : World) : Key → Int
  | .inl k => hashInt k
  | .inr x => hashStr w x
theorem keyIs_shape : ∀ {k : Key} {v : Value}, keyIs k v = true → (∃ i t, k = Sum.inl i ∧ v = Value.int i t) ∨ (∃ x t, k = Sum.inr x ∧ v = Value.str x t)
  | .inl i, v, h => by
    obtain ⟨t, e⟩ := Value.isInt_shape (k := i) (v := v) h
    exact .inl ⟨i, t, rfl, e⟩
  | .inr x, v, h => by
    obtain ⟨t, e⟩ := Value.isStrOf_shape (x := x) (v := v) h
    exact .inr ⟨x, t, rfl, e⟩
theorem keyIs_int (i : Int) (t : Tok) : keyIs (.inl i) (.int i t) = true := by simp [keyIs, Value.isInt]
theorem keyIs_str (x : Str) (t : Tok) : keyIs (.inr x) (.str x t) = true := by simp [keyIs, Value.isStrOf]
theorem key_ll (a b : Int) : decide ((Sum.inl a : Key) = Sum.inl b) = (a == b) := by
  by_cases e : a = b
  · subst e; simp
  · have h : ¬ (Sum.inl a : Key) = Sum.inl b := fun q => e (Sum.inl.inj q)
    rw [decide_eq_false h]
    exact (beq_eq_false_iff_ne.mpr e).symm
theorem key_rr (a b : Str) : decide ((Sum.inr a : Key) = Sum.inr b) = decide (a = b) := by
  by_cases e : a = b
  · subst e; simp
  · have h : ¬ (Sum.inr a : Key) = Sum.inr b := fun q => e (Sum.inr.inj q)
    rw [decide_eq_false h, decide_eq_false e]
theorem key_lr (a : Int) (b : Str) : decide ((Sum.inl a : Key) = Sum.inr b) = false := decide_eq_false (fun q => nomatch q)
theorem key_rl (a : Str) (b : Int) : decide ((Sum.inr a : Key) = Sum.inl b) = false := decide_eq_false (fun q => nomatch q)

def mixKind (prog : Program) (w : World) : PySem.KeyKind prog w Key where
  is := keyIs
  hash := keyH w
  inj := fun v a b ha hb => by
    rcases keyIs_shape ha with ⟨i, t, rfl, rfl⟩ | ⟨x, t, rfl, rfl⟩
    · rcases keyIs_shape hb with ⟨j, u, rfl, e⟩ | ⟨y, u, rfl, e⟩
      · injection e with e1 _; rw [e1]
      · exact nomatch e
    · rcases keyIs_shape hb with ⟨j, u, rfl, e⟩ | ⟨y, u, rfl, e⟩
      · exact nomatch e
      · injection e with e1 _; rw [e1]
  byValue := fun k v h => by
    rcases keyIs_shape h with ⟨i, t, rfl, rfl⟩ | ⟨x, t, rfl, rfl⟩ <;> rfl
  pyHash := fun hv h => by
    rcases keyIs_shape hv with ⟨i, t, rfl, rfl⟩ | ⟨x, t, rfl, rfl⟩
    · exact wpAny_pyHash_int h
    · exact wpAny_pyHash_str h
  eqBool := fun hu hv h => by
    rcases keyIs_shape hu with ⟨i, t, rfl, rfl⟩ | ⟨x, t, rfl, rfl⟩
    · rcases keyIs_shape hv with ⟨j, u, rfl, rfl⟩ | ⟨y, u, rfl, rfl⟩
      · rw [key_ll] at h; exact wpAny_eqBool_int h
      · rw [key_lr] at h; exact SeqAt.EqAt.int_str i t y u _ _ _ _ h
    · rcases keyIs_shape hv with ⟨j, u, rfl, rfl⟩ | ⟨y, u, rfl, rfl⟩
      · rw [key_rl] at h; exact SeqAt.EqAt.str_int x t j u _ _ _ _ h
      · rw [key_rr] at h; exact wpAny_eqBool_str h
  «strs» := fun k x t v h => by
    rcases keyIs_shape h with ⟨i, u, rfl, e⟩ | ⟨y, u, rfl, e⟩
    · exact nomatch e
    · injection e with e1 _
      subst e1
      cases v <;> rfl

theorem mixKind_int (prog : Program) (w : World) (i : Int) (t : Tok) : (mixKind prog w).is (.inl i) (.int i t) = true := keyIs_int i t
theorem mixKind_str (prog : Program) (w : World) (x : Str) (t : Tok) : (mixKind prog w).is (.inr x) (.str x t) = true := keyIs_str x t
end L2

namespace L2
open PySem PySem.Spec PyProof.Rows

/-- a value, without the heap -/
inductive V where
  | non | bl (b : Bool) | int (i : Int) | str (x : Str) | byt (b : Array UInt8) | flt (b : UInt64) | ref (a : Addr) | ty (n : String)
  deriving DecidableEq

def RelV : V → Value → Prop
  | .non, u => u = Value.none
  | .bl b, u => u = Value.bool b
  | .int i, u => ∃ t, u = Value.int i t
  | .str x, u => ∃ t, u = Value.str x t
  | .byt b, u => ∃ t, u = Value.bytes b t
  | .flt b, u => ∃ t, u = Value.float b t
  | .ref a, u => u = Value.ref a
  | .ty n, u => u = Value.type n

abbrev Vals : List V → List Value → Prop := Paired RelV
theorem Vals.length {xs : List V} {us : List Value} (r : Vals xs us) : xs.length = us.length := Paired.length r
theorem Vals.get : ∀ {xs : List V} {us : List Value} {i : Nat} {x : V}, Vals xs us → xs[i]? = some x → ∃ u, us[i]? = some u ∧ RelV x u
  | _, _, _, _, .nil, e => by simp at e
  | _, _, 0, _, .cons r _, e => by simp at e; subst e; exact ⟨_, rfl, r⟩
  | _, _, i + 1, x, .cons _ t, e => by
    obtain ⟨u, h1, h2⟩ := Vals.get (i := i) (x := x) t (by simpa using e)
    exact ⟨u, by simpa using h1, h2⟩
theorem Vals.set {x : V} {u : Value} (r : RelV x u) : ∀ {xs : List V} {us : List Value} (i : Nat), Vals xs us → Vals (xs.set i x) (us.set i u)
  | _, _, _, .nil => .nil
  | _, _, 0, .cons _ t => .cons r t
  | _, _, i + 1, .cons q t => .cons q (Vals.set r i t)
theorem Vals.append : ∀ {xs ys : List V} {us ws : List Value}, Vals xs us → Vals ys ws → Vals (xs ++ ys) (us ++ ws)
  | _, _, _, _, .nil, s => s
  | _, _, _, _, .cons r t, s => .cons r (Vals.append t s)
theorem Vals.take : ∀ {xs : List V} {us : List Value} (n : Nat), Vals xs us → Vals (xs.take n) (us.take n)
  | _, _, 0, _ => .nil
  | _, _, _ + 1, .nil => .nil
  | _, _, n + 1, .cons r t => .cons r (Vals.take n t)
theorem Vals.drop : ∀ {xs : List V} {us : List Value} (n : Nat), Vals xs us → Vals (xs.drop n) (us.drop n)
  | _, _, 0, r => r
  | _, _, _ + 1, .nil => .nil
  | _, _, n + 1, .cons _ t => Vals.drop n t
def RelO : Option V → Option Value → Prop
  | some v, some u => RelV v u
  | none, none => True
  | _, _ => False
def KV {κ : Type} : List (κ × V) → List (κ × Value) → Prop := Paired fun (p : κ × V) (q : κ × Value) => p.1 = q.1 ∧ RelV p.2 q.2

/-- a key of a dict (00_mix): an int or a text -/
def kV : Key → V
  | .inl i => .int i
  | .inr x => .str x

/-- what stands at a tracked address -/
inductive HO where
  /-- a list -/
  | lst (xs : List V)
  /-- a tuple (never changes) -/
  | tup (xs : List V)
  /-- a dict whose keys are ints and texts; one whose keys are tuples of ints and texts (the empty one is both) -/
  | dK (kvs : List (Key × V)) | dT (kvs : List (List Key × V))
  /-- a set of ints: its members, its size -/
  | set (S : Int → Bool) (n : Nat)
  /-- an instance of the class at C, its dict at dx, its attributes -/
  | ins (C dx : Addr) (fs : List (Str × V))
  /-- the dict of the instance at x -/
  | own (x : Addr)
  /-- the dict of an exception -/
  | xd (fs : List (Str × V))
  /-- a bound method, f of x -/
  | met (f x : Addr)
  /-- a range object lo, lo + 1, .. below hi -/
  | rng (lo hi : Int)
  /-- a thing that is known to the object (the script; a dict while a loop walks it): read, never written while it is so -/
  | frz (o : Obj) (u : HO)
  /-- a code object's table -/
  | tbl (ps : Array Value)
  /-- any other thing, by what is true of its one object (a def of one's own: SetO a S n := HO.ext fun h => ..) -/
  | ext (φ : Heap → Prop)

abbrev Hp := Addr → Option HO
def upd (H : Hp) (a : Addr) (o : HO) : Hp := fun b => if b = a then some o else H b
theorem upd_same {H : Hp} {a : Addr} {o : HO} : upd H a o a = some o := by unfold upd; rw [if_pos rfl]
theorem upd_ne {H : Hp} {a b : Addr} {o : HO} (h : b ≠ a) : upd H a o b = H b := by unfold upd; rw [if_neg h]
theorem upd_upd {H : Hp} {a : Addr} {o u : HO} : upd (upd H a o) a u = upd H a u := by
  funext b; unfold upd; split <;> rfl
/-- two objects of different content stand apart -/
theorem ne_of {H : Hp} {a b : Addr} {o u : HO} (h : H a = some o) (h' : H b = some u) (d : o ≠ u) : a ≠ b := by
  intro e; subst e; rw [h] at h'; exact d (Option.some.inj h')
theorem ne_of_none {H : Hp} {a b : Addr} {o : HO} (h : H a = some o) (h' : H b = none) : a ≠ b := by
  intro e; subst e; rw [h] at h'; cases h'

section
variable (P : Program) (w : World)
def ObjOk (H : Hp) (h : Heap) (a : Addr) : HO → Prop
  | .lst xs => xs.length ≤ sizeLine ∧ ∃ (its : List Value) (n : Nat), Vals xs its ∧ h.get? a = some { cls := .type "list", data := .seq its.toArray n }
  | .tup xs => xs.length ≤ sizeLine ∧ ∃ its : List Value, Vals xs its ∧ IsTup h a its.toArray
  | .dK kvs => kvs.length ≤ sizeLine ∧ (a == sysModules) = false ∧ ∃ vs, KV kvs vs ∧ h.DictOf (mixKind P w) a vs
  | .dT kvs => kvs.length ≤ sizeLine ∧ (a == sysModules) = false ∧ ∃ xs : List (List Key × Addr × Value),
      Paired (fun (p : List Key × V) (q : List Key × Addr × Value) => p.1 = q.1 ∧ H q.2.1 = some (.tup (p.1.map kV)) ∧ RelV p.2 q.2.2) kvs xs ∧
      ∃ o es ep, h.get? a = some o ∧ o.ExactDict ∧ o.data = .dict es ep ∧ es.toList = xs.map (entryOfKey (tupleKind (mixKind P w))) ∧ (xs.map (·.1)).Nodup
  | .set S n => h.SetOf (intKind P w) a S n
  | .ins C dx fs => H dx = some (.own a) ∧ fs.length ≤ 1000 ∧ dx ≠ a ∧ h.get? a = some (PySem.W.instObj C dx) ∧
      ∃ mA, h.Ns1 dx mA ∧ (∀ f, RelO (fs.lookup f) (mA f)) ∧ PySem.Within mA (fs.map (·.1))
  | .own _ => ∃ o, h.get? a = some o
  | .xd fs => ∃ mA, h.Ns1 a mA ∧ ∀ f, RelO (fs.lookup f) (mA f)
  | .rng lo hi => ∃ t u v, h.get? a = some { cls := .type "range", data := .fields #[.int lo t, .int hi u, .int 1 v] }
  | .frz o u => h.get? a = some o ∧ ObjOk H h a u
  | .tbl ps => h.get? a = some { cls := .none, data := .fields ps }
  | .met f x => h.get? a = some (PySem.W.methodObj (.ref f) (.ref x))
  | .ext φ => φ h ∧ (∃ o, h.get? a = some o) ∧ ∀ h1 h2 : Heap, φ h1 → (∀ o, h1.get? a = some o → h2.get? a = some o) → φ h2
/-- the abstract heap is held -/
def HOk (H : Hp) (h : Heap) : Prop := ∀ a o, H a = some o → ObjOk P w H h a o
end

section
variable {P : Program} {w : World} {H H' : Hp} {h h' : Heap} {a : Addr} {o : HO}
theorem ObjOk.lt (x : ObjOk P w H h a o) : a < h.objs.size := by
  cases o with
  | lst xs => obtain ⟨_, _, _, _, e⟩ := x; exact Heap.lt_size e
  | tup xs => obtain ⟨_, _, _, p⟩ := x; exact p.lt
  | dK kvs => obtain ⟨_, _, _, _, o, _, _, e, _⟩ := x; exact Heap.lt_size e
  | dT kvs => obtain ⟨_, _, _, _, o, _, _, e, _⟩ := x; exact Heap.lt_size e
  | set S n => obtain ⟨o, _, _, _, e, _⟩ := x; exact Heap.lt_size e
  | ins C dx fs => obtain ⟨_, _, _, e, _⟩ := x; exact Heap.lt_size e
  | own y => obtain ⟨_, e⟩ := x; exact Heap.lt_size e
  | xd fs => obtain ⟨_, ⟨_, _, _, e, _⟩, _⟩ := x; exact Heap.lt_size e
  | rng lo hi => obtain ⟨_, _, _, e⟩ := x; exact Heap.lt_size e
  | frz ob u => obtain ⟨e, _⟩ := x; exact Heap.lt_size e
  | tbl ps => exact Heap.lt_size (show h.get? a = some _ from x)
  | met f y => exact Heap.lt_size (show h.get? a = some _ from x)
  | ext φ => obtain ⟨_, ⟨_, e⟩, _⟩ := x; exact Heap.lt_size e
theorem Paired.mapP {α β : Type} {F G : α → β → Prop} : ∀ {l₁ : List α} {l₂ : List β}, Paired F l₁ l₂ → (∀ a b, F a b → G a b) → Paired G l₁ l₂
  | _, _, .nil, _ => .nil
  | _, _, .cons r t, f => .cons (f _ _ r) (Paired.mapP t f)
/-- what an object's description leans on: its own object, its own dict, the tuples -/
theorem ObjOk.stay (x : ObjOk P w H h a o) (k : ∀ b u, (b = a ∨ H b = some (.own a)) → h.get? b = some u → h'.get? b = some u)
    (ho : ∀ b, H b = some (.own a) → H' b = some (.own a)) (ht : ∀ b xs, H b = some (.tup xs) → H' b = some (.tup xs)) : ObjOk P w H' h' a o := by
  induction o with
  | lst xs => obtain ⟨z, its, n, r, e⟩ := x; exact ⟨z, its, n, r, k _ _ (.inl rfl) e⟩
  | tup xs => obtain ⟨z, its, r, ob, e, c⟩ := x; exact ⟨z, its, r, ob, k _ _ (.inl rfl) e, c⟩
  | dK kvs => obtain ⟨z, y, vs, r, ob, es, ep, e, c⟩ := x; exact ⟨z, y, vs, r, ob, es, ep, k _ _ (.inl rfl) e, c⟩
  | dT kvs =>
    obtain ⟨z, y, xs, r, ob, es, ep, e, c⟩ := x
    exact ⟨z, y, xs, Paired.mapP r fun p q z => ⟨z.1, ht _ _ z.2.1, z.2.2⟩, ob, es, ep, k _ _ (.inl rfl) e, c⟩
  | set S n => obtain ⟨ob, es, ep, t, e, c⟩ := x; exact ⟨ob, es, ep, t, k _ _ (.inl rfl) e, c⟩
  | ins C dx fs =>
    obtain ⟨d, z, ne, e, mA, ⟨od, es, ep, e2, c⟩, r⟩ := x
    exact ⟨ho _ d, z, ne, k _ _ (.inl rfl) e, mA, ⟨od, es, ep, k _ _ (.inr d) e2, c⟩, r⟩
  | own y => obtain ⟨ob, e⟩ := x; exact ⟨ob, k _ _ (.inl rfl) e⟩
  | xd fs => obtain ⟨mA, ⟨od, es, ep, e, c⟩, r⟩ := x; exact ⟨mA, ⟨od, es, ep, k _ _ (.inl rfl) e, c⟩, r⟩
  | rng lo hi => obtain ⟨t, u, v, e⟩ := x; exact ⟨t, u, v, k _ _ (.inl rfl) e⟩
  | frz ob u ih => obtain ⟨e, q⟩ := x; exact ⟨k _ _ (.inl rfl) e, ih q⟩
  | tbl ps =>
    have e : h.get? a = some { cls := .none, data := .fields ps } := x
    show h'.get? a = some { cls := .none, data := .fields ps }
    exact k a _ (.inl rfl) e
  | met f y =>
    have e : h.get? a = some (PySem.W.methodObj (.ref f) (.ref y)) := x
    show h'.get? a = some (PySem.W.methodObj (.ref f) (.ref y))
    exact k a _ (.inl rfl) e
  | ext φ => obtain ⟨p, ⟨o, e⟩, st⟩ := x; exact ⟨st _ _ p fun o q => k _ _ (.inl rfl) q, ⟨o, k _ _ (.inl rfl) e⟩, st⟩
theorem HOk.lt (x : HOk P w H h) (e : H a = some o) : a < h.objs.size := (x a o e).lt
theorem HOk.fresh (x : HOk P w H h) (e : h.objs.size ≤ a) : H a = none := by
  cases q : H a with
  | none => rfl
  | some u => exact absurd (Nat.lt_of_lt_of_le (x.lt q) e) (Nat.lt_irrefl _)
/-- every object of the heap is kept -/
theorem HOk.kept (x : HOk P w H h) (k : ∀ b u, h.get? b = some u → h'.get? b = some u) : HOk P w H h' := fun a o e =>
  (x a o e).stay (fun b u _ q => k b u q) (fun _ q => q) fun _ _ q => q
/-- a new object is laid and tracked -/
theorem HOk.laid (x : HOk P w H h) (k : ∀ b u, h.get? b = some u → h'.get? b = some u) (hp : h.objs.size ≤ a) (new : ObjOk P w (upd H a o) h' a o) : HOk P w (upd H a o) h' := fun b u e => by
  have hn := x.fresh hp
  by_cases hb : b = a
  · subst hb; rw [upd_same] at e; cases e; exact new
  · rw [upd_ne hb] at e
    exact (x b u e).stay (fun c v _ q => k c v q) (fun c q => by rw [upd_ne (ne_of_none q hn)]; exact q) fun c xs q => by rw [upd_ne (ne_of_none q hn)]; exact q
end

/-- what may be read as u: it is u, or a known u -/
def Rd (H : Hp) (a : Addr) (u : HO) : Prop := H a = some u ∨ ∃ o, H a = some (.frz o u)
theorem Rd.of {H : Hp} {a : Addr} {u : HO} (h : H a = some u) : Rd H a u := .inl h
theorem Rd.ok {P : Program} {w : World} {H : Hp} {h : Heap} {a : Addr} {u : HO} (r : Rd H a u) (x : HOk P w H h) : ObjOk P w H h a u := by
  rcases r with r | ⟨o, r⟩
  · exact x a u r
  · obtain ⟨_, q⟩ := x a _ r
    exact q
/-- what may be written -/
def Mut : Option HO → Prop
  | some (.lst _) => True
  | some (.dK _) => True
  | some (.dT _) => True
  | some (.set _ _) => True
  | some (.ins _ _ _) => True
  | some (.ext _) => True
  | _ => False
section
variable {P : Program} {w : World} {H : Hp} {h h' : Heap} {x e : Addr} {o' : HO}
/-- the object at e is changed: x itself, or the dict of the instance x -/
theorem HOk.write (ok : HOk P w H h) (mu : Mut (H x)) (he : e = x ∨ H e = some (.own x)) (k : ∀ b u, b ≠ e → h.get? b = some u → h'.get? b = some u) (heo : ∃ u, h'.get? e = some u)
    (new : ObjOk P w (upd H x o') h' x o') : HOk P w (upd H x o') h' := fun b u q => by
  have nown : ∀ c y, H c = some (.own y) → c ≠ x := fun c y r z => by subst z; rw [r] at mu; exact mu
  have ntup : ∀ c xs, H c = some (.tup xs) → c ≠ x := fun c xs r z => by subst z; rw [r] at mu; exact mu
  by_cases hb : b = x
  · subst hb; rw [upd_same] at q; cases q; exact new
  · rw [upd_ne hb] at q
    by_cases hbe : b = e
    · have q' : H b = some (.own x) := by
        rcases he with z | z
        · exact absurd (hbe.trans z) hb
        · rw [hbe]; exact z
      rw [q] at q'; cases q'
      obtain ⟨v, hv⟩ := heo
      exact ⟨v, by rw [hbe]; exact hv⟩
    · refine (ok b u q).stay (fun c v hc r => k c v ?_ r) (fun c r => by rw [upd_ne (nown c b r)]; exact r) fun c xs r => by rw [upd_ne (ntup c xs r)]; exact r
      rcases hc with rfl | hc
      · exact hbe
      · rintro rfl
        rcases he with z | z
        · exact nown c b hc z
        · rw [hc] at z; cases z; exact hb rfl
end

/-! ### kept unless tracked; of the frames at fs (the callers') the slots may change (an exception that passes writes there); of the records at ex (iterators) nothing is said -/
structure Un (fs ex : List Addr) (H H' : Hp) (h h' : Heap) : Prop where
  keep : ∀ b o, h.get? b = some o → H b = none → b ∉ fs → b ∉ ex → h'.get? b = some o
  slot : ∀ b o, h.get? b = some o → H b = none → b ∈ fs → b ∉ ex → ∃ sl, h'.get? b = some { o with slots := sl }
  free : ∀ b o, h.get? b = some o → H b = none → b ∉ ex → H' b = none
  there : ∀ b o, h.get? b = some o → b ∉ ex → ∃ o', h'.get? b = some o'
  tups : ∀ b xs, H b = some (.tup xs) → H' b = some (.tup xs)
  frzs : ∀ b o u, H b = some (.frz o u) → H' b = some (.frz o u)
  tbls : ∀ b ps, H b = some (.tbl ps) → ∃ more, H' b = some (.tbl (ps ++ more))
section
variable {fs fs' ex ex' : List Addr} {H H1 H2 : Hp} {h h1 h2 h' : Heap} {a x e : Addr} {o : HO}
theorem Un.any (u : Un fs ex H H1 h h1) {b : Addr} {ob : Obj} (q : h.get? b = some ob) (n : H b = none) (hx : b ∉ ex) : ∃ sl, h1.get? b = some { ob with slots := sl } := by
  by_cases hb : b ∈ fs
  · exact u.slot b ob q n hb hx
  · exact ⟨ob.slots, u.keep b ob q n hb hx⟩
theorem Un.trans (a : Un fs ex H H1 h h1) (b : Un fs ex H1 H2 h1 h2) : Un fs ex H H2 h h2 where
  keep := fun c ob q n hc hx => b.keep c ob (a.keep c ob q n hc hx) (a.free c ob q n hx) hc hx
  slot := fun c ob q n hc hx => by
    obtain ⟨sl, e1⟩ := a.slot c ob q n hc hx
    obtain ⟨sl', e2⟩ := b.slot c _ e1 (a.free c ob q n hx) hc hx
    exact ⟨sl', e2⟩
  free := fun c ob q n hx => by
    obtain ⟨o', e1⟩ := a.there c ob q hx
    exact b.free c o' e1 (a.free c ob q n hx) hx
  there := fun c ob q hx => by
    obtain ⟨o', e1⟩ := a.there c ob q hx
    exact b.there c o' e1 hx
  tups := fun c xs q => b.tups c xs (a.tups c xs q)
  frzs := fun c ob xs q => b.frzs c ob xs (a.frzs c ob xs q)
  tbls := fun c ps q => by
    obtain ⟨m1, e1⟩ := a.tbls c ps q
    obtain ⟨m2, e2⟩ := b.tbls c _ e1
    exact ⟨m1 ++ m2, by rw [e2, Array.append_assoc]⟩
theorem Un.kept (k : ∀ b u, h.get? b = some u → h'.get? b = some u) : Un fs ex H H h h' :=
  ⟨fun b ob q _ _ _ => k b ob q, fun b ob q _ _ _ => ⟨ob.slots, k b ob q⟩, fun _ _ _ n _ => n, fun b ob q _ => ⟨ob, k b ob q⟩, fun _ _ q => q, fun _ _ _ q => q, fun _ ps q => ⟨#[], by rw [q]; simp⟩⟩
theorem Un.refl : Un fs ex H H h h := Un.kept fun _ _ q => q
theorem Un.laid (k : ∀ b u, h.get? b = some u → h'.get? b = some u) (hp : h.objs.size ≤ a) (hn : H a = none) : Un fs ex H (upd H a o) h h' where
  keep := fun b u q _ _ _ => k b u q
  slot := fun b u q _ _ _ => ⟨u.slots, k b u q⟩
  free := fun b u q n _ => by rw [upd_ne (Nat.ne_of_lt (Nat.lt_of_lt_of_le (Heap.lt_size q) hp))]; exact n
  there := fun b u q _ => ⟨u, k b u q⟩
  tups := fun b xs q => by rw [upd_ne (ne_of_none q hn)]; exact q
  frzs := fun b u xs q => by rw [upd_ne (ne_of_none q hn)]; exact q
  tbls := fun b ps q => ⟨#[], by rw [upd_ne (ne_of_none q hn), q]; simp⟩
theorem Un.write (mu : Mut (H x)) (he : e = x ∨ H e = some (.own x)) (k : ∀ b u, b ≠ e → h.get? b = some u → h'.get? b = some u) (heo : ∃ u, h'.get? e = some u) : Un fs ex H (upd H x o) h h' := by
  have hx : ∀ b, H b = none → b ≠ x := fun b n z => by subst z; rw [n] at mu; exact mu
  have hb : ∀ b, H b = none → b ≠ e := fun b n z => by
    subst z
    rcases he with r | r
    · exact hx b n r
    · rw [n] at r; cases r
  have hm : ∀ b u, H b = some u → ¬ Mut (some u) → b ≠ x := fun b u q nm z => by subst z; rw [q] at mu; exact nm mu
  refine ⟨fun b u q n _ _ => k b u (hb b n) q, fun b u q n _ _ => ⟨u.slots, k b u (hb b n) q⟩, fun b u q n _ => by rw [upd_ne (hx b n)]; exact n, fun b u q _ => ?_,
    fun b xs q => by rw [upd_ne (hm b _ q fun z => z)]; exact q, fun b u xs q => by rw [upd_ne (hm b _ q fun z => z)]; exact q, fun b ps q => ⟨#[], by rw [upd_ne (hm b _ q fun z => z), q]; simp⟩⟩
  by_cases hbe : b = e
  · subst hbe; exact heo
  · exact ⟨u, k b u hbe q⟩
theorem Un.mono (u : Un fs ex H H1 h h1) (hs : ∀ b ∈ fs, b ∈ fs') (hx : ∀ b ∈ ex, b ∈ ex') : Un fs' ex' H H1 h h1 :=
  ⟨fun b ob q n hb he => u.keep b ob q n (fun z => hb (hs b z)) fun z => he (hx b z), fun _ _ q n _ he => u.any q n fun z => he (hx _ z), fun b ob q n he => u.free b ob q n fun z => he (hx b z), fun b ob q he => u.there b ob q fun z => he (hx b z), u.tups, u.frzs, u.tbls⟩
end

/-! ### the heap without what is tracked -/
def trk (h : Heap) (H : Hp) : List Addr := (List.range h.objs.size).filter fun a => (H a).isSome
def hidT (h : Heap) (H : Hp) : Heap := PySem.W.hideAll h (trk h H)
theorem hidT_size (h : Heap) (H : Hp) : (hidT h H).objs.size = h.objs.size := PySem.W.hideAll_size _ _
theorem hidT_get {h : Heap} {H : Hp} {b : Addr} {o : Obj} (e : h.get? b = some o) (n : H b = none) : (hidT h H).get? b = some o :=
  PySem.W.hideAll_get _ e fun hm => by
    have q : (H b).isSome = true := (List.mem_filter.mp hm).2
    rw [n] at q; simp at q
theorem of_hidT {h : Heap} {H : Hp} {b : Addr} {o : Obj} (e : (hidT h H).get? b = some o) : h.get? b = some o ∧ H b = none := by
  have e' : h.get? b = some o := PySem.W.of_hideAll (trk h H) e
  refine ⟨e', ?_⟩
  cases q : H b with
  | none => rfl
  | some x =>
    have hm : b ∈ trk h H := List.mem_filter.mpr ⟨List.mem_range.mpr (Heap.lt_size e'), by simp [q]⟩
    have z : (hidT h H).get? b = none := PySem.W.hideAll_none (trk h H) hm
    rw [z] at e; cases e

/-! ### OpenK's ledger, filled with every new object but one -/
def allNews (g h : Heap) (L : Addr) : List (Addr × Obj) := (List.range h.objs.size).filterMap fun a => if a = L ∨ (g.get? a).isSome = true then none else (h.get? a).map fun o => (a, o)
def rest (g h : Heap) (L d : Addr) : List (Addr × Obj) := (allNews g h L).filter fun p => decide (p.1 ≠ d)
end L2

namespace L2
open PySem PySem.Spec PyProof.Rows

/-- the module's facts, over the base: the heap at the law's entry without what is tracked there -/
structure Mod (K : PySem.W.Frag) (mg : Str → Option Value) (base : Heap) : Prop where
  kin : K.In base
  glob : base.Ns mainGlobals mg
  blt : ∃ mb, base.Ns builtinsNs mb ∧ ∀ x : Str, x ≠ "__name__" → mb x = bootBuiltins x
  nolimit : base.NoLimit

/-- the context: a def's body (or a comprehension's block) running. base: fixed through the whole law; s₀, H₀: the entry; outer: the frames whose slots others may change (a def's callers); stack: all frames that run;
   ex: iterators that were made ahead of the entry and are walked here (a comprehension's); fn: the names whose cells were made at the entry (a def: all; a comprehension's block: its own); calm: not within an except suite; pn: pins that every state bears; xe: what is wanted of an exception that leaves the code -/
structure Cx where
  prog : Program
  w : World
  K : PySem.W.Frag
  mg : Str → Option Value
  base : Heap
  A : Around
  N : List Str
  s₀ : Shared
  H₀ : Hp
  env : Env
  outer : List Env
  stack : List Env
  ex : List Addr
  fn : Str → Bool
  calm : Bool
  pn : List (Addr × Obj)
  xe : Value → Shared → Prop
/-- the callers' frames -/
def frs (l : List Env) : List Addr := l.filterMap (·.frame)
abbrev Cx.fs (X : Cx) : List Addr := frs X.outer

def Vis (sc : Scope) (x : Str) : Prop := sc.names.lookup x = some .local ∨ sc.names.lookup x = some .cell ∨ sc.names.lookup x = some .free
def Loc (sc : Scope) (x : Str) : Prop := sc.names.lookup x = some .local ∨ sc.names.lookup x = some .cell
def Look (env : Env) (h : Heap) (m : Str → Option Value) (x : Str) (u : Value) : Prop :=
  (env.kindOf x = some .local ∧ m x = some u) ∨ ((env.kindOf x = some .cell ∨ env.kindOf x = some .free) ∧ ∃ c, env.cells.lookup x = some c ∧ h.IsCell c (some u))

structure Cx.Ok (X : Cx) : Prop where
  mod : Mod X.K X.mg X.base
  kind : X.env.scope.kind = .function
  glob : X.env.globals = mainGlobals
  blt : X.env.builtins = builtinsNs
  above : X.s₀.heap.objs.size ≤ X.env.locals
  inj : ∀ x y c, X.env.cells.lookup x = some c → X.env.cells.lookup y = some c → x = y
  has : ∀ x, (X.env.kindOf x = some .cell ∨ X.env.kindOf x = some .free) → ∃ c, X.env.cells.lookup x = some c
  cab : ∀ x c, X.fn x = true → X.env.cells.lookup x = some c → X.s₀.heap.objs.size ≤ c
  hd : X.calm = true → X.A.handled = none
  frames : X.A.frames = some X.stack
  stk : X.stack = X.outer ∨ (X.stack = X.env :: X.outer ∧ X.env.frame = some X.env.locals)
  exf : ∀ b ∈ X.ex, b ≠ X.env.locals ∧ ∀ x c, X.env.cells.lookup x = some c → c ≠ b
  bs : ∀ b o, X.base.get? b = some o → X.s₀.heap.get? b = some o ∧ X.H₀ b = none
  bsz : X.base.objs.size ≤ X.s₀.heap.objs.size
  noex : ∀ b o, X.base.get? b = some o → b ∉ X.ex
  exfs : ∀ b ∈ X.ex, b ∉ X.fs
  funs : X.s₀.heap.FunFrames X.base X.outer
  frf : ∀ b ∈ X.fs, X.H₀ b = none

structure Inv (X : Cx) (pins : List (Addr × Obj)) (σ : List (Option V)) (H : Hp) (s : Shared) : Prop where
  ok : X.Ok
  os : s.os = X.s₀.os
  bare : AllBare s.gens
  base : Un X.fs X.ex X.H₀ H X.s₀.heap s.heap
  loc : ∃ m, s.heap.Ns X.env.locals m ∧ ∀ (i : Nat) (x : Str) (v : V), X.N[i]? = some x → σ[i]? = some (some v) → Vis X.env.scope x → ∃ u, RelV v u ∧ Look X.env s.heap m x u
  cell : ∀ x c, X.env.cells.lookup x = some c → ∃ v, s.heap.IsCell c v
  free : H X.env.locals = none
  freeC : ∀ x c, X.env.cells.lookup x = some c → H c = none
  pin : ∀ p ∈ X.pn ++ pins, s.heap.get? p.1 = some p.2 ∧ H p.1 = none ∧ p.1 ≠ X.env.locals ∧ p.1 ∉ X.fs ∧ ∀ v, p.2.data ≠ .cell v
  hok : HOk X.prog X.w H s.heap
  len : σ.length = X.N.length

section
variable {X : Cx} {pins : List (Addr × Obj)} {σ : List (Option V)} {H H' : Hp} {s : Shared} {h' : Heap}

theorem Cx.Ok.nofr (ok : X.Ok) {b : Addr} {o : Obj} (e : X.base.get? b = some o) : b ∉ X.fs := fun hb => by
  have := (ok.funs.mem hb).1
  rw [e] at this; cases this
theorem Inv.bs (I : Inv X pins σ H s) : ∀ b o, X.base.get? b = some o → s.heap.get? b = some o ∧ H b = none := fun b o e =>
  ⟨I.base.keep b o (I.ok.bs b o e).1 (I.ok.bs b o e).2 (I.ok.nofr e) (I.ok.noex b o e), I.base.free b o (I.ok.bs b o e).1 (I.ok.bs b o e).2 (I.ok.noex b o e)⟩
theorem Inv.bk (I : Inv X pins σ H s) : ∀ b o, X.base.get? b = some o → s.heap.get? b = some o := fun b o e => (I.bs b o e).1
theorem Inv.mod (I : Inv X pins σ H s) : Mod X.K X.mg X.base := I.ok.mod
theorem Inv.kIn (I : Inv X pins σ H s) : X.K.In s.heap := I.ok.mod.kin.keeps I.bk
theorem Inv.nolimit (I : Inv X pins σ H s) : s.heap.NoLimit := I.ok.mod.nolimit.keeps I.bk
theorem Inv.lt (I : Inv X pins σ H s) : X.env.locals < s.heap.objs.size := let ⟨_, hn, _⟩ := I.loc; hn.lt
theorem Inv.sz (I : Inv X pins σ H s) : X.s₀.heap.objs.size ≤ s.heap.objs.size := Nat.le_trans I.ok.above (Nat.le_of_lt I.lt)
theorem Inv.nofs (I : Inv X pins σ H s) {a : Addr} (h : s.heap.objs.size ≤ a) : a ∉ X.fs := fun hb => by
  obtain ⟨_, o, ho, _⟩ := I.ok.funs.mem hb
  exact absurd (Nat.lt_of_lt_of_le (Heap.lt_size ho) (Nat.le_trans I.sz h)) (Nat.lt_irrefl _)
theorem Inv.cne (I : Inv X pins σ H s) : ∀ x c, X.env.cells.lookup x = some c → c ≠ X.env.locals := fun x c e z => by
  obtain ⟨v, o, ho, hd⟩ := I.cell x c e
  obtain ⟨m, ⟨o', es, ep, ho', hd', _⟩, _⟩ := I.loc
  rw [z, ho'] at ho; cases ho; rw [hd'] at hd; cases hd
theorem Inv.funs (I : Inv X pins σ H s) : s.heap.FunFrames X.base X.outer := by
  have all : ∀ (l : List Env), (∀ b ∈ frs l, b ∈ X.fs) → X.s₀.heap.FunFrames X.base l → s.heap.FunFrames X.base l := by
    intro l
    induction l with
    | nil => intro _ _; trivial
    | cons env r ih =>
      intro hs hl
      obtain ⟨hk, ⟨L, o, hf, hn, ho, hd⟩, hr⟩ := hl
      have hL : L ∈ X.fs := hs L (by unfold frs; rw [List.filterMap_cons, hf]; exact List.mem_cons_self)
      obtain ⟨sl, e⟩ := I.base.slot L o ho (I.ok.frf L hL) hL fun z => I.ok.exfs L z hL
      exact ⟨hk, ⟨L, _, hf, hn, e, hd⟩, ih (fun b hb => hs b (by unfold frs; rw [List.filterMap_cons, hf]; exact List.mem_cons_of_mem _ hb)) hr⟩
  exact all X.outer (fun _ hb => hb) I.ok.funs

/-- the frames that run, for a call -/
theorem Inv.stack (I : Inv X pins σ H s) : s.heap.FunFrames X.base X.stack := by
  rcases I.ok.stk with e | ⟨e, hf⟩
  · rw [e]; exact I.funs
  · rw [e]
    obtain ⟨m, hn, _⟩ := I.loc
    refine .cons (by rw [I.ok.kind]; decide) hf hn ?_ I.funs
    exact Heap.get?_none_of_le (Nat.le_trans I.ok.bsz I.ok.above)
theorem Inv.stkSub (I : Inv X pins σ H s) : ∀ b ∈ frs X.stack, b ∈ X.env.locals :: X.fs := fun b hb => by
  rcases I.ok.stk with e | ⟨e, hf⟩
  · rw [e] at hb; exact List.mem_cons_of_mem _ hb
  · rw [e] at hb
    unfold frs at hb
    rw [List.filterMap_cons, hf] at hb
    exact hb
theorem Inv.stkFree (I : Inv X pins σ H s) : ∀ b ∈ frs X.stack, H b = none := fun b hb => by
  rcases List.mem_cons.mp (I.stkSub b hb) with e | hb
  · rw [e]; exact I.free
  · obtain ⟨_, o, ho, _⟩ := I.ok.funs.mem hb
    exact I.base.free b o ho (I.ok.frf b hb) fun z => I.ok.exfs b z hb

/-- THE STEP: the untracked objects but the frame and the records at ch are kept (the callers' frames up to slots), the frame's map is kept, the new abstract heap is held -/
theorem Inv.step {g' : Array GenState} {t' : Nat} {d' : Drawn} {ch : List Addr} (I : Inv X pins σ H s)
    (hch : ∀ b ∈ ch, (b ∈ X.ex ∨ X.s₀.heap.objs.size ≤ b) ∧ b ≠ X.env.locals ∧ (∀ x c, X.env.cells.lookup x = some c → c ≠ b) ∧ ∀ p ∈ X.pn ++ pins, p.1 ≠ b)
    (keep : ∀ b o, b ≠ X.env.locals → b ∉ X.fs → b ∉ ch → s.heap.get? b = some o → H b = none → h'.get? b = some o)
    (slot : ∀ b o, b ≠ X.env.locals → b ∈ X.fs → b ∉ ch → s.heap.get? b = some o → H b = none → ∃ sl, h'.get? b = some { o with slots := sl }) (free : ∀ b o, b ∉ ch → s.heap.get? b = some o → H b = none → H' b = none)
    (there : ∀ b o, b ∉ ch → s.heap.get? b = some o → ∃ o', h'.get? b = some o')
    (tups : ∀ b xs, H b = some (.tup xs) → H' b = some (.tup xs)) (frzs : ∀ b o u, H b = some (.frz o u) → H' b = some (.frz o u)) (tbls : ∀ b ps, H b = some (.tbl ps) → ∃ more, H' b = some (.tbl (ps ++ more)))
    (ns : ∀ m, s.heap.Ns X.env.locals m → h'.Ns X.env.locals m) (hok : HOk X.prog X.w H' h') (hg : AllBare g') :
    Inv X pins σ H' { s with heap := h', gens := g', drawn := d', toks := t' } := by
  have neL : ∀ b o, X.s₀.heap.get? b = some o → b ≠ X.env.locals := fun b o e => Nat.ne_of_lt (Nat.lt_of_lt_of_le (Heap.lt_size e) I.ok.above)
  have neC : ∀ b o, X.s₀.heap.get? b = some o → b ∉ X.ex → b ∉ ch := fun b o e hx hb => by
    rcases (hch b hb).1 with z | z
    · exact hx z
    · exact absurd (Nat.lt_of_lt_of_le (Heap.lt_size e) z) (Nat.lt_irrefl _)
  have cellK : ∀ x c, X.env.cells.lookup x = some c → ∀ v, s.heap.IsCell c v → h'.IsCell c v := fun x c e v ⟨o, ho, hd⟩ => by
    have nch : c ∉ ch := fun z => (hch c z).2.2.1 x c e rfl
    by_cases hc : c ∈ X.fs
    · obtain ⟨sl, q⟩ := slot c o (I.cne x c e) hc nch ho (I.freeC x c e)
      exact ⟨_, q, hd⟩
    · exact ⟨o, keep c o (I.cne x c e) hc nch ho (I.freeC x c e), hd⟩
  refine ⟨I.ok, I.os, hg, ⟨fun b o e n hb hx => ?_, fun b o e n hb hx => ?_, fun b o e n hx => ?_, fun b o e hx => ?_, fun b xs e => tups b xs (I.base.tups b xs e), fun b o xs e => frzs b o xs (I.base.frzs b o xs e), fun b ps e => ?_⟩, ?_, fun x c e => ?_, ?_, fun x c e => ?_, fun p hp => ?_, hok, I.len⟩
  · exact keep b o (neL b o e) hb (neC b o e hx) (I.base.keep b o e n hb hx) (I.base.free b o e n hx)
  · obtain ⟨sl, e1⟩ := I.base.slot b o e n hb hx
    obtain ⟨sl', e2⟩ := slot b _ (neL b o e) hb (neC b o e hx) e1 (I.base.free b o e n hx)
    exact ⟨sl', e2⟩
  · obtain ⟨o', e1⟩ := I.base.there b o e hx
    exact free b o' (neC b o e hx) e1 (I.base.free b o e n hx)
  · obtain ⟨o', e1⟩ := I.base.there b o e hx
    exact there b o' (neC b o e hx) e1
  · obtain ⟨m1, e1⟩ := I.base.tbls b ps e
    obtain ⟨m2, e2⟩ := tbls b _ e1
    exact ⟨m1 ++ m2, by rw [e2, Array.append_assoc]⟩
  · obtain ⟨m, hn, hl⟩ := I.loc
    refine ⟨m, ns m hn, fun i x v e1 e2 e3 => ?_⟩
    obtain ⟨u, r, l⟩ := hl i x v e1 e2 e3
    refine ⟨u, r, ?_⟩
    rcases l with l | ⟨k, c, e, z⟩
    · exact .inl l
    · exact .inr ⟨k, c, e, cellK x c e _ z⟩
  · obtain ⟨v, z⟩ := I.cell x c e
    exact ⟨v, cellK x c e v z⟩
  · obtain ⟨m, ⟨o, _, _, ho, _⟩, _⟩ := I.loc
    exact free _ o (fun z => (hch _ z).2.1 rfl) ho I.free
  · obtain ⟨v, o, ho, hd⟩ := I.cell x c e
    exact free c o (fun z => (hch c z).2.2.1 x c e rfl) ho (I.freeC x c e)
  · obtain ⟨e, n, ne, nf, d⟩ := I.pin p hp
    have nch : p.1 ∉ ch := fun z => (hch p.1 z).2.2.2 p hp rfl
    exact ⟨keep p.1 p.2 ne nf nch e n, free p.1 p.2 nch e n, ne, nf, d⟩
/-- .. where the frame's own object is kept too -/
theorem Inv.un {t' : Nat} (I : Inv X pins σ H s) (u : Un X.fs [] H H' s.heap h') (hok : HOk X.prog X.w H' h') : Inv X pins σ H' { s with heap := h', toks := t' } := by
  obtain ⟨m, ⟨o, es, ep, ho, r⟩, _⟩ := id I.loc
  obtain ⟨sl, hL⟩ := u.any ho I.free (by simp)
  exact I.step (g' := s.gens) (d' := s.drawn) (ch := []) (fun _ z => nomatch z) (fun b o _ hb _ e n => u.keep b o e n hb (by simp)) (fun b o _ hb _ e n => u.slot b o e n hb (by simp)) (fun b o _ e n => u.free b o e n (by simp)) (fun b o _ e => u.there b o e (by simp)) u.tups u.frzs u.tbls (fun m' hm => by
    obtain ⟨o', es', ep', ho', r'⟩ := hm
    rw [ho] at ho'; cases ho'
    exact ⟨_, es', ep', hL, r'⟩) hok I.bare
/-- behind a call (or a comprehension's block): the slots of this frame may have changed too, the records at ch may have turned -/
theorem Inv.call {g' : Array GenState} {t' : Nat} {d' : Drawn} {ch : List Addr} (I : Inv X pins σ H s) (u : Un (frs X.stack) ch H H' s.heap h') (hok : HOk X.prog X.w H' h') (hg : AllBare g')
    (hch : ∀ b ∈ ch, (b ∈ X.ex ∨ X.s₀.heap.objs.size ≤ b) ∧ b ≠ X.env.locals ∧ (∀ x c, X.env.cells.lookup x = some c → c ≠ b) ∧ ∀ p ∈ X.pn ++ pins, p.1 ≠ b) :
    Inv X pins σ H' { s with heap := h', gens := g', drawn := d', toks := t' } := by
  obtain ⟨m, ⟨o, es, ep, ho, r⟩, _⟩ := id I.loc
  obtain ⟨sl, hL⟩ := u.any ho I.free fun z => (hch _ z).2.1 rfl
  exact I.step (ch := ch) hch (fun b o hL hb hc e n => u.keep b o e n (fun z => (List.mem_cons.mp (I.stkSub b z)).elim hL hb) hc) (fun b o _ _ hc e n => u.any e n hc) (fun b o hc e n => u.free b o e n hc) (fun b o hc e => u.there b o e hc) u.tups u.frzs u.tbls (fun m' hm => by
    obtain ⟨o', es', ep', ho', r'⟩ := hm
    rw [ho] at ho'; cases ho'
    exact ⟨_, es', ep', hL, r'⟩) hok hg
/-- an untracked record of ours (an iterator) has turned -/
theorem Inv.turned {t' : Nat} {it : Addr} (I : Inv X pins σ H s) (k : ∀ b o, b ≠ it → s.heap.get? b = some o → h'.get? b = some o) (hn : H it = none) (hL : it ≠ X.env.locals)
    (h1 : it ∈ X.ex ∨ X.s₀.heap.objs.size ≤ it) (h2 : ∀ x c, X.env.cells.lookup x = some c → c ≠ it) (h3 : ∀ p ∈ X.pn ++ pins, p.1 ≠ it) : Inv X pins σ H { s with heap := h', toks := t' } := by
  have nit : ∀ b u, H b = some u → b ≠ it := fun b u e z => by rw [z, hn] at e; cases e
  refine I.step (g' := s.gens) (d' := s.drawn) (ch := [it]) (fun b hb => ?_) (fun b o _ _ hc e _ => k b o (fun z => hc (by simp [z])) e) (fun b o _ _ hc e _ => ⟨o.slots, k b o (fun z => hc (by simp [z])) e⟩) (fun _ _ _ _ n => n)
    (fun b o hc e => ⟨o, k b o (fun z => hc (by simp [z])) e⟩) (fun _ _ e => e) (fun _ _ _ e => e) (fun b ps e => ⟨#[], by rw [e]; simp⟩) (fun m hm => ?_) (fun b u e => ?_) I.bare
  · have e : b = it := by simpa using hb
    subst e
    exact ⟨h1, hL, h2, h3⟩
  · obtain ⟨o, es, ep, ho, r⟩ := hm
    exact ⟨o, es, ep, k _ o (Ne.symm hL) ho, r⟩
  · refine (I.hok b u e).stay (fun c v hc q => k c v ?_ q) (fun _ q => q) fun _ _ q => q
    rcases hc with z | z
    · rw [z]; exact nit b u e
    · exact nit c _ z
theorem Inv.tok (I : Inv X pins σ H s) (t : Nat) : Inv X pins σ H { s with toks := t } := I.un (h' := s.heap) (t' := t) Un.refl I.hok
/-- all objects kept -/
theorem Inv.kept {t' : Nat} (I : Inv X pins σ H s) (k : ∀ b u, s.heap.get? b = some u → h'.get? b = some u) : Inv X pins σ H { s with heap := h', toks := t' } := I.un (Un.kept k) (I.hok.kept k)
/-- a new object laid and tracked -/
theorem Inv.laid {a : Addr} {o : HO} {t' : Nat} (I : Inv X pins σ H s) (k : ∀ b u, s.heap.get? b = some u → h'.get? b = some u) (hp : s.heap.objs.size ≤ a) (new : ObjOk X.prog X.w (upd H a o) h' a o) :
    Inv X pins σ (upd H a o) { s with heap := h', toks := t' } := I.un (Un.laid k hp (I.hok.fresh hp)) (I.hok.laid k hp new)
/-- an object written -/
theorem Inv.write {x e : Addr} {o : HO} {t' : Nat} (I : Inv X pins σ H s) (mu : Mut (H x)) (he : e = x ∨ H e = some (.own x)) (k : ∀ b u, b ≠ e → s.heap.get? b = some u → h'.get? b = some u) (heo : ∃ u, h'.get? e = some u)
    (new : ObjOk X.prog X.w (upd H x o) h' x o) : Inv X pins σ (upd H x o) { s with heap := h', toks := t' } := I.un (Un.write mu he k heo) (I.hok.write mu he k heo new)
theorem Inv.pins_of {pins' : List (Addr × Obj)} (I : Inv X pins σ H s) (h : ∀ p ∈ pins', s.heap.get? p.1 = some p.2 ∧ H p.1 = none ∧ p.1 ≠ X.env.locals ∧ p.1 ∉ X.fs ∧ ∀ v, p.2.data ≠ .cell v) : Inv X pins' σ H s :=
  ⟨I.ok, I.os, I.bare, I.base, I.loc, I.cell, I.free, I.freeC, fun p hp => (List.mem_append.mp hp).elim (fun z => I.pin p (List.mem_append_left _ z)) (h p), I.hok, I.len⟩

theorem nodup_ix {N : List Str} (hN : N.Nodup) {i j : Nat} {x : Str} (a : N[i]? = some x) (b : N[j]? = some x) : i = j := by
  obtain ⟨h1, e1⟩ := List.getElem?_eq_some_iff.mp a
  obtain ⟨h2, e2⟩ := List.getElem?_eq_some_iff.mp b
  exact (List.getElem_inj hN).mp (e1.trans e2.symm)

/-- a name is stored; what changed -/
theorem store_ok2 {M : Model} {A : Around} {E : Value → Shared → Prop} {i : Nat} {x : Str} {v : V} {u : Value} {Q : Unit → Shared → Prop} (I : Inv X pins σ H s) (hN : X.N.Nodup) (hi : X.N[i]? = some x) (hx : Loc X.env.scope x) (r : RelV v u)
    (h : ∀ s', Inv X pins (σ.set i (some v)) H s' → (∃ a, Heap.SameBut a s.heap s'.heap ∧ (a = X.env.locals ∨ X.env.cells.lookup x = some a)) → Q () s') (hf : X.fn x = true ∨ X.env.scope.names.lookup x = some .local := by first | exact .inl rfl | exact .inr rfl | assumption) : wpAny M A (storeName X.env x u) Q E s := by
  obtain ⟨m, hn, hl⟩ := id I.loc
  have hcls : (X.env.scope.kind == .class || (X.env.scope.kind == .module && X.env.locals != X.env.globals)) = false := by rw [I.ok.kind]; rfl
  have hiσ : i < σ.length := by rw [I.len]; exact (List.getElem?_eq_some_iff.mp hi).1
  have cne := I.cne
  have tracked : ∀ {a : Addr} {h' : Heap}, (∃ o, s.heap.get? a = some o ∧ H a = none) → Heap.SameBut a s.heap h' → HOk X.prog X.w H h' := fun {a h'} ha hs b ob e => by
    obtain ⟨_, _, hfree⟩ := ha
    refine (I.hok b ob e).stay (fun c w' hc q => (hs.2 c ?_).trans q) (fun _ q => q) fun _ _ q => q
    rintro rfl
    rcases hc with rfl | hc
    · rw [hfree] at e; cases e
    · rw [hfree] at hc; cases hc
  rcases hx with hk | hk
  · refine wpAny_storeName_local hk hn (fun h' hn' hs => ?_) hcls
    obtain ⟨oL, _, _, hoL, _⟩ := id hn
    refine h _ ⟨I.ok, I.os, I.bare, ⟨fun b o e n hb hx => ?_, fun b o e n hb hx => ?_, I.base.free, fun b o e hx => ?_, I.base.tups, I.base.frzs, I.base.tbls⟩, ⟨_, hn', fun j y v' e1 e2 e3 => ?_⟩, fun y c e => ?_, I.free, I.freeC, fun p hp => ?_, tracked ⟨oL, hoL, I.free⟩ hs, by simpa using I.len⟩ ⟨_, hs, .inl rfl⟩
    · exact (hs.2 b (Nat.ne_of_lt (Nat.lt_of_lt_of_le (Heap.lt_size e) I.ok.above))).trans (I.base.keep b o e n hb hx)
    · obtain ⟨sl, e1⟩ := I.base.slot b o e n hb hx
      exact ⟨sl, (hs.2 b (Nat.ne_of_lt (Nat.lt_of_lt_of_le (Heap.lt_size e) I.ok.above))).trans e1⟩
    · obtain ⟨o', e1⟩ := I.base.there b o e hx
      exact ⟨o', (hs.2 b (Nat.ne_of_lt (Nat.lt_of_lt_of_le (Heap.lt_size e) I.ok.above))).trans e1⟩
    · by_cases hj : j = i
      · subst hj
        rw [hi] at e1; cases e1
        rw [List.getElem?_set_self hiσ] at e2
        cases e2
        exact ⟨u, r, .inl ⟨hk, by simp⟩⟩
      · rw [List.getElem?_set_ne (Ne.symm hj)] at e2
        obtain ⟨u', r', q⟩ := hl j y v' e1 e2 e3
        refine ⟨u', r', ?_⟩
        rcases q with ⟨k, e⟩ | ⟨k, c, e, z⟩
        · refine .inl ⟨k, ?_⟩
          have : y ≠ x := fun e => hj (nodup_ix hN e1 (e ▸ hi))
          simp [this, e]
        · exact .inr ⟨k, c, e, z.sameBut hs (cne y c e)⟩
    · obtain ⟨w', z⟩ := I.cell y c e
      exact ⟨w', z.sameBut hs (cne y c e)⟩
    · obtain ⟨e, n, ne, nf, d⟩ := I.pin p hp
      exact ⟨(hs.2 p.1 ne).trans e, n, ne, nf, d⟩
  · have hfn : X.fn x = true := by
      rcases hf with z | z
      · exact z
      · rw [z] at hk; cases hk
    obtain ⟨c, hc⟩ := I.ok.has x (.inl hk)
    obtain ⟨w', z⟩ := I.cell x c hc
    refine wpAny_storeName_cell I.ok.kind hk hc z (fun h' hc' hs => ?_)
    obtain ⟨oc, hoc, hocd⟩ := id z
    refine h { s with heap := h' } ⟨I.ok, I.os, I.bare, ⟨fun b o e n hb hx => ?_, fun b o e n hb hx => ?_, I.base.free, fun b o e hx => ?_, I.base.tups, I.base.frzs, I.base.tbls⟩, ⟨m, hn.sameBut hs (Ne.symm (cne x c hc)), fun j y v' e1 e2 e3 => ?_⟩, fun y c' e => ?_, I.free, I.freeC, fun p hp => ?_, tracked ⟨oc, hoc, I.freeC x c hc⟩ hs, by simpa using I.len⟩ ⟨c, hs, .inr hc⟩
    · exact (hs.2 b (Nat.ne_of_lt (Nat.lt_of_lt_of_le (Heap.lt_size e) (I.ok.cab x c hfn hc)))).trans (I.base.keep b o e n hb hx)
    · obtain ⟨sl, e1⟩ := I.base.slot b o e n hb hx
      exact ⟨sl, (hs.2 b (Nat.ne_of_lt (Nat.lt_of_lt_of_le (Heap.lt_size e) (I.ok.cab x c hfn hc)))).trans e1⟩
    · obtain ⟨o', e1⟩ := I.base.there b o e hx
      exact ⟨o', (hs.2 b (Nat.ne_of_lt (Nat.lt_of_lt_of_le (Heap.lt_size e) (I.ok.cab x c hfn hc)))).trans e1⟩
    · by_cases hj : j = i
      · subst hj
        rw [hi] at e1; cases e1
        rw [List.getElem?_set_self hiσ] at e2
        cases e2
        exact ⟨u, r, .inr ⟨.inl hk, c, hc, hc'⟩⟩
      · rw [List.getElem?_set_ne (Ne.symm hj)] at e2
        obtain ⟨u', r', q⟩ := hl j y v' e1 e2 e3
        refine ⟨u', r', ?_⟩
        rcases q with q | ⟨k, c', e, z'⟩
        · exact .inl q
        · refine .inr ⟨k, c', e, z'.sameBut hs ?_⟩
          rintro rfl
          exact hj (nodup_ix hN e1 (I.ok.inj _ _ _ e hc ▸ hi))
    · by_cases hcc : c' = c
      · subst hcc; exact ⟨_, hc'⟩
      · obtain ⟨w2, z2⟩ := I.cell y c' e
        exact ⟨w2, z2.sameBut hs hcc⟩
    · obtain ⟨e, n, ne, nf, d⟩ := I.pin p hp
      refine ⟨(hs.2 p.1 ?_).trans e, n, ne, nf, d⟩
      intro q
      rw [q, hoc] at e
      have q' : oc = p.2 := Option.some.inj e
      exact d w' (by rw [← q']; exact hocd)
theorem store_ok {M : Model} {A : Around} {E : Value → Shared → Prop} {i : Nat} {x : Str} {v : V} {u : Value} {Q : Unit → Shared → Prop} (I : Inv X pins σ H s) (hN : X.N.Nodup) (hi : X.N[i]? = some x) (hx : Loc X.env.scope x) (r : RelV v u)
    (h : ∀ s', Inv X pins (σ.set i (some v)) H s' → Q () s') (hf : X.fn x = true ∨ X.env.scope.names.lookup x = some .local := by first | exact .inl rfl | exact .inr rfl | assumption) : wpAny M A (storeName X.env x u) Q E s :=
  store_ok2 I hN hi hx r (fun s' I' _ => h s' I') hf
/-- behind a call or a block, the state as it is -/
theorem Inv.call' {s' : Shared} {ch : List Addr} (I : Inv X pins σ H s) (ho : s'.os = s.os) (u : Un (frs X.stack) ch H H' s.heap s'.heap) (hok : HOk X.prog X.w H' s'.heap) (hg : AllBare s'.gens)
    (hch : ∀ b ∈ ch, (b ∈ X.ex ∨ X.s₀.heap.objs.size ≤ b) ∧ b ≠ X.env.locals ∧ (∀ x c, X.env.cells.lookup x = some c → c ≠ b) ∧ ∀ p ∈ X.pn ++ pins, p.1 ≠ b) : Inv X pins σ H' s' := by
  obtain ⟨h', g', d', t', o'⟩ := s'
  have e : o' = s.os := ho
  subst e
  exact I.call (g' := g') (t' := t') (d' := d') u hok hg hch
end

/-! ### the judgements -/
/-- an exception: its class, its own dict's address (where it has one), the abstract heap behind it -/
abbrev XK := Value → Option Addr → Hp → Prop
abbrev St := List (Option V)
abbrev VK := V → Hp → Prop
/-- an expression's reading; a test's; an argument list's -/
abbrev TE := St → Hp → VK → Prop
abbrev TT := St → Hp → (Bool → Hp → Prop) → Prop
abbrev TA := St → Hp → (List V → Hp → Prop) → Prop
/-- what is wanted behind a statement -/
structure Ends where
  nx : St → Hp → Prop
  rt : VK
  bk : St → Hp → Prop := fun _ _ => False
  ct : St → Hp → Prop := fun _ _ => False
abbrev TS := Ends → St → Hp → Prop

def EP (X : Cx) (pins : List (Addr × Obj)) (σ : St) (Q : VK) (u : Value) (s' : Shared) : Prop := ∃ v H', Inv X pins σ H' s' ∧ RelV v u ∧ Q v H'
def TP (X : Cx) (pins : List (Addr × Obj)) (σ : St) (Q : Bool → Hp → Prop) (b : Bool) (s' : Shared) : Prop := ∃ H', Inv X pins σ H' s' ∧ Q b H'
def AP (X : Cx) (pins : List (Addr × Obj)) (σ : St) (Q : List V → Hp → Prop) (us : List Value) (s' : Shared) : Prop := ∃ vs H', Inv X pins σ H' s' ∧ Vals vs us ∧ Q vs H'
def SP (X : Cx) (pins : List (Addr × Obj)) (D : Ends) (f : Flow) (s' : Shared) : Prop :=
  match f with
  | .next => ∃ σ' H', Inv X pins σ' H' s' ∧ D.nx σ' H'
  | .brk => ∃ σ' H', Inv X pins σ' H' s' ∧ D.bk σ' H'
  | .cont => ∃ σ' H', Inv X pins σ' H' s' ∧ D.ct σ' H'
  | .ret u => ∃ v σ' H', Inv X pins σ' H' s' ∧ RelV v u ∧ D.rt v H'

def PE (X : Cx) (e : Expr) (t : TE) : Prop :=
  ∀ (pins : List (Addr × Obj)) (s : Shared) (σ : St) (H : Hp) (Q : VK), Inv X pins σ H s → t σ H Q → wpAny (model X.prog X.w) X.A (eval e X.env) (EP X pins σ Q) X.xe s
def PT (X : Cx) (e : Expr) (t : TT) : Prop :=
  ∀ (pins : List (Addr × Obj)) (s : Shared) (σ : St) (H : Hp) (Q : Bool → Hp → Prop), Inv X pins σ H s → t σ H Q → wpAny (model X.prog X.w) X.A (isTrue e X.env (eval e X.env)) (TP X pins σ Q) X.xe s
/-- a test whatever its 'whole' is (and, or) -/
def PW (X : Cx) (e : Expr) (t : TT) : Prop :=
  ∀ (whole : Sem Value) (pins : List (Addr × Obj)) (s : Shared) (σ : St) (H : Hp) (Q : Bool → Hp → Prop), Inv X pins σ H s → t σ H Q → wpAny (model X.prog X.w) X.A (isTrue e X.env whole) (TP X pins σ Q) X.xe s
theorem PW.pt {X : Cx} {e : Expr} {t : TT} (h : PW X e t) : PT X e t := h _
/-- an argument list (no star), from the left -/
def PA (X : Cx) (es : List Expr) (t : TA) : Prop :=
  ∀ (pos : Pos) (pins : List (Addr × Obj)) (s : Shared) (σ : St) (H : Hp) (Q : List V → Hp → Prop), Inv X pins σ H s → t σ H Q → wpAny (model X.prog X.w) X.A (spliced (backTo pos (starEach es X.env))) (AP X pins σ Q) X.xe s
def PS (X : Cx) (st : Stmt) (t : TS) : Prop :=
  ∀ (pins : List (Addr × Obj)) (s : Shared) (σ : St) (H : Hp) (D : Ends), Inv X pins σ H s → t D σ H → wpAny (model X.prog X.w) X.A (exec st X.env) (SP X pins D) X.xe s
def PSs (X : Cx) (st : List Stmt) (t : TS) : Prop :=
  ∀ (pins : List (Addr × Obj)) (s : Shared) (σ : St) (H : Hp) (D : Ends), Inv X pins σ H s → t D σ H → wpAny (model X.prog X.w) X.A (execs st X.env) (SP X pins D) X.xe s
/-- weaken the end -/
theorem thn {α : Type} {t : Sem α} {Q Q' : α → Shared → Prop} {M : Model} {A : Around} {E : Value → Shared → Prop} {s : Shared} (h : wpAny M A t Q E s) (hQ : ∀ a s, Q a s → Q' a s) : wpAny M A t Q' E s := wpAny_mono h hQ fun _ _ x => x
end L2

namespace L2
open PySem PySem.Spec PyProof.Rows
section
variable {X : Cx}

/-! ### names and constants -/
def tVar (i : Nat) : TE := fun σ H Q => ∃ v, σ[i]? = some (some v) ∧ Q v H
def tC (v : V) : TE := fun _ H Q => Q v H
theorem pe_var {i : Nat} {x : Str} {pos : Pos} (hN : X.N[i]? = some x) (hv : Vis X.env.scope x) (hd : (x == ("__debug__" : Str)) = false := by decide) (hcd : (x == ("__classdict__" : Str)) = false := by decide) : PE X (.Name x pos) (tVar i) := by
  intro pins s σ H Q I h
  obtain ⟨v, e, h⟩ := h
  obtain ⟨m, hn, hl⟩ := I.loc
  obtain ⟨u, r, l⟩ := hl i x v hN e hv
  have fin : EP X pins σ Q u s := ⟨v, H, I, r, h⟩
  rcases l with ⟨hk, hm⟩ | ⟨hk, c, hc, hcell⟩
  · exact wpAny_Name (wpAny_loadName_local I.ok.kind hk hn hm fin) hd
  · rcases hk with hk | hk
    · exact wpAny_Name (wpAny_loadName_cell I.ok.kind hk hc hcell fin) hd
    · exact wpAny_Name (wpAny_loadName_free I.ok.kind hk hc hcell fin hcd) hd
theorem pe_int {i j pos} : PE X (.Constant (.int i) j pos) (tC (.int i)) := fun _ _ _ H _ I h => wpAny_Constant_int ⟨.int i, H, I.tok _, ⟨_, rfl⟩, h⟩
theorem pe_bl {b j pos} : PE X (.Constant (.bool b) j pos) (tC (.bl b)) := fun _ _ _ H _ I h => Constant_bool ⟨.bl b, H, I, rfl, h⟩
theorem pe_non {j pos} : PE X (.Constant .none j pos) (tC .non) := fun _ _ _ H _ I h => Constant_none ⟨.non, H, I, rfl, h⟩
theorem pe_str {x j pos} : PE X (.Constant (.str x) j pos) (tC (.str x)) := fun _ _ _ H _ I h => Calls.Constant_str ⟨.str x, H, I.tok _, ⟨_, rfl⟩, h⟩

/-- a global name of the def -/
def Gl (X : Cx) (x : Str) : Prop := X.env.kindOf x = some .globalImplicit
theorem ld_glob {E : Value → Shared → Prop} {pins : List (Addr × Obj)} {s : Shared} {σ : St} {H : Hp} {x : Str} {u : Value} {pos : Pos} {Q : Value → Shared → Prop} (I : Inv X pins σ H s) (hg : Gl X x) (hm : X.mg x = some u) (h : Q u s)
    (hd : (x == ("__debug__" : Str)) = false := by decide) : wpAny (model X.prog X.w) X.A (eval (.Name x pos) X.env) Q E s :=
  Calls.Name_function_global I.ok.kind hg (Calls.loadGlobal_global (by rw [I.ok.glob]; exact I.mod.glob.keeps I.bk) hm h) hd
theorem ld_blt {E : Value → Shared → Prop} {pins : List (Addr × Obj)} {s : Shared} {σ : St} {H : Hp} {x : Str} {u : Value} {pos : Pos} {Q : Value → Shared → Prop} (I : Inv X pins σ H s) (hg : Gl X x) (hm : X.mg x = none) (hv : bootBuiltins x = some u) (h : Q u s)
    (hn : x ≠ "__name__" := by decide) (hd : (x == ("__debug__" : Str)) = false := by decide) : wpAny (model X.prog X.w) X.A (eval (.Name x pos) X.env) Q E s := by
  obtain ⟨mb, h1, h2⟩ := I.mod.blt
  exact Calls.Name_function_global I.ok.kind hg (Calls.loadGlobal_builtin (by rw [I.ok.glob]; exact I.mod.glob.keeps I.bk) hm (by rw [I.ok.blt]; exact h1.keeps I.bk) ((h2 x hn).trans hv) h) hd
/-- a module's constant, a class, a function, as a value -/
theorem pe_glob {x : Str} {v : V} {u : Value} {pos : Pos} (hg : Gl X x) (hm : X.mg x = some u) (r : RelV v u) (hd : (x == ("__debug__" : Str)) = false := by decide) : PE X (.Name x pos) (tC v) :=
  fun _ _ _ H _ I h => ld_glob I hg hm ⟨v, H, I, r, h⟩ hd
/-! ### arithmetic -/
/-- two ints -/
def t2I (ta tb : TE) (k : Int → Int → Hp → Prop) : St → Hp → Prop := fun σ H => ta σ H fun x H1 => tb σ H1 fun y H2 => ∃ i j, x = .int i ∧ y = .int j ∧ k i j H2
def tAdd (ta tb : TE) : TE := fun σ H Q => t2I ta tb (fun i j H2 => Q (.int (i + j)) H2) σ H
def tSub (ta tb : TE) : TE := fun σ H Q => t2I ta tb (fun i j H2 => Q (.int (i - j)) H2) σ H
/-- the left factor below 2^64 -/
def tMul (ta tb : TE) : TE := fun σ H Q => t2I ta tb (fun i j H2 => (-(2 ^ 64) < i ∧ i < 2 ^ 64) ∧ Q (.int (i * j)) H2) σ H
variable {a b : Expr} {ta tb : TE} {pos : Pos}
/-! ### comparisons -/
def PC (X : Cx) (op : CmpOp) (a b : Expr) (t : TE) : Prop :=
  ∀ (pins : List (Addr × Obj)) (s : Shared) (σ : St) (H : Hp) (Q : VK), Inv X pins σ H s → t σ H Q →
    wpAny (model X.prog X.w) X.A (eval a X.env) (fun v s₁ => wpAny (model X.prog X.w) X.A (eval b X.env) (fun u s₂ => wpAny (model X.prog X.w) X.A (compareOp op v u) (EP X pins σ Q) X.xe s₂) X.xe s₁) X.xe s
def tCmp (p : Int → Int → Bool) (ta tb : TE) : TE := fun σ H Q => t2I ta tb (fun i j H2 => Q (.bl (p i j)) H2) σ H
abbrev tLt : TE → TE → TE := tCmp fun i j => decide (i < j)
abbrev tLe : TE → TE → TE := tCmp fun i j => decide (i ≤ j)
abbrev tGt : TE → TE → TE := tCmp fun i j => decide (j < i)
abbrev tGe : TE → TE → TE := tCmp fun i j => decide (j ≤ i)
abbrev tEqI : TE → TE → TE := tCmp fun i j => decide (i = j)
abbrev tNeI : TE → TE → TE := tCmp fun i j => !decide (i = j)
/-- is None -/
def tIsN (ta : TE) : TE := fun σ H Q => ta σ H fun x H1 => Q (.bl (decide (x = .non))) H1
def tNotN (ta : TE) : TE := fun σ H Q => ta σ H fun x H1 => Q (.bl (!decide (x = .non))) H1
/-- a comparison as a value, as a test -/
def tB (t : TE) : TT := fun σ H Q => t σ H fun x H1 => ∃ c, x = .bl c ∧ Q c H1
/-- an expression whose value is a bool, as a test -/
theorem pt_val {e : Expr} {t : TE} (h : PE X e t) (he : ∀ whole, isTrue e X.env whole = (do let v ← whole; standAt e.pos; holding [v] (truthy v)) := by intro _; rfl) : PT X e (tB t) := by
  intro pins s σ H Q I hw
  refine isTrue_plain (thn (h pins s σ H _ I hw) fun v s1 ⟨x, H1, I1, r1, q1⟩ => ?_) (he _)
  obtain ⟨d, rfl, q⟩ := q1
  cases r1
  exact wpAny_truthy_bool ⟨H1, I1, q⟩

/-! ### and, or, not -/
variable {tA tB' : TT} {rest : List Expr}
def tAnd (t u : TT) : TT := fun σ H Q => t σ H fun c H1 => if c = true then u σ H1 Q else Q false H1
def tOr (t u : TT) : TT := fun σ H Q => t σ H fun c H1 => if c = true then Q true H1 else u σ H1 Q
def tNot (t : TT) : TT := fun σ H Q => t σ H fun c H1 => Q (!c) H1
theorem pw_and1 (ha : PT X a tA) : PW X (.BoolOp .And [a] pos) tA := by
  intro wh pins s σ H Q I h
  refine isTrue_and (thn (ha pins s σ H Q I h) fun c s1 e => ?_)
  cases c with
  | true => exact isTrue_and_nil e
  | false => exact e
theorem pw_or1 (ha : PT X a tA) : PW X (.BoolOp .Or [a] pos) tA := by
  intro wh pins s σ H Q I h
  refine isTrue_or (thn (ha pins s σ H Q I h) fun c s1 e => ?_)
  cases c with
  | false => exact isTrue_or_nil e
  | true => exact e
theorem pw_and (ha : PT X a tA) (hb : PW X (.BoolOp .And (b :: rest) pos) tB') : PW X (.BoolOp .And (a :: b :: rest) pos) (tAnd tA tB') := by
  intro wh pins s σ H Q I h
  refine isTrue_and (thn (ha pins s σ H _ I h) fun c s1 ⟨H1, I1, q1⟩ => ?_)
  cases c with
  | true => exact hb wh pins s1 σ H1 Q I1 q1
  | false => exact ⟨H1, I1, q1⟩
theorem pw_or (ha : PT X a tA) (hb : PW X (.BoolOp .Or (b :: rest) pos) tB') : PW X (.BoolOp .Or (a :: b :: rest) pos) (tOr tA tB') := by
  intro wh pins s σ H Q I h
  refine isTrue_or (thn (ha pins s σ H _ I h) fun c s1 ⟨H1, I1, q1⟩ => ?_)
  cases c with
  | true => exact ⟨H1, I1, q1⟩
  | false => exact hb wh pins s1 σ H1 Q I1 q1
theorem pt_not (ha : PT X a tA) : PT X (.UnaryOp .Not a pos) (tNot tA) := by
  intro pins s σ H Q I h
  exact isTrue_not (ha pins s σ H (fun c H1 => Q (!c) H1) I h)
/-- .. as values (bools) -/
def tAndV (ta tb : TE) : TE := fun σ H Q => ta σ H fun x H1 => ∃ c, x = .bl c ∧ if c = true then tb σ H1 Q else Q (.bl false) H1
def tOrV (ta tb : TE) : TE := fun σ H Q => ta σ H fun x H1 => ∃ c, x = .bl c ∧ if c = true then Q (.bl true) H1 else tb σ H1 Q
def tNotV (ta : TE) : TE := fun σ H Q => ta σ H fun x H1 => ∃ c, x = .bl c ∧ Q (.bl (!c)) H1
theorem pe_one {op} {t : TE} (h : PE X a t) : PE X (.BoolOp op [a] pos) t := fun pins s σ H Q I hw => BoolOp_one (h pins s σ H Q I hw)
theorem pe_and (ha : PE X a ta) (hb : PE X (.BoolOp .And (b :: rest) pos) tb) : PE X (.BoolOp .And (a :: b :: rest) pos) (tAndV ta tb) := by
  intro pins s σ H Q I h
  refine BoolOp_and (thn (ha pins s σ H _ I h) fun v s1 ⟨x, H1, I1, r1, q1⟩ => ?_)
  obtain ⟨c, rfl, q1⟩ := q1
  cases r1
  refine wpAny_truthy_bool ?_
  cases c with
  | true => exact hb pins s1 σ H1 Q I1 q1
  | false => exact ⟨.bl false, H1, I1, rfl, q1⟩
theorem pe_or (ha : PE X a ta) (hb : PE X (.BoolOp .Or (b :: rest) pos) tb) : PE X (.BoolOp .Or (a :: b :: rest) pos) (tOrV ta tb) := by
  intro pins s σ H Q I h
  refine BoolOp_or (thn (ha pins s σ H _ I h) fun v s1 ⟨x, H1, I1, r1, q1⟩ => ?_)
  obtain ⟨c, rfl, q1⟩ := q1
  cases r1
  refine wpAny_truthy_bool ?_
  cases c with
  | false => exact hb pins s1 σ H1 Q I1 q1
  | true => exact ⟨.bl true, H1, I1, rfl, q1⟩
/-- a if t else b -/
def tIf (t : TT) (ta tb : TE) : TE := fun σ H Q => t σ H fun c H1 => if c = true then ta σ H1 Q else tb σ H1 Q
theorem pe_ifExp {c : Expr} (hc : PT X c tA) (ha : PE X a ta) (hb : PE X b tb) : PE X (.IfExp c a b pos) (tIf tA ta tb) := by
  intro pins s σ H Q I h
  refine wpAny_IfExp (thn (hc pins s σ H _ I h) fun d s1 ⟨H1, I1, q1⟩ => ?_)
  cases d with
  | true => exact ha pins s1 σ H1 Q I1 q1
  | false => exact hb pins s1 σ H1 Q I1 q1
end
end L2

namespace L2
open PySem PySem.Spec PyProof.Rows

/-! ### a list, a tuple that is read: tracked, frozen, or an object of the module -/
def SqL (K : PySem.W.Frag) (H : Hp) (a : Addr) (xs : List V) : Prop :=
  Rd H a (.lst xs) ∨
    ∃ (o : Obj) (its : Array Value) (n : Nat), K.lookup a = some o ∧ o.cls = .type "list" ∧ o.dict = none ∧ o.data = .seq its n ∧ its.size ≤ sizeLine ∧ Vals xs its.toList
def SqT (K : PySem.W.Frag) (H : Hp) (a : Addr) (xs : List V) : Prop :=
  Rd H a (.tup xs) ∨
    ∃ (o : Obj) (its : Array Value) (n : Nat), K.lookup a = some o ∧ o.cls = .type "tuple" ∧ o.data = .seq its n ∧ its.size ≤ sizeLine ∧ Vals xs its.toList
def absV : Value → Option V
  | .none => some .non
  | .bool b => some (.bl b)
  | .int i _ => some (.int i)
  | .str x _ => some (.str x)
  | .bytes b _ => some (.byt b)
  | .float b _ => some (.flt b)
  | .ref a => some (.ref a)
  | .type n => some (.ty n)
  | _ => none
theorem RelV.abs {x : V} {u : Value} (r : RelV x u) : absV u = some x := by
  cases x with
  | non => cases r; rfl
  | bl _ => cases r; rfl
  | int _ => obtain ⟨t, rfl⟩ := r; rfl
  | str _ => obtain ⟨t, rfl⟩ := r; rfl
  | byt _ => obtain ⟨t, rfl⟩ := r; rfl
  | flt _ => obtain ⟨t, rfl⟩ := r; rfl
  | ref _ => cases r; rfl
  | ty _ => cases r; rfl
theorem RelV.inj {x y : V} {u : Value} (r : RelV x u) (q : RelV y u) : x = y := Option.some.inj (r.abs.symm.trans q.abs)
theorem Vals.inj : ∀ {xs ys : List V} {us : List Value}, Vals xs us → Vals ys us → xs = ys
  | _, _, _, .nil, .nil => rfl
  | _, _, _, .cons r t, .cons r' t' => by rw [r.inj r', Vals.inj t t']
section
variable {X : Cx} {pins : List (Addr × Obj)} {σ : St} {H : Hp} {s : Shared} {a : Addr} {xs ys : List V}
theorem SqL.of {K : PySem.W.Frag} (h : H a = some (.lst xs)) : SqL K H a xs := .inl (.inl h)
theorem SqT.of {K : PySem.W.Frag} (h : H a = some (.tup xs)) : SqT K H a xs := .inl (.inl h)
theorem Inv.list (I : Inv X pins σ H s) (h : SqL X.K H a xs) : ∃ its : List Value, Vals xs its ∧ PlainL s.heap a its.toArray ∧ xs.length ≤ sizeLine := by
  rcases h with h | ⟨o, its, n, hk, hc, hd, hs, hz, r⟩
  · obtain ⟨z, its, n, r, e⟩ := h.ok I.hok
    exact ⟨its, r, ⟨_, n, e, rfl, rfl, rfl⟩, z⟩
  · refine ⟨its.toList, r, ⟨o, n, I.kIn a o hk, hc, hd, by simpa using hs⟩, ?_⟩
    have e := r.length
    simp only [Array.length_toList] at e
    omega
theorem Inv.tuple (I : Inv X pins σ H s) (h : SqT X.K H a xs) : ∃ its : List Value, Vals xs its ∧ IsTup s.heap a its.toArray ∧ xs.length ≤ sizeLine := by
  rcases h with h | ⟨o, its, n, hk, hc, hs, hz, r⟩
  · obtain ⟨z, its, r, p⟩ := h.ok I.hok
    exact ⟨its, r, p, z⟩
  · refine ⟨its.toList, r, ⟨o, I.kIn a o hk, hc, n, by simpa using hs⟩, ?_⟩
    have e := r.length
    simp only [Array.length_toList] at e
    omega
theorem Inv.list_inj (I : Inv X pins σ H s) (h : SqL X.K H a xs) (h' : SqL X.K H a ys) : xs = ys := by
  obtain ⟨its, r, ⟨o, n, e, _, _, d⟩, _⟩ := I.list h
  obtain ⟨its', r', ⟨o', n', e', _, _, d'⟩, _⟩ := I.list h'
  rw [e] at e'; cases e'
  rw [d] at d'
  injection d' with d1 _
  have : its = its' := by simpa using congrArg Array.toList d1
  subst this
  exact r.inj r'
theorem Inv.tuple_inj (I : Inv X pins σ H s) (h : SqT X.K H a xs) (h' : SqT X.K H a ys) : xs = ys := by
  obtain ⟨its, r, ⟨o, e, _, n, d⟩, _⟩ := I.tuple h
  obtain ⟨its', r', ⟨o', e', _, n', d'⟩, _⟩ := I.tuple h'
  rw [e] at e'; cases e'
  rw [d] at d'
  injection d' with d1 _
  have : its = its' := by simpa using congrArg Array.toList d1
  subst this
  exact r.inj r'
end

/-! ### another wish about exceptions -/
abbrev Cx.wish (X : Cx) (E : Value → Shared → Prop) : Cx := { X with xe := E }
/-- no exception leaves -/
abbrev Cx.nox (X : Cx) : Cx := X.wish fun _ _ => False
theorem Cx.Ok.wish {X : Cx} (ok : X.Ok) (E : Value → Shared → Prop) : (X.wish E).Ok :=
  ⟨ok.mod, ok.kind, ok.glob, ok.blt, ok.above, ok.inj, ok.has, ok.cab, ok.hd, ok.frames, ok.stk, ok.exf, ok.bs, ok.bsz, ok.noex, ok.exfs, ok.funs, ok.frf⟩
theorem Cx.Ok.unwish {X : Cx} {E : Value → Shared → Prop} (ok : (X.wish E).Ok) : X.Ok :=
  ⟨ok.mod, ok.kind, ok.glob, ok.blt, ok.above, ok.inj, ok.has, ok.cab, ok.hd, ok.frames, ok.stk, ok.exf, ok.bs, ok.bsz, ok.noex, ok.exfs, ok.funs, ok.frf⟩
section
variable {X : Cx} {pins : List (Addr × Obj)} {σ : St} {H : Hp} {s : Shared} {E : Value → Shared → Prop}
theorem Inv.wish (I : Inv X pins σ H s) (E : Value → Shared → Prop) : Inv (X.wish E) pins σ H s := ⟨I.ok.wish E, I.os, I.bare, I.base, I.loc, I.cell, I.free, I.freeC, I.pin, I.hok, I.len⟩
theorem Inv.unwish (I : Inv (X.wish E) pins σ H s) : Inv X pins σ H s := ⟨I.ok.unwish, I.os, I.bare, I.base, I.loc, I.cell, I.free, I.freeC, I.pin, I.hok, I.len⟩
theorem SP.unwish {D : Ends} {f : Flow} {s' : Shared} (h : SP (X.wish E) pins D f s') : SP X pins D f s' := by
  cases f with
  | next => obtain ⟨σ', H', I, q⟩ := h; exact ⟨σ', H', I.unwish, q⟩
  | brk => obtain ⟨σ', H', I, q⟩ := h; exact ⟨σ', H', I.unwish, q⟩
  | cont => obtain ⟨σ', H', I, q⟩ := h; exact ⟨σ', H', I.unwish, q⟩
  | ret u => obtain ⟨v, σ', H', I, r, q⟩ := h; exact ⟨v, σ', H', I.unwish, r, q⟩
theorem PE.nox {e : Expr} {t : TE} (h : PE X.nox e t) : PE X e t := fun pins s σ H Q I hw =>
  wpAny_mono (h pins s σ H Q (I.wish _) hw) (fun _ _ ⟨v, H', I', r, q⟩ => ⟨v, H', I'.unwish, r, q⟩) fun _ _ z => False.elim z
theorem PT.nox {e : Expr} {t : TT} (h : PT X.nox e t) : PT X e t := fun pins s σ H Q I hw =>
  wpAny_mono (h pins s σ H Q (I.wish _) hw) (fun _ _ ⟨H', I', q⟩ => ⟨H', I'.unwish, q⟩) fun _ _ z => False.elim z
theorem PSs.nox {st : List Stmt} {t : TS} (h : PSs X.nox st t) : PSs X st t := fun pins s σ H D I hw =>
  wpAny_mono (h pins s σ H D (I.wish _) hw) (fun _ _ q => q.unwish) fun _ _ z => False.elim z
end

/-! ### blocks and small statements -/
section
variable {X : Cx} {st : Stmt} {rest : List Stmt} {t u : TS} {e : Expr} {te : TE} {pos : Pos}
def tNext : TS := fun D σ H => D.nx σ H
def tSeq (t u : TS) : TS := fun D σ H => t { D with nx := u D } σ H
theorem pss_nil : PSs X [] tNext := fun _ _ σ H _ I h => wpAny_execs_nil ⟨σ, H, I, h⟩
theorem pss_cons (h1 : PS X st t) (h2 : PSs X rest u) : PSs X (st :: rest) (tSeq t u) := by
  intro pins s σ H D I h
  refine wpAny_execs_cons (thn (h1 pins s σ H { D with nx := u D } I h) fun f s1 q => ?_)
  cases f with
  | next =>
    obtain ⟨σ', H', I', q⟩ := q
    exact h2 pins s1 σ' H' D I' q
  | ret v => exact q
  | brk => exact q
  | cont => exact q
theorem pss_one (h1 : PS X st t) : PSs X [st] t := by
  intro pins s σ H D I h
  refine wpAny_execs_cons (thn (h1 pins s σ H D I h) fun f s1 q => ?_)
  cases f with
  | next => exact wpAny_execs_nil q
  | ret v => exact q
  | brk => exact q
  | cont => exact q
def tBreak : TS := fun D σ H => D.bk σ H
def tCont : TS := fun D σ H => D.ct σ H
theorem ps_break : PS X (.Break pos) tBreak := fun _ _ σ H _ I h => wpAny_Break ⟨σ, H, I, h⟩
theorem ps_continue : PS X (.Continue pos) tCont := fun _ _ σ H _ I h => wpAny_Continue ⟨σ, H, I, h⟩
/-- in a def's body nothing is shown -/
theorem Inv.quiet {pins : List (Addr × Obj)} {σ : St} {H : Hp} {s : Shared} (I : Inv X pins σ H s) : interactive X.env = false := by simp [interactive, I.ok.kind]
/-- an expression whose value is dropped -/
def tDrop (te : TE) : TS := fun D σ H => te σ H fun _ H1 => D.nx σ H1
theorem ps_expr (he : PE X e te) (hs : swapsWith e none pos.line X.env = pure false := by rfl) : PS X (.Expr e pos) (tDrop te) := by
  intro pins s σ H D I h
  exact wpAny_Expr_any (thn (he pins s σ H _ I h) fun v s1 ⟨x, H1, I1, r1, q1⟩ => ⟨σ, H1, I1, q1⟩) I.quiet hs
def tRet (te : TE) : TS := fun D σ H => te σ H D.rt
theorem ps_ret (he : PE X e te) : PS X (.Return (some e) pos) (tRet te) := by
  intro pins s σ H D I h
  exact wpAny_Return_some (thn (he pins s σ H _ I h) fun v s1 ⟨x, H1, I1, r1, q1⟩ => ⟨x, σ, H1, I1, r1, q1⟩)
def tRetN : TS := fun D _ H => D.rt .non H
def tIfS (c : TT) (t u : TS) : TS := fun D σ H => c σ H fun b H1 => if b = true then t D σ H1 else u D σ H1
theorem ps_if {c : Expr} {a b : List Stmt} {tc : TT} (hc : PT X c tc) (ha : PSs X a t) (hb : PSs X b u) : PS X (.If c a b pos) (tIfS tc t u) := by
  intro pins s σ H D I h
  refine wpAny_If (thn (hc pins s σ H _ I h) fun d s1 ⟨H1, I1, q1⟩ => ?_)
  cases d with
  | true => exact ha pins s1 σ H1 D I1 q1
  | false => exact hb pins s1 σ H1 D I1 q1
/-- code that the proof never comes to -/
def tNever : TS := fun _ _ _ => False
end

/-! ### targets -/
abbrev TG := V → St → Hp → (St → Hp → Prop) → Prop
abbrev TGs := List V → St → Hp → (St → Hp → Prop) → Prop
def PG (X : Cx) (target : Expr) (t : TG) : Prop :=
  ∀ (pins : List (Addr × Obj)) (s : Shared) (σ : St) (H : Hp) (v : V) (u : Value) (Q : St → Hp → Prop), Inv X pins σ H s → RelV v u → t v σ H Q →
    wpAny (model X.prog X.w) X.A (assign target X.env u) (fun _ s' => ∃ σ' H', Inv X pins σ' H' s' ∧ Q σ' H') X.xe s
/-- several targets, one after another -/
def PGs (X : Cx) (ts : List Expr) (t : TGs) : Prop :=
  ∀ (pins : List (Addr × Obj)) (s : Shared) (σ : St) (H : Hp) (vs : List V) (us : List Value) (Q : St → Hp → Prop), Inv X pins σ H s → Vals vs us → t vs σ H Q →
    wpAny (model X.prog X.w) X.A (assignInOrder ((assignEach ts X.env).map (·.2)) us) (fun _ s' => ∃ σ' H', Inv X pins σ' H' s' ∧ Q σ' H') X.xe s
/-- o[i] = v, by values -/
abbrev TSet := V → V → V → Hp → (Hp → Prop) → Prop
def PSet (X : Cx) (t : TSet) : Prop :=
  ∀ (pins : List (Addr × Obj)) (s : Shared) (σ : St) (H : Hp) (o i v : V) (ov iv u : Value) (Q : Hp → Prop), Inv X pins σ H s → RelV o ov → RelV i iv → RelV v u → t o i v H Q →
    wpAny (model X.prog X.w) X.A (setItem ov iv u) (fun _ s' => ∃ H', Inv X pins σ H' s' ∧ Q H') X.xe s
/-- a op= b, by values -/
abbrev TIp := V → V → Hp → VK → Prop
def PIp (X : Cx) (op : Operator) (t : TIp) : Prop :=
  ∀ (pins : List (Addr × Obj)) (s : Shared) (σ : St) (H : Hp) (x y : V) (v u : Value) (Q : VK), Inv X pins σ H s → RelV x v → RelV y u → t x y H Q →
    wpAny (model X.prog X.w) X.A (inplaceOp op v u) (EP X pins σ Q) X.xe s
section
variable {X : Cx} {pos : Pos}
def gName (i : Nat) : TG := fun v σ H Q => Q (σ.set i (some v)) H
theorem pg_name {i : Nat} {x : Str} (hN : X.N.Nodup) (hi : X.N[i]? = some x) (hx : Loc X.env.scope x) (hf : X.fn x = true ∨ X.env.scope.names.lookup x = some .local := by first | exact .inl rfl | exact .inr rfl | assumption) : PG X (.Name x pos) (gName i) := by
  intro pins s σ H v u Q I r h
  exact wpAny_assign_Name (store_ok I hN hi hx r (fun s' I' => ⟨_, H, I', h⟩) hf)
def gNil : TGs := fun vs σ H Q => vs = [] ∧ Q σ H
def gCons (t : TG) (u : TGs) : TGs := fun vs σ H Q => ∃ v r, vs = v :: r ∧ t v σ H fun σ' H' => u r σ' H' Q
theorem pgs_nil : PGs X [] gNil := by
  intro pins s σ H vs us Q I r h
  obtain ⟨e, h⟩ := h
  subst e
  cases r
  exact assignInOrder_nil ⟨σ, H, I, h⟩
theorem pgs_cons {e : Expr} {es : List Expr} {t : TG} {u : TGs} (h1 : PG X e t) (h2 : PGs X es u)
    (hs : (assignEach (e :: es) X.env).map (·.2) = assign e X.env :: (assignEach es X.env).map (·.2) := by rfl) : PGs X (e :: es) (gCons t u) := by
  intro pins s σ H vs us Q I r h
  obtain ⟨v, vr, e1, h⟩ := h
  subst e1
  cases r with
  | cons r rr =>
    rw [hs]
    refine assignInOrder_cons (thn (h1 pins s σ H _ _ _ I r h) fun _ s1 ⟨σ1, H1, I1, q1⟩ => ?_)
    exact h2 pins s1 σ1 H1 _ _ Q I1 rr q1
/-- (a, b, ..) = a tuple of that length -/
def gTup (K : PySem.W.Frag) (n : Nat) (t : TGs) : TG := fun v σ H Q => ∃ a xs, v = .ref a ∧ SqT K H a xs ∧ xs.length = n ∧ t xs σ H Q
theorem pg_tup {es : List Expr} {k : Nat} {t : TGs} {n : Nat} (hc : X.calm = true) (h : PGs X es t)
    (hn : (assignEach es X.env).length = n := by rfl) (hst : (assignEach es X.env).findIdx? (·.1) = none := by rfl) : PG X (.Tuple es k pos) (gTup X.K n t) := by
  intro pins s σ H v u Q I r hw
  obtain ⟨a, xs, e1, hq, hl, hw⟩ := hw
  subst e1
  cases r
  obtain ⟨its, rv, ht, hz⟩ := I.tuple hq
  refine assign_Tuple_tuple (I.ok.hd hc) ht (by simp [hn, ← hl, rv.length]) hst fun h' hx => ?_
  have I1 : Inv X pins σ H { s with heap := h' } := I.kept (t' := s.toks) fun b o e => hx b o (Nat.ne_of_lt (Heap.lt_size e)) e
  exact h pins _ σ H xs _ Q I1 (by simpa using rv) hw
/-- o[i] = .. -/
def gSub (to ti : TE) (t : TSet) : TG := fun v σ H Q => to σ H fun o H1 => ti σ H1 fun i H2 => t o i v H2 fun H3 => Q σ H3
/-- target = value -/
def tAsg (te : TE) (g : TG) : TS := fun D σ H => te σ H fun x H1 => g x σ H1 D.nx
theorem ps_asg {tg e : Expr} {te : TE} {g : TG} (he : PE X e te) (hg : PG X tg g) (hs : swapsWithSole [tg] e pos.line X.env = pure false := by rfl) (hw : swappedStores [tg] e X.env = pure none := by rfl)
    (h1 : (assignEach [tg] X.env).map (·.2) = [assign tg X.env] := by rfl) : PS X (.Assign [tg] e pos) (tAsg te g) := by
  intro pins s σ H D I h
  refine wpAny_Assign_stores (thn (he pins s σ H _ I h) fun v s1 ⟨x, H1, I1, r1, q1⟩ => ?_) hs hw
  rw [h1]
  exact thn (hg pins s1 σ H1 x v _ I1 r1 q1) fun _ s2 q => q
/-- name = value -/
theorem ps_set {i : Nat} {x : Str} {e : Expr} {te : TE} {pos' : Pos} (hN : X.N.Nodup) (hi : X.N[i]? = some x) (hx : Loc X.env.scope x) (he : PE X e te) (hs : swapsWith e (some (.Name x pos')) pos.line X.env = pure false := by rfl) (hf : X.fn x = true ∨ X.env.scope.names.lookup x = some .local := by first | exact .inl rfl | exact .inr rfl | assumption) :
    PS X (.Assign [.Name x pos'] e pos) (tAsg te (gName i)) := by
  intro pins s σ H D I h
  refine wpAny_Assign_Name (thn (he pins s σ H _ I h) fun v s1 ⟨y, H1, I1, r1, q1⟩ => ?_) hs
  exact store_ok I1 hN hi hx r1 (fun s2 I2 => ⟨_, H1, I2, q1⟩) hf
/-- a, b = x, y with plain local names: stored from the right; the pair itself is not tracked (the opening rows as in PyProof/Rows/TupAssign.lean:23) -/
def tPar (i j : Nat) (ta : TA) : TS := fun D σ H => ta σ H fun vs H1 => ∃ v w, vs = [v, w] ∧ D.nx ((σ.set i (some v)).set j (some w)) H1
/-- name op= e -/
def tAug (i : Nat) (te : TE) (ti : TIp) : TS := fun D σ H => ∃ x, σ[i]? = some (some x) ∧ te σ H fun y H1 => ti x y H1 fun z H2 => D.nx (σ.set i (some z)) H2
/-- o[i] op= e -/
def tAugS (to ti te : TE) (tget : V → V → Hp → VK → Prop) (tip : TIp) (tset : TSet) : TS := fun D σ H => to σ H fun o H1 => ti σ H1 fun i H2 => tget o i H2 fun x H3 => te σ H3 fun y H4 => tip x y H4 fun z H5 => tset o i z H5 fun H6 => D.nx σ H6
/-- o[i], by values -/
def PGet (X : Cx) (t : V → V → Hp → VK → Prop) : Prop :=
  ∀ (pins : List (Addr × Obj)) (s : Shared) (σ : St) (H : Hp) (o i : V) (ov iv : Value) (Q : VK), Inv X pins σ H s → RelV o ov → RelV i iv → t o i H Q →
    wpAny (model X.prog X.w) X.A (getItem ov iv) (EP X pins σ Q) X.xe s
/-- ints -/
def ipI (f : Int → Int → Int) : TIp := fun x y H Q => ∃ i j, x = .int i ∧ y = .int j ∧ Q (.int (f i j)) H
end

/-! ### while -/
section
variable {X : Cx} {pos : Pos}
/-- the invariant W with its measure -/
def tWhile (c : TT) (tb : TS) : TS := fun D σ H => ∃ W : Nat → St → Hp → Prop, (∃ m, W m σ H) ∧ ∀ m σ H, W m σ H →
  c σ H fun b H1 => if b = true then ∃ N : St → Hp → Prop, (∀ σ' H', N σ' H' → ∃ m', m' < m ∧ W m' σ' H') ∧ tb { D with nx := N, ct := N, bk := D.nx } σ H1 else D.nx σ H1
end

/-! ### what a loop or a comprehension walks -/
/-- at turn i: it yields x (the heap may grow), or it stops -/
structure It where
  go : Nat → Hp → Prop
  yld : Nat → Hp → V → Hp → Prop
  stop : Nat → Hp → Prop
/-- the iterator's own objects may turn: they are not the frame's, not pinned, younger than the entry (or a comprehension's own) -/
def FpOk (X : Cx) (pins : List (Addr × Obj)) (H : Hp) (b : Addr) : Prop :=
  H b = none ∧ b ≠ X.env.locals ∧ b ∉ X.fs ∧ (b ∈ X.ex ∨ X.s₀.heap.objs.size ≤ b) ∧ (∀ x c, X.env.cells.lookup x = some c → c ≠ b) ∧ ∀ p ∈ X.pn ++ pins, p.1 ≠ b
theorem Inv.fpOk {X : Cx} {pins : List (Addr × Obj)} {σ : St} {H H' : Hp} {s : Shared} {b : Addr} (I : Inv X pins σ H s) (hb : s.heap.objs.size ≤ b) (hn : H' b = none) : FpOk X pins H' b := by
  refine ⟨hn, Nat.ne_of_gt (Nat.lt_of_lt_of_le I.lt hb), I.nofs hb, .inr (Nat.le_trans I.sz hb), fun x c e z => ?_, fun p hp z => ?_⟩
  · obtain ⟨v, q⟩ := I.cell x c e
    exact absurd (Nat.lt_of_lt_of_le q.lt (by rw [z]; exact hb)) (Nat.lt_irrefl _)
  · exact absurd (Nat.lt_of_lt_of_le (Heap.lt_size (I.pin p hp).1) (by rw [z]; exact hb)) (Nat.lt_irrefl _)
structure Turn (P : Program) (w : World) (K : PySem.W.Frag) (tg : Expr) (J : It) (fp : List Addr) (it : Addr) (tn : Nat → Heap → Prop) : Prop where
  mem : it ∈ fp
  obj : ∀ i h, tn i h → ∀ b ∈ fp, ∃ o, h.get? b = some o ∧ ∀ v, o.data ≠ .cell v
  keep : ∀ i h h', tn i h → (∀ b ∈ fp, ∀ o, h.get? b = some o → h'.get? b = some o) → tn i h'
  item : ∀ (X : Cx), X.prog = P → X.w = w → X.K = K → X.calm = true → ∀ (i : Nat) (pins : List (Addr × Obj)) (s : Shared) (σ : St) (H : Hp) (E : Value → Shared → Prop), Inv X pins σ H s → (∀ b ∈ fp, FpOk X pins H b) → tn i s.heap → J.go i H →
    wpAny (model P w) X.A (pyNext (.ref it)) (fun r s1 => ∃ u, r = some u ∧
      wpAny (model P w) X.A (letOwnedTupleGo tg (.ref it) u) (fun _ s2 => ∃ x H', Inv X pins σ H' s2 ∧ RelV x u ∧ J.yld i H x H' ∧ tn (i + 1) s2.heap ∧ ∀ b ∈ fp, H' b = none) E s1) E s
  done : ∀ (X : Cx), X.prog = P → X.w = w → X.K = K → X.calm = true → ∀ (i : Nat) (pins : List (Addr × Obj)) (s : Shared) (σ : St) (H : Hp) (E : Value → Shared → Prop), Inv X pins σ H s → (∀ b ∈ fp, FpOk X pins H b) → tn i s.heap → J.stop i H →
    wpAny (model P w) X.A (pyNext (.ref it)) (fun r s1 => r = none ∧ Inv X pins σ H s1) E s
  self : ∀ (A : Around) (i : Nat) (s : Shared) (Q : Value → Shared → Prop) (E : Value → Shared → Prop), tn i s.heap → Q (.ref it) s → wpAny (model P w) A (pyIter (.ref it)) Q E s
abbrev TI := St → Hp → (It → Hp → Prop) → Prop
/-- an iterator has come -/
def PIE (X : Cx) (pins : List (Addr × Obj)) (σ : St) (tg : Expr) (R : It → Hp → Prop) (itv : Value) (s2 : Shared) : Prop :=
  ∃ (it : Addr) (fp : List Addr) (tn : Nat → Heap → Prop) (J : It) (H' : Hp), itv = .ref it ∧ Inv X pins σ H' s2 ∧ Turn X.prog X.w X.K tg J fp it tn ∧ tn 0 s2.heap ∧ (∀ b ∈ fp, FpOk X pins H' b) ∧ R J H'
def PI (X : Cx) (tg iter : Expr) (wi : TI) : Prop :=
  ∀ (pins : List (Addr × Obj)) (s : Shared) (σ : St) (H : Hp) (R : It → Hp → Prop), Inv X pins σ H s → wi σ H R →
    wpAny (model X.prog X.w) X.A (eval iter X.env) (fun v s1 => wpAny (model X.prog X.w) X.A (pyIter v) (PIE X pins σ tg R) X.xe s1) X.xe s

/-- the step ahead of the store is nothing for an iterator that keeps no tuple -/
theorem go_of {M : Model} {A : Around} {E : Value → Shared → Prop} {s : Shared} {tg : Expr} {it : Addr} {u : Value} {o : Obj} {n : String} {vs : Array Value} {Q : Unit → Shared → Prop} (ho : s.heap.get? it = some o) (hc : o.cls = .type n) (hd : o.data = .fields vs)
    (hn : ["enumerate", "zip", "dict_itemiterator", "dict_reverseitemiterator", "odict_iterator", "itertools.zip_longest", "itertools.pairwise"].contains n = false) (hQ : Q () s) : wpAny M A (letOwnedTupleGo tg (.ref it) u) Q E s := by
  unfold letOwnedTupleGo
  cases tg <;> first
    | exact wpAny_pure hQ
    | (cases u <;> first
        | exact wpAny_pure hQ
        | (refine wpAny_bind (wpAny_load ho ?_)
           rw [hc, hd]
           show wpAny M A (if (["enumerate", "zip", "dict_itemiterator", "dict_reverseitemiterator", "odict_iterator", "itertools.zip_longest", "itertools.pairwise"].contains n && vs[0]? == some (rawInt _)) = true then _ else _) Q E s
           rw [if_neg (by intro h; rw [hn, Bool.false_and] at h; cases h)]
           exact wpAny_pure hQ))

/-- the list at a, as it stands at each turn (a loop may append to it) -/
def Itl (K : PySem.W.Frag) (a : Addr) : It :=
  ⟨fun i H => ∃ xs x, SqL K H a xs ∧ xs[i]? = some x, fun i H x H' => H' = H ∧ ∀ xs, SqL K H a xs → xs[i]? = some x, fun i H => ∃ xs, SqL K H a xs ∧ xs.length ≤ i⟩
def Itt (K : PySem.W.Frag) (a : Addr) : It :=
  ⟨fun i H => ∃ xs x, SqT K H a xs ∧ xs[i]? = some x, fun i H x H' => H' = H ∧ ∀ xs, SqT K H a xs → xs[i]? = some x, fun i H => ∃ xs, SqT K H a xs ∧ xs.length ≤ i⟩
/-- lo, lo + 1, .. (n of them) -/
def Itr (lo : Int) (n : Nat) : It := ⟨fun i _ => i < n, fun i H x H' => H' = H ∧ x = .int (lo + i), fun i _ => n ≤ i⟩
theorem turn_list {P : Program} {w : World} {K : PySem.W.Frag} {tg : Expr} (a it : Addr) : Turn P w K tg (Itl K a) [it] it (fun i h => h.IsListIter it a i) where
  mem := by simp
  obj := fun i h st b hb => by
    have e : b = it := by simpa using hb
    subst e
    obtain ⟨o, e, c, d⟩ := st
    exact ⟨o, e, fun v z => by rw [d] at z; cases z⟩
  keep := fun i h h' st k => st.at fun o e => k it (by simp) o e
  item := by
    intro X hP hw hK hc i pins s σ H E I hf st hg
    subst hP hw hK
    obtain ⟨xs, x, hq, hx⟩ := hg
    obtain ⟨its, rv, p, hz⟩ := I.list hq
    obtain ⟨u, hu, ru⟩ := rv.get hx
    obtain ⟨f0, f1, f2, f3, f4, f5⟩ := hf it (by simp)
    refine wpAny_pyNext_list_item st p.isList (x := u) (by simpa using hu) fun h' st' sb => ?_
    have I1 : Inv X pins σ H { s with heap := h' } := I.turned (t' := s.toks) (fun b o hb e => (sb.2 b hb).trans e) f0 f1 f3 f4 f5
    obtain ⟨o, e, c, d⟩ := id st'
    exact ⟨u, rfl, go_of (s := { s with heap := h' }) e c d (by decide) ⟨x, H, I1, ru, ⟨rfl, fun ys hy => by rw [I.list_inj hy hq]; exact hx⟩, st', fun b hb => (hf b hb).1⟩⟩
  done := by
    intro X hP hw hK hc i pins s σ H E I hf st hg
    subst hP hw hK
    obtain ⟨xs, hq, hx⟩ := hg
    obtain ⟨its, rv, p, hz⟩ := I.list hq
    obtain ⟨f0, f1, f2, f3, f4, f5⟩ := hf it (by simp)
    have hl := rv.length
    exact wpAny_pyNext_list_end (I.ok.hd hc) st p.isList (by simp; omega) fun h' eb => ⟨rfl, I.turned (t' := s.toks) (fun b o hb e => eb b o hb e) f0 f1 f3 f4 f5⟩
  self := fun _ _ _ _ _ st h => wpAny_pyIter_listiter st h
theorem turn_tuple {P : Program} {w : World} {K : PySem.W.Frag} {tg : Expr} (a it : Addr) : Turn P w K tg (Itt K a) [it] it (fun i h => h.IsTupleIter it a i) where
  mem := by simp
  obj := fun i h st b hb => by
    have e : b = it := by simpa using hb
    subst e
    obtain ⟨o, e, c, d⟩ := st
    exact ⟨o, e, fun v z => by rw [d] at z; cases z⟩
  keep := fun i h h' st k => st.at fun o e => k it (by simp) o e
  item := by
    intro X hP hw hK hc i pins s σ H E I hf st hg
    subst hP hw hK
    obtain ⟨xs, x, hq, hx⟩ := hg
    obtain ⟨its, rv, p, hz⟩ := I.tuple hq
    obtain ⟨u, hu, ru⟩ := rv.get hx
    obtain ⟨f0, f1, f2, f3, f4, f5⟩ := hf it (by simp)
    refine wpAny_pyNext_tuple_item st (show s.heap.IsTuple a its.toArray from p) (x := u) (by simpa using hu) fun h' st' sb => ?_
    have I1 : Inv X pins σ H { s with heap := h' } := I.turned (t' := s.toks) (fun b o hb e => (sb.2 b hb).trans e) f0 f1 f3 f4 f5
    obtain ⟨o, e, c, d⟩ := id st'
    exact ⟨u, rfl, go_of (s := { s with heap := h' }) e c d (by decide) ⟨x, H, I1, ru, ⟨rfl, fun ys hy => by rw [I.tuple_inj hy hq]; exact hx⟩, st', fun b hb => (hf b hb).1⟩⟩
  done := by
    intro X hP hw hK hc i pins s σ H E I hf st hg
    subst hP hw hK
    obtain ⟨xs, hq, hx⟩ := hg
    obtain ⟨its, rv, p, hz⟩ := I.tuple hq
    obtain ⟨f0, f1, f2, f3, f4, f5⟩ := hf it (by simp)
    have hl := rv.length
    exact wpAny_pyNext_tuple_end (I.ok.hd hc) st (show s.heap.IsTuple a its.toArray from p) (by simp; omega) fun h' eb => ⟨rfl, I.turned (t' := s.toks) (fun b o hb e => eb b o hb e) f0 f1 f3 f4 f5⟩
  self := fun _ _ _ _ _ st h => wpAny_pyIter_tupleiter st h
theorem turn_range {P : Program} {w : World} {K : PySem.W.Frag} {tg : Expr} (it : Addr) (lo : Int) (n : Nat) : Turn P w K tg (Itr lo n) [it] it (fun i h => IsRangeIter h it (lo + (i : Nat) * 1) ((n : Int) - (i : Nat)) 1) where
  mem := by simp
  obj := fun i h st b hb => by
    have e : b = it := by simpa using hb
    subst e
    exact ⟨_, st, fun v z => by
      have z' : Data.fields _ = Data.cell v := z
      cases z'⟩
  keep := fun i h h' st k => k it (by simp) _ st
  item := by
    intro X hP hw hK hc i pins s σ H E I hf st hg
    subst hP hw hK
    obtain ⟨f0, f1, f2, f3, f4, f5⟩ := hf it (by simp)
    have W := Walks.range (prog := X.prog) (w := X.w) (I.ok.hd hc) it lo 1 n
    refine W.item i s _ _ hg st fun v h' tk hv st' kk => ?_
    obtain ⟨t, rfl⟩ := hv
    have I1 : Inv X pins σ H { s with heap := h', toks := tk } := I.turned (fun b o hb e => kk b o (by simpa using hb) e) f0 f1 f3 f4 f5
    refine ⟨_, rfl, go_of (s := { s with heap := h', toks := tk }) (n := "range_iterator") st' rfl rfl (by decide) ⟨.int (lo + i), H, I1, ⟨t, ?_⟩, ⟨rfl, rfl⟩, st', fun b hb => (hf b hb).1⟩⟩
    rw [Int.mul_one]
  done := by
    intro X hP hw hK hc i pins s σ H E I hf st hg
    subst hP hw hK
    obtain ⟨f0, f1, f2, f3, f4, f5⟩ := hf it (by simp)
    exact wpAny_pyNext_range_end (I.ok.hd hc) st (by have : n ≤ i := hg; omega) fun h' eb => ⟨rfl, I.turned (t' := s.toks) (fun b o hb e => eb b o hb e) f0 f1 f3 f4 f5⟩
  self := fun _ _ _ _ _ st h => wpAny_pyIter_rangeiter st h
end L2

namespace L2
open PySem PySem.Spec PyProof.Rows
section
variable {X : Cx} {tg : Expr}
def iList (K : PySem.W.Frag) (tl : TE) : TI := fun σ H R => tl σ H fun x H1 => ∃ a, x = .ref a ∧ (∃ xs, SqL K H1 a xs) ∧ R (Itl K a) H1
def iTup (K : PySem.W.Frag) (tl : TE) : TI := fun σ H R => tl σ H fun x H1 => ∃ a, x = .ref a ∧ (∃ xs, SqT K H1 a xs) ∧ R (Itt K a) H1
theorem pi_list {l : Expr} {tl : TE} (hl : PE X l tl) : PI X tg l (iList X.K tl) := by
  intro pins s σ H R I h
  refine thn (hl pins s σ H _ I h) fun v s1 ⟨x, H1, I1, r1, q1⟩ => ?_
  obtain ⟨a, e, ⟨xs, hq⟩, q⟩ := q1
  subst e
  cases r1
  obtain ⟨its, rv, p, hz⟩ := I1.list hq
  refine wpAny_pyIter_list p.isList ?_
  refine ⟨s1.heap.objs.size, [s1.heap.objs.size], _, _, H1, rfl, I1.kept (t' := s1.toks) fun b o e => Heap.get?_push_of_some _ e, turn_list a _, ⟨_, Heap.get?_push_size _ rfl, rfl, rfl⟩, fun b hb => ?_, q⟩
  have e : b = s1.heap.objs.size := by simpa using hb
  subst e
  exact I1.fpOk (Nat.le_refl _) (I1.hok.fresh (Nat.le_refl _))
theorem pi_tup {l : Expr} {tl : TE} (hl : PE X l tl) : PI X tg l (iTup X.K tl) := by
  intro pins s σ H R I h
  refine thn (hl pins s σ H _ I h) fun v s1 ⟨x, H1, I1, r1, q1⟩ => ?_
  obtain ⟨a, e, ⟨xs, hq⟩, q⟩ := q1
  subst e
  cases r1
  obtain ⟨its, rv, p, hz⟩ := I1.tuple hq
  refine wpAny_pyIter_tuple (show s1.heap.IsTuple a its.toArray from p) ?_
  refine ⟨s1.heap.objs.size, [s1.heap.objs.size], _, _, H1, rfl, I1.kept (t' := s1.toks) fun b o e => Heap.get?_push_of_some _ e, turn_tuple a _, ⟨_, Heap.get?_push_size _ rfl, rfl, rfl⟩, fun b hb => ?_, q⟩
  have e : b = s1.heap.objs.size := by simpa using hb
  subst e
  exact I1.fpOk (Nat.le_refl _) (I1.hok.fresh (Nat.le_refl _))
/-- a range object just made, walked -/
theorem range_it {pins : List (Addr × Obj)} {σ : St} {H : Hp} {s : Shared} {R : It → Hp → Prop} {E : Value → Shared → Prop} {lo hi : Int} {t u v : Tok} {tk : Nat} (I : Inv X pins σ H s) (h1 : -(2 ^ 62) ≤ lo) (h2 : lo < 2 ^ 62) (h3 : -(2 ^ 62) ≤ hi) (h4 : hi < 2 ^ 62)
    (q : R (Itr lo (hi - lo).toNat) H) : wpAny (model X.prog X.w) X.A (pyIter (.ref s.heap.objs.size)) (PIE X pins σ tg R) E { s with heap := s.heap.push { cls := .type "range", data := .fields #[.int lo t, .int hi u, .int 1 v] }, toks := tk } := by
  refine wpAny_pyIter_range (IsRange.new ..) (small_one h1 h2 h3 h4) ?_
  have I1 : Inv X pins σ H { s with heap := s.heap.push { cls := .type "range", data := .fields #[.int lo t, .int hi u, .int 1 v] }, toks := tk } := I.kept fun b o e => Heap.get?_push_of_some _ e
  refine ⟨(s.heap.push { cls := .type "range", data := .fields #[.int lo t, .int hi u, .int 1 v] }).objs.size, [(s.heap.push { cls := .type "range", data := .fields #[.int lo t, .int hi u, .int 1 v] }).objs.size], _, _, H, rfl,
    I1.kept (t' := tk) fun b o e => Heap.get?_push_of_some _ e, turn_range _ lo (hi - lo).toNat, ?_, fun b hb => ?_, q⟩
  · have e1 : lo + ((0 : Nat) : Int) * 1 = lo := by simp
    have e2 : (((hi - lo).toNat : Nat) : Int) - ((0 : Nat) : Int) = Builtin.Range.rangeSize lo hi 1 := by rw [rangeSize_one]; split <;> omega
    show IsRangeIter _ _ (lo + ((0 : Nat) : Int) * 1) ((((hi - lo).toNat : Nat) : Int) - ((0 : Nat) : Int)) 1
    rw [e1, e2]
    exact Heap.get?_push_size _ rfl
  · have e : b = (s.heap.push { cls := .type "range", data := .fields #[.int lo t, .int hi u, .int 1 v] }).objs.size := by simpa using hb
    subst e
    exact I1.fpOk (Nat.le_refl _) (I1.hok.fresh (Nat.le_refl _))
def iRng1 (ta : TA) : TI := fun σ H R => ta σ H fun vs H1 => ∃ j : Int, vs = [.int j] ∧ -(2 ^ 62) ≤ j ∧ j < 2 ^ 62 ∧ R (Itr 0 j.toNat) H1
def iRng2 (ta : TA) : TI := fun σ H R => ta σ H fun vs H1 => ∃ i j : Int, vs = [.int i, .int j] ∧ (-(2 ^ 62) ≤ i ∧ i < 2 ^ 62 ∧ -(2 ^ 62) ≤ j ∧ j < 2 ^ 62) ∧ R (Itr i (j - i).toNat) H1
theorem pi_range1 {a : Expr} {ta : TA} {p pos : Pos} (hg : Gl X "range") (hm : X.mg "range" = none) (ha : PA X [a] ta) (hs : starEach [a] X.env = [(false, eval a X.env)] := by rfl) : PI X tg (.Call (.Name "range" p) [a] [] pos) (iRng1 ta) := by
  intro pins s σ H R I h
  refine Call_ (ld_blt I hg hm boot_range (PyProof.Rows.callWith_type1 (thn (ha pos pins s σ H _ I h) fun us s1 ⟨vs, H1, I1, r1, q1⟩ => ?_) hs rfl))
  obtain ⟨j, e, q1, q2, q⟩ := q1
  subst e
  cases r1 with
  | cons r rr =>
    cases rr
    obtain ⟨t, rfl⟩ := r
    exact call_range_1 (range_it I1 (by omega) (by omega) q1 q2 (by simpa using q))
theorem pi_range2 {a b : Expr} {ta : TA} {p pos : Pos} (hg : Gl X "range") (hm : X.mg "range" = none) (ha : PA X [a, b] ta) (hs : starEach [a, b] X.env = [(false, eval a X.env), (false, eval b X.env)] := by rfl) (hs2 : starEach [b] X.env = [(false, eval b X.env)] := by rfl) :
    PI X tg (.Call (.Name "range" p) [a, b] [] pos) (iRng2 ta) := by
  intro pins s σ H R I h
  refine Call_ (ld_blt I hg hm boot_range (PyProof.Rows.callWith_type1 (thn (ha pos pins s σ H _ I h) fun us s1 ⟨vs, H1, I1, r1, q1⟩ => ?_) (by rw [hs, hs2]) (by rw [hs2]; rfl)))
  obtain ⟨i, j, e, ⟨q1, q2, q3, q4⟩, q⟩ := q1
  subst e
  cases r1 with
  | cons r rr =>
    cases rr with
    | cons r' rr =>
      cases rr
      obtain ⟨t, rfl⟩ := r
      obtain ⟨t', rfl⟩ := r'
      exact call_range_2 (range_it I1 q1 q2 q3 q4 q)

/-! ### for -/
/-- W: the invariant by the turn and a measure; N: what the body is to reach -/
def tFor (wi : TI) (g : TG) (tb : TS) : TS := fun D σ H => wi σ H fun J H1 => ∃ W : Nat → Nat → St → Hp → Prop, (∃ m, W 0 m σ H1) ∧ ∀ i m σ H, W i m σ H →
  (J.stop i H ∧ D.nx σ H) ∨ (J.go i H ∧ ∃ N : St → Hp → Prop, (∀ σ' H', N σ' H' → ∃ m', m' < m ∧ W (i + 1) m' σ' H') ∧ ∀ x H', J.yld i H x H' → g x σ H' fun σ2 H2 => tb { D with nx := N, ct := N, bk := D.nx } σ2 H2)
/-- the records at fp as they stand -/
def pinsAt (fp : List Addr) (h : Heap) : List (Addr × Obj) := fp.filterMap fun b => (h.get? b).map fun o => (b, o)
theorem mem_pinsAt {fp : List Addr} {h : Heap} {b : Addr} {o : Obj} (hb : b ∈ fp) (e : h.get? b = some o) : (b, o) ∈ pinsAt fp h := List.mem_filterMap.mpr ⟨b, hb, by rw [e]; rfl⟩
theorem of_pinsAt {fp : List Addr} {h : Heap} {p : Addr × Obj} (hp : p ∈ pinsAt fp h) : p.1 ∈ fp ∧ h.get? p.1 = some p.2 := by
  obtain ⟨b, hb, e⟩ := List.mem_filterMap.mp hp
  cases q : h.get? b with
  | none => rw [q] at e; cases e
  | some o =>
    rw [q] at e
    have e' : (b, o) = p := Option.some.inj e
    subst e'
    exact ⟨hb, q⟩
theorem Inv.pinned {pins : List (Addr × Obj)} {σ : St} {H : Hp} {s : Shared} {fp : List Addr} (I : Inv X pins σ H s) (hf : ∀ b ∈ fp, FpOk X pins H b) (ho : ∀ b ∈ fp, ∃ o, s.heap.get? b = some o ∧ ∀ v, o.data ≠ .cell v) : Inv X (pins ++ pinsAt fp s.heap) σ H s :=
  I.pins_of fun p hp => (List.mem_append.mp hp).elim (fun z => I.pin p (List.mem_append_right _ z)) fun z => by
    obtain ⟨hb, e⟩ := of_pinsAt z
    obtain ⟨f0, f1, f2, _⟩ := hf p.1 hb
    obtain ⟨o, e', d⟩ := ho p.1 hb
    rw [e] at e'; cases e'
    exact ⟨e, f0, f1, f2, d⟩
theorem Inv.unpinned {pins pl : List (Addr × Obj)} {σ : St} {H : Hp} {s : Shared} (I : Inv X (pins ++ pl) σ H s) : Inv X pins σ H s := I.pins_of fun p hp => I.pin p (List.mem_append_right _ (List.mem_append_left _ hp))
theorem ps_for {iter : Expr} {body : List Stmt} {wi : TI} {g : TG} {tb : TS} {pos : Pos} (hp : PassesOwn (model X.prog X.w) X.A X.env X.xe) (hc : X.calm = true) (hi : PI X tg iter wi) (hg : PG X tg g) (hb : PSs X body tb)
    (hs : ∀ x, foldedSetIterable iter X.env x = pure x := by intro _; rfl) : PS X (.For tg iter body [] pos) (tFor wi g tb) := by
  intro pins s σ H D I h
  refine wpAny_For (thn (hi pins s σ H _ I h) fun v s1 h1 => thn h1 fun itv s2 h2 => ?_) hs
  obtain ⟨it, fp, tn, J, H2, e, I2, T, st2, f2, W, ⟨m0, w0⟩, turn⟩ := h2
  subst e
  -- what stays true of the iterator's objects through the loop
  have stat : ∀ {H' : Hp}, (∀ b ∈ fp, H' b = none) → ∀ b ∈ fp, FpOk X pins H' b := fun hn b hb => ⟨hn b hb, (f2 b hb).2⟩
  refine codeAny_forLoop_any (fun n s' => ∃ i σ' H', Inv X pins σ' H' s' ∧ tn i s'.heap ∧ (∀ b ∈ fp, H' b = none) ∧ W i n σ' H') ?_ m0 ⟨0, σ, H2, I2, st2, fun b hb => (f2 b hb).1, w0⟩
  rintro n s3 ⟨i, σ3, H3, I3, st3, fr3, w3⟩
  rcases turn i n σ3 H3 w3 with ⟨stop, qn⟩ | ⟨go, N, hN, step⟩
  · refine wpAny_passesOwn hp (thn (T.done X rfl rfl rfl hc i pins s3 σ3 H3 X.xe I3 (stat fr3) st3 stop) fun r s4 ⟨hr, I4⟩ => ?_)
    subst hr
    exact wpAny_execs_nil ⟨σ3, H3, I4, qn⟩
  · refine wpAny_passesOwn hp (thn (T.item X rfl rfl rfl hc i pins s3 σ3 H3 X.xe I3 (stat fr3) st3 go) fun r s4 ⟨u, hr, h4⟩ => ?_)
    subst hr
    refine wpAny_passesOwn hp (thn h4 fun _ s5 ⟨x, H5, I5, r5, y5, st5, fr5⟩ => ?_)
    have I5' := I5.pinned (stat fr5) (T.obj _ _ st5)
    refine wpAny_passesOwn hp (thn (hg _ s5 σ3 H5 x u _ I5' r5 (step x H5 y5)) fun _ s6 ⟨σ6, H6, I6, q6⟩ => ?_)
    refine wpAny_passesOwn hp (thn (hb _ s6 σ6 H6 _ I6 q6) fun f s7 q7 => ?_)
    have again : ∀ {σ7 : St} {H7 : Hp}, Inv X (pins ++ pinsAt fp s5.heap) σ7 H7 s7 → N σ7 H7 → ∃ m, m < n ∧ ∃ i σ' H', Inv X pins σ' H' s7 ∧ tn i s7.heap ∧ (∀ b ∈ fp, H' b = none) ∧ W i m σ' H' := fun {σ7 H7} I7 n7 => by
      obtain ⟨m', hm, w7⟩ := hN σ7 H7 n7
      refine ⟨m', hm, i + 1, σ7, H7, I7.unpinned, T.keep _ _ _ st5 fun b hb o e => (I7.pin (b, o) (List.mem_append_right _ (List.mem_append_right _ (mem_pinsAt hb e)))).1, fun b hb => ?_, w7⟩
      obtain ⟨o, e, d⟩ := T.obj _ _ st5 b hb
      exact (I7.pin (b, o) (List.mem_append_right _ (List.mem_append_right _ (mem_pinsAt hb e)))).2.1
    cases f with
    | next => obtain ⟨σ7, H7, I7, n7⟩ := q7; exact again I7 n7
    | cont => obtain ⟨σ7, H7, I7, n7⟩ := q7; exact again I7 n7
    | brk => obtain ⟨σ7, H7, I7, q7⟩ := q7; exact ⟨σ7, H7, I7.unpinned, q7⟩
    | ret v => obtain ⟨x7, σ7, H7, I7, r7, q7⟩ := q7; exact ⟨x7, σ7, H7, I7.unpinned, r7, q7⟩
end

/-! ### the forms one uses -/
theorem for_tup {K : PySem.W.Frag} {a : Addr} {xs : List V} {g : TG} {tb : TS} {D : Ends} {σ : St} {H : Hp} (Pv : Nat → St → Hp → Prop) (h0 : Pv 0 σ H) (hl : ∀ i σ H, i ≤ xs.length → Pv i σ H → SqT K H a xs)
    (hs : ∀ i x σ H, xs[i]? = some x → Pv i σ H → g x σ H fun σ2 H2 => tb { D with nx := Pv (i + 1), ct := Pv (i + 1), bk := D.nx } σ2 H2) (hd : ∀ σ H, Pv xs.length σ H → D.nx σ H) :
    ∃ W : Nat → Nat → St → Hp → Prop, (∃ m, W 0 m σ H) ∧ ∀ i m σ H, W i m σ H →
      ((Itt K a).stop i H ∧ D.nx σ H) ∨ ((Itt K a).go i H ∧ ∃ N : St → Hp → Prop, (∀ σ' H', N σ' H' → ∃ m', m' < m ∧ W (i + 1) m' σ' H') ∧ ∀ x H', (Itt K a).yld i H x H' → g x σ H' fun σ2 H2 => tb { D with nx := N, ct := N, bk := D.nx } σ2 H2) := by
  refine ⟨fun i m σ H => m = xs.length - i ∧ i ≤ xs.length ∧ Pv i σ H, ⟨xs.length, by simp, Nat.zero_le _, h0⟩, ?_⟩
  rintro i m σ H ⟨rfl, hi, p⟩
  have q := hl i σ H hi p
  by_cases hlt : i < xs.length
  · refine .inr ⟨⟨xs, xs[i], q, by simp [hlt]⟩, Pv (i + 1), fun σ' H' p' => ⟨xs.length - (i + 1), by omega, rfl, hlt, p'⟩, fun x H' y => ?_⟩
    obtain ⟨e, y⟩ := y
    subst e
    exact hs i x σ _ (y xs q) p
  · have e : i = xs.length := by omega
    subst e
    exact .inl ⟨⟨xs, q, Nat.le_refl _⟩, hd σ H p⟩
theorem for_range {lo : Int} {n : Nat} {g : TG} {tb : TS} {D : Ends} {σ : St} {H : Hp} (Pv : Nat → St → Hp → Prop) (h0 : Pv 0 σ H)
    (hs : ∀ i σ H, i < n → Pv i σ H → g (.int (lo + i)) σ H fun σ2 H2 => tb { D with nx := Pv (i + 1), ct := Pv (i + 1), bk := D.nx } σ2 H2) (hd : ∀ σ H, Pv n σ H → D.nx σ H) :
    ∃ W : Nat → Nat → St → Hp → Prop, (∃ m, W 0 m σ H) ∧ ∀ i m σ H, W i m σ H →
      ((Itr lo n).stop i H ∧ D.nx σ H) ∨ ((Itr lo n).go i H ∧ ∃ N : St → Hp → Prop, (∀ σ' H', N σ' H' → ∃ m', m' < m ∧ W (i + 1) m' σ' H') ∧ ∀ x H', (Itr lo n).yld i H x H' → g x σ H' fun σ2 H2 => tb { D with nx := N, ct := N, bk := D.nx } σ2 H2) := by
  refine ⟨fun i m σ H => m = n - i ∧ i ≤ n ∧ Pv i σ H, ⟨n, by simp, Nat.zero_le _, h0⟩, ?_⟩
  rintro i m σ H ⟨rfl, hi, p⟩
  by_cases hlt : i < n
  · refine .inr ⟨hlt, Pv (i + 1), fun σ' H' p' => ⟨n - (i + 1), by omega, rfl, hlt, p'⟩, fun x H' y => ?_⟩
    obtain ⟨e, y⟩ := y
    subst e y
    exact hs i σ _ hlt p
  · have e : i = n := by omega
    subst e
    exact .inl ⟨Nat.le_refl _, hd σ H p⟩
end L2

namespace L2
open PySem PySem.Spec PyProof.Rows

abbrev R2 := V → V → Hp → VK → Prop
/-- a two-place operation on values: f is binaryOp op, inplaceOp op or compareOp op -/
def OpR (X : Cx) (f : Value → Value → Sem Value) (r : R2) : Prop :=
  ∀ (pins : List (Addr × Obj)) (s : Shared) (σ : St) (H : Hp) (x y : V) (v u : Value) (Q : VK), Inv X pins σ H s → RelV x v → RelV y u → r x y H Q →
    wpAny (model X.prog X.w) X.A (f v u) (EP X pins σ Q) X.xe s
/-- a one-place operation -/
def UnR (X : Cx) (f : Value → Sem Value) (r : V → Hp → VK → Prop) : Prop :=
  ∀ (pins : List (Addr × Obj)) (s : Shared) (σ : St) (H : Hp) (x : V) (v : Value) (Q : VK), Inv X pins σ H s → RelV x v → r x H Q →
    wpAny (model X.prog X.w) X.A (f v) (EP X pins σ Q) X.xe s
/-- a call of a value that is known (a builtin, a type) with values -/
def CallR (X : Cx) (f : Value) (r : List V → Hp → VK → Prop) : Prop :=
  ∀ (pins : List (Addr × Obj)) (s : Shared) (σ : St) (H : Hp) (xs : List V) (us : List Value) (Q : VK), Inv X pins σ H s → Vals xs us → r xs H Q →
    wpAny (model X.prog X.w) X.A (call f us) (EP X pins σ Q) X.xe s
/-- a value's truth -/
def TruR (X : Cx) (r : V → Hp → (Bool → Hp → Prop) → Prop) : Prop :=
  ∀ (pins : List (Addr × Obj)) (s : Shared) (σ : St) (H : Hp) (x : V) (v : Value) (Q : Bool → Hp → Prop), Inv X pins σ H s → RelV x v → r x H Q →
    wpAny (model X.prog X.w) X.A (truthy v) (TP X pins σ Q) X.xe s

def tOp (r : R2) (ta tb : TE) : TE := fun σ H Q => ta σ H fun x H1 => tb σ H1 fun y H2 => r x y H2 Q
def tUn (r : V → Hp → VK → Prop) (ta : TE) : TE := fun σ H Q => ta σ H fun x H1 => r x H1 Q
/-- ints in, under C, and a value out -/
def rI (C : Int → Int → Prop) (g : Int → Int → V) : R2 := fun x y H Q => ∃ i j, x = .int i ∧ y = .int j ∧ C i j ∧ Q (g i j) H
def rI0 (g : Int → Int → V) : R2 := fun x y H Q => ∃ i j, x = .int i ∧ y = .int j ∧ Q (g i j) H
def rU (g : Int → V) : V → Hp → VK → Prop := fun x H Q => ∃ i, x = .int i ∧ Q (g i) H

section
variable {X : Cx} {a b c : Expr} {ta tb tc : TE} {pos : Pos}

theorem binT (ha : PE X a ta) (hb : PE X b tb) {pins : List (Addr × Obj)} {s : Shared} {σ : St} {H : Hp} {R : V → V → Hp → Prop} (I : Inv X pins σ H s)
    (h : ta σ H fun x H1 => tb σ H1 fun y H2 => R x y H2) {Q : Value → Shared → Prop} {f : Value → Value → Sem Value}
    (hf : ∀ v u s2 x y H2, Inv X pins σ H2 s2 → RelV x v → RelV y u → R x y H2 → wpAny (model X.prog X.w) X.A (f v u) Q X.xe s2) :
    wpAny (model X.prog X.w) X.A (eval a X.env) (fun v s₁ => wpAny (model X.prog X.w) X.A (eval b X.env) (fun u s₂ => wpAny (model X.prog X.w) X.A (f v u) Q X.xe s₂) X.xe s₁) X.xe s := by
  refine thn (ha pins s σ H _ I h) fun v s1 ⟨x, H1, I1, r1, q1⟩ => ?_
  refine thn (hb pins s1 σ H1 _ I1 q1) fun u s2 ⟨y, H2, I2, r2, q2⟩ => ?_
  exact hf v u s2 x y H2 I2 r1 r2 q2

theorem pe_op {op : Operator} {r : R2} (ho : OpR X (binaryOp op) r) (ha : PE X a ta) (hb : PE X b tb) : PE X (.BinOp a op b pos) (tOp r ta tb) := by
  intro pins s σ H Q I h
  exact wpAny_BinOp (binT ha hb I h fun v u s2 x y H2 I2 rx ry q => ho pins s2 σ H2 x y v u Q I2 rx ry q)
theorem pe_un {op : UnaryOp} {r : V → Hp → VK → Prop} (ho : UnR X (unaryOp op) r) (ha : PE X a ta) : PE X (.UnaryOp op a pos) (tUn r ta) := by
  intro pins s σ H Q I h
  exact UnaryOp_ (thn (ha pins s σ H _ I h) fun v s1 ⟨x, H1, I1, r1, q1⟩ => ho pins s1 σ H1 x v Q I1 r1 q1)
/-! ### ints -/
theorem opI {f : Value → Value → Sem Value} {C : Int → Int → Prop} {g : Int → Int → Int}
    (rule : ∀ (i j : Int) (t u : Tok) (s : Shared) (Q : Value → Shared → Prop) (E : Value → Shared → Prop), C i j → Q (.int (g i j) s.toks) { s with toks := s.toks + 1 } → wpAny (model X.prog X.w) X.A (f (.int i t) (.int j u)) Q E s) :
    OpR X f (rI C fun i j => .int (g i j)) := by
  intro pins s σ H x y v u Q I rx ry h
  obtain ⟨i, j, rfl, rfl, hc, q⟩ := h
  obtain ⟨t, rfl⟩ := rx
  obtain ⟨t', rfl⟩ := ry
  exact rule i j t t' s _ _ hc ⟨.int (g i j), H, I.tok _, ⟨_, rfl⟩, q⟩
theorem opI0 {f : Value → Value → Sem Value} {g : Int → Int → Int}
    (rule : ∀ (i j : Int) (t u : Tok) (s : Shared) (Q : Value → Shared → Prop) (E : Value → Shared → Prop), Q (.int (g i j) s.toks) { s with toks := s.toks + 1 } → wpAny (model X.prog X.w) X.A (f (.int i t) (.int j u)) Q E s) :
    OpR X f (rI0 fun i j => .int (g i j)) := by
  intro pins s σ H x y v u Q I rx ry h
  obtain ⟨i, j, rfl, rfl, q⟩ := h
  obtain ⟨t, rfl⟩ := rx
  obtain ⟨t', rfl⟩ := ry
  exact rule i j t t' s _ _ ⟨.int (g i j), H, I.tok _, ⟨_, rfl⟩, q⟩
theorem opB0 {f : Value → Value → Sem Value} {g : Int → Int → Bool}
    (rule : ∀ (i j : Int) (t u : Tok) (s : Shared) (Q : Value → Shared → Prop) (E : Value → Shared → Prop), Q (.bool (g i j)) s → wpAny (model X.prog X.w) X.A (f (.int i t) (.int j u)) Q E s) :
    OpR X f (rI0 fun i j => .bl (g i j)) := by
  intro pins s σ H x y v u Q I rx ry h
  obtain ⟨i, j, rfl, rfl, q⟩ := h
  obtain ⟨t, rfl⟩ := rx
  obtain ⟨t', rfl⟩ := ry
  exact rule i j t t' s _ _ ⟨.bl (g i j), H, I, rfl, q⟩

def CDiv (i j : Int) : Prop := 0 < j ∧ j < 1073741824
def CDivN (i j : Int) : Prop := j ≠ 0 ∧ j.natAbs < 1073741824
def CPow (i j : Int) : Prop := 0 ≤ j ∧ j ≤ 1000000 ∧ i.natAbs < 2 ^ 64
def CMul (i j : Int) : Prop := (-(2 ^ 64) < i ∧ i < 2 ^ 64) ∨ (-(2 ^ 64) < j ∧ j < 2 ^ 64)
theorem CMul.ok {i j : Int} (h : CMul i j) : IntMulOk i j := by
  rcases h with ⟨h1, h2⟩ | ⟨h1, h2⟩
  · exact .of_left (intBits_le_64 h1 h2)
  · exact .of_right (intBits_le_64 h1 h2)
theorem op_add : OpR X (binaryOp .Add) (rI0 fun i j => .int (i + j)) := opI0 fun _ _ _ _ _ _ _ q => add_int q
theorem op_sub : OpR X (binaryOp .Sub) (rI0 fun i j => .int (i - j)) := opI0 fun _ _ _ _ _ _ _ q => sub_int q
theorem op_mul : OpR X (binaryOp .Mult) (rI CMul fun i j => .int (i * j)) := opI fun _ _ _ _ _ _ _ hc q => mul_int q hc.ok
/-- // by a positive divisor -/
theorem op_fdiv : OpR X (binaryOp .FloorDiv) (rI CDiv fun i j => .int (i / j)) := opI fun i j _ _ _ _ _ hc q => by
  have h1 : (0 : Int) < j := hc.1
  have h2 : j < 1073741824 := hc.2
  exact floordiv_int (by omega) (by rw [Int.fdiv_eq_ediv_of_nonneg i (by omega)]; exact q) (.inl (PyProof.noPylong_small (by omega)))
theorem op_fdivN : OpR X (binaryOp .FloorDiv) (rI CDivN fun i j => .int (i.fdiv j)) := opI fun _ _ _ _ _ _ _ hc q => floordiv_int hc.1 q (.inl (PyProof.noPylong_small hc.2))
/-- % by a positive divisor of any size -/
theorem op_mod : OpR X (binaryOp .Mod) (rI (fun _ j => 0 < j) fun i j => .int (i % j)) := opI fun i j _ _ _ _ _ hc q => by
  have h1 : (0 : Int) < j := hc
  exact mod_int' (by omega) (by rw [Int.fmod_eq_emod_of_nonneg i (by omega)]; exact q)
theorem unI {f : Value → Sem Value} {g : Int → Int}
    (rule : ∀ (i : Int) (t : Tok) (s : Shared) (Q : Value → Shared → Prop) (E : Value → Shared → Prop), Q (.int (g i) s.toks) { s with toks := s.toks + 1 } → wpAny (model X.prog X.w) X.A (f (.int i t)) Q E s) :
    UnR X f (rU fun i => .int (g i)) := by
  intro pins s σ H x v Q I rx h
  obtain ⟨i, rfl, q⟩ := h
  obtain ⟨t, rfl⟩ := rx
  exact rule i t s _ _ ⟨.int (g i), H, I.tok _, ⟨_, rfl⟩, q⟩
theorem un_neg : UnR X (unaryOp .USub) (rU fun i => .int (-i)) := unI fun _ _ _ _ _ q => neg_int q
/-! ### bools among ints: n += (a < b) -/
end

/-! ### comparisons -/
/-- the scalars that == tells apart as data does -/
def scal : V → V → Bool
  | .non, .non => true | .non, .int _ => true | .int _, .non => true | .non, .bl _ => true | .bl _, .non => true | .non, .str _ => true | .str _, .non => true
  | .int _, .int _ => true | .bl _, .bl _ => true | .str _, .str _ => true | .byt _, .byt _ => true
  | .int _, .str _ => true | .str _, .int _ => true | .bl _, .str _ => true | .str _, .bl _ => true
  | _, _ => false
def rEq : R2 := fun x y H Q => scal x y = true ∧ Q (.bl (decide (x = y))) H
def rNe : R2 := fun x y H Q => scal x y = true ∧ Q (.bl (!decide (x = y))) H

theorem dec_int {i j : Int} : decide (V.int i = V.int j) = (i == j) := by
  rw [Bool.eq_iff_iff]
  simp
theorem dec_bl {i j : Bool} : decide (V.bl i = V.bl j) = (i == j) := by
  rw [Bool.eq_iff_iff]
  simp
theorem dec_str {i j : Str} : decide (V.str i = V.str j) = (i == j) := by
  rw [Bool.eq_iff_iff]
  simp
theorem dec_byt {i j : Array UInt8} : decide (V.byt i = V.byt j) = (i.toList == j.toList) := by
  rw [Bool.eq_iff_iff]
  cases i
  cases j
  simp

section
variable {X : Cx} {a b c : Expr} {ta tb tc : TE} {pos : Pos}
theorem fin_bl {pins : List (Addr × Obj)} {σ : St} {H : Hp} {s : Shared} {Q : VK} {k k' : Bool} (I : Inv X pins σ H s) (q : Q (.bl k) H) (e : k = k') : EP X pins σ Q (.bool k') s := by
  subst e
  exact ⟨.bl k, H, I, rfl, q⟩
theorem op_eq : OpR X (compareOp .Eq) rEq := by
  intro pins s σ H x y v u Q I rx ry h
  obtain ⟨hs, q⟩ := h
  cases x with
  | non =>
    cases rx
    cases y with
    | non => cases ry; exact PySem.EqNone.eq_none_none (fin_bl I q (by simp))
    | bl j => cases ry; exact PySem.EqNone.eq_none_bool (fin_bl I q (by simp))
    | int j => obtain ⟨t', rfl⟩ := ry; exact PySem.EqNone.eq_none_int (fin_bl I q (by simp))
    | str j => obtain ⟨t', rfl⟩ := ry; exact PySem.EqNone.eq_none_str (fin_bl I q (by simp))
    | _ => exact absurd (show false = true from hs) Bool.false_ne_true
  | bl i =>
    cases rx
    cases y with
    | non => cases ry; exact PySem.EqNone.eq_bool_none (fin_bl I q (by simp))
    | bl j => cases ry; exact eq_bool (fin_bl I q dec_bl)
    | str j => obtain ⟨t', rfl⟩ := ry; exact PySem.EqMixed.eq_bool_str (fin_bl I q (by simp))
    | _ => exact absurd (show false = true from hs) Bool.false_ne_true
  | int i =>
    obtain ⟨t, rfl⟩ := rx
    cases y with
    | non => cases ry; exact PySem.EqNone.eq_int_none (fin_bl I q (by simp))
    | int j => obtain ⟨t', rfl⟩ := ry; exact eq_int (fin_bl I q dec_int)
    | str j => obtain ⟨t', rfl⟩ := ry; exact PySem.EqMixed.eq_int_str (fin_bl I q (by simp))
    | _ => exact absurd (show false = true from hs) Bool.false_ne_true
  | str i =>
    obtain ⟨t, rfl⟩ := rx
    cases y with
    | non => cases ry; exact PySem.EqNone.eq_str_none (fin_bl I q (by simp))
    | bl j => cases ry; exact PySem.EqMixed.eq_str_bool (fin_bl I q (by simp))
    | int j => obtain ⟨t', rfl⟩ := ry; exact PySem.EqMixed.eq_str_int (fin_bl I q (by simp))
    | str j => obtain ⟨t', rfl⟩ := ry; exact eq_str (fin_bl I q dec_str)
    | _ => exact absurd (show false = true from hs) Bool.false_ne_true
  | byt i =>
    obtain ⟨t, rfl⟩ := rx
    cases y with
    | byt j => obtain ⟨t', rfl⟩ := ry; exact PySem.W.eq_bytes (fin_bl I q dec_byt)
    | _ => exact absurd (show false = true from hs) Bool.false_ne_true
  | _ => cases y <;> exact absurd (show false = true from hs) Bool.false_ne_true
theorem op_ne : OpR X (compareOp .NotEq) rNe := by
  intro pins s σ H x y v u Q I rx ry h
  obtain ⟨hs, q⟩ := h
  cases x with
  | non =>
    cases rx
    cases y with
    | non => cases ry; exact PySem.EqNone.ne_none_none (fin_bl I q (by simp))
    | bl j => cases ry; exact PySem.EqNone.ne_none_bool (fin_bl I q (by simp))
    | int j => obtain ⟨t', rfl⟩ := ry; exact PySem.EqNone.ne_none_int (fin_bl I q (by simp))
    | str j => obtain ⟨t', rfl⟩ := ry; exact PySem.EqNone.ne_none_str (fin_bl I q (by simp))
    | _ => exact absurd (show false = true from hs) Bool.false_ne_true
  | bl i =>
    cases rx
    cases y with
    | non => cases ry; exact PySem.EqNone.ne_bool_none (fin_bl I q (by simp))
    | bl j => cases ry; exact ne_bool (fin_bl I q (congrArg not dec_bl))
    | str j => obtain ⟨t', rfl⟩ := ry; exact PySem.EqMixed.ne_bool_str (fin_bl I q (by simp))
    | _ => exact absurd (show false = true from hs) Bool.false_ne_true
  | int i =>
    obtain ⟨t, rfl⟩ := rx
    cases y with
    | non => cases ry; exact PySem.EqNone.ne_int_none (fin_bl I q (by simp))
    | int j => obtain ⟨t', rfl⟩ := ry; exact ne_int (fin_bl I q (congrArg not dec_int))
    | str j => obtain ⟨t', rfl⟩ := ry; exact PySem.EqMixed.ne_int_str (fin_bl I q (by simp))
    | _ => exact absurd (show false = true from hs) Bool.false_ne_true
  | str i =>
    obtain ⟨t, rfl⟩ := rx
    cases y with
    | non => cases ry; exact PySem.EqNone.ne_str_none (fin_bl I q (by simp))
    | bl j => cases ry; exact PySem.EqMixed.ne_str_bool (fin_bl I q (by simp))
    | int j => obtain ⟨t', rfl⟩ := ry; exact PySem.EqMixed.ne_str_int (fin_bl I q (by simp))
    | str j => obtain ⟨t', rfl⟩ := ry; exact ne_str (fin_bl I q (congrArg not dec_str))
    | _ => exact absurd (show false = true from hs) Bool.false_ne_true
  | byt i =>
    obtain ⟨t, rfl⟩ := rx
    cases y with
    | byt j => obtain ⟨t', rfl⟩ := ry; exact PySem.W.ne_bytes (fin_bl I q (congrArg not dec_byt))
    | _ => exact absurd (show false = true from hs) Bool.false_ne_true
  | _ => cases y <;> exact absurd (show false = true from hs) Bool.false_ne_true

theorem op_lt : OpR X (compareOp .Lt) (rI0 fun i j => .bl (decide (i < j))) := opB0 fun _ _ _ _ _ _ _ q => lt_int q
theorem op_le : OpR X (compareOp .LtE) (rI0 fun i j => .bl (decide (i ≤ j))) := opB0 fun _ _ _ _ _ _ _ q => le_int q
theorem op_gt : OpR X (compareOp .Gt) (rI0 fun i j => .bl (decide (j < i))) := opB0 fun _ _ _ _ _ _ _ q => gt_int q
/-- the one string within the other -/
theorem op_in_str : OpR X (compareOp .In) (fun x y H Q => ∃ i j, x = .str i ∧ y = .str j ∧ Q (.bl (!(Builtin.Str.occurrences j i 0 j.length 1).isEmpty)) H) := by
  intro pins s σ H x y v u Q I rx ry h
  obtain ⟨i, j, rfl, rfl, q⟩ := h
  obtain ⟨t, rfl⟩ := rx
  obtain ⟨t', rfl⟩ := ry
  exact in_str (fin_bl I q rfl)

/-- is None, is not None: the right side a value none -/
theorem op_isN : OpR X (compareOp .Is) (fun x y H Q => y = .non ∧ Q (.bl (decide (x = .non))) H) := by
  intro pins s σ H x y v u Q I rx ry h
  obtain ⟨rfl, q⟩ := h
  cases ry
  refine is_none_gen (fin_bl I q ?_)
  cases x <;> first
    | (cases rx; rfl)
    | (obtain ⟨t, rfl⟩ := rx; rfl)
theorem op_notN : OpR X (compareOp .IsNot) (fun x y H Q => y = .non ∧ Q (.bl (!decide (x = .non))) H) := by
  intro pins s σ H x y v u Q I rx ry h
  obtain ⟨rfl, q⟩ := h
  cases ry
  refine isnot_none_gen (fin_bl I q ?_)
  cases x <;> first
    | (cases rx; rfl)
    | (obtain ⟨t, rfl⟩ := rx; rfl)

/-- is, is not of two objects that are tracked lists or instances -/
def isObj : HO → Bool
  | .lst _ => true
  | .ins _ _ _ => true
  | _ => false
/-- two rules for one operation: by cases -/
theorem OpR.or {f : Value → Value → Sem Value} {r r' : R2} (h : OpR X f r) (h' : OpR X f r') : OpR X f (fun x y H Q => r x y H Q ∨ r' x y H Q) := by
  intro pins s σ H x y v u Q I rx ry q
  rcases q with q | q
  · exact h pins s σ H x y v u Q I rx ry q
  · exact h' pins s σ H x y v u Q I rx ry q

theorem nomark (b : Expr) {op : CmpOp} (h : op ≠ .In := by decide) (h2 : op ≠ .NotIn := by decide) : behindInMarks op b = false := by
  have e1 : (op == CmpOp.In) = false := by cases op <;> first | rfl | exact absurd rfl h
  have e2 : (op == CmpOp.NotIn) = false := by cases op <;> first | rfl | exact absurd rfl h2
  cases b <;> simp [behindInMarks, e1, e2]
/-- a comparison as a value; hm: nomark b, or (for in, not in) by with_unfolding_all rfl -/
theorem pe_cmpR {op : CmpOp} {r : R2} (ho : OpR X (compareOp op) r) (ha : PE X a ta) (hb : PE X b tb) (hm : behindInMarks op b = false) : PE X (.Compare a [op] [b] pos) (tOp r ta tb) := by
  intro pins s σ H Q I h
  exact wpAny_Compare1 (binT ha hb I h fun v u s2 x y H2 I2 rx ry q => ho pins s2 σ H2 x y v u Q I2 rx ry q) hm
/-- a reading of a value as a test -/
def tTest (t : TE) : TT := fun σ H Q => t σ H fun x H' => ∃ k, x = .bl k ∧ Q k H'
theorem pt_cmpR {op : CmpOp} {r : R2} (ho : OpR X (compareOp op) r) (ha : PE X a ta) (hb : PE X b tb) (hm : behindInMarks op b = false) : PT X (.Compare a [op] [b] pos) (tTest (tOp r ta tb)) := by
  intro pins s σ H Q I h
  refine wpAny_isTrue_Compare1 (thn (ha pins s σ H _ I h) fun v s1 ⟨x, H1, I1, r1, q1⟩ => thn (hb pins s1 σ H1 _ I1 q1) fun u s2 ⟨y, H2, I2, r2, q2⟩ =>
    thn (ho pins s2 σ H2 x y v u _ I2 r1 r2 q2) fun c s3 ⟨z, H3, I3, r3, k, e, q3⟩ => ?_) hm
  subst e
  cases r3
  exact wpAny_truthy_bool ⟨H3, I3, q3⟩
/-- a op1 b op2 c -/
def tChain (r r' : R2) (ta tb tc : TE) : TE := fun σ H Q => ta σ H fun x H1 => tb σ H1 fun y H2 => r x y H2 fun z H3 => ∃ k, z = .bl k ∧
  (if k = true then tc σ H3 fun w' H4 => r' y w' H4 Q else Q (.bl false) H3)
/-! ### truth -/
/-- a value's truth by the abstract heap -/
def TruV (K : PySem.W.Frag) (x : V) (H : Hp) (k : Bool) : Prop :=
  match x with
  | .non => k = false
  | .bl b => k = b
  | .int i => k = (i != 0)
  | .str y => y.length ≤ sizeLine ∧ k = ((y.length : Int) != 0)
  | .byt y => y.size ≤ sizeLine ∧ k = ((y.size : Int) != 0)
  | .ref p => (∃ xs, SqL K H p xs ∧ k = !xs.isEmpty) ∨ (∃ xs, SqT K H p xs ∧ k = !xs.isEmpty) ∨ ∃ kvs, H p = some (.dK kvs) ∧ k = !kvs.isEmpty
  | _ => False
theorem line63 : (sizeLine : Nat) < 2 ^ 63 := by rw [sizeLine_eq]; decide
/-! ### strs and bytes -/
def PlainIxT (b : Expr) : Prop := ∀ o i, subscripted b false o i = operate [o, i] (getItem o i)
/-! ### scalar builtins, by CallR -/
theorem vals1 {x : V} {us : List Value} (r : Vals [x] us) : ∃ u, us = [u] ∧ RelV x u := by
  cases r with
  | cons r1 r2 => cases r2; exact ⟨_, rfl, r1⟩
theorem vals2 {x y : V} {us : List Value} (r : Vals [x, y] us) : ∃ u w', us = [u, w'] ∧ RelV x u ∧ RelV y w' := by
  cases r with
  | cons r1 r2 =>
    cases r2 with
    | cons r3 r4 => cases r4; exact ⟨_, _, rfl, r1, r3⟩
theorem call_max2 (hc : X.calm = true) : CallR X (.builtin "max") (fun xs H Q => ∃ i j, xs = [.int i, .int j] ∧ Q (.int (if j > i then j else i)) H) := by
  intro pins s σ H xs us Q I r h
  obtain ⟨i, j, rfl, q⟩ := h
  obtain ⟨u, w', rfl, ⟨t, rfl⟩, ⟨t', rfl⟩⟩ := vals2 r
  refine max_two_ints (I.ok.hd hc) fun h' tk k => ⟨_, H, I.kept k, ?_, q⟩
  by_cases hj : j > i
  · rw [if_pos hj, if_pos hj]; exact ⟨_, rfl⟩
  · rw [if_neg hj, if_neg hj]; exact ⟨_, rfl⟩
theorem call_min2 (hc : X.calm = true) : CallR X (.builtin "min") (fun xs H Q => ∃ i j, xs = [.int i, .int j] ∧ Q (.int (if j < i then j else i)) H) := by
  intro pins s σ H xs us Q I r h
  obtain ⟨i, j, rfl, q⟩ := h
  obtain ⟨u, w', rfl, ⟨t, rfl⟩, ⟨t', rfl⟩⟩ := vals2 r
  refine min_two_ints (I.ok.hd hc) fun h' tk k => ⟨_, H, I.kept k, ?_, q⟩
  by_cases hj : j < i
  · rw [if_pos hj, if_pos hj]; exact ⟨_, rfl⟩
  · rw [if_neg hj, if_neg hj]; exact ⟨_, rfl⟩
/-- len of a str, a bytes, a list, a tuple -/
def LenV (K : PySem.W.Frag) (x : V) (H : Hp) (n : Nat) : Prop :=
  match x with
  | .str y => y.length ≤ sizeLine ∧ n = y.length
  | .byt y => y.size ≤ sizeLine ∧ n = y.size
  | .ref p => (∃ xs, SqL K H p xs ∧ n = xs.length) ∨ ∃ xs, SqT K H p xs ∧ n = xs.length
  | _ => False
end
end L2

namespace L2
open PySem PySem.Spec PyProof.Rows

/-! ### an instance, its attributes a map -/
structure ObjM (h : Heap) (x dx C : Addr) (mA : Str → Option Value) : Prop where
  obj : h.get? x = some (PySem.W.instObj C dx)
  ns : h.Ns1 dx mA
  ne : dx ≠ x

theorem lookIn_ns {h : Heap} {dx : Addr} {mA : Str → Option Value} (n : h.Ns1 dx mA) : ∃ od, h.get? dx = some od ∧ ∀ name, PySem.W.lookIn name od = some (mA name) := by
  obtain ⟨o, es, ep, ho, hd, hk, _, hm⟩ := n
  refine ⟨o, ho, fun name => ?_⟩
  have e := hm name
  unfold nsFind findBy at e
  rw [← Array.find?_toList] at e
  unfold PySem.W.lookIn
  rw [hd]
  dsimp only
  split
  · rename_i y q
    rw [q] at e
    exact congrArg some e
  · rename_i q
    rw [q] at e
    have a : es.toList.any (·.refKey) = false := by
      rw [List.any_eq_false]
      intro y hy
      obtain ⟨z, t, hkey⟩ := hk y (Array.mem_toList_iff.mp hy)
      simp [DictEntry.refKey, hkey]
    have a' : ¬ es.toList.any (·.refKey) = true := by rw [a]; exact Bool.false_ne_true
    rw [if_neg a']
    exact congrArg some e

theorem ObjM.look {h : Heap} {x dx C : Addr} {mA : Str → Option Value} (I : ObjM h x dx C mA) : ∃ od, PySem.W.InstAt h x (PySem.W.instObj C dx) C (some od) ∧ ∀ name, PySem.W.lookIn name od = some (mA name) :=
  let ⟨od, ho, hl⟩ := lookIn_ns I.ns
  ⟨od, ⟨I.obj, rfl, rfl, ho⟩, hl⟩

section
variable {prog : Program} {w : World} {A : Around} {E : Value → Shared → Prop} {s : Shared} {K : PySem.W.Frag} {x dx C f : Addr} {mA : Str → Option Value} {name : Str} {v : Value}

end

/-! ### the attributes as a list of pairs -/
def putF (f : Str) (v : V) : List (Str × V) → List (Str × V)
  | [] => [(f, v)]
  | (g, x) :: r => if g = f then (g, v) :: r else (g, x) :: putF f v r
theorem RelO.some_of {v : V} {o : Option Value} (r : RelO (some v) o) : ∃ u, o = some u ∧ RelV v u := by
  cases o with
  | none => exact (show False from r).elim
  | some u => exact ⟨u, rfl, r⟩
section
variable {P : Program} {w : World} {H H' : Hp} {h h' : Heap} {a C dx : Addr} {fs fs' : List (Str × V)}
end

/-! ### what of the text a class must have -/
structure Cls (K : PySem.W.Frag) (C : Addr) : Prop where
  pg : PySem.W.plainGet K C Str.empty = true
  hd : PySem.W.hasDictIn K C = true
  po : PySem.W.plainOver K C = true
  sa : PySem.W.findIn K (.ref C) "__setattr__" = some (some (.builtin "object.__setattr__"))
theorem Cls.get {K : PySem.W.Frag} {C : Addr} (c : Cls K C) (f : Str) : PySem.W.plainGet K C f = true := c.pg
/-- no class of it has the name -/
def NoAttr (K : PySem.W.Frag) (C : Addr) (f : Str) : Prop := PySem.W.findIn K (.ref C) f = some none
/-- a constant of the class -/
structure Con (K : PySem.W.Frag) (C : Addr) (f : Str) (v : V) (u : Value) : Prop where
  at_ : PySem.W.findIn K (.ref C) f = some (some u)
  rel : RelV v u
  get : PySem.W.specialIn K u "__get__" = some none
  cp : PySem.W.copiedNames.contains f = false
/-- a method: a plain def of the class or of one above it -/
structure Meth (K : PySem.W.Frag) (C : Addr) (m : Str) (f : Addr) : Prop where
  at_ : PySem.W.findIn K (.ref C) m = some (some (.ref f))
  fn : PySem.W.isFn K (.ref f) = true
  kp : PySem.W.keepIn K (.ref f) = true

section
variable {X : Cx} {pins : List (Addr × Obj)} {σ : St} {H : Hp} {s : Shared} {a C dx : Addr} {fs : List (Str × V)} {f : Str} {v : V} {A : Around} {E : Value → Shared → Prop}

/-- a new instance, tracked, without attributes -/
theorem Inv.made (I : Inv X pins σ H s) : Inv X pins σ (upd (upd H s.heap.objs.size (.own (s.heap.objs.size + 1))) (s.heap.objs.size + 1) (.ins C s.heap.objs.size []))
    { s with heap := (s.heap.push PySem.W.emptyDict).push (PySem.W.instObj C s.heap.objs.size) } := by
  have e1 : (s.heap.push PySem.W.emptyDict).get? s.heap.objs.size = some PySem.W.emptyDict := Heap.get?_push_size s.heap rfl
  have e2 : ((s.heap.push PySem.W.emptyDict).push (PySem.W.instObj C s.heap.objs.size)).get? (s.heap.objs.size + 1) = some (PySem.W.instObj C s.heap.objs.size) := by
    have := Heap.get?_push_size (s.heap.push PySem.W.emptyDict) (o := PySem.W.instObj C s.heap.objs.size) rfl
    rwa [Heap.size_push] at this
  have e3 : (s.heap.push PySem.W.emptyDict).Ns s.heap.objs.size (fun _ => none) := ⟨PySem.W.emptyDict, #[], _, e1, rfl, (fun e he => absurd he (by simp)), fun _ => rfl⟩
  have I1 := I.laid (a := s.heap.objs.size) (o := .own (s.heap.objs.size + 1)) (h' := s.heap.push PySem.W.emptyDict) (t' := s.toks) (fun b u q => Heap.get?_push_of_some _ q) (Nat.le_refl _) ⟨_, e1⟩
  refine I1.laid (a := s.heap.objs.size + 1) (o := .ins C s.heap.objs.size []) (t' := s.toks) (fun b u q => Heap.get?_push_of_some _ q) (Nat.le_of_eq (Heap.size_push _ _)) ?_
  have ne : s.heap.objs.size ≠ s.heap.objs.size + 1 := Nat.ne_of_lt (Nat.lt_succ_self _)
  refine ⟨by rw [upd_ne ne, upd_same], Nat.zero_le _, ne, e2, fun _ => none, (Heap.Ns1.of_empty e3).at fun o q => Heap.get?_push_of_some _ q, fun _ => True.intro, fun y hy => absurd rfl hy⟩

end

/-! ### readings and rules -/
/-- e.f, an attribute of the instance -/
def tFld (K : PySem.W.Frag) (ta : TE) (f : Str) : TE := fun σ H Q => ta σ H fun x H1 => ∃ a C dx fs v, x = .ref a ∧ H1 a = some (.ins C dx fs) ∧ Cls K C ∧ NoAttr K C f ∧ fs.lookup f = some v ∧ Q v H1
/-- e.f, a constant of the class -/
def tCon (K : PySem.W.Frag) (ta : TE) (f : Str) : TE := fun σ H Q => ta σ H fun x H1 => ∃ a C dx fs v u, x = .ref a ∧ H1 a = some (.ins C dx fs) ∧ Cls K C ∧ Con K C f v u ∧ fs.lookup f = none ∧ Q v H1
/-- e.f = value -/
def sFld (K : PySem.W.Frag) (ta tv : TE) (f : Str) : TS := fun D σ H => tv σ H fun y H1 => ta σ H1 fun x H2 => ∃ a C dx fs, x = .ref a ∧ H2 a = some (.ins C dx fs) ∧ Cls K C ∧ NoAttr K C f ∧ fs.length < 1000 ∧
  D.nx σ (upd H2 a (.ins C dx (putF f y fs)))
/-- an augmented operator on two values -/
def InOp (X : Cx) (op : Operator) (rd : V → V → Hp → VK → Prop) : Prop :=
  ∀ (pins : List (Addr × Obj)) (s : Shared) (σ : St) (H : Hp) (x y : V) (u v : Value) (Q : VK), Inv X pins σ H s → RelV x u → RelV y v → rd x y H Q → wpAny (model X.prog X.w) X.A (inplaceOp op u v) (EP X pins σ Q) X.xe s
/-- e.f op= value -/
def sFldAug (K : PySem.W.Frag) (ta tv : TE) (rd : V → V → Hp → VK → Prop) (f : Str) : TS := fun D σ H => ta σ H fun x H1 => ∃ a C dx fs v, x = .ref a ∧ H1 a = some (.ins C dx fs) ∧ Cls K C ∧ NoAttr K C f ∧ fs.lookup f = some v ∧
  tv σ H1 fun y H2 => rd v y H2 fun z H3 => ∃ dx' fs', H3 a = some (.ins C dx' fs') ∧ fs'.length < 1000 ∧ D.nx σ (upd H3 a (.ins C dx' (putF f z fs')))

section
variable {X : Cx} {o e value : Expr} {f : Str} {pos pos' tpos : Pos} {ta tv : TE}
def rAdd : V → V → Hp → VK → Prop := fun x y H Q => ∃ i j, x = .int i ∧ y = .int j ∧ Q (.int (i + j)) H
def rSub : V → V → Hp → VK → Prop := fun x y H Q => ∃ i j, x = .int i ∧ y = .int j ∧ Q (.int (i - j)) H
end

/-! ### isinstance -/
section
variable {X : Cx} {pins : List (Addr × Obj)} {σ : St} {H : Hp} {s : Shared} {A : Around} {E : Value → Shared → Prop} {Q : Value → Shared → Prop} {c : Value} {b : Bool}
/-- the type of a value, as the fragment's deciders take it; for an instance its class -/
inductive TyOf (K : PySem.W.Frag) (H : Hp) : V → Value → Prop where
  | non : TyOf K H .non (.type "NoneType")
  | bl (x : Bool) : TyOf K H (.bl x) (.type "bool")
  | int (i : Int) : TyOf K H (.int i) (.type "int")
  | str (x : Str) : TyOf K H (.str x) (.type "str")
  | flt (x : UInt64) : TyOf K H (.flt x) (.type "float")
  | lst {a : Addr} {xs : List V} (e : H a = some (.lst xs)) : TyOf K H (.ref a) (.type "list")
  | frz {a : Addr} {o : Obj} {xs : List V} (e : H a = some (.frz o (.lst xs))) : TyOf K H (.ref a) (.type "list")
  | tup {a : Addr} {xs : List V} (e : H a = some (.tup xs)) : TyOf K H (.ref a) (.type "tuple")
  | dK {a : Addr} {kvs : List (Key × V)} (e : H a = some (.dK kvs)) : TyOf K H (.ref a) (.type "dict")
  | dT {a : Addr} {kvs : List (List Key × V)} (e : H a = some (.dT kvs)) : TyOf K H (.ref a) (.type "dict")
  | ins {a C dx : Addr} {fs : List (Str × V)} (e : H a = some (.ins C dx fs)) (cl : Cls K C) (ha : PySem.W.findIn K (.ref C) "__class__" = some (some (.builtin "object.__class__")))
      (hn : PySem.W.specialIn K (.builtin "object.__class__") "__get__" = some (some (.builtin "getset_descriptor.__get__"))) (htk : PySem.W.takesIn K (.builtin "object.__class__") = some true)
      (hm : PySem.W.mroIn K C (.type "object") = some true) : TyOf K H (.ref a) (.ref C)
end
end L2

namespace L2
open PySem PySem.Spec PyProof.Rows

/-! ### room -/
structure Room (k : Nat) (A : Around) : Prop where
  hd : A.handled = none
  dp : A.depth + 3 * k + 5 < recursionLimit
  un : A.units + 16 * k + 200 < cLine
theorem Room.mono {j k : Nat} {A : Around} (r : Room k A) (h : j ≤ k) : Room j A := ⟨r.hd, by have := r.dp; omega, by have := r.un; omega⟩
theorem Room.deeper {k : Nat} {A : Around} (r : Room (k + 1) A) (env : Env) : Room k (A.deeper env) :=
  ⟨r.hd, by have := r.dp; show A.depth + 1 + 3 * k + 5 < _; omega, by have := r.un; show A.units + 3 + 16 * k + 200 < _; omega⟩
theorem Room.in1 {k : Nat} {A : Around} (r : Room (k + 1) A) : Room k A.in1 :=
  ⟨r.hd, by have := r.dp; show A.depth + 3 * k + 5 < _; omega, by have := r.un; show A.units + 1 + 16 * k + 200 < _; omega⟩
theorem Room.depth {k : Nat} {A : Around} (r : Room k A) : A.depth < recursionLimit := by have := r.dp; omega
theorem Room.units {k : Nat} {A : Around} (r : Room k A) : A.units + 64 < cLine := by have := r.un; omega
/-! ### argument lists and displays -/
def tNil : TA := fun _ H Q => Q [] H
def tCons (ta : TE) (tr : TA) : TA := fun σ H Q => ta σ H fun x H1 => tr σ H1 fun xs H2 => Q (x :: xs) H2
section
variable {X : Cx} {e : Expr} {es : List Expr} {te : TE} {t : TA} {pos : Pos}
theorem pa_nil : PA X [] tNil := fun _ _ _ _ H Q I h => Calls.spliced_nil ⟨[], H, I, .nil, h⟩
theorem pa_cons (ha : PE X e te) (hr : PA X es t) (hs : starEach (e :: es) X.env = (false, eval e X.env) :: starEach es X.env := by rfl) : PA X (e :: es) (tCons te t) := by
  intro pos pins s σ H Q I h
  rw [hs]
  show wpAny _ _ (spliced ((false, eval e X.env) :: backTo pos (starEach es X.env))) _ _ s
  refine Calls.spliced_cons (thn (ha pins s σ H _ I h) fun u s1 ⟨x, H1, I1, r1, q1⟩ => ?_)
  exact thn (hr pos pins s1 σ H1 _ I1 q1) fun us s2 ⟨xs, H2, I2, r2, q2⟩ => ⟨x :: xs, H2, I2, .cons r1 r2, q2⟩

/-- a tuple, a list of written items -/
def tTup (t : TA) : TE := fun σ H Q => t σ H fun xs H1 => xs.length ≤ sizeLine ∧ ∀ p, H1 p = none → Q (.ref p) (upd H1 p (.tup xs))
def tLst (t : TA) : TE := fun σ H Q => t σ H fun xs H1 => xs.length ≤ sizeLine ∧ ∀ p, H1 p = none → Q (.ref p) (upd H1 p (.lst xs))
theorem pe_tup {x1} (h : PA X es t) : PE X (.Tuple es x1 pos) (tTup t) := by
  intro pins s σ H Q I hq
  refine wpAny_Tuple_spliced (thn (h pos pins s σ H _ I hq) fun us s1 ⟨xs, H1, I1, r, z, q⟩ => ⟨by rw [← r.length]; exact z, ?_⟩)
  have hf : H1 s1.heap.objs.size = none := I1.hok.fresh (Nat.le_refl _)
  refine ⟨.ref s1.heap.objs.size, upd H1 s1.heap.objs.size (.tup xs), I1.laid (t' := s1.toks) (fun b u e => Heap.get?_push_of_some _ e) (Nat.le_refl _) ?_, rfl, q _ hf⟩
  exact ⟨z, us, r, ⟨_, Heap.get?_push_size _ rfl, rfl, _, rfl⟩⟩
theorem pe_lst (h : PA X es t) : PE X (.List es pos) (tLst t) := by
  intro pins s σ H Q I hq
  refine wpAny_List_spliced (thn (h pos pins s σ H _ I hq) fun us s1 ⟨xs, H1, I1, r, z, q⟩ => ⟨by rw [← r.length]; exact z, ?_⟩)
  have hf : H1 s1.heap.objs.size = none := I1.hok.fresh (Nat.le_refl _)
  refine ⟨.ref s1.heap.objs.size, upd H1 s1.heap.objs.size (.lst xs), I1.laid (t' := s1.toks) (fun b u e => Heap.get?_push_of_some _ e) (Nat.le_refl _) ?_, rfl, q _ hf⟩
  exact ⟨z, us, 0, r, Heap.get?_push_size _ rfl⟩
end

/-! ### what a def promises -/
/-- a def's promise: the bound arguments in the parameters' order, the heap, the wanted end, the wanted exception -/
abbrev Sp := List V → Hp → VK → XK → Prop
/-- how an exception lies behind a call (file 08 gives it): the callers' frames, abstract heap and state ahead of the call, the wish, the exception, the state -/
abbrev CXT := List Env → Hp → Shared → XK → Value → Shared → Prop

/-- the state at a call -/
structure Env0 (P : Program) (w : World) (K : PySem.W.Frag) (mg : Str → Option Value) (base : Heap) (A : Around) (outer : List Env) (s : Shared) (H : Hp) : Prop where
  frames : A.frames = some outer
  mod : Mod K mg base
  bs : ∀ b o, base.get? b = some o → s.heap.get? b = some o ∧ H b = none
  bsz : base.objs.size ≤ s.heap.objs.size
  funs : s.heap.FunFrames base outer
  frf : ∀ b ∈ frs outer, H b = none
  hok : HOk P w H s.heap
  bare : AllBare s.gens
/-- a call's end -/
def CE (outer : List Env) (P : Program) (w : World) (H : Hp) (s : Shared) (Q : VK) (u : Value) (s' : Shared) : Prop :=
  ∃ v H', s'.os = s.os ∧ AllBare s'.gens ∧ Un (frs outer) [] H H' s.heap s'.heap ∧ HOk P w H' s'.heap ∧ RelV v u ∧ Q v H'
def CR (CX : CXT) (outer : List Env) (P : Program) (w : World) (H : Hp) (s : Shared) (Q : VK) (E : XK) (r : Result) (s' : Shared) : Prop :=
  match r with
  | .ok (.ret u) => CE outer P w H s Q u s'
  | .ok _ => False
  | .error e => CX outer H s E e s'
structure FnOk (P : Program) (w : World) (K : PySem.W.Frag) (mg : Str → Option Value) (base : Heap) (CX : CXT) (k : Nat) (f : Addr) (fd : FuncData) (ps : List Str) (sp : Sp) : Prop where
  len : ∀ vs H Q E, sp vs H Q E → vs.length = ps.length
  run : ∀ (A : Around) (outer : List Env) (s : Shared) (H : Hp) (args : Args) (us : List Value) (vs : List V) (Q : VK) (E : XK), Room k A → Env0 P w K mg base A outer s H → BindsTo s fd args (ps.zip us) → Vals vs us → sp vs H Q E →
    codeAny (model P w) A (.call (.ref f) args) (CR CX outer P w H s Q E) s
theorem FnOk.mono {P : Program} {w : World} {K : PySem.W.Frag} {mg : Str → Option Value} {base : Heap} {CX : CXT} {j k : Nat} {f : Addr} {fd : FuncData} {ps : List Str} {sp : Sp} (F : FnOk P w K mg base CX j f fd ps sp) (h : j ≤ k) :
    FnOk P w K mg base CX k f fd ps sp := ⟨F.len, fun A outer s H args us vs Q E hr => F.run A outer s H args us vs Q E (hr.mono h)⟩
theorem Env0.in1 {P : Program} {w : World} {K : PySem.W.Frag} {mg : Str → Option Value} {base : Heap} {A : Around} {outer : List Env} {s : Shared} {H : Hp} (e : Env0 P w K mg base A outer s H) :
    Env0 P w K mg base A.in1 outer s H := ⟨e.frames, e.mod, e.bs, e.bsz, e.funs, e.frf, e.hok, e.bare⟩

section
variable {X : Cx} {pins : List (Addr × Obj)} {σ : St} {H : Hp} {s s' : Shared}
/-- from a body: what a callee wants -/
theorem Inv.env0 (I : Inv X pins σ H s) : Env0 X.prog X.w X.K X.mg X.base X.A X.stack s H :=
  ⟨I.ok.frames, I.ok.mod, I.bs, Nat.le_trans I.ok.bsz I.sz, I.stack, I.stkFree, I.hok, I.bare⟩
/-- behind a call -/
theorem Inv.after {Q : VK} {u : Value} (I : Inv X pins σ H s) (h : CE X.stack X.prog X.w H s Q u s') : EP X pins σ Q u s' := by
  obtain ⟨v, H', os, bare, un, hok, r, q⟩ := h
  obtain ⟨hh, g, d, t, os'⟩ := s'
  obtain rfl : os' = s.os := os
  exact ⟨v, H', I.call (h' := hh) (g' := g) (d' := d) (t' := t) (ch := []) un hok bare (fun b z => absurd z (by simp)), r, q⟩
end

/-! ### calls -/
/-- f(..): the written arguments, then the defaults dvs; E: what is wanted of an exception -/
def tCall (sp : Sp) (dvs : List V) (E : XK) (t : TA) : TE := fun σ H Q => t σ H fun vs H1 => sp (vs ++ dvs) H1 Q E
/-- o.m(..) of an instance of the class at C -/
def tMeth (C : Addr) (m : Str) (sp : Sp) (dvs : List V) (E : XK) (ta : TE) (t : TA) : TE := fun σ H Q => ta σ H fun x H1 => ∃ a dx fs, x = .ref a ∧ H1 a = some (.ins C dx fs) ∧ fs.lookup m = none ∧
  t σ H1 fun vs H2 => sp (x :: (vs ++ dvs)) H2 Q E
/-- C(..): a new instance and its dict, then __init__ -/
def tMake (C : Addr) (sp : Sp) (dvs : List V) (E : XK) (t : TA) : TE := fun σ H Q => t σ H fun vs H1 => ∀ x dx, H1 x = none → H1 dx = none → dx ≠ x →
  sp (.ref x :: (vs ++ dvs)) (upd (upd H1 dx (.own x)) x (.ins C dx [])) (fun v H2 => v = .non ∧ Q (.ref x) H2) E

/-- how the parameters are bound: us the positional arguments, kw the keywords' values by name, ds the defaults that fill up -/
def Binds (K : PySem.W.Frag) (fd : FuncData) (ps : List Str) (ds : List Value) : Prop :=
  ∀ (s : Shared) (us : List Value), K.In s.heap → (us ++ ds).length = ps.length → BindsTo s fd ⟨us, []⟩ (ps.zip (us ++ ds))
/-- every parameter is given -/
theorem Binds.all {K : PySem.W.Frag} {fd : FuncData} {ps : List Str} (h : ∀ us : List Value, us.length = ps.length → bindArgs fd ⟨us, []⟩ = pure (ps.zip us)) : Binds K fd ps [] := fun s us _ hl => by
  rw [List.append_nil] at hl ⊢
  exact .of_eq (h us hl)

/-- an exception of a callee reaches what this body wants of exceptions -/
def Passes (CX : CXT) (X : Cx) (E : XK) : Prop := ∀ (pins : List (Addr × Obj)) (σ : St) (H : Hp) (s : Shared) (e : Value) (s' : Shared), Inv X pins σ H s → CX X.stack H s E e s' → X.xe e s'

section
variable {X : Cx} {CX : CXT} {k : Nat} {f C : Addr} {fd : FuncData} {ps : List Str} {sp : Sp} {dvs : List V} {ds : List Value} {E : XK} {x m : Str} {p pos apos : Pos} {e o : Expr} {es : List Expr} {ta : TE} {t : TA}

/-- the callee runs -/
theorem run_fn {pins : List (Addr × Obj)} {σ : St} {H : Hp} {s : Shared} {Q : VK} {us : List Value} {vs : List V} (F : FnOk X.prog X.w X.K X.mg X.base CX k f fd ps sp) (hr : Room k X.A) (hb : Binds X.K fd ps ds) (hd : Vals dvs ds) (hx : Passes CX X E)
    (I : Inv X pins σ H s) (r : Vals vs us) (h : sp (vs ++ dvs) H Q E) : wpAny (model X.prog X.w) X.A (call (.ref f) us) (EP X pins σ Q) X.xe s := by
  have r2 : Vals (vs ++ dvs) (us ++ ds) := r.append hd
  have hl : (us ++ ds).length = ps.length := by rw [← r2.length]; exact F.len _ _ _ _ h
  refine wpAny_call (codeAny_mono (F.run X.A X.stack s H ⟨us, []⟩ (us ++ ds) (vs ++ dvs) Q E hr I.env0 (hb s us I.kIn hl) r2 h) fun r s' hq => ?_)
  cases r with
  | error e => exact hx pins σ H s e s' I hq
  | ok fl =>
    cases fl with
    | ret u => exact I.after hq
    | next => exact False.elim hq
    | brk => exact False.elim hq
    | cont => exact False.elim hq

/-- what a class must have to be made -/
structure Mk (K : PySem.W.Frag) (C f : Addr) : Prop where
  makes : PySem.W.makesIn K C = true
  init : PySem.W.findIn K (.ref C) "__init__" = some (some (.ref f))
  fn : PySem.W.isFn K (.ref f) = true
  kp : PySem.W.keepIn K (.ref C) = true

end

/-! ### keywords -/
/-- the values of the keywords, from the left -/
def PK (X : Cx) (kws : List Keyword) (t : TA) : Prop :=
  ∀ (pos : Pos) (pins : List (Addr × Obj)) (s : Shared) (σ : St) (H : Hp) (Q : List V → Hp → Prop), Inv X pins σ H s → t σ H Q → wpAny (model X.prog X.w) X.A (evalAll ((backToKw pos (keywordEach kws X.env)).map (·.2))) (AP X pins σ Q) X.xe s
section
variable {X : Cx} {CX : CXT} {k : Nat} {f C : Addr} {fd : FuncData} {ps ks : List Str} {sp : Sp} {E : XK} {x m : Str} {p pos apos kpos : Pos} {e o : Expr} {es : List Expr} {kws : List Keyword} {te ta : TE} {t tk : TA} {nm : Option Str}
/-- how a call with keywords binds: g puts the positional values us and the keywords' values ws (names ks) in the parameters' order, defaults among them -/
structure KBinds (K : PySem.W.Frag) (fd : FuncData) (ps ks : List Str) (g : List Value → List Value → List Value) (gV : List V → List V → List V) : Prop where
  to : ∀ (s : Shared) (us ws : List Value), K.In s.heap → (g us ws).length = ps.length → BindsTo s fd ⟨us, ks.zip ws⟩ (ps.zip (g us ws))
  rel : ∀ {vs : List V} {us : List Value} {zs : List V} {ws : List Value}, Vals vs us → Vals zs ws → Vals (gV vs zs) (g us ws)
def tCallK (sp : Sp) (gV : List V → List V → List V) (E : XK) (t tk : TA) : TE := fun σ H Q => t σ H fun vs H1 => tk σ H1 fun zs H2 => sp (gV vs zs) H2 Q E
variable {g : List Value → List Value → List Value} {gV : List V → List V → List V}
end

/-! ### a def's body keeps its promise -/
/-- names: the parameters first -/
structure FnScope (N P : List Str) (sc : Scope) : Prop where
  kind : sc.kind = .function
  co : sc.isCoroutine = false
  gen : sc.isGenerator = false
  nd : N.Nodup
  pre : N.take P.length = P
  par : ∀ x ∈ P, sc.names.lookup x = some .local ∨ sc.names.lookup x = some .cell
  nofree : ∀ y ∈ sc.names, y.2 ≠ .free

theorem bindL_out {kindOf : Str → Option NameKind} {x : Str} : ∀ {binds : List (Str × Value)} {m : Str → Option Value}, (∀ v, (x, v) ∉ binds) → bindL kindOf binds m x = m x
  | [], _, _ => rfl
  | (n, v) :: r, m, h => by
    unfold bindL
    rw [bindL_out fun w hw => h w (List.mem_cons_of_mem _ hw)]
    split
    · have : x ≠ n := by rintro rfl; exact h v List.mem_cons_self
      simp [this]
    · rfl
theorem bindC_out {kindOf : Str → Option NameKind} {x : Str} : ∀ {binds : List (Str × Value)} {m : Str → Option Value}, (∀ v, (x, v) ∉ binds) → bindC kindOf binds m x = m x
  | [], _, _ => rfl
  | (n, v) :: r, m, h => by
    unfold bindC
    rw [bindC_out fun w hw => h w (List.mem_cons_of_mem _ hw)]
    split
    · rfl
    · have : x ≠ n := by rintro rfl; exact h v List.mem_cons_self
      simp [this]
theorem bindL_get {kindOf : Str → Option NameKind} {x : Str} {v : Value} : ∀ {P : List Str} {vs : List Value} {i : Nat} {m : Str → Option Value}, P.Nodup → P[i]? = some x → vs[i]? = some v → kindOf x = some .local →
    bindL kindOf (P.zip vs) m x = some v
  | [], _, _, _, _, h, _, _ => by simp at h
  | _ :: _, [], _, _, _, _, h, _ => by simp at h
  | p :: P, w :: vs, 0, m, nd, h1, h2, hk => by
    simp at h1 h2; subst h1; subst h2
    show bindL kindOf ((p, w) :: P.zip vs) m p = _
    unfold bindL
    rw [bindL_out fun v hv => (List.nodup_cons.mp nd).1 (List.of_mem_zip hv).1, if_pos hk]
    simp
  | p :: P, w :: vs, i + 1, m, nd, h1, h2, hk => by
    show bindL kindOf ((p, w) :: P.zip vs) m x = _
    unfold bindL
    exact bindL_get (i := i) (List.nodup_cons.mp nd).2 (by simpa using h1) (by simpa using h2) hk
theorem bindC_get {kindOf : Str → Option NameKind} {x : Str} {v : Value} : ∀ {P : List Str} {vs : List Value} {i : Nat} {m : Str → Option Value}, P.Nodup → P[i]? = some x → vs[i]? = some v → kindOf x ≠ some .local →
    bindC kindOf (P.zip vs) m x = some v
  | [], _, _, _, _, h, _, _ => by simp at h
  | _ :: _, [], _, _, _, _, h, _ => by simp at h
  | p :: P, w :: vs, 0, m, nd, h1, h2, hk => by
    simp at h1 h2; subst h1; subst h2
    show bindC kindOf ((p, w) :: P.zip vs) m p = _
    unfold bindC
    rw [bindC_out fun v hv => (List.nodup_cons.mp nd).1 (List.of_mem_zip hv).1, if_neg hk]
    simp
  | p :: P, w :: vs, i + 1, m, nd, h1, h2, hk => by
    show bindC kindOf ((p, w) :: P.zip vs) m x = _
    unfold bindC
    exact bindC_get (i := i) (List.nodup_cons.mp nd).2 (by simpa using h1) (by simpa using h2) hk

/-- the names' values at the entry -/
def start (N : List Str) (vs : List V) : St := vs.map some ++ List.replicate (N.length - vs.length) none

/-- the context of a def's body, at its entry; an exception leaves the frame, then lies as CX says -/
def cxOf (CX : CXT) (P : Program) (w : World) (K : PySem.W.Frag) (mg : Str → Option Value) (base : Heap) (N : List Str) (qual : Str) (scope : Scope) (f : Addr) (cd : Value) (A : Around) (outer : List Env) (s : Shared) (H : Hp) (E : XK) : Cx where
  prog := P
  w := w
  K := K
  mg := mg
  base := base
  A := A.deeper (envOfC qual scope s.heap.objs.size f cd)
  N := N
  s₀ := s
  H₀ := H
  env := envOfC qual scope s.heap.objs.size f cd
  outer := outer
  stack := envOfC qual scope s.heap.objs.size f cd :: outer
  ex := []
  calm := true
  fn := fun _ => true
  pn := []
  xe := fun e s' => wpAny (model P w) (A.deeper (envOfC qual scope s.heap.objs.size f cd)) (leaving (envOfC qual scope s.heap.objs.size f cd) e) (fun _ s'' => CX outer H s E e s'') (fun e' s'' => CX outer H s E e' s'') s'

theorem cell_has {sc : Scope} {n : Nat} {x : Str} (h : sc.names.lookup x = some .cell) : ∃ c, (cellsFrom n sc.names []).lookup x = some c := by
  have q := PySem.W.cellsFrom_some sc.names n [] (.inl h)
  exact Option.isSome_iff_exists.mp q

theorem inv_start {CX : CXT} {P : Program} {w : World} {K : PySem.W.Frag} {mg : Str → Option Value} {base : Heap} {N ps : List Str} {qual : Str} {scope : Scope} {f : Addr} {cd : Value} {A : Around} {outer : List Env} {s s1 : Shared} {H : Hp} {E : XK} {us : List Value} {vs : List V}
    (S : FnScope N ps scope) (hd : A.handled = none) (e0 : Env0 P w K mg base A outer s H) (hl : vs.length = ps.length) (r : Vals vs us)
    (x : InCallC s s.heap.objs.size (bindL (envOfC qual scope s.heap.objs.size f cd).kindOf (ps.zip us) fun _ => none) (cellsFrom (s.heap.objs.size + 1) scope.names []) (bindC (envOfC qual scope s.heap.objs.size f cd).kindOf (ps.zip us) fun _ => none) s1) :
    Inv (cxOf CX P w K mg base N qual scope f cd A outer s H E) [] (start N vs) H s1 := by
  have hpl : ps.length ≤ N.length := by have := congrArg List.length S.pre; rw [List.length_take] at this; omega
  obtain ⟨h1, tk, rfl, hk⟩ := x.done
  have noA : ∀ b : Addr, b ∉ (cxOf CX P w K mg base N qual scope f cd A outer s H E).ex := fun b z => absurd (show b ∈ ([] : List Addr) from z) (by simp)
  refine ⟨⟨e0.mod, S.kind, rfl, rfl, Nat.le_refl _, fun y z c h1 h2 => ?_, fun y hy => ?_, fun y c _ h => ?_, fun _ => hd, Around.frames_deeper e0.frames, .inr ⟨rfl, rfl⟩, fun b z => absurd z (noA b), e0.bs, e0.bsz, fun b _ _ => noA b, fun b z => absurd z (noA b), e0.funs, e0.frf⟩,
    rfl, e0.bare, Un.kept hk, ⟨_, x.toInCall.ns, fun i y v h1 h2 h3 => ?_⟩, fun y c h => ⟨_, x.cell y c h⟩, e0.hok.fresh (Nat.le_refl _), fun y c h => ?_, fun p hp => absurd (show p ∈ ([] : List (Addr × Obj)) from hp) (by simp), e0.hok.kept hk, ?_⟩
  · exact name_of_addr x.apart (PySem.mem_of_lookup h1) (PySem.mem_of_lookup h2)
  · have hy : scope.names.lookup y = some .cell ∨ scope.names.lookup y = some .free := hy
    rcases hy with hy | hy
    · exact cell_has hy
    · exact absurd rfl (S.nofree _ (PySem.mem_of_lookup hy))
  · exact Nat.le_of_lt (x.above y c (PySem.mem_of_lookup h))
  · have hi : i < vs.length := by
      unfold start at h2
      by_cases hi : i < vs.length
      · exact hi
      · rw [List.getElem?_append_right (by simpa using hi)] at h2
        rw [List.getElem?_replicate] at h2
        split at h2 <;> cases h2
    have ha : vs[i]? = some v := by
      unfold start at h2
      rw [List.getElem?_append_left (by simpa using hi), List.getElem?_map] at h2
      cases e : vs[i]? with
      | none => rw [e] at h2; cases h2
      | some a => rw [e] at h2; cases h2; rfl
    obtain ⟨u, hu, rv⟩ := r.get ha
    have hp : ps[i]? = some y := by
      rw [← S.pre, List.getElem?_take_of_lt (by omega)]; exact h1
    have ndP : ps.Nodup := by rw [← S.pre]; exact S.nd.sublist (List.take_sublist _ _)
    refine ⟨u, rv, ?_⟩
    rcases S.par y (List.mem_of_getElem? hp) with k | k
    · exact .inl ⟨k, bindL_get ndP hp hu k⟩
    · obtain ⟨c, e⟩ := cell_has (n := s.heap.objs.size + 1) k
      refine .inr ⟨.inl k, c, e, ?_⟩
      have q := x.cell y c e
      rw [bindC_get ndP hp hu (by show scope.names.lookup y ≠ _; rw [k]; decide)] at q
      exact q
  · exact e0.hok.fresh (Nat.le_of_lt (x.above y c (PySem.mem_of_lookup h)))
  · unfold start
    show _ = N.length
    rw [List.length_append, List.length_map, List.length_replicate]
    omega

/-- THE RULE: a def (or a method) of the text, by its body. The body's reading t is chosen for each entry; it is run at the parameters' values -/
theorem fn_of {CX : CXT} {P : Program} {w : World} {K : PySem.W.Frag} {mg : Str → Option Value} {base : Heap} {k : Nat} {f : Addr} {name qual : Str} {params : Arguments} {body : List Stmt} {scope : Scope} {dV kV doc pm cdv ct oc : Value} {an od : Option Addr}
    {osl : Array (Option Value)} {N ps : List Str} {sp : Sp} (lk : K.lookup f = some ⟨oc, od, .func (PySem.W.fnOf name qual params body scope dV kV doc pm an cdv ct), osl⟩) (hcd : PySem.W.codeIn K cdv qual = true) (S : FnScope N ps scope)
    (len : ∀ vs H Q E, sp vs H Q E → vs.length = ps.length)
    (hbody : ∀ (A : Around) (outer : List Env) (s : Shared) (H : Hp) (vs : List V) (Q : VK) (E : XK), Room k (A.deeper (envOfC qual scope s.heap.objs.size f cdv)) → sp vs H Q E →
      ∃ t, PSs (cxOf CX P w K mg base N qual scope f cdv A outer s H E) body t ∧ t { nx := fun _ H' => Q .non H', rt := Q } (start N vs) H) :
    FnOk P w K mg base CX (k + 1) f (PySem.W.fnOf name qual params body scope dV kV doc pm an cdv ct) ps sp := by
  refine ⟨len, fun A outer s H args us vs Q E hr e0 hb r hsp => ?_⟩
  have hl := len _ _ _ _ hsp
  have KX : K.In s.heap := e0.mod.kin.keeps fun b o e => (e0.bs b o e).1
  have lim : s.heap.NoLimit := e0.mod.nolimit.keeps fun b o e => (e0.bs b o e).1
  have hkind : ∀ y ∈ ps.zip us, scope.names.lookup y.1 = some .local ∨ (scope.names.lookup y.1 = some .cell ∧ ((cellsFrom (s.heap.objs.size + 1) scope.names []).lookup y.1).isSome = true) := fun ⟨n, v⟩ hy => by
    rcases S.par n (List.of_mem_zip hy).1 with q | q
    · exact .inl q
    · exact .inr ⟨q, PySem.W.cellsFrom_some _ _ _ (.inl q)⟩
  refine codeAny_call_function hr.depth (KX _ _ lk) rfl S.co S.gen rfl (PySem.W.codeRec_of KX hcd) (hb _ _ _ _ ?_)
  refine wpAny_newFunctionEnv_cells S.kind hkind fun env he s1 x => ?_
  subst he
  refine ⟨lim.keeps x.toInCall.keep, codeAny_func ?_⟩
  obtain ⟨t, ht, hq⟩ := hbody A outer s H vs Q E (hr.deeper _) hsp
  have I : Inv (cxOf CX P w K mg base N qual scope f cdv A outer s H E) [] (start N vs) H s1 := inv_start S hr.hd e0 hl r x
  refine wpAny_mono (ht [] s1 (start N vs) H _ I hq) (fun fl s' hs => ?_) fun e s' hs => hs
  have fin : ∀ {σ' : St} {H' : Hp} {v : V} {u : Value}, Inv (cxOf CX P w K mg base N qual scope f cdv A outer s H E) [] σ' H' s' → RelV v u → Q v H' → CE outer P w H s Q u s' :=
    fun {σ' H' v u} J rv q => ⟨v, H', J.os, J.bare, J.base, J.hok, rv, q⟩
  cases fl with
  | ret u =>
    obtain ⟨v, σ', H', J, rv, q⟩ := hs
    exact fin J rv q
  | next =>
    obtain ⟨σ', H', J, q⟩ := hs
    exact fin (v := V.non) (u := Value.none) J rfl q
  | brk =>
    obtain ⟨_, _, _, q⟩ := hs
    exact False.elim q
  | cont =>
    obtain ⟨_, _, _, q⟩ := hs
    exact False.elim q
end L2

namespace L2
open PySem PySem.Spec PyProof.Rows
section
variable {X : Cx} {x : Str} {p pos : Pos} {e : Expr} {es : List Expr} {t : TA} {id T : String} {r : List V → Hp → VK → Prop}

def tCB (r : List V → Hp → VK → Prop) (t : TA) : TE := fun σ H Q => t σ H fun vs H1 => r vs H1 Q
/-- f(e, ..), f a built-in function -/
theorem pe_callB (hc : CallR X (.builtin id) r) (hg : Gl X x) (hm : X.mg x = none) (hv : bootBuiltins x = some (.builtin id)) (ha : PA X (e :: es) t) (hn : x ≠ "__name__" := by decide) (hdb : (x == ("__debug__" : Str)) = false := by decide)
    (he : starEach (e :: es) X.env = (false, eval e X.env) :: starEach es X.env := by rfl) (hpl : (backTo pos (starEach es X.env)).any (·.1) = false := by rfl) : PE X (.Call (.Name x p) (e :: es) [] pos) (tCB r t) := by
  intro pins s σ H Q I h
  refine wpAny_Call_Name_kw (ld_blt I hg hm hv ?_ hn hdb)
  exact PyProof.Rows.callWith_builtin1 (thn (ha pos pins s σ H _ I h) fun us s1 ⟨vs, H1, I1, r1, q1⟩ => hc pins s1 σ H1 vs us Q I1 r1 q1) he hpl
/-- T(e, ..), T a built-in type -/
theorem pe_callTy (hc : CallR X (.type T) r) (hg : Gl X x) (hm : X.mg x = none) (hv : bootBuiltins x = some (.type T)) (ha : PA X (e :: es) t) (hn : x ≠ "__name__" := by decide) (hdb : (x == ("__debug__" : Str)) = false := by decide)
    (he : starEach (e :: es) X.env = (false, eval e X.env) :: starEach es X.env := by rfl) (hpl : (backTo pos (starEach es X.env)).any (·.1) = false := by rfl) : PE X (.Call (.Name x p) (e :: es) [] pos) (tCB r t) := by
  intro pins s σ H Q I h
  refine wpAny_Call_Name_kw (ld_blt I hg hm hv ?_ hn hdb)
  exact PyProof.Rows.callWith_type1 (thn (ha pos pins s σ H _ I h) fun us s1 ⟨vs, H1, I1, r1, q1⟩ => hc pins s1 σ H1 vs us Q I1 r1 q1) he hpl
end
end L2

namespace HT
open PySem PyProof.Rows

/-- t < u of tuples of ints -/
def lexLt : List Int → List Int → Bool
  | [], [] => false
  | [], _ :: _ => true
  | _ :: _, [] => false
  | x :: xs, y :: ys => if x = y then lexLt xs ys else decide (x < y)
section
open PySem.SeqAt
open PySem.AutoSeq1 (wpAny_loadPart')
open PySem.MeetsSeq PySem.MeetsSeq2 PySem.MeetsSeq3

end

section
variable {prog : Program} {w : World} {A : Around} {E : Value → Shared → Prop} {s : Shared}

/-! ### t[a:b], not the whole -/
/-- a slice's bound as a place among n (d where it is left out) -/
def sIx (n d : Nat) : Option Int → Nat
  | none => d
  | some v => if v < 0 then (v + (n : Int)).toNat else min v.toNat n
theorem sIx_le (n d : Nat) (hd : d ≤ n) (o : Option Int) : sIx n d o ≤ n := by
  cases o with
  | none => exact hd
  | some v =>
    show (if v < 0 then (v + (n : Int)).toNat else min v.toNat n) ≤ n
    by_cases hv : v < 0
    · rw [if_pos hv]; omega
    · rw [if_neg hv]; exact Nat.min_le_right _ _
theorem clip_eq (v : Int) (n d : Nat) : (if v < 0 then max (v + (n : Int)) 0 else min v (n : Int)) = ((sIx n d (some v) : Nat) : Int) := by
  show (if v < 0 then max (v + (n : Int)) 0 else min v (n : Int)) = (((if v < 0 then (v + (n : Int)).toNat else min v.toNat n) : Nat) : Int)
  by_cases hv : v < 0
  · simp only [if_pos hv]; omega
  · simp only [if_neg hv]; omega
theorem adjust_gen (lo hi : Option Int) (n : Nat) : Builtin.Slice.sliceAdjust lo hi 1 (n : Int) = (((sIx n 0 lo : Nat) : Int), ((sIx n n hi : Nat) : Int)) := by
  have h1 : ¬ ((1 : Int) < 0) := by omega
  unfold Builtin.Slice.sliceAdjust
  simp only [h1, if_false]
  refine Prod.ext ?_ ?_
  · cases lo with
    | none => rfl
    | some v => exact clip_eq v n 0
  · cases hi with
    | none => rfl
    | some v => exact clip_eq v n n
theorem places_gen (i j : Nat) : Builtin.Slice.slicePlaces (i : Int) (j : Int) 1 = j - i := by
  unfold Builtin.Slice.slicePlaces
  have h1 : (1 : Int) > 0 := by omega
  simp only [h1, if_true, Int.ediv_one]
  split <;> omega
theorem slicePart_ {v : Value} {o : Option Int} {Q : Option Int → Shared → Prop} (p : IsPart v o) (h : Q o s) : wpAny (model prog w) A (Builtin.Slice.slicePartIndex v) Q E s := by
  cases p with
  | none => exact slicePart_none h
  | int i t => exact slicePart_int h
theorem sliceApplied_gen {sl : Addr} {vl vu : Value} {lo hi : Option Int} {n : Nat} {Q : Int × Int × Nat → Shared → Prop} (hs : s.heap.IsSliceOf sl vl vu .none) (pl : IsPart vl lo) (pu : IsPart vu hi)
    (h : Q (((sIx n 0 lo : Nat) : Int), 1, sIx n n hi - sIx n 0 lo) s) : wpAny (model prog w) A (Builtin.Slice.sliceApplied (.ref sl) (pure (n : Int))) Q E s := by
  obtain ⟨os, hos, hcs, hds⟩ := id hs
  unfold Builtin.Slice.sliceApplied Builtin.Slice.sliceFields
  refine wpAny_bind (wpAny_bind (wpAny_field hos hds (x := vl) rfl (wpAny_bind (wpAny_field hos hds (x := vu) rfl (wpAny_bind (wpAny_field hos hds (x := .none) rfl (wpAny_pure ?_)))))))
  refine wpAny_bind (slicePart_none ?_)
  show wpAny _ _ (if ((1 : Int) == 0) = true then _ else _) _ _ s
  rw [if_neg (by decide)]
  refine wpAny_bind (slicePart_ pl (wpAny_bind (slicePart_ pu (wpAny_bind (wpAny_pure ?_)))))
  show wpAny _ _ (match Builtin.Slice.sliceAdjust lo hi 1 (n : Int) with | (lo, hi) => pure (lo, (1 : Int), Builtin.Slice.slicePlaces lo hi 1)) _ _ s
  rw [adjust_gen lo hi n]
  show wpAny _ _ (pure (((sIx n 0 lo : Nat) : Int), (1 : Int), Builtin.Slice.slicePlaces ((sIx n 0 lo : Nat) : Int) ((sIx n n hi : Nat) : Int) 1)) _ _ s
  rw [places_gen]
  exact wpAny_pure h
theorem pick_gen (xs : Array Value) (i k : Nat) : ((List.range k).filterMap fun (m : Nat) => xs[((i : Int) + (m : Int) * 1).toNat]?).toArray = ((xs.toList.drop i).take k).toArray := by
  have e : (fun (m : Nat) => xs[((i : Int) + (m : Int) * 1).toNat]?) = fun m => xs[i + m]? := by
    funext m
    have : ((i : Int) + (m : Int) * 1).toNat = i + m := by omega
    rw [this]
  rw [e]
  have := pick_run xs i k
  rw [List.filterMap_map] at this
  have e2 : ((fun x => xs[x]?) ∘ fun x => i + x) = fun m => xs[i + m]? := rfl
  rw [e2] at this
  rw [this]

theorem getItem_tuple_cut {t sl : Addr} {items : Array Value} {vl vu : Value} {lo hi : Option Int} {Q : Value → Shared → Prop} (ht : IsTup s.heap t items) (hs : s.heap.IsSliceOf sl vl vu .none) (pl : IsPart vl lo) (pu : IsPart vu hi)
    (hw : ¬ (sIx items.size 0 lo = 0 ∧ sIx items.size items.size hi = items.size))
    (h : Q (.ref s.heap.objs.size) { s with heap := s.heap.push { cls := .type "tuple", data := .seq ((items.toList.drop (sIx items.size 0 lo)).take (sIx items.size items.size hi - sIx items.size 0 lo)).toArray } })
    (hsz : items.size ≤ sizeLine) : wpAny (model prog w) A (getItem (.ref t) (.ref sl)) Q E s := by
  have htake : sizeOk (.seq ((items.toList.drop (sIx items.size 0 lo)).take (sIx items.size items.size hi - sIx items.size 0 lo)).toArray) := by
    show ((items.toList.drop (sIx items.size 0 lo)).take (sIx items.size items.size hi - sIx items.size 0 lo)).toArray.size ≤ sizeLine
    rw [List.size_toArray, List.length_take, List.length_drop, Array.length_toList]
    omega
  have hj : sIx items.size items.size hi ≤ items.size := sIx_le _ _ (Nat.le_refl _) hi
  obtain ⟨os, hos, hcs, hds⟩ := id hs
  have hTs : s.TypeIs (.ref sl) "slice" := ⟨os, hos, hcs⟩
  unfold getItem
  try with_reducible refine wpAny_holding ?_
  first | refine wpAny_bind (wpAny_pure ?_) | skip
  refine wpAny_bind (wpAny_sequenceKey ht.typeIs (by decide) ?_)
  refine wpAny_bind (wpAny_callSpecial?_slot (name := Str.ofString "__getitem__") ht.typeIs PyProof.Rows.slot_tuple_getitem
    (wpAny_call_entry PyProof.Rows.slot_tuple_getitem ht.typeIs entry_tuple_getitem ?_ (args_tuple_getitem _ _)))
  show wpAny _ _ (Builtin.Tuple.tupleItemsOf (.ref t) >>= _) _ _ s
  refine wpAny_bind (tupleItemsOf_ ht ?_)
  refine wpAny_bind (wpAny_typeOf hTs ?_)
  rw [if_pos (by decide)]
  refine wpAny_bind (sliceApplied_gen hs pl pu ?_)
  have hno : ¬ ((((sIx items.size 0 lo : Nat) : Int) == 0 && (1 : Int) == 1 && (sIx items.size items.size hi - sIx items.size 0 lo) == items.size) = true) := by
    intro q
    rw [Bool.and_eq_true, Bool.and_eq_true] at q
    have q1 : ((sIx items.size 0 lo : Nat) : Int) = 0 := eq_of_beq q.1.1
    have q2 : sIx items.size items.size hi - sIx items.size 0 lo = items.size := eq_of_beq q.2
    exact hw ⟨by omega, by omega⟩
  show wpAny _ _ (if (((sIx items.size 0 lo : Nat) : Int) == 0 && (1 : Int) == 1 && (sIx items.size items.size hi - sIx items.size 0 lo) == items.size) = true then _ else _) _ _ s
  rw [if_neg hno, pick_gen]
  first
    | exact wpAny_bind (m := Builtin.Tuple.tupleExact _) (wpAny_newObj_type (wpAny_pure ⟨_, rfl, wpAny_pure h⟩) htake)
    | exact wpAny_bind (m := Builtin.Tuple.tupleExact _) (wpAny_newObj_type (wpAny_bind (wpAny_pure (wpAny_pure ⟨_, rfl, wpAny_pure h⟩))) htake)
    | exact wpAny_bind (wpAny_bind (m := Builtin.Tuple.tupleExact _) (wpAny_newObj_type (wpAny_pure (wpAny_pure ⟨_, rfl, wpAny_pure h⟩)) htake))
    | exact wpAny_bind (wpAny_bind (m := Builtin.Tuple.tupleExact _) (wpAny_newObj_type (wpAny_pure ⟨_, rfl, wpAny_pure h⟩) htake))
end
end HT

namespace L2
open PySem PySem.Spec PyProof.Rows

/-! ### the parts of a slice -/
abbrev TO := St → Hp → (Option Int → Hp → Prop) → Prop
/-- a slice's part (left out, or an int) -/
def PO (X : Cx) (e : Option Expr) (t : TO) : Prop :=
  ∀ (pins : List (Addr × Obj)) (s : Shared) (σ : St) (H : Hp) (Q : Option Int → Hp → Prop), Inv X pins σ H s → t σ H Q →
    wpAny (model X.prog X.w) X.A (evalPart e X.env) (fun u s' => ∃ o H', Inv X pins σ H' s' ∧ IsPart u o ∧ Q o H') X.xe s
def tNoPart : TO := fun _ H Q => Q none H
def tPart (t : TE) : TO := fun σ H Q => t σ H fun x H1 => ∃ i, x = .int i ∧ Q (some i) H1

theorem intsAre_of {ns : List Int} : ∀ {us : List Value}, Vals (ns.map V.int) us → IntsAre us ns := by
  induction ns with
  | nil => intro us r; rw [List.map_nil] at r; cases r; exact .nil
  | cons n ns ih =>
    intro us r
    rw [List.map_cons] at r
    cases r with
    | cons r1 r2 =>
      obtain ⟨t, e⟩ := r1
      subst e
      exact .cons n t (ih r2)

section
variable {X : Cx} {e : Expr} {te : TE} {lo hi : Option Expr} {tl th : TO} {pos p2 : Pos}

theorem po_none : PO X none tNoPart := by
  intro pins s σ H Q I h
  rw [evalPart_none]
  exact wpAny_pure ⟨none, H, I, .none, h⟩
theorem po_some (h : PE X e te) : PO X (some e) (tPart te) := by
  intro pins s σ H Q I hw
  rw [evalPart_some]
  refine thn (h pins s σ H _ I hw) fun u s1 ⟨x, H1, I1, r1, q1⟩ => ?_
  obtain ⟨i, rfl, q⟩ := q1
  obtain ⟨t, rfl⟩ := r1
  exact ⟨some i, H1, I1, .int i t, q⟩

/-- what a slice of a value is, by values: the slice object stands at sl -/
def SlR (X : Cx) (r : V → Option Int → Option Int → Hp → VK → Prop) : Prop :=
  ∀ (pins : List (Addr × Obj)) (s : Shared) (σ : St) (H : Hp) (x : V) (v vl vu : Value) (lo hi : Option Int) (sl : Addr) (Q : VK), Inv X pins σ H s → RelV x v → s.heap.IsSliceOf sl vl vu .none → IsPart vl lo → IsPart vu hi → r x lo hi H Q →
    ∃ T id, typeLookup (.type T) "__getitem__" = pure (some (.builtin id)) ∧ s.TypeIs v T ∧ wpAny (model X.prog X.w) X.A (getItem v (.ref sl)) (EP X pins σ Q) X.xe s
theorem SlR.or {r r' : V → Option Int → Option Int → Hp → VK → Prop} (h : SlR X r) (h' : SlR X r') : SlR X (fun x lo hi H Q => r x lo hi H Q ∨ r' x lo hi H Q) := by
  intro pins s σ H x v vl vu lo hi sl Q I rx hs pl pu q
  rcases q with q | q
  · exact h pins s σ H x v vl vu lo hi sl Q I rx hs pl pu q
  · exact h' pins s σ H x v vl vu lo hi sl Q I rx hs pl pu q
def tSl (r : V → Option Int → Option Int → Hp → VK → Prop) (te : TE) (tl th : TO) : TE := fun σ H Q => te σ H fun x H1 => tl σ H1 fun l H2 => th σ H2 fun u H3 => r x l u H3 Q
/-- a[lo:hi], any a -/
theorem pe_slice {r : V → Option Int → Option Int → Hp → VK → Prop} (hr : SlR X r) (he : PE X e te) (hl : PO X lo tl) (hu : PO X hi th) : PE X (.Subscript e (.Slice lo hi none p2) pos) (tSl r te tl th) := by
  intro pins s σ H Q I h
  refine Subscript_ (thn (he pins s σ H _ I h) fun v s1 ⟨x, H1, I1, r1, q1⟩ => ?_)
  refine wpAny_Slice (thn (hl pins s1 σ H1 _ I1 q1) fun vl s2 ⟨l, H2, I2, pl, q2⟩ => thn (hu pins s2 σ H2 _ I2 q2) fun vu s3 ⟨u, H3, I3, pu, q3⟩ => ?_)
  rw [evalPart_none]
  refine wpAny_pure ?_
  have I4 : Inv X pins σ H3 { s3 with heap := s3.heap.push { cls := .type "slice", data := .fields #[vl, vu, .none] } } := I3.kept (t' := s3.toks) fun b ob q => Heap.get?_push_of_some _ q
  obtain ⟨T, id, hT, ht, hg⟩ := hr pins { s3 with heap := s3.heap.push { cls := .type "slice", data := .fields #[vl, vu, .none] } } σ H3 x v vl vu l u s3.heap.objs.size Q I4 r1 (Heap.IsSliceOf.new ..) pl pu q3
  show wpAny (model X.prog X.w) X.A (subscriptTail e (.Slice lo hi none p2) v (.ref s3.heap.objs.size)) (EP X pins σ Q) X.xe { s3 with heap := s3.heap.push { cls := .type "slice", data := .fields #[vl, vu, .none] } }
  exact tail_any (ops := [.ref s3.heap.objs.size, v]) ht hT hg (by with_unfolding_all rfl)

/-- the items of xs[lo:hi] -/
def cutV (xs : List V) (lo hi : Option Int) : List V := (xs.drop (HT.sIx xs.length 0 lo)).take (HT.sIx xs.length xs.length hi - HT.sIx xs.length 0 lo)
theorem cutV_length (xs : List V) (lo hi : Option Int) : (cutV xs lo hi).length ≤ xs.length := by
  unfold cutV
  rw [List.length_take, List.length_drop]
  omega
/-- t[lo:hi], not the whole of it (the whole would be t itself) -/
def rSlT (K : PySem.W.Frag) : V → Option Int → Option Int → Hp → VK → Prop := fun x lo hi H Q => ∃ a xs, x = .ref a ∧ SqT K H a xs ∧
  ¬ (HT.sIx xs.length 0 lo = 0 ∧ HT.sIx xs.length xs.length hi = xs.length) ∧ ∀ p, H p = none → Q (.ref p) (upd H p (.tup (cutV xs lo hi)))
theorem sl_tup : SlR X (rSlT X.K) := by
  intro pins s σ H x v vl vu lo hi sl Q I rx hs pl pu h
  obtain ⟨a, xs, rfl, hx, hw, q⟩ := h
  cases rx
  obtain ⟨its, r, ht, hz⟩ := I.tuple hx
  have hlen : its.toArray.size = xs.length := by rw [List.size_toArray]; exact r.length.symm
  refine ⟨"tuple", _, PyProof.Rows.slot_tuple_getitem.lookup, ht.typeIs, ?_⟩
  refine HT.getItem_tuple_cut ht hs pl pu (by rw [hlen]; exact hw) ?_ (by rw [hlen]; exact hz)
  rw [hlen]
  refine ⟨.ref s.heap.objs.size, _, I.laid (t' := s.toks) (o := .tup (cutV xs lo hi)) (fun b ob q => Heap.get?_push_of_some _ q) (Nat.le_refl _) ?_, rfl, q _ (I.hok.fresh (Nat.le_refl _))⟩
  exact ⟨Nat.le_trans (cutV_length xs lo hi) hz, _, (r.drop (HT.sIx xs.length 0 lo)).take (HT.sIx xs.length xs.length hi - HT.sIx xs.length 0 lo), IsTup.new _ _⟩

/-! ### t < u, t + u -/
def rLtT (K : PySem.W.Frag) : R2 := fun x y H Q => ∃ a b ns ms, x = .ref a ∧ y = .ref b ∧ SqT K H a (ns.map V.int) ∧ SqT K H b (ms.map V.int) ∧ Q (.bl (HT.lexLt ns ms)) H
/-- t + u, t not empty: u empty gives t itself -/
def rCatT (K : PySem.W.Frag) : R2 := fun x y H Q => ∃ a b xs ys, x = .ref a ∧ y = .ref b ∧ SqT K H a xs ∧ SqT K H b ys ∧ xs ≠ [] ∧ xs.length + ys.length ≤ sizeLine ∧
  (ys = [] → Q (.ref a) H) ∧ (ys ≠ [] → ∀ p, H p = none → Q (.ref p) (upd H p (.tup (xs ++ ys))))
end
end L2

namespace L2
open PySem PySem.Spec PyProof.Rows

/-! ### places -/
/-- the place that an index of any sign means -/
def ixN (n : Nat) (i : Int) : Option Nat := if 0 ≤ i then (if i < n then some i.toNat else none) else if -(n : Int) ≤ i then some (i + n).toNat else none
def atI {α : Type} (xs : List α) (i : Int) : Option α := (ixN xs.length i).bind fun j => xs[j]?
theorem ixN_seq {n : Nat} {i : Int} {j : Nat} (h : ixN n i = some j) : seqIndex? i n = some j ∧ j < n ∧ -(n : Int) ≤ i ∧ i < n := by
  unfold ixN at h
  by_cases h0 : 0 ≤ i
  · rw [if_pos h0] at h
    by_cases h1 : i < n
    · rw [if_pos h1] at h
      have e : i.toNat = j := Option.some.inj h
      exact ⟨by rw [seqIndex_of h0 h1, e], by omega, by omega, h1⟩
    · rw [if_neg h1] at h; cases h
  · rw [if_neg h0] at h
    by_cases h1 : -(n : Int) ≤ i
    · rw [if_pos h1] at h
      have e : (i + n).toNat = j := Option.some.inj h
      exact ⟨by rw [seqIndex_neg (by omega) h1, e], by omega, h1, by omega⟩
    · rw [if_neg h1] at h; cases h
theorem atI_get {α : Type} {xs : List α} {i : Int} {v : α} (h : atI xs i = some v) : ∃ j, seqIndex? i xs.length = some j ∧ xs[j]? = some v ∧ j < xs.length ∧ -(xs.length : Int) ≤ i ∧ i < xs.length := by
  unfold atI at h
  cases e : ixN xs.length i with
  | none => rw [e] at h; cases h
  | some j =>
    rw [e] at h
    obtain ⟨h1, h2, h3, h4⟩ := ixN_seq e
    exact ⟨j, h1, h, h2, h3, h4⟩
theorem atI_nat {α : Type} {xs : List α} {j : Nat} {v : α} (h : xs[j]? = some v) : atI xs (j : Int) = some v := by
  have hj : j < xs.length := (List.getElem?_eq_some_iff.mp h).1
  have e : ixN xs.length (j : Int) = some j := by
    unfold ixN
    rw [if_pos (by omega), if_pos (by omega)]; simp
  unfold atI; rw [e]; exact h
/-! ### what may be subscripted -/
/-- what stands as an index of a plain subscript -/
def PlainIx (b : Expr) : Prop := ∀ o i, subscripted b false o i = operate [o, i] (getItem o i)
/-- a subscript by values -/
def IxR (X : Cx) (r : R2) : Prop :=
  ∀ (value slice : Expr) (pins : List (Addr × Obj)) (s : Shared) (σ : St) (H : Hp) (x y : V) (v u : Value) (Q : VK), Inv X pins σ H s → RelV x v → RelV y u → r x y H Q →
    subscripted slice false v u = operate [v, u] (getItem v u) → wpAny (model X.prog X.w) X.A (subscriptTail value slice v u) (EP X pins σ Q) X.xe s
/-- a call of a builtin's method by values: the receiver, the arguments -/
def MtR (X : Cx) (id : String) (r : V → List V → Hp → VK → Prop) : Prop :=
  ∀ (pins : List (Addr × Obj)) (s : Shared) (σ : St) (H : Hp) (x : V) (xs : List V) (v : Value) (us : List Value) (Q : VK), Inv X pins σ H s → RelV x v → Vals xs us → r x xs H Q →
    wpAny (model X.prog X.w) X.A (call (.builtin id) (v :: us)) (EP X pins σ Q) X.xe s
section
variable {X : Cx} {a b : Expr} {ta tb : TE} {pos : Pos}
theorem IxR.or {r r' : R2} (h : IxR X r) (h' : IxR X r') : IxR X (fun x y H Q => r x y H Q ∨ r' x y H Q) := by
  intro value slice pins s σ H x y v u Q I rx ry q hs
  rcases q with q | q
  · exact h value slice pins s σ H x y v u Q I rx ry q hs
  · exact h' value slice pins s σ H x y v u Q I rx ry q hs
theorem MtR.or {id : String} {r r' : V → List V → Hp → VK → Prop} (h : MtR X id r) (h' : MtR X id r') : MtR X id (fun x xs H Q => r x xs H Q ∨ r' x xs H Q) := by
  intro pins s σ H x xs v us Q I rx rs q
  rcases q with q | q
  · exact h pins s σ H x xs v us Q I rx rs q
  · exact h' pins s σ H x xs v us Q I rx rs q
/-- a[b] -/
theorem pe_ix {r : R2} (hr : IxR X r) (ha : PE X a ta) (hb : PE X b tb) (hs : PlainIx b) : PE X (.Subscript a b pos) (tOp r ta tb) := by
  intro pins s σ H Q I h
  exact Subscript_ (binT ha hb I h fun v u s2 x y H2 I2 rx ry q => hr a b pins s2 σ H2 x y v u Q I2 rx ry q (hs _ _))

def rIxL (K : PySem.W.Frag) : R2 := fun x y H Q => ∃ p xs i v, x = .ref p ∧ y = .int i ∧ SqL K H p xs ∧ atI xs i = some v ∧ Q v H
def rIxT (K : PySem.W.Frag) : R2 := fun x y H Q => ∃ p xs i v, x = .ref p ∧ y = .int i ∧ SqT K H p xs ∧ atI xs i = some v ∧ Q v H
def rIxS : R2 := fun x y H Q => ∃ z i c, x = .str z ∧ y = .int i ∧ z.length ≤ sizeLine ∧ atI z.cps.toList i = some c ∧ Q (.str ⟨#[c]⟩) H
theorem ix_list : IxR X (rIxL X.K) := by
  intro value slice pins s σ H x y v u Q I rx ry h hs
  obtain ⟨p, xs, i, z, rfl, rfl, hq, he, q⟩ := h
  cases rx
  obtain ⟨t, rfl⟩ := ry
  obtain ⟨its, r, pl, hz⟩ := I.list hq
  obtain ⟨j, h1, h2, h3, h4, h5⟩ := atI_get he
  obtain ⟨w, ew, rw'⟩ := r.get h2
  have hl := r.length
  have hn := line63
  have fin : EP X pins σ Q w s := ⟨z, H, I, rw', q⟩
  by_cases h0 : 0 ≤ i
  · have hj : i.toNat = j := by
      rw [seqIndex_of h0 h5] at h1
      exact Option.some.inj h1
    exact item_listR pl.isList h0 (by omega) (by rw [hj]; simpa using ew) fin hs
  · have hj : (i + (its.toArray.size : Int)).toNat = j := by
      rw [seqIndex_neg (by omega) h4] at h1
      rw [List.size_toArray, ← hl]
      exact Option.some.inj h1
    exact subscriptTail_builtinR (x := w) pl.isList.typeIs slot_list_getitem.lookup
      (wpAny_getItem_list_neg (Q := fun r s' => r = w ∧ EP X pins σ Q r s') pl.isList (by omega) (by rw [List.size_toArray] <;> omega) (by omega) (by rw [hj]; simpa using ew) ⟨rfl, fin⟩) hs
theorem ix_tup : IxR X (rIxT X.K) := by
  intro value slice pins s σ H x y v u Q I rx ry h hs
  obtain ⟨p, xs, i, z, rfl, rfl, hq, he, q⟩ := h
  cases rx
  obtain ⟨t, rfl⟩ := ry
  obtain ⟨its, r, pl, hz⟩ := I.tuple hq
  obtain ⟨j, h1, h2, h3, h4, h5⟩ := atI_get he
  obtain ⟨w, ew, rw'⟩ := r.get h2
  have hl := r.length
  have hn := line63
  have fin : EP X pins σ Q w s := ⟨z, H, I, rw', q⟩
  exact subscriptTail_builtinR (x := w) pl.typeIs slot_tuple_getitem.lookup
    (getItem_tuple (j := j) (Q := fun r s' => r = w ∧ EP X pins σ Q r s') pl (by omega) (by omega) (by rw [List.size_toArray, ← hl]; exact h1) (by simpa using ew) ⟨rfl, fin⟩) hs
/-- list, tuple or str -/
def rIx (K : PySem.W.Frag) : R2 := fun x y H Q => rIxL K x y H Q ∨ rIxT K x y H Q ∨ rIxS x y H Q
/-! ### xs[i] = v, any sign -/
theorem Inv.lst {pins : List (Addr × Obj)} {σ : St} {H : Hp} {s : Shared} {p : Addr} {xs : List V} (I : Inv X pins σ H s) (h : H p = some (.lst xs)) :
    ∃ (its : List Value) (n : Nat), Vals xs its ∧ s.heap.get? p = some { cls := .type "list", data := .seq its.toArray n } ∧ xs.length ≤ sizeLine := by
  obtain ⟨z, its, n, r, e⟩ := I.hok p _ h
  exact ⟨its, n, r, e, z⟩
def rSetL : V → V → V → Hp → (Hp → Prop) → Prop := fun o i v H Q => ∃ p xs k j, o = .ref p ∧ i = .int k ∧ H p = some (.lst xs) ∧ ixN xs.length k = some j ∧ Q (upd H p (.lst (xs.set j v)))
/-! ### slices -/
/-- xs[lo:hi] of a list: a new list -/
def rSlL (K : PySem.W.Frag) : V → Option Int → Option Int → Hp → VK → Prop := fun x lo hi H Q => ∃ a xs, x = .ref a ∧ SqL K H a xs ∧ ∀ p, H p = none → Q (.ref p) (upd H p (.lst (cutV xs lo hi)))
/-! ### in, not in: flat items -/
def flatV : V → Bool
  | .non => true
  | .bl _ => true
  | .int _ => true
  | .str _ => true
  | _ => false
/-- == of flat values -/
def eqV : V → V → Bool
  | .non, .non => true
  | .bl a, .bl b => a == b
  | .bl a, .int b => (if a then 1 else 0) == b
  | .int a, .bl b => a == (if b then 1 else 0)
  | .int a, .int b => a == b
  | .str a, .str b => a == b
  | _, _ => false
theorem eqAt_V {A : Around} {s : Shared} {y x : V} {u v : Value} (ry : RelV y u) (rx : RelV x v) (fy : flatV y = true) (fx : flatV x = true) : SeqAt.EqAt A s u v (eqV y x) := by
  cases y with
  | non =>
    cases ry
    cases x with
    | non => cases rx; exact SeqAt.EqAt.same _
    | bl b => cases rx; exact SeqAt.EqAt.none_bool b
    | int b => obtain ⟨t, rfl⟩ := rx; exact SeqAt.EqAt.none_int b t
    | str b => obtain ⟨t, rfl⟩ := rx; exact SeqAt.EqAt.none_str b t
    | _ => exact absurd (show false = true from fx) Bool.false_ne_true
  | bl a =>
    cases ry
    cases x with
    | non => cases rx; exact SeqAt.EqAt.bool_none a
    | bl b => cases rx; exact SeqAt.EqAt.bool_bool a b
    | int b => obtain ⟨t, rfl⟩ := rx; exact SeqAt.EqAt.bool_int a b t
    | str b => obtain ⟨t, rfl⟩ := rx; exact SeqAt.EqAt.bool_str a b t
    | _ => exact absurd (show false = true from fx) Bool.false_ne_true
  | int a =>
    obtain ⟨t', rfl⟩ := ry
    cases x with
    | non => cases rx; exact SeqAt.EqAt.int_none a t'
    | bl b => cases rx; exact SeqAt.EqAt.int_bool a t' b
    | int b => obtain ⟨t, rfl⟩ := rx; exact SeqAt.EqAt.int_int a t' b t
    | str b => obtain ⟨t, rfl⟩ := rx; exact SeqAt.EqAt.int_str a t' b t
    | _ => exact absurd (show false = true from fx) Bool.false_ne_true
  | str a =>
    obtain ⟨t', rfl⟩ := ry
    cases x with
    | non => cases rx; exact SeqAt.EqAt.str_none a t'
    | bl b => cases rx; exact SeqAt.EqAt.str_bool a t' b
    | int b => obtain ⟨t, rfl⟩ := rx; exact SeqAt.EqAt.str_int a t' b t
    | str b => obtain ⟨t, rfl⟩ := rx; exact SeqAt.EqAt.str_str a t' b t
    | _ => exact absurd (show false = true from fx) Bool.false_ne_true
  | _ => exact absurd (show false = true from fy) Bool.false_ne_true
/-- the items' answers, read off the values (a value's own answer does not lean on its token) -/
def eqU (x : V) (u : Value) : Bool := match u with
  | .none => eqV .non x
  | .bool b => eqV (.bl b) x
  | .int i _ => eqV (.int i) x
  | .str z _ => eqV (.str z) x
  | _ => false
theorem eqU_of {x y : V} {u : Value} (r : RelV y u) (f : flatV y = true) : eqU x u = eqV y x := by
  cases y with
  | non => cases r; rfl
  | bl b => cases r; rfl
  | int i => obtain ⟨t, rfl⟩ := r; rfl
  | str z => obtain ⟨t, rfl⟩ := r; rfl
  | _ => exact absurd (show false = true from f) Bool.false_ne_true
theorem any_eqU {x : V} : ∀ {xs : List V} {us : List Value}, Vals xs us → xs.all flatV = true → us.any (eqU x) = xs.any fun y => eqV y x
  | _, _, .nil, _ => rfl
  | y :: xs, u :: us, .cons r t, f => by
    rw [List.all_cons, Bool.and_eq_true] at f
    rw [List.any_cons, List.any_cons, eqU_of r f.1, any_eqU t f.2]
theorem mem_eqAt {A : Around} {s : Shared} {x : V} {v : Value} (rx : RelV x v) (fx : flatV x = true) : ∀ {xs : List V} {us : List Value}, Vals xs us → xs.all flatV = true → ∀ u ∈ us, SeqAt.EqAt A s u v (eqU x u)
  | _, _, .nil, _ => fun u hu => by cases hu
  | y :: xs, u :: us, .cons r t, f => fun u' hu => by
    rw [List.all_cons, Bool.and_eq_true] at f
    rcases List.mem_cons.mp hu with rfl | hu
    · rw [eqU_of r f.1]; exact eqAt_V r rx f.1 fx
    · exact mem_eqAt rx fx t f.2 u' hu
def inV (x : V) (xs : List V) : Bool := xs.any fun y => eqV y x
/-- x in a list or tuple of flat items -/
def rIn (K : PySem.W.Frag) (neg : Bool) : R2 := fun x y H Q => ∃ p xs, y = .ref p ∧ (SqL K H p xs ∨ SqT K H p xs) ∧ flatV x = true ∧ xs.all flatV = true ∧ Q (.bl (if neg then !inV x xs else inV x xs)) H
theorem op_in_seq : OpR X (compareOp .In) (rIn X.K false) := by
  intro pins s σ H x y v u Q I rx ry h
  obtain ⟨p, xs, rfl, hq, fx, fs, q⟩ := h
  cases ry
  rcases hq with hq | hq
  · obtain ⟨its, r, pl, hz⟩ := I.list hq
    refine SeqAt.in_listAt (eqU x) pl.isList (fun w hw => mem_eqAt rx fx r fs w (by simpa using hw)) ⟨.bl _, H, I, rfl, ?_⟩
    rw [show its.toArray.any (eqU x) = its.any (eqU x) by simp, any_eqU r fs]
    exact q
  · obtain ⟨its, r, pl, hz⟩ := I.tuple hq
    refine SeqAt.in_tupleAt (eqU x) pl (fun w hw => mem_eqAt rx fx r fs w (by simpa using hw)) ⟨.bl _, H, I, rfl, ?_⟩
    rw [show its.toArray.any (eqU x) = its.any (eqU x) by simp, any_eqU r fs]
    exact q
theorem op_notIn_seq : OpR X (compareOp .NotIn) (rIn X.K true) := by
  intro pins s σ H x y v u Q I rx ry h
  obtain ⟨p, xs, rfl, hq, fx, fs, q⟩ := h
  cases ry
  rcases hq with hq | hq
  · obtain ⟨its, r, pl, hz⟩ := I.list hq
    refine SeqAt.notIn_listAt (eqU x) pl.isList (fun w hw => mem_eqAt rx fx r fs w (by simpa using hw)) ⟨.bl _, H, I, rfl, ?_⟩
    rw [show its.toArray.any (eqU x) = its.any (eqU x) by simp, any_eqU r fs]
    exact q
  · obtain ⟨its, r, pl, hz⟩ := I.tuple hq
    refine SeqAt.notIn_tupleAt (eqU x) pl (fun w hw => mem_eqAt rx fx r fs w (by simpa using hw)) ⟨.bl _, H, I, rfl, ?_⟩
    rw [show its.toArray.any (eqU x) = its.any (eqU x) by simp, any_eqU r fs]
    exact q
theorem op_notIn_str : OpR X (compareOp .NotIn) (fun x y H Q => ∃ i j, x = .str i ∧ y = .str j ∧ Q (.bl (!(!(Builtin.Str.occurrences j i 0 j.length 1).isEmpty))) H) := by
  intro pins s σ H x y v u Q I rx ry h
  obtain ⟨i, j, rfl, rfl, q⟩ := h
  obtain ⟨t, rfl⟩ := rx
  obtain ⟨t', rfl⟩ := ry
  exact notIn_str ⟨.bl _, H, I, rfl, q⟩

/-! ### len, list(x), tuple(x) of any list or tuple that is read -/
theorem call_len_seq : CallR X (.builtin "len") (fun xs H Q => ∃ p ys, xs = [.ref p] ∧ (SqL X.K H p ys ∨ SqT X.K H p ys) ∧ Q (.int ys.length) H) := by
  intro pins s σ H xs us Q I r h
  obtain ⟨p, ys, rfl, hq, q⟩ := h
  obtain ⟨u, rfl, rx⟩ := vals1 r
  cases rx
  have hn := line63
  rcases hq with hq | hq
  · obtain ⟨its, r', pl, hz⟩ := I.list hq
    have hlen := r'.length
    exact Calls.call_len_list pl.isList (by simp only [List.size_toArray] <;> omega) ⟨.int ys.length, H, I.tok _, ⟨s.toks + 1, by rw [List.size_toArray, hlen]⟩, q⟩
  · obtain ⟨its, r', pl, hz⟩ := I.tuple hq
    have hlen := r'.length
    exact len_tuple pl (by simp only [List.size_toArray] <;> omega) ⟨.int ys.length, H, I.tok _, ⟨s.toks + 1, by rw [List.size_toArray, hlen]⟩, q⟩
theorem call_len_str : CallR X (.builtin "len") (fun xs H Q => ∃ z, xs = [.str z] ∧ z.length ≤ sizeLine ∧ Q (.int z.length) H) := by
  intro pins s σ H xs us Q I r h
  obtain ⟨z, rfl, hz, q⟩ := h
  obtain ⟨u, rfl, t, rfl⟩ := vals1 r
  have hn := line63
  exact len_str (by omega) ⟨.int z.length, H, I.tok _, ⟨_, rfl⟩, q⟩
theorem CallR.or {f : Value} {r r' : List V → Hp → VK → Prop} (h : CallR X f r) (h' : CallR X f r') : CallR X f (fun xs H Q => r xs H Q ∨ r' xs H Q) := by
  intro pins s σ H xs us Q I rs q
  rcases q with q | q
  · exact h pins s σ H xs us Q I rs q
  · exact h' pins s σ H xs us Q I rs q
/-! ### the call of a builtin's method: o.m(..) -/
/-- the value is of that builtin type -/
def tyV (K : PySem.W.Frag) (T : String) (x : V) (H : Hp) : Prop := match x with
  | .str _ => T = "str"
  | .int _ => T = "int"
  | .ref p => (T = "list" ∧ ∃ xs, SqL K H p xs) ∨ (T = "tuple" ∧ ∃ o, K.lookup p = some o ∧ o.cls = .type "tuple" ∧ o.dict = none) ∨
      (T = "dict" ∧ ((∃ kvs, H p = some (.dK kvs)) ∨ ∃ kvs, H p = some (.dT kvs))) ∨ (T = "set" ∧ ∃ S n, H p = some (.set S n))
  | _ => False
theorem tyV_is {pins : List (Addr × Obj)} {σ : St} {H : Hp} {s : Shared} {T : String} {x : V} {v : Value} (I : Inv X pins σ H s) (r : RelV x v) (ty : tyV X.K T x H) :
    s.TypeIs v T ∧ ∀ a, v = .ref a → ∃ ob, s.heap.get? a = some ob ∧ ob.dict = none := by
  cases x with
  | str z =>
    obtain ⟨t, rfl⟩ := r
    cases (show T = "str" from ty)
    exact ⟨typeIs_str s z t, fun _ e => nomatch e⟩
  | int i =>
    obtain ⟨t, rfl⟩ := r
    cases (show T = "int" from ty)
    exact ⟨typeIs_int s i t, fun _ e => nomatch e⟩
  | ref p =>
    cases r
    rcases ty with ⟨rfl, xs, hq⟩ | ⟨rfl, o, hk, hc, hd⟩ | ⟨rfl, hk⟩ | ⟨rfl, S, n, hk⟩
    · obtain ⟨its, _, pl, _⟩ := I.list hq
      refine ⟨pl.isList.typeIs, fun a e => ?_⟩
      cases e
      obtain ⟨o, n, e, c, hd, _⟩ := pl
      exact ⟨o, e, hd⟩
    · refine ⟨⟨o, I.kIn p o hk, hc⟩, fun a e => ?_⟩
      cases e
      exact ⟨o, I.kIn _ o hk, hd⟩
    · have z : ∃ o, s.heap.get? p = some o ∧ o.ExactDict := by
        rcases hk with ⟨kvs, hk⟩ | ⟨kvs, hk⟩
        · obtain ⟨_, _, _, _, o, _, _, e, ex, _⟩ := I.hok p _ hk
          exact ⟨o, e, ex⟩
        · obtain ⟨_, _, _, _, o, _, _, e, ex, _⟩ := I.hok p _ hk
          exact ⟨o, e, ex⟩
      obtain ⟨o, e, ex⟩ := z
      refine ⟨⟨o, e, ex.1⟩, fun a e2 => ?_⟩
      cases e2
      exact ⟨o, e, ex.2.1⟩
    · obtain ⟨o, _, _, _, e, ex, _⟩ := I.hok p _ hk
      refine ⟨⟨o, e, ex.1⟩, fun a e2 => ?_⟩
      cases e2
      exact ⟨o, e, ex.2.1⟩
  | _ => exact False.elim ty
def tBM0 (K : PySem.W.Frag) (T : String) (r : V → List V → Hp → VK → Prop) (to : TE) : TE := fun σ H Q => to σ H fun x H1 => tyV K T x H1 ∧ r x [] H1 Q
def tBM (K : PySem.W.Frag) (T : String) (r : V → List V → Hp → VK → Prop) (to : TE) (t : TA) : TE := fun σ H Q => to σ H fun x H1 => tyV K T x H1 ∧ t σ H1 fun xs H2 => r x xs H2 Q
variable {o e : Expr} {es : List Expr} {to : TE} {t : TA} {name : Str} {apos cpos : Pos} {T id : String} {r : V → List V → Hp → VK → Prop}
theorem pe_bm (pa : PlainAttrs T) (slot : Slot T name id) (hty : typeOf (.builtin id) = pure (.type "method_descriptor")) (hm : MtR X id r) (ho : PE X o to) (ha : PA X (e :: es) t)
    (hbase : attributeBase o name X.env (eval o X.env) = eval o X.env := by rfl)
    (hfew : ((backTo cpos (starEach (e :: es) X.env)).all (fun x => !x.1) && (backToKw cpos (keywordEach [] X.env)).all (fun x => x.1.isSome)
      && decide ((e :: es).length + ([] : List Keyword).length + (if ([] : List Keyword).isEmpty then 0 else 1) < 30)) = true := by rfl)
    (hline : (apos.endLine == cpos.line) = true := by rfl) (hs : starEach (e :: es) X.env = (false, eval e X.env) :: starEach es X.env := by rfl) (hplain : (backTo cpos (starEach es X.env)).any (·.1) = false := by rfl) :
    PE X (.Call (.Attribute o name apos) (e :: es) [] cpos) (tBM X.K T r to t) := by
  intro pins s σ H Q I h
  refine wpAny_Call_method_late hbase hfew hline rfl (thn (ho pins s σ H _ I h) fun v s1 ⟨x, H1, I1, r1, ty, q1⟩ => ?_)
  obtain ⟨h1, h2⟩ := tyV_is I1 r1 ty
  refine ⟨T, id, pa, slot, hty, h1, h2, ?_⟩
  have hA := ha cpos pins s1 σ H1 _ I1 q1
  rw [hs] at hA ⊢
  refine Calls.callWith_builtin (by show (false || (backTo cpos (starEach es X.env)).any (·.1)) = false; rw [hplain] <;> rfl) (Calls.evalArgs_plain ?_)
  exact thn hA fun us s2 ⟨vs, H2, I2, r2, q2⟩ => hm pins s2 σ H2 x vs v us Q I2 r1 r2 q2
/- xs.append(e), list.index on a module's tuple .. are MtR facts of 06m -/
end
end L2

namespace L2
open PySem PySem.Spec PyProof.Rows

def MtM (X : Cx) (id : String) (r : V → List V → Hp → VK → Prop) : Prop :=
  ∀ (pins : List (Addr × Obj)) (s : Shared) (σ : St) (H : Hp) (x : V) (xs : List V) (v : Value) (us : List Value) (Q : VK), Inv X pins σ H s → RelV x v → Vals xs us → r x xs H Q →
    wpAny (model X.prog X.w) X.A (call (.builtin id) (v :: us)) (EP X pins σ Q) X.xe s

/-! ### lists of values -/
theorem Vals.one : ∀ {x : V} {us : List Value}, Vals [x] us → ∃ u, us = [u] ∧ RelV x u
  | _, _, .cons r .nil => ⟨_, rfl, r⟩
theorem Vals.two : ∀ {x y : V} {us : List Value}, Vals [x, y] us → ∃ u v, us = [u, v] ∧ RelV x u ∧ RelV y v
  | _, _, _, .cons r (.cons q .nil) => ⟨_, _, rfl, r, q⟩
theorem Vals.zero : ∀ {us : List Value}, Vals [] us → us = []
  | _, .nil => rfl
theorem Vals.dropLast {xs : List V} {us : List Value} (h : Vals xs us) : Vals xs.dropLast us.dropLast := by
  induction h with
  | nil => exact .nil
  | cons r t ih =>
    cases t with
    | nil => exact .nil
    | cons q t' => exact .cons r ih
theorem Vals.eraseIdx : ∀ {xs : List V} {us : List Value} (i : Nat), Vals xs us → Vals (xs.eraseIdx i) (us.eraseIdx i)
  | _, _, _, .nil => .nil
  | _, _, 0, .cons _ t => t
  | _, _, i + 1, .cons r t => .cons r (Vals.eraseIdx i t)
theorem Vals.reverse {xs : List V} {us : List Value} (h : Vals xs us) : Vals xs.reverse us.reverse := by
  induction h with
  | nil => exact .nil
  | cons r t ih => rw [List.reverse_cons, List.reverse_cons]; exact Vals.append ih (.cons r .nil)
theorem foldl_rep (its : List Value) : ∀ (k : Nat) (acc : List Value),
    List.foldl (fun x1 x2 => x1 ++ x2) acc.toArray (List.replicate k its.toArray) = (acc ++ (List.replicate k its).flatten).toArray
  | 0, acc => by simp
  | k + 1, acc => by
    have e : acc.toArray ++ its.toArray = (acc ++ its).toArray := by simp
    have e2 : (acc ++ its) ++ (List.replicate k its).flatten = acc ++ (List.replicate (k + 1) its).flatten := by
      rw [List.replicate_succ, List.flatten_cons, List.append_assoc]
    rw [← e2, ← foldl_rep its k (acc ++ its), ← e, List.replicate_succ, List.foldl_cons]

section
variable {X : Cx} {pins : List (Addr × Obj)} {σ : St} {H : Hp} {s : Shared} {l b : Addr} {xs ys zs : List V}

/-! ### the two steps: a tracked list is rewritten, a new list is laid -/
theorem Inv.lset {its its' : List Value} {n : Nat} {f : Array Value → Array Value} {t' : Nat} (I : Inv X pins σ H s) (hH : H l = some (.lst xs))
    (e : s.heap.get? l = some { cls := .type "list", data := .seq its.toArray n }) (hf : f its.toArray = its'.toArray) (hv : Vals ys its') (hz : ys.length ≤ sizeLine) :
    Inv X pins σ (upd H l (.lst ys)) { s with heap := s.heap.update l (Obj.mapSeq f), toks := t' } := by
  have q := PySem.IsL.update e f
  rw [hf] at q
  refine I.write (x := l) (e := l) (by rw [hH]; exact trivial) (.inl rfl) (fun b' u hb hu => (Heap.get?_update_other s.heap (Obj.mapSeq f) (Ne.symm hb)).trans hu) ⟨_, q⟩ ?_
  exact ⟨hz, its', _, hv, q⟩
theorem Inv.fresh (I : Inv X pins σ H s) : H s.heap.objs.size = none := I.hok.fresh (Nat.le_refl _)
theorem Inv.lstM (I : Inv X pins σ H s) (hH : H l = some (.lst xs)) : xs.length ≤ sizeLine ∧ ∃ (its : List Value) (n : Nat), Vals xs its ∧ xs.length = its.length ∧ s.heap.get? l = some { cls := .type "list", data := .seq its.toArray n } := by
  obtain ⟨z, its, n, r, e⟩ := I.hok l _ hH
  exact ⟨z, its, n, r, r.length, e⟩

theorem notLongL {n : Nat} (h : n ≤ sizeLine) : Builtin.List.listTooLong n = false := by
  unfold Builtin.List.listTooLong
  exact decide_eq_false (by omega)
end

section
variable {X : Cx}

/-! ### methods -/
def rAppend : V → List V → Hp → VK → Prop := fun x vs H Q => ∃ l xs y, x = .ref l ∧ vs = [y] ∧ H l = some (.lst xs) ∧ xs.length < sizeLine ∧ Q .non (upd H l (.lst (xs ++ [y])))
theorem mt_append : MtM X "list.append" rAppend := by
  intro pins s σ H x vs v us Q I rx rv h
  obtain ⟨l, xs, y, rfl, rfl, hH, hz, q⟩ := h
  cases rx
  obtain ⟨u, rfl, ru⟩ := rv.one
  obtain ⟨z, its, n, r, hl, e⟩ := I.lstM hH
  refine call_meets F.slot_list_append ⟨_, e, rfl⟩ F.entry_list_append (F.args_list_append_2 _ _) (PySem.list_append l its.toArray n u (by rw [List.size_toArray]; omega)) ⟨e, ?_⟩
  refine ⟨.non, _, I.lset (its' := its ++ [u]) hH e (by simp) (r.append (.cons ru .nil)) ?_, rfl, q⟩
  rw [List.length_append, List.length_singleton]
  omega

def rExtend : V → List V → Hp → VK → Prop := fun x vs H Q => ∃ l b xs zs, x = .ref l ∧ vs = [.ref b] ∧ H l = some (.lst xs) ∧ H b = some (.lst zs) ∧ xs.length + zs.length ≤ sizeLine ∧ Q .non (upd H l (.lst (xs ++ zs)))
theorem mt_extend : MtM X "list.extend" rExtend := by
  intro pins s σ H x vs v us Q I rx rv h
  obtain ⟨l, b, xs, zs, rfl, rfl, hH, hB, hz, q⟩ := h
  cases rx
  obtain ⟨u, rfl, ru⟩ := rv.one
  cases ru
  obtain ⟨z, its, n, r, hl, e⟩ := I.lstM hH
  obtain ⟨z2, its2, n2, r2, hl2, e2⟩ := I.lstM hB
  have hsz : its.toArray.size + its2.toArray.size ≤ sizeLine := by rw [List.size_toArray, List.size_toArray]; omega
  have hlong : ¬ (!its.toArray.isEmpty && Builtin.List.listTooLong (its.toArray.size + its2.toArray.size)) = true := by
    rw [notLongL hsz, Bool.and_false]
    exact Bool.false_ne_true
  refine call_meets F.slot_list_extend ⟨_, e, rfl⟩ F.entry_list_extend (F.args_list_extend_2 _ _)
    (AutoSeq1.list_extend_list_list_0 l its.toArray n b its2.toArray n2 hlong (by rw [List.size_toArray]; omega) (by omega)) ⟨e, e2, ?_⟩
  refine ⟨.non, _, I.lset (its' := its ++ its2) hH e (by simp) (r.append r2) ?_, rfl, q⟩
  rw [List.length_append]
  omega

def rPop : V → List V → Hp → VK → Prop := fun x vs H Q => ∃ l xs y, x = .ref l ∧ vs = [] ∧ H l = some (.lst xs) ∧ xs[xs.length - 1]? = some y ∧ Q y (upd H l (.lst xs.dropLast))
def rPopAt : V → List V → Hp → VK → Prop := fun x vs H Q => ∃ l xs i k y, x = .ref l ∧ vs = [.int i] ∧ H l = some (.lst xs) ∧ -(2 ^ 63) ≤ i ∧ i < 2 ^ 63 ∧ seqIndex? i xs.length = some k ∧ xs[k]? = some y ∧ Q y (upd H l (.lst (xs.eraseIdx k)))
def rReverse : V → List V → Hp → VK → Prop := fun x vs H Q => ∃ l xs, x = .ref l ∧ vs = [] ∧ H l = some (.lst xs) ∧ Q .non (upd H l (.lst xs.reverse))
def rClear : V → List V → Hp → VK → Prop := fun x vs H Q => ∃ l xs, x = .ref l ∧ vs = [] ∧ H l = some (.lst xs) ∧ Q .non (upd H l (.lst []))
/-! ### list + list, list += list, list * int -/
def rCat : R2 := fun x y H Q => ∃ l b xs zs, x = .ref l ∧ y = .ref b ∧ H l = some (.lst xs) ∧ H b = some (.lst zs) ∧ xs.length + zs.length ≤ sizeLine ∧ ∀ p, H p = none → Q (.ref p) (upd H p (.lst (xs ++ zs)))
/-- a list times an int (a negative one is nothing) -/
def rRep : R2 := fun x y H Q => ∃ l k xs, x = .ref l ∧ y = .int k ∧ H l = some (.lst xs) ∧ -(2 ^ 63) ≤ k ∧ k < 2 ^ 63 ∧ xs.length * k.toNat ≤ sizeLine ∧
  ∀ p, H p = none → Q (.ref p) (upd H p (.lst (List.replicate k.toNat xs).flatten))
theorem len_rep {α : Type} (xs : List α) (k : Nat) : (List.replicate k xs).flatten.length = k * xs.length := by
  induction k with
  | zero => simp
  | succ k ih => rw [List.replicate_succ, List.flatten_cons, List.length_append, ih, Nat.succ_mul, Nat.add_comm]
/-! ### del xs[i] -/
end

/-! ### xs[a:b] = ys -/
section
variable {prog : Program} {w : World} {A : Around} {E : Value → Shared → Prop} {s : Shared}
theorem bounds_run {a c n : Nat} (hac : a ≤ c) (hc : c ≤ n) : sliceBounds (some (a : Int)) (some (c : Int)) none n = ((a : Int), (c : Int), 1) := by
  simp only [sliceBounds, Option.getD_none]
  have h1 : ¬ ((a : Int) < 0) := by omega
  have h2 : ¬ ((c : Int) < 0) := by omega
  simp only [h1, h2, if_false, show (1 : Int) > 0 by decide, if_true]
  congr 1
  · omega
  · congr 1; omega
set_option maxRecDepth 100000 in
/-- list.__setitem__ with a slice of step one and another list -/
theorem setItem_slice {l b sl : Addr} {items new : Array Value} {n n2 : Nat} {vl vu : Value} {a c : Nat} {Q : Unit → Shared → Prop}
    (e : s.heap.get? l = some { cls := .type "list", data := .seq items n }) (e2 : s.heap.get? b = some { cls := .type "list", data := .seq new n2 }) (hne : l ≠ b)
    (hs : s.heap.IsSliceOf sl vl vu .none) (pl : IsPart vl (some (a : Int))) (pu : IsPart vu (some (c : Int))) (hac : a ≤ c) (hc : c ≤ items.size)
    (hsz : items.size + new.size ≤ sizeLine) (h : Q () { s with heap := s.heap.update l (Obj.mapSeq fun xs => xs.extract 0 a ++ new ++ xs.extract c xs.size) }) :
    wpAny (model prog w) A (setItem (.ref l) (.ref sl) (.ref b)) Q E s := by
  have hl : s.heap.IsList l items := PySem.IsL.isList e
  have hb : s.heap.IsList b new := PySem.IsL.isList e2
  obtain ⟨os, hos, hcs, hds⟩ := id hs
  have hTs : s.TypeIs (.ref sl) "slice" := ⟨os, hos, hcs⟩
  have hstep : ¬ ((rawPart none == rawInt 0) = true) := Bool.false_ne_true
  have hsame : Builtin.List.listSameRef (.ref l) (.ref b) = false := by
    unfold Builtin.List.listSameRef
    exact beq_eq_false_iff_ne.mpr hne
  have hmax : (max (a : Int) (c : Int)).toNat = c := by omega
  have hz' : ((fun xs : Array Value => xs.extract 0 a ++ new ++ xs.extract c xs.size) items).size ≤ sizeLine + 1 := by
    simp only [Array.size_append, Array.size_extract]
    omega
  unfold setItem
  try with_reducible refine wpAny_holding ?_
  first | refine wpAny_bind (wpAny_pure ?_) | skip
  refine wpAny_bind (wpAny_sequenceKey hl.typeIs (by decide) ?_)
  refine wpAny_bind (wpAny_callSpecial?_slot (name := Str.ofString "__setitem__") hl.typeIs slot_list_setitem
    (wpAny_call_entry slot_list_setitem hl.typeIs entry_list_setitem ?_ (args_list_setitem _ _ _)))
  show wpAny _ _ (Builtin.List.listSubscript? (.ref sl) >>= _) _ _ s
  refine wpAny_bind ?_
  unfold Builtin.List.listSubscript?
  refine wpAny_bind (wpAny_specialOf hTs slice_no_index ?_)
  simp only [Option.isNone_none, if_true]
  refine wpAny_pure ?_
  show wpAny _ _ (typeOf (.ref sl) >>= _) _ _ s
  refine wpAny_bind (wpAny_typeOf hTs ?_)
  first
    | rw [if_neg (by decide)]
    | refine PySem.W.KFB.if_not (by decide) ?_
  rw [listSliceParts_eq]
  refine wpAny_bind (wpAny_bind (wpAny_field hos hds (x := .none) rfl (wpAny_bind (wpAny_listPart .none ?_))))
  rw [if_neg hstep]
  refine wpAny_bind (wpAny_field hos hds (x := vl) rfl (wpAny_bind (wpAny_listPart pl ?_)))
  refine wpAny_bind (wpAny_field hos hds (x := vu) rfl (wpAny_bind (wpAny_listPart pu (wpAny_pure ?_))))
  first
    | simp only [hsame, Bool.false_eq_true, if_false]
    | refine PySem.W.KFB.if_not hsame ?_
    | (dsimp only
       rw [if_neg (by rw [hsame]; exact Bool.false_ne_true)])
  refine wpAny_bind (m := Builtin.List.listAllItems (.ref b) "must assign iterable to extended slice") ?_
  unfold Builtin.List.listAllItems
  refine wpAny_bind (wpAny_typeOf hb.typeIs ?_)
  first
    | refine PySem.W.KFB.if_so (by decide) ?_
    | rw [if_pos (by decide)]
    | simp only [beq_self_eq_true, Bool.true_or, if_true]
  unfold Builtin.List.listItems
  refine wpAny_bind (wpAny_seqItems e2 rfl (wpAny_pure ?_))
  refine wpAny_bind (wpAny_bind (wpAny_seqItems e rfl (wpAny_pure ?_)))
  refine wpAny_bind (wpAny_of_eq ((sliceIndices_raw (some (a : Int)) (some (c : Int)) none items.size (by simp)).trans (congrArg (pure : Int × Int × Int → Sem (Int × Int × Int)) (bounds_run hac hc))) ?_)
  show wpAny _ _ (if ((1 : Int) == 1) = true then _ else _) _ _ s
  rw [if_pos (by decide)]
  refine wpAny_bind (wpAny_rule ?_)
  first
    | simp only [notLongL hsz, Bool.false_eq_true, if_false]
    | refine PySem.W.KFB.if_not (notLongL hsz) ?_
  first | refine wpAny_bind (wpAny_pure ?_) | skip
  show wpAny _ _ (updateSeq l (fun xs => xs.extract 0 ((a : Int)).toNat ++ new ++ xs.extract (max (a : Int) (c : Int)).toNat xs.size) >>= _) _ _ s
  rw [hmax, Int.toNat_natCast]
  refine wpAny_bind (wpAny_updateSeq (hz := Nat.le_trans (Nat.le_add_right _ _) hsz) (_hz' := hz') e rfl ?_)
  refine wpAny_bind (wpAny_letGo ?_)
  first
    | exact wpAny_bind (wpAny_pure (wpAny_pure ⟨.none, rfl, wpAny_pure h⟩))
    | exact wpAny_pure ⟨.none, rfl, wpAny_pure h⟩
end

section
variable {X : Cx}
end
end L2

namespace Att
open PySem PySem.W PySem.Calls PyProof.Rows

/-! ### the script -/
theorem ints_of_wellAll {P : Params} {h : Heap} : ∀ (ns : List Int) (vs : List Value), WellAll P h vs (ns.map WData.int) → IntsAre vs ns := by
  intro ns
  induction ns with
  | nil =>
    intro vs w
    rw [List.map_nil] at w
    cases w
    exact .nil
  | cons n ns ih =>
    intro vs w
    rw [List.map_cons] at w
    cases w with
    | cons a b =>
      cases a
      exact .cons _ _ (ih _ b)

theorem script_of {l : OpenLaw} {n : Nat} (hn : l.most = some n) {P : Params} {h : Heap} {args : List WData} {vals : List Value}
    (hpre : l.row.toRowW.claim.pre args = true) (hwl : WellAll P h vals args) :
    ∃ a vs ns, vals = [Value.ref a] ∧ args = [WData.list (ns.map WData.int)] ∧ h.get? a = some { cls := .type "list", data := .seq vs.toArray } ∧ IntsAre vs ns ∧ ns.length ≤ n := by
  have hsh : WShape.hasAll [] args [.list .int] = true := (pre_splitW hpre).1
  have hc : l.pre.holds [] { args := args } = true := (pre_splitW hpre).2
  obtain ⟨d, r, rfl, h1, h2⟩ := hasAllW_cons hsh
  obtain rfl := hasAllW_nil h2
  obtain ⟨xs, rfl, h3⟩ := hasW_list h1
  obtain ⟨ns, rfl⟩ := items_int h3
  have hlen : ns.length ≤ n := by
    unfold OpenLaw.pre at hc
    have h4 : (WTm.not (.lt (.lit (.int (n : Int))) (.len (.arg 0)))).holds [] { args := [.list (ns.map .int)] } = true := by
      have h4 := (holds_andW hc).1
      rw [hn] at h4
      exact h4
    have h5 := condW_of h4 (w_not (w_lt w_lit (w_len_list (w_arg rfl))))
    rw [List.length_map] at h5
    refine Nat.le_of_not_lt fun q => ?_
    have q' : (n : Int) < ((ns.length : Nat) : Int) := by omega
    first
      | (rw [decide_eq_true q'] at h5; exact absurd h5 (by decide))
      | (simp at h5; omega)
  cases hwl with
  | cons w1 w2 =>
    cases w2
    cases w1 with
    | list ho hall => exact ⟨_, _, ns, rfl, rfl, ho, ints_of_wellAll ns _ hall, hlen⟩

theorem post_true (l : OpenLaw) (args : List WData) : l.row.toRowW.claim.post args (.bool true) args = true :=
  postW_of (r := l.row.toRowW) (X := (true == true))
    (show WShape.has [] (.bool true) .bool = true by first | rfl | decide | simp [WShape.has, WShape.arms, WShape.armsAll])
    (show (WTm.eq .res (.lit (.bool true))).value [] { args := args, res := some (.bool true), after := args } = some (.bool (true == true)) from w_eq_bool (w_res rfl) w_lit) rfl

/-! ### the attachment: holds_open's last premise (the goal 'hc' behind k_head) from a wpAny of the law's body -/
/-- the same from a codeAny of the CALL (for a layer whose function contracts speak of calls) -/
theorem attach_call {l : OpenLaw} {n : Nat} {q : Program} {loose : List Str} {XP : (Str → Option Value) → Heap → Prop} {YP : World → Heap → Prop} {d : DefRec}
    (hn : l.most = some n) (hdf : d.params.defaults = [])
    (call : ∀ (w : World) (s₀ s₁ : Shared) (mg mb : Str → Option Value) (fa : Addr) (o : Obj) (pm cd doc : Value) (a : Addr) (vs : List Value) (ns : List Int),
      Ground q loose [] XP w s₀ mg mb s₁.heap → YP w s₁.heap →
      s₁.heap.get? fa = some o → o.data = .func (docDef d.name d.params d.body d.scope pm cd doc) → s₁.heap.CodeRec cd d.name → mg d.name = some (.ref fa) →
      s₁.heap.get? a = some { cls := .type "list", data := .seq vs.toArray } → IntsAre vs ns → ns.length ≤ n → s₁.gens = #[] →
      codeAny (model l.prog w) callerA (.call (.ref fa) ⟨[.ref a], []⟩) (fun r s' => r = .ok (.ret (.bool true)) ∧ OldK s₁.heap s'.heap ∧ s'.os = s₁.os ∧ AllBare s'.gens) s₁) :
    WalkO q loose XP YP l.row.toRowW d [] (fun f vs => PySem.call f vs) := by
  intro w s₀ s₁ mg mb G Y fa o pm cd doc dV kV ho hd hcd hD hmg hg args vals as hpre hlay hrd hwl hlo
  obtain rfl : dV = .none := Dflts.none hD hdf
  obtain rfl : kV = .none := Dflts.noKw hD
  obtain ⟨a, vs, ns, rfl, rfl, hobj, hints, hlen⟩ := script_of hn hpre hwl
  refine enter_call (codeAny_mono (call w s₀ s₁ mg mb fa o pm cd doc a vs ns G Y ho (fd_plain hd) hcd hmg hobj hints hlen hg) fun r s' hq => ?_)
  obtain ⟨rfl, h2, h3, h4⟩ := hq
  exact ⟨.inl ⟨.bool true, .bool true, [], rfl, fun _ => rfl, .bool true, post_true l _, fun _ => ⟨List.Pairwise.nil, fun _ hm => (nomatch hm)⟩⟩, h2, h3, h4⟩

/-! ### rules over ANY heap (no ledger) from facts about the written part K: the library's own take a ledger (News) for what they write -/
section
variable {prog : Program} {w : World} {A : Around} {E : Value → Shared → Prop} {s : Shared} {K : Frag}

/-! the whole heap as the ledger: makes every rule that writes through a ledger a rule over any heap -/
def noObjs (h : Heap) : Heap := { h with objs := #[] }
def ledger (h : Heap) (L d : Addr) : List (Addr × Obj) := (List.range h.objs.size).filterMap fun a => if a = L ∨ a = d then none else (h.get? a).map fun o => (a, o)
end
end Att

namespace L2
open PySem PySem.Spec PyProof.Rows

theorem vals_ints : ∀ {vs : List Value} {ns : List Int}, IntsAre vs ns → Vals (ns.map V.int) vs
  | _, _, .nil => .nil
  | _, _, .cons n t h => .cons ⟨t, rfl⟩ (vals_ints h)

/-- nothing is tracked but the script, known to the object (or it is an object of the module) -/
def Only (H : Hp) : Prop := ∀ b, H b = none ∨ ∃ o xs, H b = some (.frz o (.lst xs))

/-- THE HEAD: the law's promise, at the heap behind the top. F, the promise of the law's def, may use that base is part of the heap (so K.In base, base.Ns mainGlobals mg stand in Mod) -/
theorem law_call {P : Program} {w : World} {K : PySem.W.Frag} {mg mb : Str → Option Value} {CX : CXT} {k : Nat} {fa a : Addr} {fd : FuncData} {x : Str} {sp : Sp} {s₁ : Shared} {vs : List Value} {ns : List Int}
    (KX : K.In s₁.heap) (hns : s₁.heap.Ns mainGlobals mg) (hb : s₁.heap.Ns builtinsNs mb) (hbb : ∀ x : Str, x ≠ "__name__" → mb x = bootBuiltins x) (hlim : s₁.heap.NoLimit) (hg : s₁.gens = #[])
    (ha : s₁.heap.get? a = some { cls := .type "list", data := .seq vs.toArray }) (hi : IntsAre vs ns) (hl : ns.length ≤ sizeLine) (hr : Room k callerA)
    (F : ∀ base : Heap, K.In base → base.Ns mainGlobals mg → FnOk P w K mg base CX k fa fd [x] sp) (hbind : ∀ (s : Shared) (u : Value), BindsTo s fd ⟨[u], []⟩ [(x, u)])
    (hsp : ∀ H : Hp, Only H → SqL K H a (ns.map V.int) → sp [.ref a] H (fun v _ => v = .bl true) fun _ _ _ => False)
    (hCX : ∀ H e s', CX [] H s₁ (fun _ _ _ => False) e s' → False) :
    codeAny (model P w) callerA (.call (.ref fa) ⟨[.ref a], []⟩) (fun r s' => r = .ok (.ret (.bool true)) ∧ OldK s₁.heap s'.heap ∧ s'.os = s₁.os ∧ AllBare s'.gens) s₁ := by
  have rv := vals_ints hi
  have lenV := hi.length
  -- from an abstract heap in which nothing but the script may be tracked
  have core : ∀ H : Hp, Only H → SqL K H a (ns.map V.int) → HOk P w H s₁.heap → (∀ b, H b ≠ none → b = a) → (H a ≠ none → K.lookup a = none) →
      codeAny (model P w) callerA (.call (.ref fa) ⟨[.ref a], []⟩) (fun r s' => r = .ok (.ret (.bool true)) ∧ OldK s₁.heap s'.heap ∧ s'.os = s₁.os ∧ AllBare s'.gens) s₁ := by
    intro H hO hS hok hA hK
    have base_of : ∀ {b : Addr} {o : Obj}, s₁.heap.get? b = some o → H b = none → (hidT s₁.heap H).get? b = some o := fun e n => hidT_get e n
    have noA : ∀ {b : Addr} {o : Obj} {es : Array DictEntry} {ep : Nat}, s₁.heap.get? b = some o → o.data = .dict es ep → H b = none := fun {b o es ep} e d => by
      cases q : H b with
      | none => rfl
      | some u =>
        have e' : b = a := hA b (by rw [q]; simp)
        subst e'
        rw [ha] at e; cases e
        have d' : Data.seq vs.toArray _ = Data.dict es ep := d
        cases d'
    have nsK : ∀ {b : Addr} {m : Str → Option Value}, s₁.heap.Ns b m → (hidT s₁.heap H).Ns b m := fun {b m} ⟨o, es, ep, e, d, r⟩ => ⟨o, es, ep, base_of e (noA e d), d, r⟩
    have hKb : K.In (hidT s₁.heap H) := fun b o e => base_of (KX b o e) (by
      cases q : H b with
      | none => rfl
      | some u =>
        have e' : b = a := hA b (by rw [q]; simp)
        subst e'
        rw [hK (by rw [q]; simp)] at e; cases e)
    have hM : Mod K mg (hidT s₁.heap H) := ⟨hKb, nsK hns, ⟨mb, nsK hb, hbb⟩, let ⟨mc, h1, h2⟩ := hlim; ⟨mc, nsK h1, h2⟩⟩
    have e0 : Env0 P w K mg (hidT s₁.heap H) callerA [] s₁ H := ⟨rfl, hM, fun b o e => of_hidT e, Nat.le_of_eq (hidT_size _ _), trivial, fun b hb => absurd (show b ∈ ([] : List Addr) from hb) (by simp), hok, .of_eq hg⟩
    refine codeAny_mono ((F _ hKb (nsK hns)).run callerA [] s₁ H ⟨[.ref a], []⟩ [.ref a] [.ref a] _ _ hr e0 (hbind s₁ (.ref a)) (.cons rfl .nil) (hsp H hO hS)) fun r s' h => ?_
    cases r with
    | error e => exact (hCX H e s' h).elim
    | ok fl =>
      cases fl with
      | next => exact False.elim h
      | brk => exact False.elim h
      | cont => exact False.elim h
      | ret u =>
        obtain ⟨v, H', os, bare, un, hok', r', q⟩ := h
        have q' : v = .bl true := q
        subst q'
        obtain rfl : u = Value.bool true := r'
        refine ⟨rfl, OldK.of_keep fun b o e => ?_, os, bare⟩
        cases q : H b with
        | none => exact un.keep b o e q (by intro z; exact absurd (show b ∈ ([] : List Addr) from z) (by simp)) (by simp)
        | some u =>
          rcases hO b with z | ⟨ob, xs, z⟩
          · rw [q] at z; cases z
          · have z2 := un.frzs b ob _ z
            obtain ⟨e1, _⟩ := hok b _ z
            obtain ⟨e2, _⟩ := hok' b _ z2
            rw [e] at e1; cases e1
            exact e2
  cases hk : K.lookup a with
  | some o =>
    -- the script is one of the module's own objects
    have e := KX a o hk
    rw [ha] at e
    cases e
    refine core (fun _ => none) (fun _ => .inl rfl) (.inr ⟨_, vs.toArray, _, hk, rfl, rfl, rfl, by rw [List.size_toArray, lenV]; exact hl, by simpa using rv⟩) (fun b u z => by have z' : (none : Option HO) = some u := z; cases z') (fun b z => absurd rfl z) fun z => absurd rfl z
  | none =>
    refine core (fun b => if b = a then some (.frz { cls := .type "list", data := .seq vs.toArray } (.lst (ns.map V.int))) else none) (fun b => ?_) (.inl (.inr ⟨{ cls := .type "list", data := .seq vs.toArray }, if_pos rfl⟩)) (fun b u z => ?_) (fun b z => ?_) fun _ => hk
    · by_cases hb : b = a
      · exact .inr ⟨_, _, if_pos hb⟩
      · exact .inl (if_neg hb)
    · by_cases hb : b = a
      · have z' := (if_pos hb).symm.trans z
        cases z'
        subst hb
        exact ⟨ha, by rw [List.length_map]; exact hl, vs, _, rv, ha⟩
      · have z' := (if_neg hb).symm.trans z
        cases z'
    · by_cases hb : b = a
      · exact hb
      · exact absurd (if_neg hb) z
end L2

namespace L2
open PySem PySem.Spec PyProof.Rows

abbrev KOf {K : PySem.W.Frag} {h : Heap} (_ : K.In h) : PySem.W.Frag := K

/-- the goal that k_head leaves (case hc), from the law's promise. F gives the function object fd (K's own) once, then the promise over every base -/
theorem walk_of {l : PySem.W.OpenLaw} {n k : Nat} {q : Program} {loose : List Str} {XP : (Str → Option Value) → Heap → Prop} {YP : World → Heap → Prop} {d : DefRec} {K : Params → PySem.W.Frag} {CX : World → CXT} {sp : World → Sp} {x : Str}
    (hn : l.most = some n) (hn2 : n ≤ sizeLine) (hdf : d.params.defaults = []) (hr : Room k callerA)
    (hY : ∀ (w : World) (h : Heap), YP w h → (K w.params).In h)
    (F : ∀ (w : World) (mg : Str → Option Value) (fa : Addr) (h : Heap), (K w.params).In h → h.Ns mainGlobals mg → mg d.name = some (.ref fa) →
      ∃ fd : FuncData, (∀ (s : Shared) (u : Value), BindsTo s fd ⟨[u], []⟩ [(x, u)]) ∧
        ∀ base : Heap, (K w.params).In base → base.Ns mainGlobals mg → FnOk l.prog w (K w.params) mg base (CX w) k fa fd [x] (sp w))
    (hsp : ∀ (w : World) (H : Hp) (a : Addr) (ns : List Int), ns.length ≤ n → Only H → SqL (K w.params) H a (ns.map V.int) → sp w [.ref a] H (fun v _ => v = .bl true) fun _ _ _ => False)
    (hCX : ∀ (w : World) (H : Hp) (s : Shared) (e : Value) (s' : Shared), CX w [] H s (fun _ _ _ => False) e s' → False) :
    PySem.W.WalkO q loose XP YP l.row.toRowW d [] (fun f vs => PySem.call f vs) := by
  refine Att.attach_call hn hdf fun w s₀ s₁ mg mb fa o pm cd doc a vs ns G Y ho hd hcd hmg hobj hints hlen hg => ?_
  have KX := hY w _ Y
  obtain ⟨fd, hb, hF⟩ := F w mg fa _ KX G.T.g hmg
  exact law_call KX G.T.g G.T.b G.T.builtins G.T.nolimit hg hobj hints (Nat.le_trans hlen hn2) hr hF hb (fun H hO hS => hsp w H a ns hlen hO hS) fun H e s' => hCX w H s₁ e s'
end L2

/- THE LAST THEOREM (shape; LID, My.* are yours):
   My.Adr: a structure of the addresses that your layer names (classes, functions); My.Txt K t: a structure (Prop) of the equations over K;
   My.txt_mk : {K} {implicit addresses ..} (e1 : nsIn K mainGlobals "law" = some (some (.ref f))) (e2 : K.lookup f = some ⟨oc, od, .func (fnOf "law" "law" params body scope dV kV doc pm an cdv ct), sl⟩) (e3 : codeIn K cdv "law" = true) .. : ∃ t, My.Txt K t

set_option maxRecDepth 100000 in
set_option maxHeartbeats 0 in
theorem PySem.Challenge.cw_LID_holds : PySem.Challenge.rw_LID.Holds := by
  w_on; o_law; k_head; (case hw => w_witness2)
  k_fill
  refine L2.walk_of (l := PySem.Challenge.rw_LID) (n := 63) (k := 40) (x := "script") (CX := fun w => ..) (sp := fun _ => My.sp_law) rfl (by decide) rfl ⟨rfl, by decide, by decide⟩ (fun w h Y => PySem.W.kIn_of Y) ?F ?S ?C
  case F =>
    intro w mg fa h KX G hmg
    have T : ∃ t, My.Txt (L2.KOf KX) t := by
      dsimp only [L2.KOf]                          -- K must stand as «<heap const> w.params» for k_is
      refine' My.txt_mk ?e1 ?e2 ?e3 ..
      (case e1 => PySem.W.k_is)                    -- in the order: a name -> its address -> its object -> its parts
      (case e2 => PySem.W.k_is)
      ..
    obtain ⟨t, T⟩ := T
    have e0 := hmg.symm.trans (PySem.W.mg_of KX G T.law)
    cases e0                                       -- fa is the law's own address
    exact ⟨_, fun s u => .of_eq rfl, fun base kb nb => My.law_fn T kb nb⟩     -- if «.of_eq rfl» comes too early: refine' ⟨_, ?b, fun base kb nb => My.law_fn T kb nb⟩; exact fun s u => .of_eq rfl
  case S => exact fun w H a ns hl hO hS => ..
  case C => exact ..
(the tactic k_is has no namespace: write k_is) -/

/-! SHORT WORDS over the layer: a def of the text, its body, what a loop and a test want. -/
namespace L2
open PySem PySem.Spec PyProof.Rows

/-! ### the text by places -/
/-- the j-th statement of a class's body -/
def inClass (s : Stmt) (j : Nat) : Stmt := match s with
  | .ClassDef _ _ _ body _ _ _ _ _ _ _ => body.getD j (.Pass ⟨0, 0, 0, 0⟩)
  | _ => .Pass ⟨0, 0, 0, 0⟩
def defArgs (s : Stmt) : Arguments := match s with
  | .FunctionDef _ a _ _ _ _ _ _ _ _ => a
  | _ => { posonlyargs := [], args := [], vararg := none, kwonlyargs := [], kw_defaults := [], kwarg := none, defaults := [] }
def defBody (s : Stmt) : List Stmt := match s with
  | .FunctionDef _ _ b _ _ _ _ _ _ _ => b
  | _ => []
def defScope (s : Stmt) : Scope := match s with
  | .FunctionDef _ _ _ _ _ _ sc _ _ _ => sc
  | _ => { kind := .function, names := [], isGenerator := false, isCoroutine := false }

/-! ### no exception leaves a def -/
abbrev CX0 : CXT := fun _ _ _ _ _ _ => False
abbrev E0 : XK := fun _ _ _ => False
/-! ### a def (or method) of the text as it stands behind the top -/
structure Fun (K : PySem.W.Frag) (x qual : Str) (st : Stmt) (f : Addr) (fd : FuncData) : Prop where
  ex : ∃ (oc : Value) (od : Option Addr) (kV doc pm : Value) (an : Option Addr) (cdv ct : Value) (osl : Array (Option Value)),
    fd = PySem.W.fnOf x qual (defArgs st) (defBody st) (defScope st) .none kV doc pm an cdv ct ∧ K.lookup f = some ⟨oc, od, .func fd, osl⟩ ∧ PySem.W.codeIn K cdv qual = true
  kp : PySem.W.keepIn K (.ref f) = true
section
variable {P : Program} {w : World} {K : PySem.W.Frag} {mg : Str → Option Value} {base : Heap}
/-- THE RULE for a def: its body as a term of rules, and the reading of that term -/
theorem Fun.ok {x qual : Str} {st : Stmt} {f : Addr} {fd : FuncData} {N ps : List Str} {k : Nat} {sp : Sp} (F : Fun K x qual st f fd) (S : FnScope N ps (defScope st)) (len : ∀ vs H Q E, sp vs H Q E → vs.length = ps.length)
    (hbody : ∀ (cdv : Value) (A : Around) (outer : List Env) (s : Shared) (H : Hp) (vs : List V) (Q : VK) (E : XK), Room k (A.deeper (envOfC qual (defScope st) s.heap.objs.size f cdv)) → sp vs H Q E →
      ∃ t, PSs (cxOf CX0 P w K mg base N qual (defScope st) f cdv A outer s H E).nox (defBody st) t ∧ t { nx := fun _ H' => Q .non H', rt := Q } (start N vs) H) : FnOk P w K mg base CX0 (k + 1) f fd ps sp := by
  obtain ⟨oc, od, kV, doc, pm, an, cdv, ct, osl, rfl, lk, hcd⟩ := F.ex
  refine fn_of lk hcd S len fun A outer s H vs Q E hr hsp => ?_
  obtain ⟨t, h, q⟩ := hbody cdv A outer s H vs Q E hr hsp
  exact ⟨t, h.nox, q⟩
/-- how its arguments bind (no defaults): h is «fun _ _ _ _ _ _ us hl => match us, hl with | [_, _], _ => rfl», one _ a parameter -/
theorem Fun.binds {x qual : Str} {st : Stmt} {f : Addr} {fd : FuncData} {ps : List Str} (F : Fun K x qual st f fd)
    (h : ∀ (kV doc pm : Value) (an : Option Addr) (cdv ct : Value) (us : List Value), us.length = ps.length → bindArgs (PySem.W.fnOf x qual (defArgs st) (defBody st) (defScope st) .none kV doc pm an cdv ct) ⟨us, []⟩ = pure (ps.zip us)) : Binds K fd ps [] := by
  obtain ⟨oc, od, kV, doc, pm, an, cdv, ct, osl, rfl, lk, hcd⟩ := F.ex
  exact .all (h kV doc pm an cdv ct)
theorem fun_mk {x qual : Str} {st : Stmt} {f : Addr} {oc : Value} {od an : Option Addr} {osl : Array (Option Value)} {kV doc pm cdv ct : Value} (l : K.lookup f = some ⟨oc, od, .func (PySem.W.fnOf x qual (defArgs st) (defBody st) (defScope st) .none kV doc pm an cdv ct), osl⟩)
    (c : PySem.W.codeIn K cdv qual = true) (k : PySem.W.keepIn K (.ref f) = true) : Fun K x qual st f (PySem.W.fnOf x qual (defArgs st) (defBody st) (defScope st) .none kV doc pm an cdv ct) := ⟨⟨oc, od, kV, doc, pm, an, cdv, ct, osl, rfl, l, c⟩, k⟩
end
theorem small1000 {n : Nat} (h : n ≤ 1000) : n < sizeLine := Nat.lt_of_le_of_lt h (by decide)

/-! ### expressions in short: the name that stands in the i-th slot -/
section
variable {X : Cx}
theorem pv (i : Nat) {x : Str} {pos : Pos} (hN : X.N[i]? = some x := by rfl) (hv : Vis X.env.scope x := by first | exact Or.inl rfl | exact Or.inr (Or.inl rfl) | exact Or.inr (Or.inr rfl)) (hd : (x == ("__debug__" : Str)) = false := by decide)
    (hcd : (x == ("__classdict__" : Str)) = false := by decide) : PE X (.Name x pos) (tVar i) := pe_var hN hv hd hcd
end

/-! ### tests -/
/-! ### heaps -/
/-- all that was tracked is as it was -/
def Same (H H' : Hp) : Prop := ∀ b o, H b = some o → H' b = some o
theorem Same.refl (H : Hp) : Same H H := fun _ _ h => h
theorem Same.trans {H H1 H2 : Hp} (a : Same H H1) (b : Same H1 H2) : Same H H2 := fun c o h => b c o (a c o h)
theorem Same.free {H H' : Hp} (e : Same H H') {l : Addr} (h : H' l = Option.none) : H l = Option.none := by
  cases q : H l with
  | none => rfl
  | some o =>
    rw [e l o q] at h
    cases h
theorem Same.seq {K : PySem.W.Frag} {H H' : Hp} {a : Addr} {xs : List V} (e : Same H H') (h : SqL K H a xs) : SqL K H' a xs := by
  rcases h with (h | ⟨o, h⟩) | h
  · exact .inl (.inl (e _ _ h))
  · exact .inl (.inr ⟨o, e _ _ h⟩)
  · exact .inr h

end L2


set_option Elab.async false
set_option linter.all false
set_option maxRecDepth 100000
/-! LIST COMPREHENSIONS of one clause, with at most one test, over the hand layer -/
namespace L2
open PySem PySem.Spec PyProof.Rows

/-! ### the closure -/
theorem clos_go (env : Env) : ∀ (names : List (Str × NameKind)) (acc : List (Str × Addr)), (∀ y ∈ names, y.2 = .free → ∃ c, env.cells.lookup y.1 = some c) → (∀ x c, acc.lookup x = some c → env.cells.lookup x = some c) →
    ∃ cl, (forIn names acc fun (p : Str × NameKind) (r : List (Str × Addr)) => (match p with | (name, kind) => if (kind == NameKind.free) = true then (do let c ← cellOf env name; pure (ForInStep.yield ((name, c) :: r))) else pure (ForInStep.yield r)) : Sem (List (Str × Addr))) = pure cl ∧
      (∀ x c, cl.lookup x = some c → env.cells.lookup x = some c) ∧ (∀ x, (∃ c, acc.lookup x = some c) → ∃ c, cl.lookup x = some c) ∧ (∀ y ∈ names, y.2 = .free → ∃ c, cl.lookup y.1 = some c)
  | [], acc, _, ha => ⟨acc, by simp, ha, fun _ h => h, fun _ h => absurd h (by simp)⟩
  | (n, k) :: r, acc, hn, ha => by
    by_cases hk : k = .free
    · obtain ⟨c, hc⟩ := hn (n, k) List.mem_cons_self hk
      have ha' : ∀ x c', ((n, c) :: acc).lookup x = some c' → env.cells.lookup x = some c' := fun x c' h => by
        by_cases hx : x = n
        · subst hx
          rw [List.lookup_cons_self] at h
          cases h; exact hc
        · have hx' : (x == n) = false := by simpa using hx
          simp only [List.lookup_cons, hx'] at h
          exact ha x c' h
      obtain ⟨cl, e, p1, p2, p3⟩ := clos_go env r ((n, c) :: acc) (fun y hy => hn y (List.mem_cons_of_mem _ hy)) ha'
      refine ⟨cl, ?_, p1, fun x ⟨c', hc'⟩ => p2 x ?_, fun y hy hf => ?_⟩
      · have hco : cellOf env n = pure c := by unfold cellOf; rw [hc]
        rw [List.forIn_cons]
        subst hk
        simp only [beq_self_eq_true, if_true, hco, pure_bind]
        exact e
      · by_cases hx : x = n
        · exact ⟨c, by subst hx; rw [List.lookup_cons_self]⟩
        · have hx' : (x == n) = false := by simpa using hx
          exact ⟨c', by simp only [List.lookup_cons, hx']; exact hc'⟩
      · rcases List.mem_cons.mp hy with rfl | hy
        · exact p2 _ ⟨c, by rw [List.lookup_cons_self]⟩
        · exact p3 y hy hf
    · obtain ⟨cl, e, p1, p2, p3⟩ := clos_go env r acc (fun y hy => hn y (List.mem_cons_of_mem _ hy)) ha
      refine ⟨cl, ?_, p1, p2, fun y hy hf => ?_⟩
      · have hb : (k == NameKind.free) = false := by simpa using hk
        rw [List.forIn_cons]
        simp only [hb, Bool.false_eq_true, if_false, pure_bind]
        exact e
      · rcases List.mem_cons.mp hy with rfl | hy
        · exact absurd hf hk
        · exact p3 y hy hf
theorem clos_of {scope : Scope} {env : Env} (h : ∀ y ∈ scope.names, y.2 = .free → ∃ c, env.cells.lookup y.1 = some c) :
    ∃ cl, closureFor scope env = pure cl ∧ (∀ x c, cl.lookup x = some c → env.cells.lookup x = some c) ∧ (∀ y ∈ scope.names, y.2 = .free → ∃ c, cl.lookup y.1 = some c) := by
  obtain ⟨cl, e, p1, _, p3⟩ := clos_go env scope.names [] h (fun x c q => by simp at q)
  refine ⟨cl, ?_, p1, p3⟩
  unfold closureFor
  simp only [bind_pure]
  exact e

theorem lookup_relabel {env : Env} : ∀ {names : List (Str × NameKind)} {x : Str} {k : NameKind}, (names.map fun (n, k) => if (k == NameKind.free && env.scope.kind == .function && env.kindOf n == some .cell) then (n, NameKind.cell) else (n, k)).lookup x = some k →
    (∀ y ∈ names, y.2 ≠ .cell) → k = .cell ∨ k = .free → names.lookup x = some .free
  | [], _, _, h, _, _ => by simp at h
  | (n, k0) :: r, x, k, h, hc, hk => by
    have ih := @lookup_relabel env r x k
    rw [List.map_cons] at h
    cases hx : x == n with
    | true =>
      have hn : k0 ≠ .cell := hc (n, k0) List.mem_cons_self
      simp only [List.lookup_cons, hx]
      by_cases hcnd : (k0 == NameKind.free && env.scope.kind == .function && env.kindOf n == some .cell) = true
      · have : k0 = .free := by
          simp only [Bool.and_eq_true, beq_iff_eq] at hcnd
          exact hcnd.1.1
        rw [this]
      · dsimp only at h
        rw [if_neg hcnd] at h
        simp only [List.lookup_cons, hx] at h
        have h : k0 = k := by simpa using h
        subst h
        rcases hk with hk | hk
        · exact absurd hk hn
        · rw [hk]
    | false =>
      simp only [List.lookup_cons, hx]
      refine ih ?_ (fun y hy => hc y (List.mem_cons_of_mem _ hy)) hk
      by_cases hcnd : (k0 == NameKind.free && env.scope.kind == .function && env.kindOf n == some .cell) = true
      · dsimp only at h
        rw [if_pos hcnd] at h
        simp only [List.lookup_cons, hx] at h; exact h
      · dsimp only at h
        rw [if_neg hcnd] at h
        simp only [List.lookup_cons, hx] at h; exact h

/-! ### the block's context -/
def cxComp (X : Cx) (N' : List Str) (scope : Scope) (cl : List (Str × Addr)) (C : Addr) (s₀ : Shared) (H₀ : Hp) (ex : List Addr) : Cx :=
  { X with N := N', s₀ := s₀, H₀ := H₀, env := compEnvC scope cl C X.env, outer := X.stack, stack := X.stack, ex := ex, fn := fun _ => false, pn := [], xe := fun _ _ => False }
/-- the block's slots: its own names empty, those from outside with their values -/
def subσ (mp : List (Option Nat)) (σ : St) : St := mp.map fun o => match o with | none => none | some i => (σ[i]?).getD none
def compOk (N : List Str) (on inn : List (Str × NameKind)) (N' : List Str) (mp : List (Option Nat)) : Bool :=
  mp.length == N'.length && (N'.zip mp).all fun p => match p.2 with
    | none => true
    | some i => N[i]? == some p.1 && inn.lookup p.1 == some .free && on.lookup p.1 == some .cell
/-- tests of the clause -/
def PIf (X : Cx) (ifs : List Expr) (t : TT) : Prop :=
  ∀ (pins : List (Addr × Obj)) (s : Shared) (σ : St) (H : Hp) (Q : Bool → Hp → Prop), Inv X pins σ H s → t σ H Q →
    wpAny (model X.prog X.w) X.A (forIn ifs true fun c r => if r = true then do let ok ← isTrue c X.env (eval c X.env); pure (ForInStep.yield ok) else pure (ForInStep.yield r)) (TP X pins σ Q) X.xe s
def tYes : TT := fun _ H Q => Q true H
theorem pif_nil {X : Cx} : PIf X [] tYes := fun pins s σ H Q I h => wpAny_tests_nil ⟨H, I, h⟩
theorem pif_one {X : Cx} {c : Expr} {t : TT} (h : PT X c t) : PIf X [c] t := fun pins s σ H Q I q => wpAny_tests_one (h pins s σ H Q I q)

theorem comp_loop {prog : Program} {w : World} {A : Around} {s : Shared} {elt target iter : PySem.Expr} {ifs : List PySem.Expr} {scope : Scope} {pos : Pos} {it acc : Value} {env : Env} {R : Result → Shared → Prop} (I : Nat → Shared → Prop)
    (turn : ∀ n s, I n s → wpAny (model prog w) A (pyNext it) (fun r s₁ => match r with
      | none => R (.ok .next) s₁
      | some v => wpAny (model prog w) A (letOwnedTupleGo target it v) (fun _ s₀ => wpAny (model prog w) A (assign target env v) (fun _ s₂ =>
          wpAny (model prog w) A (forIn ifs true fun c r => if r = true then do let ok ← isTrue c env (eval c env); pure (ForInStep.yield ok) else pure (ForInStep.yield r)) (fun ok s₃ => if ok = true then wpAny (model prog w) A (eval elt env) (fun x s₄ =>
            wpAny (model prog w) A (call (.builtin "list.append") [acc, x]) (fun _ s₅ => ∃ m, m < n ∧ I m s₅) (fun _ _ => False) s₄) (fun _ _ => False) s₃
            else ∃ m, m < n ∧ I m s₃) (fun _ _ => False) s₂)
          (fun _ _ => False) s₀) (fun _ _ => False) s₁) (fun _ _ => False) s)
    (n : Nat) (h : I n s) : codeAny (model prog w) A (.compLoop (.ListComp elt [⟨target, iter, ifs, 0⟩] scope pos) 0 it acc env) R s := by
  refine codeAny_loop rfl I (fun n s hI => ?_) n h
  show wpAny _ A ((compTurn (.ListComp elt [⟨target, iter, ifs, 0⟩] scope pos) 0 it acc env).onRaise (fun x => do noteFrame x env; theTreesLotGoes x)) _ _ s
  refine wpAny_noted ?_
  rw [compTurn_list]
  refine wpAny_bind (wpAny_standAt (wpAny_bind (wpAny_mono (turn n s hI) (fun r s₁ h₁ => ?_) fun _ _ h' => h'.elim)))
  cases r with
  | none => exact wpAny_pure h₁
  | some v =>
    refine wpAny_bind (wpAny_mono h₁ (fun _ s₀ h₀' => ?_) fun _ _ h' => h'.elim)
    refine wpAny_bind (wpAny_mono h₀' (fun _ s₂ h₂ => ?_) fun _ _ h' => h'.elim)
    refine wpAny_bind (wpAny_mono h₂ (fun okb s₃ h₃ => ?_) fun _ _ h' => h'.elim)
    cases okb with
    | false => exact wpAny_pure ⟨rfl, h₃⟩
    | true => exact wpAny_bind (wpAny_bind (wpAny_mono h₃ (fun x s₄ h₄ => wpAny_bind (wpAny_mono h₄ (fun _ s₅ h₅ => wpAny_pure (wpAny_pure ⟨rfl, h₅⟩)) fun _ _ h' => h'.elim)) fun _ _ h' => h'.elim))

/-- a record of ours is tracked from now on -/
theorem Inv.track {X : Cx} {pins : List (Addr × Obj)} {σ : St} {H : Hp} {s : Shared} {a : Addr} {o : HO} (I : Inv X pins σ H s) (hn : H a = none) (f : FpOk X pins H a) (new : ObjOk X.prog X.w (upd H a o) s.heap a o) : Inv X pins σ (upd H a o) s := by
  obtain ⟨_, f1, f2, f3, f4, f5⟩ := f
  have na : ∀ b u, H b = some u → b ≠ a := fun b u e => ne_of_none e hn
  have J := I.step (g' := s.gens) (t' := s.toks) (d' := s.drawn) (ch := [a]) (h' := s.heap) (H' := upd H a o) (fun b hb => by
      have e : b = a := by simpa using hb
      subst e
      exact ⟨f3, f1, f4, f5⟩) (fun b o _ _ _ e _ => e) (fun b o _ _ _ e _ => ⟨o.slots, e⟩) (fun b o hb _ n => by rw [upd_ne (by simpa using hb)]; exact n) (fun b o _ e => ⟨o, e⟩)
    (fun b xs e => by rw [upd_ne (na b _ e)]; exact e) (fun b o u e => by rw [upd_ne (na b _ e)]; exact e) (fun b ps e => ⟨#[], by rw [upd_ne (na b _ e), e]; simp⟩) (fun m hm => hm) (fun b u e => by
      by_cases hb : b = a
      · subst hb; rw [upd_same] at e; cases e; exact new
      · rw [upd_ne hb] at e
        exact (I.hok b u e).stay (fun c v _ q => q) (fun c q => by rw [upd_ne (na c _ q)]; exact q) fun c xs q => by rw [upd_ne (na c _ q)]; exact q) I.bare
  exact J

def tComp (wi : TI) (g : TG) (tt : TT) (te : TE) (mp : List (Option Nat)) : TE := fun σ H Q => wi σ H fun J H1 => ∃ W : Nat → Nat → List V → St → Hp → Prop, (∃ m, W 0 m [] (subσ mp σ) H1) ∧ ∀ i m ys σ H, W i m ys σ H →
  (J.stop i H ∧ ys.length ≤ sizeLine ∧ ∀ p, H p = none → Q (.ref p) (upd H p (.lst ys))) ∨ (J.go i H ∧ ys.length < sizeLine ∧ ∃ N : List V → St → Hp → Prop, (∀ ys' σ' H', N ys' σ' H' → ∃ m', m' < m ∧ W (i + 1) m' ys' σ' H') ∧ ∀ x H', J.yld i H x H' → g x σ H' fun σ2 H2 => tt σ2 H2 fun b H3 =>
    if b = true then te σ2 H3 (fun v H4 => N (ys ++ [v]) σ2 H4) else N ys σ2 H3)

/-- all that the clause needs of the scopes -/
structure CompS (X : Cx) (N' : List Str) (scope : Scope) (mp : List (Option Nat)) : Prop where
  kind : scope.kind = .function
  nocell : ∀ y ∈ scope.names, y.2 ≠ .cell
  locs : ∀ y ∈ scope.names, y.2 = .local → scope.names.lookup y.1 = some .local
  frees : ∀ y ∈ scope.names, y.2 = .free → X.env.scope.names.lookup y.1 = some .cell
  ok : compOk X.N X.env.scope.names scope.names N' mp = true

theorem compOk_get {N : List Str} {on inn : List (Str × NameKind)} {N' : List Str} {mp : List (Option Nat)} (h : compOk N on inn N' mp = true) : mp.length = N'.length ∧ ∀ (j : Nat) (x : Str) (i : Nat), N'[j]? = some x → mp[j]? = some (some i) → N[i]? = some x ∧ inn.lookup x = some .free ∧ on.lookup x = some .cell := by
  unfold compOk at h
  rw [Bool.and_eq_true] at h
  obtain ⟨h1, h2⟩ := h
  refine ⟨by simpa using h1, fun j x i e1 e2 => ?_⟩
  have hm : (x, some i) ∈ N'.zip mp := by
    refine List.mem_of_getElem? (i := j) ?_
    rw [List.getElem?_zip_eq_some]
    exact ⟨e1, e2⟩
  have q := List.all_eq_true.mp h2 _ hm
  simp only [Bool.and_eq_true, beq_iff_eq] at q
  exact ⟨q.1.1, q.1.2, q.2⟩
theorem subσ_get {mp : List (Option Nat)} {σ : St} {j : Nat} {v : V} (h : (subσ mp σ)[j]? = some (some v)) : ∃ i, mp[j]? = some (some i) ∧ σ[i]? = some (some v) := by
  unfold subσ at h
  rw [List.getElem?_map] at h
  cases e : mp[j]? with
  | none => rw [e] at h; cases h
  | some o =>
    rw [e] at h
    cases o with
    | none => simp at h
    | some i =>
      refine ⟨i, rfl, ?_⟩
      cases e2 : σ[i]? with
      | none => simp [e2] at h
      | some z =>
        simp [e2] at h
        rw [h]

section
variable {X : Cx} {pins : List (Addr × Obj)} {σ : St} {H : Hp}
/-- the core: behind the iterator; RR is what the comprehension wants of its end -/
theorem comp_core {elt tg iter : Expr} {ifs : List Expr} {scope : Scope} {pos : Pos} {N' : List Str} {mp : List (Option Nat)} {g : TG} {tt : TT} {te : TE} {s₂ : Shared} {it : Addr} {fp : List Addr} {tn : Nat → Heap → Prop} {J : It} {cl : List (Str × Addr)}
    {Qe : V → Hp → Prop} {RR : Value → Addr → Result → Shared → Prop} {E : Value → Shared → Prop} (hc : X.calm = true) (S : CompS X N' scope mp)
    (hcl : ∀ x c, cl.lookup x = some c → X.env.cells.lookup x = some c) (hcf : ∀ y ∈ scope.names, y.2 = .free → ∃ c, cl.lookup y.1 = some c)
    (hg : ∀ C s₀ H₀ ex, PG (cxComp X N' scope cl C s₀ H₀ ex) tg g) (ht : ∀ C s₀ H₀ ex, PIf (cxComp X N' scope cl C s₀ H₀ ex) ifs tt) (he : ∀ C s₀ H₀ ex, PE (cxComp X N' scope cl C s₀ H₀ ex) elt te)
    (I : Inv X pins σ H s₂) (T : Turn X.prog X.w X.K tg J fp it tn) (st : tn 0 s₂.heap) (hf : ∀ b ∈ fp, FpOk X pins H b)
    (hw : ∃ W : Nat → Nat → List V → St → Hp → Prop, (∃ m, W 0 m [] (subσ mp σ) H) ∧ ∀ i m ys σ H, W i m ys σ H →
      (J.stop i H ∧ ys.length ≤ sizeLine ∧ ∀ p, H p = none → Qe (.ref p) (upd H p (.lst ys))) ∨ (J.go i H ∧ ys.length < sizeLine ∧ ∃ N : List V → St → Hp → Prop, (∀ ys' σ' H', N ys' σ' H' → ∃ m', m' < m ∧ W (i + 1) m' ys' σ' H') ∧ ∀ x H', J.yld i H x H' → g x σ H' fun σ2 H2 => tt σ2 H2 fun b H3 =>
    if b = true then te σ2 H3 (fun v H4 => N (ys ++ [v]) σ2 H4) else N ys σ2 H3))
    (hR : ∀ (D C : Addr) (H' : Hp) (s' : Shared), Inv X pins σ H' s' → Qe (.ref D) H' → (∃ m, s'.heap.Ns C m) → FpOk X pins H' C → RR (.ref D) C (.ok .next) s') :
    wpAny (model X.prog X.w) X.A (newList []) (fun acc s₃ => wpAny (model X.prog X.w) X.A (newFunctionEnv scope X.env.globals cl [] X.env.qual none .none (some X.env)) (fun cenv s₄ =>
      codeAny (model X.prog X.w) X.A (.compStart (.ListComp elt [⟨tg, iter, ifs, 0⟩] scope pos) 0 (.ref it) acc { cenv with scope := relabel scope X.env }) (RR acc cenv.locals) s₄) E s₃) E s₂ := by
  obtain ⟨W, ⟨m0, w0⟩, turn⟩ := hw
  refine wpAny_newObj_type (wpAny_newFunctionEnv S.nocell (by intro y hy; simp at hy) (fun h₁ hns₁ hsb₁ => ?_) S.kind)
  dsimp only at hns₁ hsb₁ ⊢
  generalize hH2 : s₂.heap.push { cls := .type "list", dict := none, data := .seq ([] : List Value).toArray } = H2 at hns₁ hsb₁ ⊢
  have hCs : H2.objs.size = s₂.heap.objs.size + 1 := by rw [← hH2, Heap.size_push]
  have I3 : Inv X pins σ H { s₂ with heap := H2 } := by
    rw [← hH2]
    exact I.kept (t' := s₂.toks) fun b o e => Heap.get?_push_of_some _ e
  have k1 : ∀ b u, H2.get? b = some u → h₁.get? b = some u := fun b u e => hsb₁.extBut b u (Nat.ne_of_lt (Heap.lt_size e)) (Heap.get?_push_of_some _ e)
  have accOk : FpOk X pins H s₂.heap.objs.size := I.fpOk (Nat.le_refl _) (I.hok.fresh (Nat.le_refl _))
  have COk : FpOk X pins H H2.objs.size := I3.fpOk (Nat.le_refl _) (I3.hok.fresh (Nat.le_refl _))
  have fpLt : ∀ b ∈ fp, b < s₂.heap.objs.size := fun b hb => let ⟨o, e, _⟩ := T.obj 0 _ st b hb; Heap.lt_size e
  have accNf : s₂.heap.objs.size ∉ fp := fun z => absurd (fpLt _ z) (Nat.lt_irrefl _)
  have accNC : s₂.heap.objs.size ≠ H2.objs.size := by rw [hCs]; exact Nat.ne_of_lt (Nat.lt_succ_self _)
  have exAll : ∀ b ∈ s₂.heap.objs.size :: fp, FpOk X pins H b := fun b hb => (List.mem_cons.mp hb).elim (fun e => e ▸ accOk) (hf b)
  have exNC : ∀ b ∈ s₂.heap.objs.size :: fp, b ≠ H2.objs.size := fun b hb => (List.mem_cons.mp hb).elim (fun e => e ▸ accNC) fun z => Nat.ne_of_lt (Nat.lt_trans (fpLt b z) (by rw [hCs]; exact Nat.lt_succ_self _))
  have stkN : ∀ b, FpOk X pins H b → b ∉ frs X.stack := fun b f z => (List.mem_cons.mp (I.stkSub b z)).elim f.2.1 f.2.2.1
  -- the block's context
  have ok' : (cxComp X N' scope cl H2.objs.size { s₂ with heap := H2 } H (s₂.heap.objs.size :: fp)).Ok := by
    refine ⟨I.ok.mod, S.kind, I.ok.glob, I.ok.blt, Nat.le_refl _, fun x y c h1 h2 => I.ok.inj x y c (hcl x c h1) (hcl y c h2), fun x hx => ?_, fun x c hx => absurd hx (by show ¬ false = true; decide), I.ok.hd, I.ok.frames, .inl rfl,
      fun b hb => ⟨exNC b hb, fun x c e => (exAll b hb).2.2.2.2.1 x c (hcl x c e)⟩, fun b o e => I3.bs b o e, Nat.le_trans I.ok.bsz I3.sz, fun b o e hb => ?_, fun b hb => stkN b (exAll b hb), I3.stack, I3.stkFree⟩
    · have hx' : (relabel scope X.env).names.lookup x = some .cell ∨ (relabel scope X.env).names.lookup x = some .free := hx
      have hfree : scope.names.lookup x = some .free := by
        rcases hx' with z | z
        · exact lookup_relabel z S.nocell (.inl rfl)
        · exact lookup_relabel z S.nocell (.inr rfl)
      exact hcf (x, .free) (PySem.mem_of_lookup hfree) rfl
    · rcases (exAll b hb).2.2.2.1 with z | z
      · exact I.ok.noex b o e z
      · exact absurd (Nat.lt_of_lt_of_le (Heap.lt_size e) (Nat.le_trans I.ok.bsz z)) (Nat.lt_irrefl _)
  obtain ⟨hml, hmp⟩ := compOk_get S.ok
  let XC := cxComp X N' scope cl H2.objs.size { s₂ with heap := H2 } H (s₂.heap.objs.size :: fp)
  have J4 : Inv (cxComp X N' scope cl H2.objs.size { s₂ with heap := H2 } H (s₂.heap.objs.size :: fp)) [] (subσ mp σ) H { s₂ with heap := h₁, toks := s₂.toks + ([] : List (Str × Value)).length } := by
    refine ⟨ok', rfl, I.bare, Un.kept k1, ⟨_, hns₁, fun j x v e1 e2 e3 => ?_⟩, fun x c e => ?_, COk.1, fun x c e => I.freeC x c (hcl x c e), fun p hp => absurd (show p ∈ ([] : List (Addr × Obj)) from hp) (by simp), I3.hok.kept k1, by show (subσ mp σ).length = N'.length; unfold subσ; rw [List.length_map, hml]⟩
    · obtain ⟨i, q1, q2⟩ := subσ_get e2
      obtain ⟨n1, n2, n3⟩ := hmp j x i e1 q1
      obtain ⟨m, hn, hl⟩ := I3.loc
      obtain ⟨u, ru, lk⟩ := hl i x v n1 q2 (.inr (.inl n3))
      refine ⟨u, ru, ?_⟩
      rcases lk with ⟨z, _⟩ | ⟨_, c, ec, z⟩
      · have z' : X.env.scope.names.lookup x = some .local := z
        rw [n3] at z'; cases z'
      · obtain ⟨c', ec'⟩ := hcf (x, .free) (PySem.mem_of_lookup n2) rfl
        have e4 := hcl x c' ec'
        rw [ec] at e4; cases e4
        refine .inr ⟨?_, c, ec', ?_⟩
        · have z3 : (relabel scope X.env).names.lookup x = some .local ∨ (relabel scope X.env).names.lookup x = some .cell ∨ (relabel scope X.env).names.lookup x = some .free := e3
          rcases z3 with z3 | z3 | z3
          · exfalso
            have : ∀ (names : List (Str × NameKind)), names.lookup x = some .free → (names.map fun (n, k) => if (k == NameKind.free && X.env.scope.kind == .function && X.env.kindOf n == some .cell) then (n, NameKind.cell) else (n, k)).lookup x ≠ some .local := by
              intro names
              induction names with
              | nil => intro h; simp at h
              | cons p r ih =>
                obtain ⟨n, k⟩ := p
                intro h
                cases hx : x == n with
                | true =>
                  simp only [List.lookup_cons, hx] at h
                  cases h
                  rw [List.map_cons]
                  dsimp only
                  split <;> simp [List.lookup_cons, hx]
                | false =>
                  simp only [List.lookup_cons, hx] at h
                  rw [List.map_cons]
                  dsimp only
                  split <;> (simp only [List.lookup_cons, hx]; exact ih h)
            exact this scope.names n2 z3
          · exact .inl z3
          · exact .inr z3
        · obtain ⟨o, ho, hd⟩ := z
          exact ⟨o, k1 _ _ ho, hd⟩
    · obtain ⟨v, o, ho, hd⟩ := I3.cell x c (hcl x c e)
      exact ⟨v, o, k1 _ _ ho, hd⟩
  have acc4 : h₁.get? s₂.heap.objs.size = some { cls := .type "list", data := .seq ([] : List Value).toArray 0 } := k1 _ _ (by rw [← hH2]; exact Heap.get?_push_size _ rfl)
  have st4 : tn 0 h₁ := T.keep _ _ _ st fun b _ o e => k1 b o (by rw [← hH2]; exact Heap.get?_push_of_some _ e)
  have fp4 : ∀ {H' : Hp}, (∀ b ∈ fp, H' b = none) → ∀ b ∈ fp, FpOk (cxComp X N' scope cl H2.objs.size { s₂ with heap := H2 } H (s₂.heap.objs.size :: fp)) [] H' b := fun hn b hb =>
    ⟨hn b hb, exNC b (List.mem_cons_of_mem _ hb), stkN b (hf b hb), .inl (List.mem_cons_of_mem _ hb), fun x c e => (hf b hb).2.2.2.2.1 x c (hcl x c e), fun p hp => absurd (show p ∈ ([] : List (Addr × Obj)) from hp) (by simp)⟩
  have acc5 : ∀ {H' : Hp}, H' s₂.heap.objs.size = none → FpOk (cxComp X N' scope cl H2.objs.size { s₂ with heap := H2 } H (s₂.heap.objs.size :: fp)) [] H' s₂.heap.objs.size := fun hn =>
    ⟨hn, accNC, stkN _ accOk, .inl List.mem_cons_self, fun x c e => accOk.2.2.2.2.1 x c (hcl x c e), fun p hp => absurd (show p ∈ ([] : List (Addr × Obj)) from hp) (by simp)⟩
  have loop : ∀ s₃ : Shared, s₃ = { s₂ with heap := h₁, toks := s₂.toks + ([] : List (Str × Value)).length } →
      codeAny (model X.prog X.w) X.A (.compLoop (.ListComp elt [⟨tg, iter, ifs, 0⟩] scope pos) 0 (.ref it) (.ref s₂.heap.objs.size) (compEnvC scope cl H2.objs.size X.env)) (RR (.ref s₂.heap.objs.size) H2.objs.size) s₃ := by
    rintro s₃ rfl
    refine comp_loop (fun n s' => ∃ i σ' H' ys its k, Inv (cxComp X N' scope cl H2.objs.size { s₂ with heap := H2 } H (s₂.heap.objs.size :: fp)) [] σ' H' s' ∧ tn i s'.heap ∧ (∀ b ∈ fp, H' b = none) ∧ H' s₂.heap.objs.size = none ∧
      Vals ys its ∧ s'.heap.get? s₂.heap.objs.size = some { cls := .type "list", data := .seq its.toArray k } ∧ W i n ys σ' H') ?_ m0 ⟨0, subσ mp σ, H, [], [], 0, J4, st4, fun b hb => (hf b hb).1, accOk.1, .nil, acc4, w0⟩
    rintro n s5 ⟨i, σ5, H5, ys, its, k, J5, st5, fr5, an5, vy, ea, w5⟩
    have zv : its.length = ys.length := vy.length.symm
    have pinOk : ∀ {σ' : St} {H' : Hp} {s' : Shared} {o : Obj}, Inv XC [] σ' H' s' → H' s₂.heap.objs.size = none → s'.heap.get? s₂.heap.objs.size = some o → (∀ v, o.data ≠ .cell v) → Inv XC [(s₂.heap.objs.size, o)] σ' H' s' := fun {σ' H' s' o} J a1 a2 a3 => J.pins_of fun p hp => by
      have e : p = (s₂.heap.objs.size, o) := by simpa using hp
      subst e
      exact ⟨a2, a1, accNC, stkN _ accOk, a3⟩
    have fp5 : ∀ {H' : Hp} {o : Obj}, (∀ b ∈ fp, H' b = none) → ∀ b ∈ fp, FpOk XC [(s₂.heap.objs.size, o)] H' b := fun {H' o} hn b hb => by
      obtain ⟨c1, c2, c3, c4, c5, _⟩ := fp4 hn b hb
      refine ⟨c1, c2, c3, c4, c5, fun p hp => ?_⟩
      have e : p = (s₂.heap.objs.size, o) := by
        have hp' : p ∈ ([] ++ [(s₂.heap.objs.size, o)] : List (Addr × Obj)) := hp
        simpa using hp'
      subst e
      intro z
      exact accNf (by rw [show s₂.heap.objs.size = b from z]; exact hb)
    have noc : ∀ (us : List Value) (k : Nat) (v : Option Value), ({ cls := .type "list", data := .seq us.toArray k } : Obj).data ≠ .cell v := fun us k v z => by
      have z' : Data.seq us.toArray k = Data.cell v := z
      cases z'
    have J5p := pinOk J5 an5 ea (noc its k)
    rcases turn i n ys σ5 H5 w5 with ⟨stop, zl, qn⟩ | ⟨go, zl, N, hN, step⟩
    · refine thn (T.done XC rfl rfl rfl hc i _ s5 σ5 H5 _ J5p (fp5 fr5) st5 stop) fun r s6 ⟨hr, J6⟩ => ?_
      subst hr
      have I6 : Inv X pins σ H5 s6 := I3.call' (ch := s₂.heap.objs.size :: fp) (show s6.os = _ from J6.os) J6.base J6.hok J6.bare fun b hb => let ⟨_, a1, _, a3, a4, a5⟩ := exAll b hb; ⟨a3, a1, a4, a5⟩
      have ea6 : s6.heap.get? s₂.heap.objs.size = some { cls := .type "list", data := .seq its.toArray k } := (J6.pin _ (List.mem_append_right _ (List.mem_singleton.mpr rfl))).1
      have I7 : Inv X pins σ (upd H5 s₂.heap.objs.size (.lst ys)) s6 := I6.track an5 ⟨an5, accOk.2⟩ ⟨zl, its, k, vy, ea6⟩
      obtain ⟨m, hm, _⟩ := J6.loc
      exact hR _ _ _ s6 I7 (qn _ an5) ⟨m, hm⟩ ⟨by rw [upd_ne (Ne.symm accNC)]; exact J6.free, COk.2⟩
    · refine thn (T.item XC rfl rfl rfl hc i _ s5 σ5 H5 _ J5p (fp5 fr5) st5 go) fun r s6 ⟨u, hr, h6⟩ => ?_
      subst hr
      refine thn h6 fun _ s7 ⟨x, H7, J7, r7, y7, st7, fr7⟩ => ?_
      have an7 : H7 s₂.heap.objs.size = none := (J7.pin _ (List.mem_append_right _ (List.mem_singleton.mpr rfl))).2.1
      have J7' := J7.pinned (fp5 fr7) (T.obj _ _ st7)
      refine thn (hg _ _ _ _ _ s7 σ5 H7 x u _ J7' r7 (step x H7 y7)) fun _ s8 ⟨σ8, H8, J8, q8⟩ => ?_
      refine thn (ht _ _ _ _ _ s8 σ8 H8 _ J8 q8) fun b s9 ⟨H9, J9, q9⟩ => ?_
      have back : ∀ {σ' : St} {H' : Hp} {s' : Shared}, Inv XC ([(s₂.heap.objs.size, ({ cls := .type "list", data := .seq its.toArray k } : Obj))] ++ pinsAt fp s7.heap) σ' H' s' →
          Inv XC [] σ' H' s' ∧ tn (i + 1) s'.heap ∧ (∀ b ∈ fp, H' b = none) ∧ H' s₂.heap.objs.size = none ∧ s'.heap.get? s₂.heap.objs.size = some { cls := .type "list", data := .seq its.toArray k } := fun {σ' H' s'} K => by
        have pa := K.pin (s₂.heap.objs.size, { cls := .type "list", data := .seq its.toArray k }) (List.mem_append_right _ (List.mem_append_left _ (List.mem_singleton.mpr rfl)))
        refine ⟨K.pins_of (fun p hp => absurd hp (by simp)), T.keep _ _ _ st7 fun b hb o e => (K.pin (b, o) (List.mem_append_right _ (List.mem_append_right _ (mem_pinsAt hb e)))).1, fun b hb => ?_, pa.2.1, pa.1⟩
        obtain ⟨o, e, d⟩ := T.obj _ _ st7 b hb
        exact (K.pin (b, o) (List.mem_append_right _ (List.mem_append_right _ (mem_pinsAt hb e)))).2.1
      cases b with
      | false =>
        rw [if_neg Bool.false_ne_true] at q9
        rw [if_neg Bool.false_ne_true]
        obtain ⟨m', hm', w'⟩ := hN _ _ _ q9
        obtain ⟨K1, K2, K3, K4, K5⟩ := back J9
        exact ⟨m', hm', i + 1, σ8, H9, ys, its, k, K1, K2, K3, K4, vy, K5, w'⟩
      | true =>
        rw [if_pos rfl] at q9
        rw [if_pos rfl]
        refine thn (he _ _ _ _ _ s9 σ8 H9 _ J9 q9) fun z s10 ⟨v, H10, J10, r10, q10⟩ => ?_
        obtain ⟨m', hm', w'⟩ := hN _ _ _ q10
        obtain ⟨K1, K2, K3, K4, K5⟩ := back J10
        refine call_meets F.slot_list_append ⟨_, K5, rfl⟩ F.entry_list_append (F.args_list_append_2 _ _) (PySem.list_append s₂.heap.objs.size its.toArray k z (by rw [List.size_toArray]; omega)) ⟨K5, ?_⟩
        have qa := PySem.IsL.update K5 (fun x_1 => x_1.push z)
        have eqa : its.toArray.push z = (its ++ [z]).toArray := by simp
        rw [eqa] at qa
        have kk : ∀ b o, b ≠ s₂.heap.objs.size → s10.heap.get? b = some o → (s10.heap.update s₂.heap.objs.size (Obj.mapSeq fun x_1 => x_1.push z)).get? b = some o := fun b o hb hu => (Heap.get?_update_other s10.heap (Obj.mapSeq fun x_1 => x_1.push z) (Ne.symm hb)).trans hu
        obtain ⟨d0, d1, d2, d3, d4, d5⟩ := acc5 K4
        have K1' := K1.turned (h' := s10.heap.update s₂.heap.objs.size (Obj.mapSeq fun x_1 => x_1.push z)) (t' := s10.toks) kk d0 d1 d3 d4 d5
        exact ⟨m', hm', i + 1, σ8, H10, ys ++ [v], its ++ [z], _, K1', T.keep _ _ _ K2 (fun b hb o e => kk b o (fun y => accNf (by rw [← y]; exact hb)) e), K3, K4, vy.append (.cons r10 .nil), qa, w'⟩
  exact codeAny_compStart_list (loop _ rfl) (T.self _ _ _ _ _ st4 (loop _ rfl))

/-- [elt for tg in iter if ..] -/
theorem pe_comp {elt tg iter : Expr} {ifs : List Expr} {scope : Scope} {pos : Pos} (N' : List Str) (mp : List (Option Nat)) {wi : TI} {g : TG} {tt : TT} {te : TE} (hc : X.calm = true) (S : CompS X N' scope mp) (hi : PI X tg iter wi)
    (hg : ∀ cl C s₀ H₀ ex, PG (cxComp X N' scope cl C s₀ H₀ ex) tg g) (ht : ∀ cl C s₀ H₀ ex, PIf (cxComp X N' scope cl C s₀ H₀ ex) ifs tt) (he : ∀ cl C s₀ H₀ ex, PE (cxComp X N' scope cl C s₀ H₀ ex) elt te)
    (hs : ∀ x, foldedSetIterable iter X.env x = pure x := by intro _; rfl) : PE X (.ListComp elt [⟨tg, iter, ifs, 0⟩] scope pos) (tComp wi g tt te mp) := by
  intro pins s σ H Q I h
  obtain ⟨cl, e0, e1, e2⟩ := clos_of (scope := scope) (env := X.env) fun y hy hf => I.ok.has y.1 (.inl (S.frees y hy hf))
  rw [eval_ListComp]
  refine wpAny_comprehension_free (use := none) rfl hs e0 S.kind S.locs (thn (hi pins s σ H _ I h) fun v s1 h1 => thn h1 fun itv s2 h2 => ?_)
  obtain ⟨it, fp, tn, J, H2, e, I2, T, st2, f2, hw⟩ := h2
  subst e
  refine comp_core (Qe := Q) (RR := fun acc C => compPost (model X.prog X.w) X.A X.xe none (EP X pins σ Q) acc C) hc S e1 e2 (hg cl) (ht cl) (he cl) I2 T st2 f2 hw fun D C H' s' I' q ⟨m, hm⟩ ⟨f0, f1, _, f3, f4, f5⟩ => ?_
  exact ⟨m, hm, fun h' sb => ⟨.ref D, H', I'.turned (t' := s'.toks) (fun b o hb e => (sb.2 b hb).trans e) f0 f1 f3 f4 f5, rfl, q⟩⟩
/-- name = [elt for ..] -/
theorem ps_setc {elt tg iter : Expr} {ifs : List Expr} {scope : Scope} {pos pos' cpos : Pos} {i : Nat} {x : Str} (N' : List Str) (mp : List (Option Nat)) {wi : TI} {g : TG} {tt : TT} {te : TE} (hN : X.N.Nodup) (hxi : X.N[i]? = some x) (hx : Loc X.env.scope x)
    (hc : X.calm = true) (S : CompS X N' scope mp) (hi : PI X tg iter wi)
    (hg : ∀ cl C s₀ H₀ ex, PG (cxComp X N' scope cl C s₀ H₀ ex) tg g) (ht : ∀ cl C s₀ H₀ ex, PIf (cxComp X N' scope cl C s₀ H₀ ex) ifs tt) (he : ∀ cl C s₀ H₀ ex, PE (cxComp X N' scope cl C s₀ H₀ ex) elt te)
    (hsw : swapsWith (.ListComp elt [⟨tg, iter, ifs, 0⟩] scope cpos) (some (.Name x pos')) pos.line X.env = pure true := by rfl)
    (hs : ∀ x, foldedSetIterable iter X.env x = pure x := by intro _; rfl) (hf : X.fn x = true ∨ X.env.scope.names.lookup x = some .local := by first | exact .inl rfl | exact .inr rfl | assumption) :
    PS X (.Assign [.Name x pos'] (.ListComp elt [⟨tg, iter, ifs, 0⟩] scope cpos) pos) (tAsg (tComp wi g tt te mp) (gName i)) := by
  intro pins s σ H D I h
  obtain ⟨cl, e0, e1, e2⟩ := clos_of (scope := scope) (env := X.env) fun y hy hf => I.ok.has y.1 (.inl (S.frees y hy hf))
  rw [exec_Assign_Name_used _ _ _ _ hsw]
  refine wpAny_bind (wpAny_standAt (wpAny_bind ?_))
  show wpAny _ X.A (do let _ ← comprehension (.ListComp elt [⟨tg, iter, ifs, 0⟩] scope cpos) scope X.env _ (newList []) false (eval iter X.env) (some (assign (.Name x pos') X.env))) _ _ s
  refine wpAny_bind (wpAny_mono (wpAny_comprehension_free (use := some (assign (.Name x pos') X.env)) (Q := fun _ s' => SP X pins D .next s') rfl hs e0 S.kind S.locs
    (thn (hi pins s σ H _ I h) fun v s1 h1 => thn h1 fun itv s2 h2 => ?_)) (fun _ s' hq => wpAny_pure (wpAny_pure hq)) fun _ _ e => e)
  obtain ⟨it, fp, tn, J, H2, e, I2, T, st2, f2, hw⟩ := h2
  subst e
  refine comp_core (Qe := fun x H1 => gName i x σ H1 D.nx) (RR := fun acc C => compPost (model X.prog X.w) X.A X.xe (some (assign (.Name x pos') X.env)) (fun _ s' => SP X pins D .next s') acc C) hc S e1 e2 (hg cl) (ht cl) (he cl) I2 T st2 f2 hw fun D' C H' s' I' q ⟨m, hm⟩ ⟨f0, f1, _, f3, f4, f5⟩ => ?_
  show wpAny _ X.A (assign (.Name x pos') X.env (.ref D')) _ _ _
  refine wpAny_assign_Name (store_ok2 I' hN hxi hx (v := .ref D') rfl (fun s'' I'' ⟨a, sb, ha⟩ => ?_) hf)
  have hCa : C ≠ a := by
    rcases ha with ha | ha
    · rw [ha]; exact f1
    · exact fun z => f4 x a ha z.symm
  refine ⟨m, hm.sameBut sb hCa, fun h' sb' => ?_⟩
  exact ⟨_, H', I''.turned (t' := s''.toks) (fun b o hb e => (sb'.2 b hb).trans e) f0 f1 f3 f4 f5, q⟩
end

/-! ### the forms one uses: over a list, a tuple, a range -/
section
variable {K : PySem.W.Frag} {a : Addr} {xs : List V} {g : TG} {tt : TT} {te : TE} {σ : St} {H : Hp} {Q : VK}
abbrev CompW (J : It) (g : TG) (tt : TT) (te : TE) (Q : VK) (σ : St) (H : Hp) : Prop := ∃ W : Nat → Nat → List V → St → Hp → Prop, (∃ m, W 0 m [] σ H) ∧ ∀ i m ys σ H, W i m ys σ H →
  (J.stop i H ∧ ys.length ≤ sizeLine ∧ ∀ p, H p = none → Q (.ref p) (upd H p (.lst ys))) ∨ (J.go i H ∧ ys.length < sizeLine ∧ ∃ N : List V → St → Hp → Prop, (∀ ys' σ' H', N ys' σ' H' → ∃ m', m' < m ∧ W (i + 1) m' ys' σ' H') ∧ ∀ x H', J.yld i H x H' → g x σ H' fun σ2 H2 => tt σ2 H2 fun b H3 =>
    if b = true then te σ2 H3 (fun v H4 => N (ys ++ [v]) σ2 H4) else N ys σ2 H3)
theorem comp_list (Pv : Nat → List V → St → Hp → Prop) (h0 : Pv 0 [] σ H) (hz : xs.length < sizeLine) (hy : ∀ i ys σ H, Pv i ys σ H → ys.length ≤ i) (hl : ∀ i ys σ H, i ≤ xs.length → Pv i ys σ H → SqL K H a xs)
    (hs : ∀ i ys x σ H, xs[i]? = some x → Pv i ys σ H → g x σ H fun σ2 H2 => tt σ2 H2 fun b H3 => if b = true then te σ2 H3 (fun v H4 => Pv (i + 1) (ys ++ [v]) σ2 H4) else Pv (i + 1) ys σ2 H3)
    (hd : ∀ ys σ H, Pv xs.length ys σ H → ∀ p, H p = none → Q (.ref p) (upd H p (.lst ys))) : CompW (Itl K a) g tt te Q σ H := by
  refine ⟨fun i m ys σ H => m = xs.length - i ∧ i ≤ xs.length ∧ Pv i ys σ H, ⟨xs.length, by simp, Nat.zero_le _, h0⟩, ?_⟩
  rintro i m ys σ H ⟨rfl, hi, p⟩
  have q := hl i ys σ H hi p
  have hyl := hy i ys σ H p
  by_cases hlt : i < xs.length
  · refine .inr ⟨⟨xs, xs[i], q, by simp [hlt]⟩, by omega, Pv (i + 1), fun ys' σ' H' p' => ⟨xs.length - (i + 1), by omega, rfl, hlt, p'⟩, fun x H' y => ?_⟩
    obtain ⟨e, y⟩ := y
    subst e
    exact hs i ys x σ _ (y xs q) p
  · have e : i = xs.length := by omega
    subst e
    exact .inl ⟨⟨xs, q, Nat.le_refl _⟩, by omega, hd ys σ H p⟩
theorem comp_tup (Pv : Nat → List V → St → Hp → Prop) (h0 : Pv 0 [] σ H) (hz : xs.length < sizeLine) (hy : ∀ i ys σ H, Pv i ys σ H → ys.length ≤ i) (hl : ∀ i ys σ H, i ≤ xs.length → Pv i ys σ H → SqT K H a xs)
    (hs : ∀ i ys x σ H, xs[i]? = some x → Pv i ys σ H → g x σ H fun σ2 H2 => tt σ2 H2 fun b H3 => if b = true then te σ2 H3 (fun v H4 => Pv (i + 1) (ys ++ [v]) σ2 H4) else Pv (i + 1) ys σ2 H3)
    (hd : ∀ ys σ H, Pv xs.length ys σ H → ∀ p, H p = none → Q (.ref p) (upd H p (.lst ys))) : CompW (Itt K a) g tt te Q σ H := by
  refine ⟨fun i m ys σ H => m = xs.length - i ∧ i ≤ xs.length ∧ Pv i ys σ H, ⟨xs.length, by simp, Nat.zero_le _, h0⟩, ?_⟩
  rintro i m ys σ H ⟨rfl, hi, p⟩
  have q := hl i ys σ H hi p
  have hyl := hy i ys σ H p
  by_cases hlt : i < xs.length
  · refine .inr ⟨⟨xs, xs[i], q, by simp [hlt]⟩, by omega, Pv (i + 1), fun ys' σ' H' p' => ⟨xs.length - (i + 1), by omega, rfl, hlt, p'⟩, fun x H' y => ?_⟩
    obtain ⟨e, y⟩ := y
    subst e
    exact hs i ys x σ _ (y xs q) p
  · have e : i = xs.length := by omega
    subst e
    exact .inl ⟨⟨xs, q, Nat.le_refl _⟩, by omega, hd ys σ H p⟩
end
end L2


set_option Elab.async false
set_option linter.all false
set_option maxRecDepth 100000
/-! MORE OPERATIONS over the hand layer -/
namespace L2
open PySem PySem.Spec PyProof.Rows

section
variable {X : Cx}
/-! ### tuple + tuple, whatever is empty -/
def rCatT2 (K : PySem.W.Frag) : R2 := fun x y H Q => ∃ a b xs ys, x = .ref a ∧ y = .ref b ∧ SqT K H a xs ∧ SqT K H b ys ∧ xs.length + ys.length ≤ sizeLine ∧
  (xs = [] → Q (.ref b) H) ∧ (xs ≠ [] → ys = [] → Q (.ref a) H) ∧ (xs ≠ [] → ys ≠ [] → ∀ p, H p = none → Q (.ref p) (upd H p (.tup (xs ++ ys))))
/-! ### == and != of two lists of flat items -/
def datV : V → PyData
  | .bl b => .bool b
  | .int i => .int i
  | .str x => .str x
  | _ => .none
theorem reads_flat {h : Heap} {x : V} {u : Value} (r : RelV x u) (f : flatV x = true) : Reads h u (datV x) [] := by
  cases x with
  | non => cases r; exact .none
  | bl b => cases r; exact .bool b
  | int i => obtain ⟨t, rfl⟩ := r; exact .int i t
  | str z => obtain ⟨t, rfl⟩ := r; exact .str z t
  | _ => exact absurd (show false = true from f) Bool.false_ne_true
theorem readsAll_flat {h : Heap} : ∀ {xs : List V} {us : List Value}, Vals xs us → xs.all flatV = true → ReadsAll h us (xs.map datV) []
  | _, _, .nil, _ => .nil
  | _ :: _, _ :: _, .cons r t, f => by
    rw [List.all_cons, Bool.and_eq_true] at f
    exact .cons (reads_flat r f.1) (readsAll_flat t f.2)
def okV : V → Bool
  | .non => true
  | .bl _ => true
  | .int _ => true
  | .str z => PyData.strOk z
  | _ => false
theorem okV.flat {x : V} (h : okV x = true) : flatV x = true := by
  cases x <;> first | rfl | exact absurd (show false = true from h) Bool.false_ne_true
theorem okV.all {xs : List V} (h : xs.all okV = true) : xs.all flatV = true := List.all_eq_true.mpr fun x hx => okV.flat (List.all_eq_true.mp h x hx)
theorem lay_flat : ∀ (xs : List V), xs.all okV = true → PyData.canLayAll0 (xs.map datV) = true ∧ PyData.depthAll (xs.map datV) ≤ 1
  | [], _ => by simp [PyData.canLayAll0, PyData.depthAll]
  | x :: xs, hz => by
    rw [List.all_cons, Bool.and_eq_true] at hz
    have h1 : (datV x).canLay0 = true ∧ (datV x).depth ≤ 1 := by
      cases x with
      | str z => exact ⟨by simpa [datV, PyData.canLay0, okV] using hz.1, by simp [datV, PyData.depth]⟩
      | _ => exact ⟨by simp [datV, PyData.canLay0], by simp [datV, PyData.depth]⟩
    have h2 := lay_flat xs hz.2
    simp only [List.map_cons, PyData.canLayAll0, PyData.depthAll, h1.1, h2.1, Bool.and_self, true_and]
    have a1 := h1.2
    have a2 := h2.2
    omega
theorem shaped_flat {xs : List V} (h : xs.all okV = true) : SeqAt.shaped (.list (xs.map datV)) = true := by
  have q := lay_flat xs h
  unfold SeqAt.shaped
  simp only [PyData.canLay0, PyData.depth, q.1, Bool.true_and]
  have := q.2
  exact decide_eq_true (by omega)
theorem Inv.readsL {pins : List (Addr × Obj)} {σ : St} {H : Hp} {s : Shared} {a : Addr} {xs : List V} (I : Inv X pins σ H s) (h : SqL X.K H a xs) (f : xs.all okV = true) : ∃ as, Reads s.heap (.ref a) (.list (xs.map datV)) as := by
  obtain ⟨its, r, ⟨o, n, e, c, _, d⟩, _⟩ := I.list h
  exact ⟨_, .list e c d (by simpa using readsAll_flat r (okV.all f))⟩
def eqL (xs ys : List V) : Bool := PyData.eqv (.list (xs.map datV)) (.list (ys.map datV))
def rEqL (K : PySem.W.Frag) (neg : Bool) : R2 := fun x y H Q => ∃ a b xs ys, x = .ref a ∧ y = .ref b ∧ SqL K H a xs ∧ SqL K H b ys ∧ xs.all okV = true ∧ ys.all okV = true ∧ Q (.bl (if neg then !eqL xs ys else eqL xs ys)) H
theorem op_eqL (hu : X.A.units + 64 < cLine) : OpR X (compareOp .Eq) (rEqL X.K false) := by
  intro pins s σ H x y v u Q I rx ry h
  obtain ⟨a, b, xs, ys, rfl, rfl, ha, hb, fa, fb, q⟩ := h
  cases rx; cases ry
  obtain ⟨as, ra⟩ := I.readsL ha fa
  obtain ⟨bs, rb⟩ := I.readsL hb fb
  exact eq_dataH ra rb (shaped_flat fa) (shaped_flat fb) hu ⟨.bl _, H, I, rfl, q⟩
theorem op_neL (hu : X.A.units + 64 < cLine) : OpR X (compareOp .NotEq) (rEqL X.K true) := by
  intro pins s σ H x y v u Q I rx ry h
  obtain ⟨a, b, xs, ys, rfl, rfl, ha, hb, fa, fb, q⟩ := h
  cases rx; cases ry
  obtain ⟨as, ra⟩ := I.readsL ha fa
  obtain ⟨bs, rb⟩ := I.readsL hb fb
  exact ne_dataH ra rb (shaped_flat fa) (shaped_flat fb) hu ⟨.bl _, H, I, rfl, q⟩
theorem eqL_nil (xs : List V) : eqL xs [] = xs.isEmpty := by
  cases xs <;> simp [eqL, PyData.eqv, PyData.eqvAll]

/-! ### texts by their order; truths by is -/
/-! ### isinstance with a built-in type -/
/-! ### all of a list of truths -/
/-! ### a text, sign by sign -/
def Its (z : Str) : It := ⟨fun i _ => i < z.cps.size, fun i H x H' => H' = H ∧ ∃ c, z.cps[i]? = some c ∧ x = .str ⟨#[c]⟩, fun i _ => i = z.cps.size⟩
def iStr (tl : TE) : TI := fun σ H R => tl σ H fun x H1 => ∃ z, x = .str z ∧ R (Its z) H1
/-! ### a tuple times an int above 1 -/
open PySem.AutoSeq1 (wpAny_loadPart') in
theorem tuple_mul2 (l : Addr) (items : Array Value) (n : Nat) (dd : Option Addr) (sl : Array (Option Value)) (x : Int) (u : Tok) (h2 : 2 ≤ x) (hx : x < 2 ^ 62) (hne : items.isEmpty = false) (hz : items.size * x.toNat ≤ sizeLine) :
    Meets (Builtin.«tuple.__mul__» ⟨[.ref l, .int x u], []⟩) (fun _ R s => s.heap.get? l = some { cls := .type "tuple", dict := dd, data := .seq items n, slots := sl } ∧ R (.ok (.ret (Value.ref s.heap.objs.size))) { s with heap := s.heap.push { cls := Value.type "tuple", data := Data.seq (List.foldl (fun x1 x2 => x1 ++ x2) #[] (List.replicate x.toNat items)) }, toks := s.toks }) :=
  .of_wp fun prog w A R s h => by
    obtain ⟨hp, g, d, tk, os⟩ := s; obtain ⟨hl, h⟩ := h
    have f1 := AutoSeq1.idx_int
    have hs : sizeLine = 16777216 := sizeLine_eq
    have hm : ((items.size * x.toNat : Nat) : Int) = (items.size : Int) * x := by
      rw [Int.natCast_mul, Int.toNat_of_nonneg (by omega)]
    have c0 : ¬ (decide (x < -2 ^ 63) || decide (x ≥ 2 ^ 63)) = true := by
      simp only [Bool.or_eq_true, decide_eq_true_eq, not_or]
      omega
    have c1 : ¬ (items.isEmpty || x == 1) = true := by
      rw [hne, Bool.false_or]
      simp only [beq_iff_eq]
      omega
    have c2 : ¬ (decide (x ≤ 0) || items.isEmpty) = true := by
      rw [hne, Bool.or_false]
      simp only [decide_eq_true_eq]
      omega
    have c3 : ¬ ((items.size : Int) * x > (2 ^ 63 - 1) / 8) := by
      rw [← hm]
      have : (2 ^ 63 - 1 : Int) / 8 = 1152921504606846975 := by decide
      rw [this]
      omega
    have c4 : ¬ Builtin.Tuple.tupleTooMany ((items.size : Int) * x) = true := by
      unfold Builtin.Tuple.tupleTooMany
      simp only [decide_eq_true_eq]
      rw [← hm]
      omega
    wp_walk using wpAny_loadPart' hl
    refine PySem.W.KFB.if_not (Bool.eq_false_iff.mpr c0) ?_
    wp_walk using wpAny_loadPart' hl
    refine PySem.W.KFB.if_not (Bool.eq_false_iff.mpr c1) ?_
    refine PySem.W.KFB.if_not (Bool.eq_false_iff.mpr c2) ?_
    dsimp only
    rw [if_neg c3]
    refine PySem.W.KFB.if_not (Bool.eq_false_iff.mpr c4) ?_
    refine wpAny_bind (wpAny_newObj_type (wpAny_pure ⟨_, rfl, h⟩) ?_)
    show (List.foldl (fun x1 x2 => x1 ++ x2) #[] (List.replicate x.toNat items)).size ≤ sizeLine
    have e := foldl_rep items.toList x.toNat []
    rw [List.nil_append] at e
    have e2 : items.toList.toArray = items := by simp
    rw [e2] at e
    rw [show ([] : List Value).toArray = #[] from rfl] at e
    rw [e, List.size_toArray, len_rep, Array.length_toList, Nat.mul_comm]
    exact hz
def rRepT (K : PySem.W.Frag) : R2 := fun x y H Q => ∃ l k xs, x = .ref l ∧ y = .int k ∧ SqT K H l xs ∧ 2 ≤ k ∧ k < 2 ^ 62 ∧ xs ≠ [] ∧ xs.length * k.toNat ≤ sizeLine ∧
  ∀ p, H p = none → Q (.ref p) (upd H p (.tup (List.replicate k.toNat xs).flatten))
end
end L2


set_option Elab.async false
set_option linter.all false
set_option maxRecDepth 100000
/-! ONE RULE for each written operation, whatever the kinds; callees; data -/
namespace L2
open PySem PySem.Spec PyProof.Rows
section
variable {X : Cx}
/-! ### a list or a tuple is no text, and not None -/
def Seq (K : PySem.W.Frag) (H : Hp) (a : Addr) : Prop := (∃ xs, SqL K H a xs) ∨ ∃ xs, SqT K H a xs
theorem op_eq_rs (hu : X.A.units + 64 < cLine) : OpR X (compareOp .Eq) (fun x y H Q => ∃ a z, x = .ref a ∧ y = .str z ∧ Seq X.K H a ∧ Q (.bl false) H) := by
  intro pins s σ H x y v u Q I rx ry h
  obtain ⟨a, z, rfl, rfl, hq, q⟩ := h
  cases rx
  obtain ⟨t, rfl⟩ := ry
  show wpAny _ _ (richCompare .Eq _ _) _ _ _
  rcases hq with ⟨xs, hq⟩ | ⟨xs, hq⟩
  · obtain ⟨its, r, pl, hz⟩ := I.list hq
    exact SeqAt.RcAt.list_str z t pl.isList (by omega) _ _ _ _ ⟨.bl false, H, I, rfl, q⟩
  · obtain ⟨its, r, pl, hz⟩ := I.tuple hq
    exact SeqAt.RcAt.tuple_str z t (show s.heap.IsTuple a its.toArray from pl) (by omega) _ _ _ _ ⟨.bl false, H, I, rfl, q⟩
def isN : V → Bool
  | .non => true
  | _ => false
def isNU : Value → Bool
  | .none => true
  | _ => false
/-- None in a list of tuples and Nones -/
theorem op_in_none (hu : X.A.units + 64 < cLine) : OpR X (compareOp .In) (fun x y H Q => ∃ p xs, x = .non ∧ y = .ref p ∧ SqL X.K H p xs ∧ (∀ v ∈ xs, v = .non ∨ ∃ a ys, v = .ref a ∧ SqT X.K H a ys) ∧ Q (.bl (xs.any isN)) H) := by
  intro pins s σ H x y v u Q I rx ry h
  obtain ⟨p, xs, rfl, rfl, hq, hall, q⟩ := h
  cases rx; cases ry
  obtain ⟨its, r, pl, hz⟩ := I.list hq
  have hmem : ∀ (xs : List V) (us : List Value), Vals xs us → (∀ v ∈ xs, v = .non ∨ ∃ a ys, v = .ref a ∧ SqT X.K H a ys) → (∀ u ∈ us, SeqAt.EqAt X.A.in1 s u .none (isNU u)) ∧ us.any isNU = xs.any isN := by
    intro xs us rv
    induction rv with
    | nil => intro _; exact ⟨fun u hu => (by cases hu), rfl⟩
    | cons rr _ ih =>
      intro ha
      obtain ⟨i1, i2⟩ := ih fun v hv => ha v (List.mem_cons_of_mem _ hv)
      rcases ha _ List.mem_cons_self with e | ⟨a, ys, e, hs⟩
      · subst e
        cases rr
        refine ⟨fun u hu' => ?_, by rw [List.any_cons, List.any_cons, i2]; rfl⟩
        rcases List.mem_cons.mp hu' with rfl | h'
        · exact SeqAt.EqAt.same _
        · exact i1 u h'
      · subst e
        cases rr
        refine ⟨fun u hu' => ?_, by rw [List.any_cons, List.any_cons, i2]; rfl⟩
        rcases List.mem_cons.mp hu' with rfl | h'
        · obtain ⟨its, _, ht, _⟩ := I.tuple hs
          exact SeqAt.EqAt.tuple_none (show s.heap.IsTuple a its.toArray from ht) (by show X.A.units + 1 < _; omega)
        · exact i1 u h'
  obtain ⟨h1, h2⟩ := hmem xs its r hall
  refine SeqAt.in_listAt isNU pl.isList (fun w hw => h1 w (by simpa using hw)) ⟨.bl _, H, I, rfl, ?_⟩
  rw [show its.toArray.any isNU = its.any isNU by simp, h2]
  exact q

/-! ### one rule each -/
def rLeS : R2 := fun x y H Q => ∃ i j, x = .str i ∧ y = .str j ∧ Q (.bl (!decide (j.cps.toList < i.cps.toList))) H
def rLtS : R2 := fun x y H Q => ∃ i j, x = .str i ∧ y = .str j ∧ Q (.bl (decide (i.cps.toList < j.cps.toList))) H
def rInS : R2 := fun x y H Q => ∃ i j, x = .str i ∧ y = .str j ∧ Q (.bl (!(Builtin.Str.occurrences j i 0 j.length 1).isEmpty)) H
def rNotInS : R2 := fun x y H Q => ∃ i j, x = .str i ∧ y = .str j ∧ Q (.bl (!(!(Builtin.Str.occurrences j i 0 j.length 1).isEmpty))) H
def rInN (K : PySem.W.Frag) : R2 := fun x y H Q => ∃ p xs, x = .non ∧ y = .ref p ∧ SqL K H p xs ∧ (∀ v ∈ xs, v = .non ∨ ∃ a ys, v = .ref a ∧ SqT K H a ys) ∧ Q (.bl (xs.any isN)) H
def rEqRS (K : PySem.W.Frag) : R2 := fun x y H Q => ∃ a z, x = .ref a ∧ y = .str z ∧ Seq K H a ∧ Q (.bl false) H
/-- what two values come to by ==; whether the one is in the other; how long one is: each told once -/
def EqOf (K : PySem.W.Frag) (x y : V) (H : Hp) (b : Bool) : Prop := (scal x y = true ∧ b = decide (x = y)) ∨
  (∃ a c xs ys, x = .ref a ∧ y = .ref c ∧ SqL K H a xs ∧ SqL K H c ys ∧ xs.all okV = true ∧ ys.all okV = true ∧ b = eqL xs ys) ∨ (∃ a z, x = .ref a ∧ y = .str z ∧ Seq K H a ∧ b = false)
def qEq (K : PySem.W.Frag) : R2 := fun x y H Q => ∃ b, EqOf K x y H b ∧ Q (.bl b) H
def qNe (K : PySem.W.Frag) : R2 := fun x y H Q => ∃ b, ((scal x y = true ∧ b = decide (x = y)) ∨ (∃ a c xs ys, x = .ref a ∧ y = .ref c ∧ SqL K H a xs ∧ SqL K H c ys ∧ xs.all okV = true ∧ ys.all okV = true ∧ b = eqL xs ys)) ∧ Q (.bl (!b)) H
def InOf (K : PySem.W.Frag) (x y : V) (H : Hp) (b : Bool) : Prop := (∃ p xs, y = .ref p ∧ (SqL K H p xs ∨ SqT K H p xs) ∧ flatV x = true ∧ xs.all flatV = true ∧ b = inV x xs) ∨
  (∃ i j, x = .str i ∧ y = .str j ∧ b = !(Builtin.Str.occurrences j i 0 j.length 1).isEmpty) ∨
  (∃ p xs, x = .non ∧ y = .ref p ∧ SqL K H p xs ∧ (∀ v ∈ xs, v = .non ∨ ∃ a ys, v = .ref a ∧ SqT K H a ys) ∧ b = xs.any isN)
def qIn (K : PySem.W.Frag) : R2 := fun x y H Q => ∃ b, InOf K x y H b ∧ Q (.bl b) H
def NotInOf (K : PySem.W.Frag) (x y : V) (H : Hp) (b : Bool) : Prop := (∃ p xs, y = .ref p ∧ (SqL K H p xs ∨ SqT K H p xs) ∧ flatV x = true ∧ xs.all flatV = true ∧ b = !inV x xs) ∨
  (∃ i j, x = .str i ∧ y = .str j ∧ b = !(!(Builtin.Str.occurrences j i 0 j.length 1).isEmpty)) ∨
  (∃ a p xs, x = .ref a ∧ y = .ref p ∧ Seq K H a ∧ SqT K H p xs ∧ (∀ v ∈ xs, ∃ z, v = .str z) ∧ b = true)
def qNotIn (K : PySem.W.Frag) : R2 := fun x y H Q => ∃ b, NotInOf K x y H b ∧ Q (.bl b) H
def LenOf (K : PySem.W.Frag) (x : V) (H : Hp) (n : Nat) : Prop := (∃ p ys, x = .ref p ∧ (SqL K H p ys ∨ SqT K H p ys) ∧ n = ys.length) ∨ ∃ z, x = .str z ∧ z.length ≤ sizeLine ∧ n = z.length
def qLen (K : PySem.W.Frag) : List V → Hp → VK → Prop := fun xs H Q => ∃ x n, xs = [x] ∧ LenOf K x H n ∧ Q (.int n) H
def qIsN : R2 := fun x y H Q => y = .non ∧ Q (.bl (decide (x = .non))) H
def qNotN : R2 := fun x y H Q => y = .non ∧ Q (.bl (!decide (x = .non))) H
def qIsB : R2 := fun x y H Q => ∃ a b, x = .bl a ∧ y = .bl b ∧ Q (.bl (a == b)) H
def qNotB : R2 := fun x y H Q => ∃ a b, x = .bl a ∧ y = .bl b ∧ Q (.bl (a != b)) H
theorem op_notIn_rs (hu : X.A.units + 64 < cLine) : OpR X (compareOp .NotIn) (fun x y H Q => ∃ a p xs, x = .ref a ∧ y = .ref p ∧ Seq X.K H a ∧ SqT X.K H p xs ∧ (∀ v ∈ xs, ∃ z, v = .str z) ∧ Q (.bl true) H) := by
  intro pins s σ H x y v u Q I rx ry h
  obtain ⟨a, p, xs, rfl, rfl, hq, hp, hall, q⟩ := h
  cases rx; cases ry
  obtain ⟨its, r, pl, hz⟩ := I.tuple hp
  have hmem : ∀ (xs : List V) (us : List Value), Vals xs us → (∀ v ∈ xs, ∃ z, v = .str z) → ∀ u ∈ us, SeqAt.EqAt X.A.in1 s u (.ref a) ((fun _ => false) u) := by
    intro xs us rv
    induction rv with
    | nil => intro _ u hu; cases hu
    | cons rr _ ih =>
      intro ha u hu'
      rcases List.mem_cons.mp hu' with rfl | h'
      · obtain ⟨z, e⟩ := ha _ List.mem_cons_self
        subst e
        obtain ⟨t, rfl⟩ := rr
        rcases hq with ⟨ys, hq⟩ | ⟨ys, hq⟩
        · obtain ⟨its, _, pl, _⟩ := I.list hq
          exact SeqAt.EqAt.str_list z t pl.isList (by show X.A.units + 1 < _; omega)
        · obtain ⟨its, _, pl, _⟩ := I.tuple hq
          exact SeqAt.EqAt.str_tuple z t (show s.heap.IsTuple a its.toArray from pl) (by show X.A.units + 1 < _; omega)
      · exact ih (fun v hv => ha v (List.mem_cons_of_mem _ hv)) u h'
  refine SeqAt.notIn_tupleAt (fun _ => false) pl (fun w hw => hmem xs its r hall w (by simpa using hw)) ⟨.bl _, H, I, rfl, ?_⟩
  have e : (!its.toArray.any fun _ => false) = true := by simp
  rw [e]
  exact q
theorem gEq (hu : X.A.units + 64 < cLine) : OpR X (compareOp .Eq) (qEq X.K) := by
  intro pins s σ H x y v u Q I rx ry h
  obtain ⟨b, h, q⟩ := h
  rcases h with ⟨h, rfl⟩ | ⟨a, c, xs, ys, h1, h2, h3, h4, h5, h6, rfl⟩ | ⟨a, z, h1, h2, h3, rfl⟩
  · exact op_eq pins s σ H x y v u Q I rx ry ⟨h, q⟩
  · exact op_eqL hu pins s σ H x y v u Q I rx ry ⟨a, c, xs, ys, h1, h2, h3, h4, h5, h6, q⟩
  · exact op_eq_rs hu pins s σ H x y v u Q I rx ry ⟨a, z, h1, h2, h3, q⟩
theorem gNe (hu : X.A.units + 64 < cLine) : OpR X (compareOp .NotEq) (qNe X.K) := by
  intro pins s σ H x y v u Q I rx ry h
  obtain ⟨b, h, q⟩ := h
  rcases h with ⟨h, rfl⟩ | ⟨a, c, xs, ys, h1, h2, h3, h4, h5, h6, rfl⟩
  · exact op_ne pins s σ H x y v u Q I rx ry ⟨h, q⟩
  · exact op_neL hu pins s σ H x y v u Q I rx ry ⟨a, c, xs, ys, h1, h2, h3, h4, h5, h6, q⟩
theorem gIn (hu : X.A.units + 64 < cLine) : OpR X (compareOp .In) (qIn X.K) := by
  intro pins s σ H x y v u Q I rx ry h
  obtain ⟨b, h, q⟩ := h
  rcases h with ⟨p, xs, h1, h2, h3, h4, rfl⟩ | ⟨i, j, h1, h2, rfl⟩ | ⟨p, xs, h1, h2, h3, h4, rfl⟩
  · exact op_in_seq pins s σ H x y v u Q I rx ry ⟨p, xs, h1, h2, h3, h4, q⟩
  · exact op_in_str pins s σ H x y v u Q I rx ry ⟨i, j, h1, h2, q⟩
  · exact op_in_none hu pins s σ H x y v u Q I rx ry ⟨p, xs, h1, h2, h3, h4, q⟩
theorem gNotIn (hu : X.A.units + 64 < cLine) : OpR X (compareOp .NotIn) (qNotIn X.K) := by
  intro pins s σ H x y v u Q I rx ry h
  obtain ⟨b, h, q⟩ := h
  rcases h with ⟨p, xs, h1, h2, h3, h4, rfl⟩ | ⟨i, j, h1, h2, rfl⟩ | ⟨a, p, xs, h1, h2, h3, h4, h5, rfl⟩
  · exact op_notIn_seq pins s σ H x y v u Q I rx ry ⟨p, xs, h1, h2, h3, h4, q⟩
  · exact op_notIn_str pins s σ H x y v u Q I rx ry ⟨i, j, h1, h2, q⟩
  · exact op_notIn_rs hu pins s σ H x y v u Q I rx ry ⟨a, p, xs, h1, h2, h3, h4, h5, q⟩
theorem gLen : CallR X (.builtin "len") (qLen X.K) := by
  intro pins s σ H xs us Q I r h
  obtain ⟨x, n, rfl, h, q⟩ := h
  rcases h with ⟨p, ys, rfl, h, rfl⟩ | ⟨z, rfl, hz, rfl⟩
  · exact call_len_seq pins s σ H _ us Q I r ⟨p, ys, rfl, h, q⟩
  · exact call_len_str pins s σ H _ us Q I r ⟨z, rfl, hz, q⟩
theorem op_eqI : OpR X (compareOp .Eq) (rI0 fun i j => .bl (decide (i = j))) := by
  intro pins s σ H x y v u Q I rx ry h
  obtain ⟨i, j, rfl, rfl, q⟩ := h
  refine op_eq pins s σ H _ _ v u Q I rx ry ⟨rfl, ?_⟩
  have e : decide (V.int i = V.int j) = decide (i = j) := by simp
  rw [e]; exact q
theorem op_neI : OpR X (compareOp .NotEq) (rI0 fun i j => .bl (!decide (i = j))) := by
  intro pins s σ H x y v u Q I rx ry h
  obtain ⟨i, j, rfl, rfl, q⟩ := h
  refine op_ne pins s σ H _ _ v u Q I rx ry ⟨rfl, ?_⟩
  have e : decide (V.int i = V.int j) = decide (i = j) := by simp
  rw [e]; exact q
theorem gIsN : OpR X (compareOp .Is) qIsN := op_isN
theorem gNotN : OpR X (compareOp .IsNot) qNotN := op_notN
def qInst (K : PySem.W.Frag) : List V → Hp → VK → Prop := fun xs H Q => ∃ x n b, xs = [x, .ty n] ∧ (∃ t, TyOf K H x t ∧ PySem.W.kitOne K t (.type n) = some b) ∧ Q (.bl b) H
end
/-! ### argument lists without a look into eval -/
def isStar : Expr → Bool
  | .Starred .. => true
  | _ => false
def noStars : List Expr → Bool
  | [] => true
  | e :: r => !isStar e && noStars r
theorem starEach_plain {e : Expr} {es : List Expr} {env : Env} (h : isStar e = false) : starEach (e :: es) env = (false, eval e env) :: starEach es env := by
  cases e <;> first | rfl | exact absurd (show true = false from h) (by decide)
theorem noStars_any {pos : Pos} {env : Env} : ∀ {es : List Expr}, noStars es = true → (backTo pos (starEach es env)).any (·.1) = false
  | [], _ => rfl
  | e :: r, h => by
    rw [noStars, Bool.and_eq_true, Bool.not_eq_true'] at h
    rw [starEach_plain h.1]
    have q := noStars_any (pos := pos) (env := env) h.2
    show (false || (backTo pos (starEach r env)).any (·.1)) = false
    rw [q]; rfl
theorem pa_c {X : Cx} {e : Expr} {es : List Expr} {te : TE} {t : TA} (ha : PE X e te) (hr : PA X es t) (h : isStar e = false := by rfl) : PA X (e :: es) (tCons te t) := pa_cons ha hr (starEach_plain h)
/-! ### callees and constants of the text -/
structure Callee (P : Program) (w : World) (K : PySem.W.Frag) (mg : Str → Option Value) (base : Heap) (x : Str) (ps : List Str) (k : Nat) (sp : Sp) : Prop where
  ex : ∃ f fd, FnOk P w K mg base CX0 k f fd ps sp ∧ mg x = some (.ref f) ∧ PySem.W.keepIn K (.ref f) = true ∧ Binds K fd ps []
theorem Callee.mono {P : Program} {w : World} {K : PySem.W.Frag} {mg : Str → Option Value} {base : Heap} {x : Str} {ps : List Str} {j k : Nat} {sp : Sp} (h : Callee P w K mg base x ps j sp) (hk : j ≤ k) : Callee P w K mg base x ps k sp := by
  obtain ⟨f, fd, a, b, c, d⟩ := h
  exact ⟨f, fd, a.mono hk, b, c, d⟩
theorem pe_cc {X : Cx} {x : Str} {ps : List Str} {k j : Nat} {sp : Sp} {e : Expr} {es : List Expr} {t : TA} {p pos : Pos} (C : Callee X.prog X.w X.K X.mg X.base x ps k sp) (hr : Room j X.A) (hk : k ≤ j) (ha : PA X (e :: es) t) (hg : Gl X x := by rfl)
    (hdb : (x == ("__debug__" : Str)) = false := by decide) (hst : noStars (e :: es) = true := by rfl) :
    PE X (.Call (.Name x p) (e :: es) [] pos) (tCall sp [] E0 t) := by
  have hst' := hst
  rw [noStars, Bool.and_eq_true, Bool.not_eq_true'] at hst'
  have he := starEach_plain (es := es) (env := X.env) hst'.1
  have hpl := noStars_any (pos := pos) (env := X.env) hst'.2
  obtain ⟨f, fd, F, hm, hkp, hb⟩ := C
  intro pins s σ H Q I h
  refine wpAny_Call_Name_kw (ld_glob I hg hm ?_ hdb)
  refine PySem.W.callWith_K (h₀ := X.base) I.ok.mod.kin hkp (thn (ha pos pins s σ H _ I h) fun us s1 ⟨vs, H1, I1, r, q⟩ => ⟨I1.kIn, ?_⟩) he hpl
  exact run_fn F (hr.mono hk) hb .nil (fun _ _ _ _ _ _ _ z => z.elim) I1 r q
theorem pe_cB {X : Cx} {x : Str} {p pos : Pos} {e : Expr} {es : List Expr} {t : TA} {id : String} {r : List V → Hp → VK → Prop} (hc : CallR X (.builtin id) r) (hg : Gl X x) (hm : X.mg x = none) (hv : bootBuiltins x = some (.builtin id)) (ha : PA X (e :: es) t) (hn : x ≠ "__name__") (hdb : (x == ("__debug__" : Str)) = false)
    (hst : noStars (e :: es) = true := by rfl) : PE X (.Call (.Name x p) (e :: es) [] pos) (tCB r t) := by
  have hst' := hst
  rw [noStars, Bool.and_eq_true, Bool.not_eq_true'] at hst'
  exact pe_callB hc hg hm hv ha hn hdb (starEach_plain hst'.1) (noStars_any hst'.2)
theorem pe_cT {X : Cx} {x : Str} {p pos : Pos} {e : Expr} {es : List Expr} {t : TA} {T : String} {r : List V → Hp → VK → Prop} (hc : CallR X (.type T) r) (hg : Gl X x) (hm : X.mg x = none) (hv : bootBuiltins x = some (.type T)) (ha : PA X (e :: es) t) (hn : x ≠ "__name__") (hdb : (x == ("__debug__" : Str)) = false)
    (hst : noStars (e :: es) = true := by rfl) : PE X (.Call (.Name x p) (e :: es) [] pos) (tCB r t) := by
  have hst' := hst
  rw [noStars, Bool.and_eq_true, Bool.not_eq_true'] at hst'
  exact pe_callTy hc hg hm hv ha hn hdb (starEach_plain hst'.1) (noStars_any hst'.2)
structure GC (mg : Str → Option Value) (x : Str) (v : V) : Prop where
  ex : ∃ u, mg x = some u ∧ RelV v u
theorem pe_gc {X : Cx} {x : Str} {v : V} {pos : Pos} (h : GC X.mg x v) (hg : Gl X x := by rfl) (hd : (x == ("__debug__" : Str)) = false := by decide) : PE X (.Name x pos) (tC v) := by
  obtain ⟨u, hm, r⟩ := h
  exact pe_glob hg hm r hd
/-- a comprehension's scopes, by one look -/
def compChk (N : List Str) (on : List (Str × NameKind)) (sc : Scope) (N' : List Str) (mp : List (Option Nat)) : Bool :=
  sc.kind == .function && sc.names.all (fun y => y.2 != .cell) && sc.names.all (fun y => y.2 != .local || sc.names.lookup y.1 == some .local) && sc.names.all (fun y => y.2 != .free || on.lookup y.1 == some .cell) && compOk N on sc.names N' mp
theorem CompS.of {X : Cx} {N' : List Str} {sc : Scope} {mp : List (Option Nat)} (h : compChk X.N X.env.scope.names sc N' mp = true) : CompS X N' sc mp := by
  unfold compChk at h
  simp only [Bool.and_eq_true, beq_iff_eq] at h
  obtain ⟨⟨⟨⟨h1, h2⟩, h3⟩, h4⟩, h5⟩ := h
  refine ⟨h1, fun y hy => ?_, fun y hy e => ?_, fun y hy e => ?_, h5⟩
  · have := List.all_eq_true.mp h2 y hy
    simpa using this
  · have := List.all_eq_true.mp h3 y hy
    simp only [e, Bool.or_eq_true, beq_iff_eq] at this
    rcases this with z | z
    · exact absurd z (by decide)
    · exact z
  · have := List.all_eq_true.mp h4 y hy
    simp only [e, Bool.or_eq_true, beq_iff_eq] at this
    rcases this with z | z
    · exact absurd z (by decide)
    · exact z

/-! ### the written part by its name (within comprehensions) -/
theorem opK {X : Cx} {K : PySem.W.Frag} {f : Value → Value → Sem Value} {r : PySem.W.Frag → R2} (h : OpR X f (r X.K)) (hK : X.K = K) : OpR X f (r K) := hK ▸ h
theorem ixK {X : Cx} {K : PySem.W.Frag} {r : PySem.W.Frag → R2} (h : IxR X (r X.K)) (hK : X.K = K) : IxR X (r K) := hK ▸ h
def isComp : Expr → Bool
  | .ListComp .. => true
  | .SetComp .. => true
  | .DictComp .. => true
  | _ => false
theorem swaps_plain {e : Expr} {t : Option Expr} {l : Nat} {env : Env} (h : isComp e = false) : swapsWith e t l env = pure false := by
  cases e <;> first | rfl | exact absurd (show true = false from h) (by decide)
/-! ### data: what a value means, lists left closed -/
inductive Dm where
  | non | bl (b : Bool) | int (i : Int) | str (x : Str) | tup (ds : List Dm) | lst
mutual
inductive Dt (H : Hp) : V → Dm → Prop where
  | non : Dt H .non .non
  | bl (b : Bool) : Dt H (.bl b) (.bl b)
  | int (i : Int) : Dt H (.int i) (.int i)
  | str (x : Str) : Dt H (.str x) (.str x)
  | tup {a : Addr} {xs : List V} {ds : List Dm} : H a = some (.tup xs) → DtA H xs ds → Dt H (.ref a) (.tup ds)
  | lst {a : Addr} {xs : List V} : H a = some (.lst xs) → Dt H (.ref a) .lst
inductive DtA (H : Hp) : List V → List Dm → Prop where
  | nil : DtA H [] []
  | cons {x : V} {xs : List V} {d : Dm} {ds : List Dm} : Dt H x d → DtA H xs ds → DtA H (x :: xs) (d :: ds)
end
/-- tuples stay, lists stay lists -/
structure Kp (H H' : Hp) : Prop where
  t : ∀ b xs, H b = some (.tup xs) → H' b = some (.tup xs)
  l : ∀ b xs, H b = some (.lst xs) → ∃ ys, H' b = some (.lst ys)
theorem Kp.refl (H : Hp) : Kp H H := ⟨fun _ _ h => h, fun _ xs h => ⟨xs, h⟩⟩
theorem Kp.trans {H H1 H2 : Hp} (a : Kp H H1) (b : Kp H1 H2) : Kp H H2 := ⟨fun c xs h => b.t c xs (a.t c xs h), fun c xs h => let ⟨ys, e⟩ := a.l c xs h; b.l c ys e⟩
theorem Same.kp {H H' : Hp} (s : Same H H') : Kp H H' := ⟨fun b xs h => s b _ h, fun b xs h => ⟨xs, s b _ h⟩⟩
theorem same_new {H : Hp} {p : Addr} (h : H p = none) (o : HO) : Same H (upd H p o) := fun b u q => by rw [upd_ne (ne_of_none q h)]; exact q
theorem Kp.new {H : Hp} {p : Addr} (h : H p = none) (o : HO) : Kp H (upd H p o) := (same_new h o).kp
theorem Kp.set {H : Hp} {p : Addr} {xs ys : List V} (h : H p = some (.lst xs)) : Kp H (upd H p (.lst ys)) :=
  ⟨fun b zs e => by rw [upd_ne (ne_of e h (by intro z; cases z))]; exact e, fun b zs e => by
    by_cases hb : b = p
    · subst hb; exact ⟨ys, upd_same⟩
    · exact ⟨zs, by rw [upd_ne hb]; exact e⟩⟩
mutual
theorem Dt.kp {H H' : Hp} (k : Kp H H') : ∀ {v : V} {d : Dm}, Dt H v d → Dt H' v d
  | _, _, .non => .non
  | _, _, .bl b => .bl b
  | _, _, .int i => .int i
  | _, _, .str x => .str x
  | _, _, .tup e r => .tup (k.t _ _ e) (DtA.kp k r)
  | _, _, .lst e => let ⟨_, e'⟩ := k.l _ _ e; .lst e'
theorem DtA.kp {H H' : Hp} (k : Kp H H') : ∀ {xs : List V} {ds : List Dm}, DtA H xs ds → DtA H' xs ds
  | _, _, .nil => .nil
  | _, _, .cons r t => .cons (Dt.kp k r) (DtA.kp k t)
end
theorem DtA.length {H : Hp} : ∀ {xs : List V} {ds : List Dm}, DtA H xs ds → xs.length = ds.length
  | _, _, .nil => rfl
  | _, _, .cons _ t => by rw [List.length_cons, List.length_cons, DtA.length t]
theorem DtA.append {H : Hp} : ∀ {xs ys : List V} {ds es : List Dm}, DtA H xs ds → DtA H ys es → DtA H (xs ++ ys) (ds ++ es)
  | _, _, _, _, .nil, h => h
  | _, _, _, _, .cons r t, h => .cons r (DtA.append t h)
theorem DtA.get {H : Hp} : ∀ {xs : List V} {ds : List Dm} {i : Nat} {x : V}, DtA H xs ds → xs[i]? = some x → ∃ d, ds[i]? = some d ∧ Dt H x d
  | _, _, _, _, .nil, e => by simp at e
  | _, _, 0, _, .cons r _, e => by simp at e; subst e; exact ⟨_, rfl, r⟩
  | _, _, i + 1, x, .cons _ t, e => by
    obtain ⟨d, h1, h2⟩ := DtA.get (i := i) (x := x) t (by simpa using e)
    exact ⟨d, by simpa using h1, h2⟩
theorem Dt.tupI {H : Hp} {v : V} {ds : List Dm} (h : Dt H v (.tup ds)) : ∃ a xs, v = .ref a ∧ H a = some (.tup xs) ∧ DtA H xs ds := by
  cases h with
  | tup e r => exact ⟨_, _, rfl, e, r⟩
end L2


set_option Elab.async false
set_option linter.all false
set_option maxRecDepth 100000
/-! least and greatest of a list, sorted ints, list(range()), == of nested data -/
namespace L2
open PySem PySem.Spec PyProof.Rows
section
variable {X : Cx}
theorem vals_of_ints : ∀ {ns : List Int} {us : List Value}, IntsAre us ns → Vals (ns.map V.int) us
  | _, _, .nil => .nil
  | _, _, .cons n t h => .cons ⟨t, rfl⟩ (vals_of_ints h)
def qMinL (K : PySem.W.Frag) : List V → Hp → VK → Prop := fun xs H Q => ∃ (a : Addr) (ns : List Int), xs = [.ref a] ∧ SqL K H a (ns.map V.int) ∧ 0 < ns.length ∧ ∀ M, M ∈ ns → (∀ a ∈ ns, M ≤ a) → Q (.int M) H
def qMaxL (K : PySem.W.Frag) : List V → Hp → VK → Prop := fun xs H Q => ∃ (a : Addr) (ns : List Int), xs = [.ref a] ∧ SqL K H a (ns.map V.int) ∧ 0 < ns.length ∧ ∀ M, M ∈ ns → (∀ a ∈ ns, a ≤ M) → Q (.int M) H
theorem call_minL (hc : X.calm = true) : CallR X (.builtin "min") (qMinL X.K) := by
  intro pins s σ H xs us Q I r h
  obtain ⟨a, ns, rfl, hq, hne, q⟩ := h
  obtain ⟨u, rfl, r1⟩ := r.one
  cases r1
  obtain ⟨its, rv, pl, hz⟩ := I.list hq
  have hi := intsAre_of rv
  obtain ⟨xs, e⟩ := hi.allInts.items
  have hns : ns = xs.toList.map (·.1) := by
    rw [← hi.numsOf, ← nums_intItems, ← e]
  have hsz : 0 < xs.size := by
    have h3 := hne; rw [hns, List.length_map, Array.length_toList] at h3; exact h3
  have hl := pl.isList
  rw [e] at hl
  refine min_intList (I.ok.hd hc) hl hsz fun v h' tk hv hk => ?_
  obtain ⟨t, rfl⟩ := intItems_at hv
  obtain ⟨h1, h2⟩ := argBest_lt (numAt xs) (xs.size - 1)
  refine ⟨.int _, H, I.kept hk, ⟨_, rfl⟩, q _ ?_ fun a ha => ?_⟩
  · rw [hns, numAt_eq]; exact getD_mem (by rw [List.length_map, Array.length_toList]; omega)
  · rw [hns] at ha
    obtain ⟨j, hj, rfl⟩ := mem_getD ha
    rw [List.length_map, Array.length_toList] at hj
    rw [← numAt_eq]; exact h2 j (by omega)
theorem call_maxL (hc : X.calm = true) : CallR X (.builtin "max") (qMaxL X.K) := by
  intro pins s σ H xs us Q I r h
  obtain ⟨a, ns, rfl, hq, hne, q⟩ := h
  obtain ⟨u, rfl, r1⟩ := r.one
  cases r1
  obtain ⟨its, rv, pl, hz⟩ := I.list hq
  have hi := intsAre_of rv
  obtain ⟨xs, e⟩ := hi.allInts.items
  have hns : ns = xs.toList.map (·.1) := by
    rw [← hi.numsOf, ← nums_intItems, ← e]
  have hsz : 0 < xs.size := by
    have h3 := hne; rw [hns, List.length_map, Array.length_toList] at h3; exact h3
  have hl := pl.isList
  rw [e] at hl
  refine max_intList (I.ok.hd hc) hl hsz fun v h' tk hv hk => ?_
  obtain ⟨t, rfl⟩ := intItems_at hv
  obtain ⟨h1, h2⟩ := argBest_gt (numAt xs) (xs.size - 1)
  refine ⟨.int _, H, I.kept hk, ⟨_, rfl⟩, q _ ?_ fun a ha => ?_⟩
  · rw [hns, numAt_eq]; exact getD_mem (by rw [List.length_map, Array.length_toList]; omega)
  · rw [hns] at ha
    obtain ⟨j, hj, rfl⟩ := mem_getD ha
    rw [List.length_map, Array.length_toList] at hj
    rw [← numAt_eq]; exact h2 j (by omega)
def qSortI (K : PySem.W.Frag) : List V → Hp → VK → Prop := fun xs H Q => ∃ (a : Addr) (ns : List Int), xs = [.ref a] ∧ SqL K H a (ns.map V.int) ∧ ns.length < 64 ∧ ∀ (l : Addr) (ms : List Int), H l = none → ms.Perm ns → ms.Pairwise (· ≤ ·) → Q (.ref l) (upd H l (.lst (ms.map V.int)))
theorem call_sortedI : CallR X (.builtin "sorted") (qSortI X.K) := by
  intro pins s σ H xs us Q I r h
  obtain ⟨a, ns, rfl, hq, h64, q⟩ := h
  obtain ⟨u, rfl, r1⟩ := r.one
  cases r1
  obtain ⟨its, rv, pl, hz⟩ := I.list hq
  have hi := intsAre_of rv
  have hlen := rv.length
  rw [List.length_map] at hlen hz
  refine sorted_ints pl.isList hi (by omega) fun out ms a1 a2 a3 => ?_
  obtain ⟨e, he⟩ := sortedAll_at s.heap its out
  refine ⟨.ref (s.heap.objs.size + 1), _, I.laid (t' := s.toks) (fun b o e => sortedAll_old e) (Nat.le_succ _) (show ObjOk X.prog X.w _ _ _ (.lst (ms.map V.int)) from ⟨?_, out.toList, e, vals_of_ints a1, ?_⟩), rfl, q _ _ (I.hok.fresh (Nat.le_succ _)) a2 a3⟩
  · rw [List.length_map, a2.length_eq]; exact hz
  · simpa [seqObj] using he
def rngInts (lo : Int) (n : Nat) : List Int := (List.range n).map fun (i : Nat) => lo + (i : Int)
/-! ### a conditional as a test -/
def tIfT (t ta tb : TT) : TT := fun σ H Q => t σ H fun c H1 => if c = true then ta σ H1 Q else tb σ H1 Q
theorem pt_ifExp {c a b : Expr} {tc ta tb : TT} {pos : Pos} (hc : PT X c tc) (ha : PT X a ta) (hb : PT X b tb) : PT X (.IfExp c a b pos) (tIfT tc ta tb) := by
  intro pins s σ H Q I h
  refine isTrue_IfExp (thn (hc pins s σ H _ I h) fun d s1 ⟨H1, I1, q1⟩ => ?_)
  cases d with
  | true => exact ha pins s1 σ H1 Q I1 q1
  | false => exact hb pins s1 σ H1 Q I1 q1
/-! ### nested data -/
mutual
def Dm.dat : Dm → PyData
  | .non => .none
  | .bl b => .bool b
  | .int i => .int i
  | .str x => .str x
  | .tup ds => .tuple (datA ds)
  | .lst => .none
def datA : List Dm → List PyData
  | [] => []
  | d :: ds => d.dat :: datA ds
end
mutual
def Dm.shut : Dm → Bool
  | .tup ds => shutA ds
  | .lst => false
  | .str x => PyData.strOk x
  | _ => true
def shutA : List Dm → Bool
  | [] => true
  | d :: ds => d.shut && shutA ds
end
mutual
theorem Dt.reads {pins : List (Addr × Obj)} {σ : St} {H : Hp} {s : Shared} (I : Inv X pins σ H s) : ∀ {x : V} {d : Dm} {u : Value}, Dt H x d → d.shut = true → RelV x u → ∃ as, Reads s.heap u d.dat as
  | _, _, _, .non, _, r => by cases r; exact ⟨_, .none⟩
  | _, _, _, .bl b, _, r => by cases r; exact ⟨_, .bool b⟩
  | _, _, _, .int i, _, r => by obtain ⟨t, rfl⟩ := r; exact ⟨_, .int i t⟩
  | _, _, _, .str x, _, r => by obtain ⟨t, rfl⟩ := r; exact ⟨_, .str x t⟩
  | _, _, _, .tup e ra, hs, r => by
    cases r
    obtain ⟨its, rv, ⟨o, ho, hc, n, hd⟩, _⟩ := I.tuple (SqT.of e)
    obtain ⟨as, q⟩ := DtA.reads I ra (by simpa [Dm.shut] using hs) rv
    exact ⟨as, by rw [Dm.dat]; exact .tuple ho hc hd (by simpa using q)⟩
  | _, _, _, .lst _, hs, _ => absurd hs (by simp [Dm.shut])
theorem DtA.reads {pins : List (Addr × Obj)} {σ : St} {H : Hp} {s : Shared} (I : Inv X pins σ H s) : ∀ {xs : List V} {ds : List Dm} {us : List Value}, DtA H xs ds → shutA ds = true → Vals xs us → ∃ as, ReadsAll s.heap us (datA ds) as
  | _, _, _, .nil, _, .nil => ⟨[], by rw [datA]; exact .nil⟩
  | _, _, _, .cons r t, hs, .cons rv rt => by
    rw [shutA, Bool.and_eq_true] at hs
    obtain ⟨as, q1⟩ := Dt.reads I r hs.1 rv
    obtain ⟨bs, q2⟩ := DtA.reads I t hs.2 rt
    exact ⟨as ++ bs, by rw [datA]; exact .cons q1 q2⟩
end
def EqD (H : Hp) (x y : V) (b : Bool) : Prop := ∃ d e, Dt H x d ∧ Dt H y e ∧ (d.shut = true ∧ SeqAt.shaped d.dat = true) ∧ (e.shut = true ∧ SeqAt.shaped e.dat = true) ∧ b = PyData.eqv d.dat e.dat
def qEqD (_ : PySem.W.Frag) : R2 := fun x y H Q => ∃ b, EqD H x y b ∧ Q (.bl b) H
def qNeD (_ : PySem.W.Frag) : R2 := fun x y H Q => ∃ b, EqD H x y b ∧ Q (.bl (!b)) H
theorem dEq (hu : X.A.units + 64 < cLine) : OpR X (compareOp .Eq) (qEqD X.K) := by
  intro pins s σ H x y v u Q I rx ry h
  obtain ⟨b, ⟨d, e, dx, dy, ⟨s1, s2⟩, ⟨s3, s4⟩, rfl⟩, q⟩ := h
  obtain ⟨as, ra⟩ := Dt.reads I dx s1 rx
  obtain ⟨bs, rb⟩ := Dt.reads I dy s3 ry
  exact eq_dataH ra rb s2 s4 hu ⟨.bl _, H, I, rfl, q⟩
theorem dNe (hu : X.A.units + 64 < cLine) : OpR X (compareOp .NotEq) (qNeD X.K) := by
  intro pins s σ H x y v u Q I rx ry h
  obtain ⟨b, ⟨d, e, dx, dy, ⟨s1, s2⟩, ⟨s3, s4⟩, rfl⟩, q⟩ := h
  obtain ⟨as, ra⟩ := Dt.reads I dx s1 rx
  obtain ⟨bs, rb⟩ := Dt.reads I dy s3 ry
  exact ne_dataH ra rb s2 s4 hu ⟨.bl _, H, I, rfl, q⟩
end
end L2


set_option Elab.async false
set_option linter.all false
set_option maxRecDepth 100000
namespace L2
open PySem PySem.Spec PyProof.Rows

/-! ### lists of pairs as tables -/
section
variable {κ : Type} [DecidableEq κ]
def valV (kvs : List (κ × V)) (k : κ) : Option V := (kvs.find? fun kv => decide (kv.1 = k)).map (·.2)
/-- in its place, or at the end -/
def putK (kvs : List (κ × V)) (k : κ) (v : V) : List (κ × V) :=
  if (kvs.any fun kv => decide (kv.1 = k)) = true then kvs.map (fun kv => if kv.1 = k then (kv.1, v) else kv) else kvs ++ [(k, v)]
def dropK (kvs : List (κ × V)) (k : κ) : List (κ × V) := kvs.filter fun kv => decide (kv.1 ≠ k)

theorem valV_pos {p : κ × V} {r : List (κ × V)} {k : κ} (e : p.1 = k) : valV (p :: r) k = some p.2 := by simp [valV, List.find?_cons, e]
theorem valV_neg {p : κ × V} {r : List (κ × V)} {k : κ} (e : ¬ p.1 = k) : valV (p :: r) k = valV r k := by simp [valV, List.find?_cons, e]
theorem valV_any (k : κ) : ∀ kvs : List (κ × V), (kvs.any fun kv => decide (kv.1 = k)) = (valV kvs k).isSome
  | [] => rfl
  | p :: r => by
    rw [List.any_cons]
    by_cases e : p.1 = k
    · simp only [valV_pos e, decide_eq_true e, Bool.true_or, Option.isSome_some]
    · rw [valV_neg e, decide_eq_false e, Bool.false_or]; exact valV_any k r
theorem length_putK (kvs : List (κ × V)) (k : κ) (v : V) : (putK kvs k v).length ≤ kvs.length + 1 := by
  unfold putK
  split
  · rw [List.length_map]; omega
  · rw [List.length_append, List.length_cons, List.length_nil]; omega
theorem RelO.isSome_eq {o : Option V} {u : Option Value} (r : RelO o u) : o.isSome = u.isSome := by
  cases o with
  | none => cases u with
    | none => rfl
    | some _ => exact (show False from r).elim
  | some _ => cases u with
    | none => exact (show False from r).elim
    | some _ => rfl
theorem RelO.getD {o : Option V} {u : Option Value} {d : V} {d' : Value} (r : RelO o u) (rd : RelV d d') : RelV (o.getD d) (u.getD d') := by
  cases o with
  | none => cases u with
    | none => exact rd
    | some _ => exact (show False from r).elim
  | some _ => cases u with
    | none => exact (show False from r).elim
    | some _ => exact r

/-- raw tables of the same keys -/
theorem KV.val {kvs : List (κ × V)} {vs : List (κ × Value)} (r : KV kvs vs) (k : κ) : RelO (valV kvs k) (valueAt vs k) := by
  unfold KV at r
  induction r with
  | nil => exact True.intro
  | @cons p q ps qs h t ih =>
    obtain ⟨h1, h2⟩ := h
    by_cases e : p.1 = k
    · have e' : q.1 = k := h1.symm.trans e
      have b : valueAt (q :: qs) k = some q.2 := by simp [valueAt, List.find?_cons, e']
      rw [valV_pos e, b]; exact h2
    · have e' : ¬ q.1 = k := fun z => e (h1.trans z)
      have b : valueAt (q :: qs) k = valueAt qs k := by simp [valueAt, List.find?_cons, e']
      rw [valV_neg e, b]; exact ih
theorem KV.any {kvs : List (κ × V)} {vs : List (κ × Value)} (r : KV kvs vs) (k : κ) : (kvs.any fun kv => decide (kv.1 = k)) = vs.any fun kv => decide (kv.1 = k) := by
  unfold KV at r
  induction r with
  | nil => rfl
  | cons h t ih => rw [List.any_cons, List.any_cons, ih, h.1]
theorem KV.repl {kvs : List (κ × V)} {vs : List (κ × Value)} (r : KV kvs vs) (k : κ) {y : V} {u : Value} (ry : RelV y u) :
    KV (kvs.map fun kv => if kv.1 = k then (kv.1, y) else kv) (vs.map fun kv => if kv.1 = k then (kv.1, u) else kv) := by
  unfold KV at r ⊢
  induction r with
  | nil => exact .nil
  | @cons p q ps qs h t ih =>
    rw [List.map_cons, List.map_cons]
    refine .cons ?_ ih
    obtain ⟨h1, h2⟩ := h
    by_cases e : p.1 = k
    · rw [if_pos e, if_pos (h1.symm.trans e)]; exact ⟨h1, ry⟩
    · rw [if_neg e, if_neg (fun z => e (h1.trans z))]; exact ⟨h1, h2⟩
theorem KV.put {kvs : List (κ × V)} {vs : List (κ × Value)} (r : KV kvs vs) (k : κ) {y : V} {u : Value} (ry : RelV y u) : KV (putK kvs k y) (stored vs k u) := by
  unfold putK stored
  rw [r.any k]
  by_cases e : (vs.any fun kv => decide (kv.1 = k)) = true
  · rw [if_pos e, if_pos e]; exact r.repl k ry
  · rw [if_neg e, if_neg e]; exact Paired.snoc r ⟨rfl, ry⟩
theorem KV.drop {kvs : List (κ × V)} {vs : List (κ × Value)} (r : KV kvs vs) (k : κ) : KV (dropK kvs k) (without vs k) := by
  unfold KV at r ⊢
  unfold dropK without
  induction r with
  | nil => exact .nil
  | @cons p q ps qs h t ih =>
    obtain ⟨h1, h2⟩ := h
    rw [List.filter_cons, List.filter_cons]
    by_cases e : p.1 = k
    · have a : ¬ decide (p.1 ≠ k) = true := by simp [e]
      have b : ¬ decide (q.1 ≠ k) = true := by simp [h1.symm.trans e]
      rw [if_neg a, if_neg b]; exact ih
    · have e' : ¬ q.1 = k := fun z => e (h1.trans z)
      have a : decide (p.1 ≠ k) = true := by simp [e]
      have b : decide (q.1 ≠ k) = true := by simp [e']
      rw [if_pos a, if_pos b]; exact .cons ⟨h1, h2⟩ ih
theorem KV.keys {kvs : List (κ × V)} {vs : List (κ × Value)} (r : KV kvs vs) : kvs.map (·.1) = vs.map (·.1) := by
  unfold KV at r
  induction r with
  | nil => rfl
  | cons h t ih => rw [List.map_cons, List.map_cons, ih, h.1]
theorem KV.length {kvs : List (κ × V)} {vs : List (κ × Value)} (r : KV kvs vs) : kvs.length = vs.length := Paired.length r
end


/-! ### a tracked dict, its keys ints and texts or tuples of these -/
theorem kV_is {P : Program} {w : World} {k : Key} {u : Value} (r : RelV (kV k) u) : (mixKind P w).is k u = true := by
  cases k with
  | inl i => obtain ⟨t, e⟩ := (show ∃ t, u = Value.int i t from r); subst e; exact mixKind_int P w i t
  | inr x => obtain ⟨t, e⟩ := (show ∃ t, u = Value.str x t from r); subst e; exact mixKind_str P w x t
theorem items_are {P : Program} {w : World} : ∀ {ks : List Key} {us : List Value}, Vals (ks.map kV) us → ItemsAre (mixKind P w) ks us
  | [], _, r => by rw [List.map_nil] at r; cases r; exact .nil
  | k :: ks, _, r => by
    rw [List.map_cons] at r
    cases r with
    | cons h t => exact .cons (kV_is h) (items_are t)

/-- raw entries of a dict with tuple keys -/
abbrev KT (H : Hp) : List (List Key × V) → List (List Key × Addr × Value) → Prop := Paired fun p q => p.1 = q.1 ∧ H q.2.1 = some (.tup (p.1.map kV)) ∧ RelV p.2 q.2.2
theorem KT.val {H : Hp} {kvs : List (List Key × V)} {xs : List (List Key × Addr × Value)} (r : KT H kvs xs) (k : List Key) : RelO (valV kvs k) ((atKey xs k).map (·.2)) := by
  induction r with
  | nil => exact True.intro
  | @cons p q ps qs h t ih =>
    obtain ⟨h1, _, h2⟩ := h
    by_cases e : p.1 = k
    · have e' : q.1 = k := h1.symm.trans e
      have b : atKey (q :: qs) k = some q.2 := by simp [atKey, List.find?_cons, e']
      rw [valV_pos e, b]; exact h2
    · have e' : ¬ q.1 = k := fun z => e (h1.trans z)
      have b : atKey (q :: qs) k = atKey qs k := by simp [atKey, List.find?_cons, e']
      rw [valV_neg e, b]; exact ih
theorem KT.repl {H : Hp} {kvs : List (List Key × V)} {xs : List (List Key × Addr × Value)} (r : KT H kvs xs) (k : List Key) {y : V} {u : Value} (ry : RelV y u) :
    KT H (kvs.map fun kv => if kv.1 = k then (kv.1, y) else kv) (xs.map (putAt k u)) := by
  induction r with
  | nil => exact .nil
  | @cons p q ps qs h t ih =>
    rw [List.map_cons, List.map_cons]
    refine .cons ?_ ih
    obtain ⟨h1, h2, h3⟩ := h
    unfold putAt
    by_cases e : p.1 = k
    · rw [if_pos e, if_pos (h1.symm.trans e)]; exact ⟨h1, h2, ry⟩
    · rw [if_neg e, if_neg (fun z => e (h1.trans z))]; exact ⟨h1, h2, h3⟩
theorem KT.put {H : Hp} {kvs : List (List Key × V)} {xs : List (List Key × Addr × Value)} (r : KT H kvs xs) (k : List Key) {b : Addr} {y : V} {u : Value} (hb : H b = some (.tup (k.map kV))) (ry : RelV y u) :
    KT H (putK kvs k y) (storedH xs k b u) := by
  have e : (kvs.any fun kv => decide (kv.1 = k)) = (atKey xs k).isSome := by
    rw [valV_any, (r.val k).isSome_eq, Option.isSome_map]
  unfold putK storedH
  rw [e]
  by_cases q : (atKey xs k).isSome = true
  · rw [if_pos q, if_pos q]; exact r.repl k ry
  · rw [if_neg q, if_neg q]; exact Paired.snoc r ⟨rfl, hb, ry⟩
theorem KT.keeps {H H' : Hp} {kvs : List (List Key × V)} {xs : List (List Key × Addr × Value)} (r : KT H kvs xs) (ht : ∀ b ys, H b = some (.tup ys) → H' b = some (.tup ys)) : KT H' kvs xs :=
  Paired.mapP r fun _ _ z => ⟨z.1, ht _ _ z.2.1, z.2.2⟩

section
variable {P : Program} {w : World} {H : Hp} {h : Heap} {a : Addr}
theorem rd_of {u : HO} (ok : HOk P w H h) (e : Rd H a u) : ObjOk P w H h a u := e.ok ok
theorem dk_rd {kvs : List (Key × V)} (ok : HOk P w H h) (e : Rd H a (.dK kvs)) : kvs.length ≤ sizeLine ∧ (a == sysModules) = false ∧ ∃ vs, KV kvs vs ∧ h.DictOf (mixKind P w) a vs :=
  show ObjOk P w H h a (.dK kvs) from rd_of ok e
theorem dk_of {kvs : List (Key × V)} (ok : HOk P w H h) (e : H a = some (.dK kvs)) : kvs.length ≤ sizeLine ∧ (a == sysModules) = false ∧ ∃ vs, KV kvs vs ∧ h.DictOf (mixKind P w) a vs := dk_rd ok (.inl e)
/-- a tracked tuple of ints and texts is a key -/
theorem key_of {ks : List Key} (ok : HOk P w H h) (e : H a = some (.tup (ks.map kV))) : (tupleKind (mixKind P w)).is h ks a := by
  obtain ⟨_, its, r, o, h1, h2, n, h3⟩ := (show ObjOk P w H h a (.tup (ks.map kV)) from ok a _ e)
  exact ⟨o, its.toArray, n, h1, h2, h3, by simpa using items_are r⟩
theorem dt_rd {kvs : List (List Key × V)} (ok : HOk P w H h) (e : Rd H a (.dT kvs)) : kvs.length ≤ sizeLine ∧ (a == sysModules) = false ∧
    ∃ xs, KT H kvs xs ∧ h.DictOfH (tupleKind (mixKind P w)) a xs := by
  obtain ⟨z, y, xs, r, o, es, ep, h1, h2, h3, h4, h5⟩ := (show ObjOk P w H h a (.dT kvs) from rd_of ok e)
  refine ⟨z, y, xs, r, o, es, ep, h1, h2, h3, h4, fun x hx => ?_, h5⟩
  have all : ∀ {l : List (List Key × V)} {m : List (List Key × Addr × Value)}, KT H l m → ∀ x ∈ m, (tupleKind (mixKind P w)).is h x.1 x.2.1 := by
    intro l m q
    induction q with
    | nil => intro x hx; exact nomatch hx
    | @cons p q ps qs hq t ih =>
      intro x hx
      rcases List.mem_cons.mp hx with e | hx
      · subst e
        exact key_of ok (by rw [← hq.1]; exact hq.2.1)
      · exact ih x hx
  exact all r x hx
theorem dt_of {kvs : List (List Key × V)} (ok : HOk P w H h) (e : H a = some (.dT kvs)) : kvs.length ≤ sizeLine ∧ (a == sysModules) = false ∧
    ∃ xs, KT H kvs xs ∧ h.DictOfH (tupleKind (mixKind P w)) a xs := dt_rd ok (.inl e)
end

/-- what the dict at a holds at the key y -/
def DGet (H : Hp) (a : Addr) (y : V) (r : Option V) : Prop :=
  (∃ kvs k, Rd H a (.dK kvs) ∧ y = kV k ∧ r = valV kvs k) ∨ ∃ kvs k b, Rd H a (.dT kvs) ∧ y = .ref b ∧ H b = some (.tup (k.map kV)) ∧ r = valV kvs k
/-- the heap behind a[y] = v -/
def DPut (H : Hp) (a : Addr) (y v : V) (H' : Hp) : Prop :=
  (∃ kvs k, H a = some (.dK kvs) ∧ y = kV k ∧ kvs.length < sizeLine ∧ H' = upd H a (.dK (putK kvs k v))) ∨
  ∃ kvs k b, H a = some (.dT kvs) ∧ y = .ref b ∧ H b = some (.tup (k.map kV)) ∧ kvs.length < sizeLine ∧ H' = upd H a (.dT (putK kvs k v))
theorem DGet.k {H : Hp} {a : Addr} {kvs : List (Key × V)} {k : Key} (e : H a = some (.dK kvs)) : DGet H a (kV k) (valV kvs k) := .inl ⟨kvs, k, .inl e, rfl, rfl⟩
theorem DGet.t {H : Hp} {a b : Addr} {kvs : List (List Key × V)} {k : List Key} (e : H a = some (.dT kvs)) (eb : H b = some (.tup (k.map kV))) : DGet H a (.ref b) (valV kvs k) := .inr ⟨kvs, k, b, .inl e, rfl, eb, rfl⟩
theorem DPut.k {H : Hp} {a : Addr} {kvs : List (Key × V)} {k : Key} {v : V} (e : H a = some (.dK kvs)) (hl : kvs.length < sizeLine) : DPut H a (kV k) v (upd H a (.dK (putK kvs k v))) := .inl ⟨kvs, k, e, rfl, hl, rfl⟩
theorem DPut.t {H : Hp} {a b : Addr} {kvs : List (List Key × V)} {k : List Key} {v : V} (e : H a = some (.dT kvs)) (eb : H b = some (.tup (k.map kV))) (hl : kvs.length < sizeLine) :
    DPut H a (.ref b) v (upd H a (.dT (putK kvs k v))) := .inr ⟨kvs, k, b, e, rfl, eb, hl, rfl⟩


section
variable {X : Cx} {pins : List (Addr × Obj)} {σ : St} {H : Hp} {s : Shared} {a : Addr} {y v : V} {u r : Value} {o : Option V} {A : Around} {E : Value → Shared → Prop}

theorem Inv.big (I : Inv X pins σ H s) : sysModules < s.heap.objs.size := by
  have h : mainGlobals < s.heap.objs.size := (I.mod.glob.keeps I.bk).lt
  exact Nat.lt_trans (by decide) h

/-- d[y], there -/
theorem d_getItem {Q : Value → Shared → Prop} (hu : A.units + 1 < cLine) (I : Inv X pins σ H s) (g : DGet H a y (some v)) (ry : RelV y u) (h : ∀ w' s', Inv X pins σ H s' → RelV v w' → Q w' s') :
    wpAny (model X.prog X.w) A (getItem (.ref a) u) Q E s := by
  rcases g with ⟨kvs, k, e, ey, l⟩ | ⟨kvs, k, b, e, ey, eb, l⟩
  · subst ey
    obtain ⟨z, hd, vs, rel, dd⟩ := dk_rd I.hok e
    obtain ⟨w', hw, rw'⟩ := RelO.some_of (v := v) (o := valueAt vs k) (by rw [l]; exact rel.val k)
    exact wpAny_getItem_of (kV_is ry) dd.mapOf hw (h w' _ (I.tok _) rw')
  · subst ey
    cases (show u = Value.ref b from ry)
    obtain ⟨z, hd, xs, rel, dd⟩ := dt_rd I.hok e
    obtain ⟨w', hw, rw'⟩ := RelO.some_of (v := v) (o := (atKey xs k).map (·.2)) (by rw [l]; exact rel.val k)
    obtain ⟨p, hp, hp2⟩ := Option.map_eq_some_iff.mp hw
    refine wpAny_getItem_heap (tupleKind_room_in1 hu) (key_of I.hok eb) dd hp ?_
    rw [hp2]
    exact h w' _ (I.tok _) rw'
/-- a dict's object is replaced -/
theorem d_write {h' : Heap} {t' : Nat} {ob : HO} (I : Inv X pins σ H s) (mu : Mut (H a)) (hs : Heap.SameBut a s.heap h') (he : ∃ q, h'.get? a = some q) (new : ObjOk X.prog X.w (upd H a ob) h' a ob) :
    Inv X pins σ (upd H a ob) { s with heap := h', toks := t' } :=
  I.write (x := a) (e := a) mu (.inl rfl) (fun b q hb z => (hs.2 b hb).trans z) he new
theorem dk_new {P : Program} {w : World} {H' : Hp} {h' : Heap} {kvs : List (Key × V)} {vs : List (Key × Value)} (z : kvs.length ≤ sizeLine) (hd : (a == sysModules) = false) (rel : KV kvs vs) (dd : h'.DictOf (mixKind P w) a vs) :
    ObjOk P w H' h' a (.dK kvs) := ⟨z, hd, vs, rel, dd⟩
/-- d[y] = v -/
theorem d_setItem {H' : Hp} {Q : Unit → Shared → Prop} (hu : A.units + 1 < cLine) (I : Inv X pins σ H s) (g : DPut H a y v H') (ry : RelV y u) (rv : RelV v r) (h : ∀ s', Inv X pins σ H' s' → Q () s') :
    wpAny (model X.prog X.w) A (setItem (.ref a) u r) Q E s := by
  rcases g with ⟨kvs, k, e, ey, l, eH⟩ | ⟨kvs, k, b, e, ey, eb, l, eH⟩
  · subst ey eH
    obtain ⟨z, hd, vs, rel, dd⟩ := dk_of I.hok e
    have hz : vs.length ≤ sizeLine := by rw [← rel.length]; exact z
    have hl : (putK kvs k v).length ≤ sizeLine := by have := length_putK kvs k v; omega
    refine wpAny_setItem_pairs (hsz := hz) (kV_is ry) dd fun h' dd' hs => h _ ?_
    have he : ∃ q, h'.get? a = some q := let ⟨q, _, _, hq, _⟩ := dd'; ⟨q, hq⟩
    exact d_write I (by rw [e]; exact True.intro) hs he (dk_new hl hd (rel.put k rv) dd')
  · subst ey eH
    cases (show u = Value.ref b from ry)
    obtain ⟨z, hd, xs, rel, dd⟩ := dt_of I.hok e
    have hz : xs.length ≤ sizeLine := by rw [← Paired.length rel]; exact z
    have hl : (putK kvs k v).length ≤ sizeLine := by have := length_putK kvs k v; omega
    refine wpAny_setItem_heap (hsz := hz) (tupleKind_room_in1 hu) (key_of I.hok eb) dd fun h' dd' hs => h _ ?_
    obtain ⟨q, es, ep, hq, h2, h3, h4, _, h5⟩ := dd'
    refine d_write I (by rw [e]; exact True.intro) hs ⟨q, hq⟩ ⟨hl, hd, _, (rel.put k eb rv).keeps fun c ys ec => ?_, q, es, ep, hq, h2, h3, h4, h5⟩
    rw [upd_ne (ne_of ec e (fun z => nomatch z))]
    exact ec
end

section
variable {X : Cx} {pins : List (Addr × Obj)} {σ : St} {H : Hp} {s : Shared} {a : Addr} {kvs : List (Key × V)} {k : Key} {u : Value} {A : Around} {E : Value → Shared → Prop}
end


/-! ### readings and rules -/
/-- the element of a subscription, not a slice -/
def NoSl (i : Expr) : Prop := ∀ ov iv, subscripted i false ov iv = operate [ov, iv] (getItem ov iv)
theorem subD_of {prog : Program} {w : World} {A : Around} {E : Value → Shared → Prop} {s : Shared} {env : Env} {value slice : Expr} {pos : Pos} {T id : String} {Q : Value → Shared → Prop}
    (hl : typeLookup (.type T) "__getitem__" = pure (some (.builtin id))) (hs : NoSl slice)
    (h : wpAny (model prog w) A (eval value env) (fun o s₁ => wpAny (model prog w) A (eval slice env) (fun i s₂ => s₂.TypeIs o T ∧ wpAny (model prog w) A (getItem o i) Q E s₂) E s₁) E s) :
    wpAny (model prog w) A (eval (.Subscript value slice pos) env) Q E s := by
  refine Subscript_ (wpAny_mono h (fun o s₁ h₁ => wpAny_mono h₁ (fun i s₂ h₂ => ?_) fun _ _ x => x) fun _ _ x => x)
  obtain ⟨hT, h₂⟩ := h₂
  unfold subscriptTail
  refine wpAny_bind ?_
  rw [getitemInPython_of_ne hT.not_modules]
  refine wpAny_bind (wpAny_specialOf hT hl ?_)
  have fin : wpAny (model prog w) A (subscripted slice false o i) (fun r s₃ => wpAny (model prog w) A (letTemporaryGo value o r >>= fun _ => pure r) Q E s₃) E s₂ := by
    rw [hs o i]
    exact wpAny_operating (wpAny_mono h₂ (fun r s₃ h₃ => wpAny_bind (wpAny_letTemporaryGo (wpAny_pure h₃))) fun _ _ x => x)
  first
    | exact wpAny_pure (wpAny_bind fin)
    | exact wpAny_bind (wpAny_pure (wpAny_bind fin))
    | exact wpAny_bind fin

theorem dict_typeIs {X : Cx} {pins : List (Addr × Obj)} {σ : St} {H : Hp} {s : Shared} {a : Addr} {y : V} {o : Option V} (I : Inv X pins σ H s) (g : DGet H a y o) : s.TypeIs (.ref a) "dict" := by
  rcases g with ⟨kvs, k, e, _, _⟩ | ⟨kvs, k, b, e, _, _, _⟩
  · obtain ⟨_, _, vs, _, dd⟩ := dk_rd I.hok e
    exact dd.typeIs
  · obtain ⟨_, _, xs, _, dd⟩ := dt_rd I.hok e
    exact dd.typeIs
/-- d[y] -/
def tDGet (td ty : TE) : TE := fun σ H Q => td σ H fun x H1 => ty σ H1 fun y H2 => ∃ a v, x = .ref a ∧ DGet H2 a y (some v) ∧ Q v H2
/-- y in d, y not in d -/
def tDIn (ty td : TE) : TE := fun σ H Q => ty σ H fun y H1 => td σ H1 fun x H2 => ∃ a o, x = .ref a ∧ DGet H2 a y o ∧ Q (.bl o.isSome) H2
def tDNotIn (ty td : TE) : TE := fun σ H Q => ty σ H fun y H1 => td σ H1 fun x H2 => ∃ a o, x = .ref a ∧ DGet H2 a y o ∧ Q (.bl (!o.isSome)) H2
/-- d[y] = v -/
def sDPut (td ty tv : TE) : TS := fun D σ H => tv σ H fun v H1 => td σ H1 fun x H2 => ty σ H2 fun y H3 => ∃ a H4, x = .ref a ∧ DPut H3 a y v H4 ∧ D.nx σ H4
/-- d[y] op= v -/
def sDAug (td ty tv : TE) (rd : V → V → Hp → VK → Prop) : TS := fun D σ H => td σ H fun x H1 => ty σ H1 fun y H2 => ∃ a v, x = .ref a ∧ DGet H2 a y (some v) ∧
  tv σ H2 fun y2 H3 => rd v y2 H3 fun z H4 => ∃ H5, DPut H4 a y z H5 ∧ D.nx σ H5
/-- del d[y] -/
def sDDel (td ty : TE) : TS := fun D σ H => td σ H fun x H1 => ty σ H1 fun y H2 => ∃ a kvs k, x = .ref a ∧ H2 a = some (.dK kvs) ∧ y = kV k ∧ (valV kvs k).isSome = true ∧ D.nx σ (upd H2 a (.dK (dropK kvs k)))

section
variable {X : Cx} {o i e value : Expr} {pos pos' tpos : Pos} {td ty tv : TE}
theorem pe_dget (hu : X.A.units + 1 < cLine) (ho : PE X o td) (hi : PE X i ty) (hs : NoSl i) : PE X (.Subscript o i pos) (tDGet td ty) := by
  intro pins s σ H Q I h
  refine subD_of PySem.F.slot_dict_getitem.lookup hs (thn (ho pins s σ H _ I h) fun u s1 ⟨x, H1, I1, rx, q1⟩ => thn (hi pins s1 σ H1 _ I1 q1) fun iv s2 ⟨y, H2, I2, ry, a, v, ex, g, q2⟩ => ?_)
  subst ex
  obtain rfl : u = Value.ref a := rx
  exact ⟨dict_typeIs I2 g, d_getItem hu I2 g ry fun w' s3 I3 rw' => ⟨v, H2, I3, rw', q2⟩⟩
theorem ps_dput (hu : X.A.units + 1 < cLine) (ho : PE X o td) (hi : PE X i ty) (hv : PE X value tv) (hs : swapsWith value (some (.Subscript o i pos')) pos.line X.env = pure false) :
    PS X (.Assign [.Subscript o i pos'] value pos) (sDPut td ty tv) := by
  intro pins s σ H D I h
  refine wpAny_Assign_Subscript (thn (hv pins s σ H _ I h) fun r s1 ⟨v, H1, I1, rv, q1⟩ => thn (ho pins s1 σ H1 _ I1 q1) fun u s2 ⟨x, H2, I2, rx, q2⟩ => thn (hi pins s2 σ H2 _ I2 q2) fun iv s3 ⟨y, H3, I3, ry, a, H4, ex, g, q3⟩ => ?_) hs
  subst ex
  obtain rfl : u = Value.ref a := rx
  exact d_setItem hu I3 g ry rv fun s4 I4 => ⟨σ, H4, I4, q3⟩
end


/-! ### displays -/
theorem dk_empty {P : Program} {w : World} {H : Hp} (h : Heap) (hb : sysModules < h.objs.size) : ObjOk P w H (h.push { cls := .type "dict", data := .dict #[] }) h.objs.size (.dK []) :=
  ⟨Nat.zero_le _, beq_eq_false_iff_ne.mpr (Ne.symm (Nat.ne_of_lt hb)), [], .nil, Heap.DictOf.new h⟩
/-- {}, to be a dict of the kind that is wanted -/
def tDNewK : TE := fun _ H Q => ∀ p, H p = none → Q (.ref p) (upd H p (.dK []))
def tDNewT : TE := fun _ H Q => ∀ p, H p = none → Q (.ref p) (upd H p (.dT []))
section
variable {X : Cx} {pos : Pos}
theorem pe_dnewK : PE X (.Dict [] [] pos) tDNewK := fun pins s σ H Q I h =>
  wpAny_Dict_empty ⟨.ref s.heap.objs.size, _, I.laid (a := s.heap.objs.size) (o := .dK []) (t' := s.toks) (fun _ _ q => Heap.get?_push_of_some _ q) (Nat.le_refl _) (dk_empty s.heap I.big), rfl, h _ (I.hok.fresh (Nat.le_refl _))⟩
end

/-- the pairs of a display, from the left -/
def tPairs : List (TE × TE) → St → Hp → (List (V × V) → Hp → Prop) → Prop
  | [], _, H, Q => Q [] H
  | (tk, tv) :: r, σ, H, Q => tk σ H fun x H1 => tv σ H1 fun y H2 => tPairs r σ H2 fun ps H3 => Q ((x, y) :: ps) H3
abbrev VV : List (V × V) → List (Value × Value) → Prop := Paired fun p q => RelV p.1 q.1 ∧ RelV p.2 q.2
def PPs (X : Cx) (pos : Pos) (keys : List (Option Expr)) (values : List Expr) (trs : List (TE × TE)) : Prop :=
  ∀ (pins : List (Addr × Obj)) (s : Shared) (σ : St) (H : Hp) (Q : List (V × V) → Hp → Prop), Inv X pins σ H s → tPairs trs σ H Q →
    wpAny (model X.prog X.w) X.A (evalPairs (pairTrees keys values X.env pos)) (fun vs s' => ∃ ps H', Inv X pins σ H' s' ∧ VV ps vs ∧ Q ps H') X.xe s
theorem pps_nil {X : Cx} {pos : Pos} : PPs X pos [] [] [] := fun pins s σ H Q I h => pairTrees_nil_walk ⟨[], H, I, .nil, h⟩
theorem pps_cons {X : Cx} {pos : Pos} {k v : Expr} {ks : List (Option Expr)} {vs : List Expr} {tk tv : TE} {trs : List (TE × TE)} (hk : PE X k tk) (hv : PE X v tv) (hr : PPs X pos ks vs trs) :
    PPs X pos (some k :: ks) (v :: vs) ((tk, tv) :: trs) := fun pins s σ H Q I h =>
  pairTrees_cons_walk (thn (hk pins s σ H _ I h) fun u s1 ⟨x, H1, I1, rx, q1⟩ => thn (hv pins s1 σ H1 _ I1 q1) fun w2 s2 ⟨y, H2, I2, ry, q2⟩ =>
    thn (hr pins s2 σ H2 _ I2 q2) fun ws s3 ⟨ps, H3, I3, rel, q3⟩ => ⟨(x, y) :: ps, H3, I3, .cons ⟨rx, ry⟩ rel, q3⟩)

def mergeK (kvs more : List (Key × V)) : List (Key × V) := more.foldl (fun acc kv => putK acc kv.1 kv.2) kvs
theorem KV.merge : ∀ {more : List (Key × V)} {rs : List (Key × Value)} {kvs : List (Key × V)} {vs : List (Key × Value)}, KV more rs → KV kvs vs → KV (mergeK kvs more) (merged vs rs) := by
  intro more rs kvs vs r
  unfold KV at r
  induction r generalizing kvs vs with
  | nil => intro q; exact q
  | @cons p q ps qs h t ih =>
    intro r0
    have e : KV (putK kvs p.1 p.2) (stored vs q.1 q.2) := by
      have := r0.put p.1 h.2
      rw [← h.1]; exact this
    exact ih e
theorem length_mergeK : ∀ (more kvs : List (Key × V)), (mergeK kvs more).length ≤ kvs.length + more.length
  | [], kvs => by show kvs.length ≤ kvs.length + 0; omega
  | p :: r, kvs => by
    have h1 := length_mergeK r (putK kvs p.1 p.2)
    have h2 := length_putK kvs p.1 p.2
    show (mergeK (putK kvs p.1 p.2) r).length ≤ _
    rw [List.length_cons]; omega
theorem carries_of {P : Program} {w : World} : ∀ {kvs : List (Key × V)} {ws : List (Value × Value)}, VV (kvs.map fun kv => (kV kv.1, kv.2)) ws → ∃ rs, Carries (mixKind P w) ws rs ∧ KV kvs rs
  | [], _, r => by rw [List.map_nil] at r; cases r; exact ⟨[], True.intro, .nil⟩
  | p :: kvs, _, r => by
    rw [List.map_cons] at r
    cases r with
    | @cons a b as bs h t =>
      obtain ⟨rs, c, q⟩ := carries_of (P := P) (w := w) t
      obtain ⟨b1, b2⟩ := b
      exact ⟨(p.1, b2) :: rs, ⟨kV_is h.1, rfl, c⟩, .cons ⟨rfl, h.2⟩ q⟩
/-- {k: v, ..} with keys ints and texts; the new dict stands empty while the pairs are made -/
def tDisp (trs : List (TE × TE)) : TE := fun σ H Q => ∀ p, H p = none → tPairs trs σ (upd H p (.dK [])) fun ps H2 => H2 p = some (.dK []) ∧ ∃ kvs : List (Key × V), ps = kvs.map (fun kv => (kV kv.1, kv.2)) ∧ kvs.length ≤ 15 ∧ Q (.ref p) (upd H2 p (.dK (mergeK [] kvs)))
theorem pe_disp {X : Cx} {pos : Pos} {keys : List (Option Expr)} {values : List Expr} {trs : List (TE × TE)} (h : PPs X pos keys values trs) (hall : keys.all (·.isSome) = true) (hl : keys.length = values.length) (h0 : keys ≠ [])
    (h15 : keys.length ≤ 15) : PE X (.Dict keys values pos) (tDisp trs) := by
  intro pins s σ H Q I q
  have hn := I.hok.fresh (Nat.le_refl s.heap.objs.size)
  have I1 := I.laid (a := s.heap.objs.size) (o := .dK []) (h' := s.heap.push { cls := .type "dict", data := .dict #[] }) (t' := s.toks) (fun _ _ q => Heap.get?_push_of_some _ q) (Nat.le_refl _) (dk_empty s.heap I.big)
  refine wpAny_Dict_walk (knd := mixKind X.prog X.w) hall hl h0 h15 (thn (h pins _ σ _ _ I1 (q _ hn)) fun ws s2 ⟨ps, H2, I2, rel, e, kvs, ep, lk, q2⟩ => ?_)
  subst ep
  obtain ⟨rs, c, rk⟩ := carries_of (P := X.prog) (w := X.w) rel
  obtain ⟨z, hd, vs0, r0, dd⟩ := dk_of I2.hok e
  cases r0
  refine ⟨rs, c, dd, fun h' dd' hs => ⟨.ref s.heap.objs.size, _, ?_, rfl, q2⟩⟩
  have hz : (mergeK [] kvs).length ≤ sizeLine := by
    have h1 := length_mergeK kvs []
    rw [List.length_nil] at h1
    rw [sizeLine_eq]; omega
  have he : ∃ q, h'.get? s.heap.objs.size = some q := let ⟨q, _, _, hq, _⟩ := dd'; ⟨q, hq⟩
  exact d_write I2 (by rw [e]; exact True.intro) hs he (dk_new hz hd (rk.merge .nil) dd')


/-! ### methods -/
/-- a method call o.m(e) of a built-in, with one argument: what must be seen of the text -/
structure M1 (X : Cx) (o : Expr) (m : Str) (apos : Pos) (e : Expr) (cpos : Pos) : Prop where
  base : attributeBase o m X.env (eval o X.env) = eval o X.env
  few : ((backTo cpos (starEach [e] X.env)).all (fun x => !x.1) && (backToKw cpos (keywordEach [] X.env)).all (fun x => x.1.isSome)
    && decide (([e] : List Expr).length + ([] : List Keyword).length + (if ([] : List Keyword).isEmpty then 0 else 1) < 30)) = true
  line : (apos.endLine == cpos.line) = true
  trees : backTo cpos (starEach [e] X.env) = [(false, eval e X.env)]
structure M2 (X : Cx) (o : Expr) (m : Str) (apos : Pos) (e f : Expr) (cpos : Pos) : Prop where
  base : attributeBase o m X.env (eval o X.env) = eval o X.env
  few : ((backTo cpos (starEach [e, f] X.env)).all (fun x => !x.1) && (backToKw cpos (keywordEach [] X.env)).all (fun x => x.1.isSome)
    && decide (([e, f] : List Expr).length + ([] : List Keyword).length + (if ([] : List Keyword).isEmpty then 0 else 1) < 30)) = true
  line : (apos.endLine == cpos.line) = true
  trees : backTo cpos (starEach [e, f] X.env) = [(false, eval e X.env), (false, eval f X.env)]

/-- a is a dict, whatever its keys -/
def IsD (H : Hp) (a : Addr) : Prop := (∃ kvs, Rd H a (.dK kvs)) ∨ ∃ kvs, Rd H a (.dT kvs)
theorem isD_at {X : Cx} {pins : List (Addr × Obj)} {σ : St} {H : Hp} {s : Shared} {a : Addr} (I : Inv X pins σ H s) (d : IsD H a) :
    s.TypeIs (.ref a) "dict" ∧ (∀ b, Value.ref a = .ref b → ∃ ob, s.heap.get? b = some ob ∧ ob.dict = none) ∧ (a == sysModules) = false := by
  rcases d with ⟨kvs, e⟩ | ⟨kvs, e⟩
  · obtain ⟨_, hd, vs, _, dd⟩ := dk_rd I.hok e
    refine ⟨dd.typeIs, fun b q => ?_, hd⟩
    cases q
    obtain ⟨ob, _, _, h1, h2, _⟩ := dd
    exact ⟨ob, h1, h2.2.1⟩
  · obtain ⟨_, hd, xs, _, dd⟩ := dt_rd I.hok e
    refine ⟨dd.typeIs, fun b q => ?_, hd⟩
    cases q
    obtain ⟨ob, _, _, h1, h2, _⟩ := dd
    exact ⟨ob, h1, h2.2.1⟩

section
variable {X : Cx} {pins : List (Addr × Obj)} {σ : St} {H : Hp} {s : Shared} {a : Addr} {y d : V} {u r : Value} {o : Option V} {A : Around} {E : Value → Shared → Prop}
/-- d.get(y) -/
theorem d_get1 {Q : Value → Shared → Prop} (hu : A.units + 1 < cLine) (I : Inv X pins σ H s) (g : DGet H a y o) (ry : RelV y u) (h : ∀ w' s', Inv X pins σ H s' → RelV (o.getD .non) w' → Q w' s') :
    wpAny (model X.prog X.w) A (call (.builtin "dict.get") [.ref a, u]) Q E s := by
  rcases g with ⟨kvs, k, e, ey, l⟩ | ⟨kvs, k, b, e, ey, eb, l⟩
  · subst ey
    obtain ⟨z, hd, vs, rel, dd⟩ := dk_rd I.hok e
    refine call_meetsIn PySem.F.slot_dict_get dd.typeIs PySem.F.entry_dict_get (PySem.F.args_dict_get_2 _ _) (meets_dict_get (mixKind X.prog X.w) a (kV_is ry) hd) ⟨_, dd.mapOf, h _ _ (I.tok _) ?_⟩
    rw [l]
    exact (rel.val k).getD rfl
  · subst ey
    cases (show u = Value.ref b from ry)
    obtain ⟨z, hd, xs, rel, dd⟩ := dt_rd I.hok e
    refine call_meetsIn PySem.F.slot_dict_get dd.typeIs PySem.F.entry_dict_get (PySem.F.args_dict_get_2 _ _) (meetsH_dict_get (tupleKind (mixKind X.prog X.w)) a b hd) ⟨tupleKind_room_in1 hu, k, xs, key_of I.hok eb, dd, h _ _ (I.tok _) ?_⟩
    rw [l]
    exact (rel.val k).getD rfl
end

def tDGet1 (td ty : TE) : TE := fun σ H Q => td σ H fun x H1 => ∃ a, x = .ref a ∧ IsD H1 a ∧ ty σ H1 fun y H2 => ∃ o, DGet H2 a y o ∧ Q (o.getD .non) H2
def tDGet2 (td ty tx : TE) : TE := fun σ H Q => td σ H fun x H1 => ∃ a, x = .ref a ∧ IsD H1 a ∧ ty σ H1 fun y H2 => tx σ H2 fun z H3 => ∃ o, DGet H3 a y o ∧ Q (o.getD z) H3
/-- d.pop(k): there; d.pop(k, x): there or not -/
def tDPop1 (td ty : TE) : TE := fun σ H Q => td σ H fun x H1 => ∃ a, x = .ref a ∧ IsD H1 a ∧ ty σ H1 fun y H2 => ∃ kvs k v, H2 a = some (.dK kvs) ∧ y = kV k ∧ valV kvs k = some v ∧ Q v (upd H2 a (.dK (dropK kvs k)))
def tDPop2 (td ty tx : TE) : TE := fun σ H Q => td σ H fun x H1 => ∃ a, x = .ref a ∧ IsD H1 a ∧ ty σ H1 fun y H2 => tx σ H2 fun z H3 => ∃ kvs k, H3 a = some (.dK kvs) ∧ y = kV k ∧
  (∀ v, valV kvs k = some v → Q v (upd H3 a (.dK (dropK kvs k)))) ∧ (valV kvs k = none → Q z H3)
section
variable {X : Cx} {o e f : Expr} {apos cpos : Pos} {td ty tx : TE}
theorem pe_dget1 (hu : X.A.units + 1 < cLine) (ho : PE X o td) (he : PE X e ty) (m : M1 X o "get" apos e cpos) : PE X (.Call (.Attribute o "get" apos) [e] [] cpos) (tDGet1 td ty) := by
  intro pins s σ H Q I h
  refine wpAny_Call_method m.base m.few m.line PySem.F.plainAttrs_dict PySem.F.slot_dict_get PySem.F.type_dict_get (thn (ho pins s σ H _ I h) fun u s1 ⟨x, H1, I1, rx, a, ex, d, q1⟩ => ?_)
  subst ex
  obtain rfl : u = Value.ref a := rx
  obtain ⟨t1, t2, _⟩ := isD_at I1 d
  refine ⟨t1, t2, ?_⟩
  rw [m.trees]
  refine Calls.callWith_builtin rfl (Calls.evalArgs_plain (Calls.spliced_cons (thn (he pins s1 σ H1 _ I1 q1) fun iv s2 ⟨y, H2, I2, ry, ov, g, q2⟩ => Calls.spliced_nil ?_)))
  exact d_get1 hu I2 g ry fun w' s3 I3 rw' => ⟨_, H2, I3, rw', q2⟩
end

/-! ### dict(d): a copy -/
section
variable {X : Cx} {pins : List (Addr × Obj)} {σ : St} {H : Hp} {s : Shared} {a : Addr} {kvs : List (Key × V)} {A : Around} {E : Value → Shared → Prop}
theorem d_copyOf {Q : Value → Shared → Prop} (I : Inv X pins σ H s) (e : Rd H a (.dK kvs)) (h : ∀ p s', H p = none → Inv X pins σ (upd H p (.dK kvs)) s' → Q (.ref p) s') : wpAny (model X.prog X.w) A (call (.type "dict") [.ref a]) Q E s := by
  obtain ⟨z, hd, vs, rel, dd⟩ := dk_rd I.hok e
  refine kt_call_dict hd dd (by rw [← rel.length]; exact z) fun h' dd' hs => ?_
  refine h _ _ (I.hok.fresh (Nat.le_refl _)) (I.laid (a := s.heap.objs.size) (o := .dK kvs) (t' := s.toks) (fun b q hq => ?_) (Nat.le_refl _) (dk_new z (beq_eq_false_iff_ne.mpr (Ne.symm (Nat.ne_of_lt I.big))) rel dd'))
  exact (hs.2 b (Nat.ne_of_lt (Heap.lt_size hq))).trans (Heap.get?_push_of_some _ hq)
end


section
variable {X : Cx} {pins : List (Addr × Obj)} {σ : St} {H : Hp} {s : Shared} {a : Addr} {y : V} {u : Value} {A : Around} {E : Value → Shared → Prop}
end
section
variable {X : Cx}
end
/-! ### a dict's pairs: keys that differ -/
section
variable {κ : Type} [DecidableEq κ]
end
end L2


set_option Elab.async false
set_option linter.all false
set_option maxRecDepth 100000
/-! a dict of the text's top, by ints -/
namespace L2
open PySem PySem.Spec PyProof.Rows
section
variable {X : Cx}
def KMap (K : PySem.W.Frag) (a : Addr) (f : Int → Option Value) : Prop := ∃ o es ep, K.lookup a = some o ∧ o.ExactDict ∧ o.data = .dict es ep ∧ (∀ e ∈ es, ∃ k, Value.isInt k e.key = true ∧ e.hash = hashInt k) ∧ ∀ k, findBy Value.isInt es k = f k
def tKGet (K : PySem.W.Frag) (td ty : TE) : TE := fun σ H Q => td σ H fun x H1 => ty σ H1 fun y H2 => ∃ a k u v f, x = .ref a ∧ y = .int k ∧ KMap K a f ∧ f k = some u ∧ RelV v u ∧ Q v H2
end
end L2


set_option Elab.async false
set_option linter.all false
set_option maxRecDepth 100000
/-! enumerate and zip over lists -/
namespace L2
open PySem PySem.Spec PyProof.Rows
section
variable {X : Cx} {pins : List (Addr × Obj)} {σ : List (Option V)} {H : Hp} {s : Shared} {h' : Heap}
/-- several untracked records have turned -/
theorem Inv.turnedL {t' : Nat} {ch : List Addr} (I : Inv X pins σ H s) (k : ∀ b o, b ∉ ch → s.heap.get? b = some o → h'.get? b = some o) (hf : ∀ b ∈ ch, FpOk X pins H b) : Inv X pins σ H { s with heap := h', toks := t' } := by
  have nit : ∀ b u, H b = some u → b ∉ ch := fun b u e z => by rw [(hf b z).1] at e; cases e
  refine I.step (g' := s.gens) (d' := s.drawn) (ch := ch) (fun b hb => ?_) (fun b o _ _ hc e _ => k b o hc e) (fun b o _ _ hc e _ => ⟨o.slots, k b o hc e⟩) (fun _ _ _ _ n => n)
    (fun b o hc e => ⟨o, k b o hc e⟩) (fun _ _ e => e) (fun _ _ _ e => e) (fun b ps e => ⟨#[], by rw [e]; simp⟩) (fun m hm => ?_) (fun b u e => ?_) I.bare
  · obtain ⟨_, f1, _, f3, f4, f5⟩ := hf b hb
    exact ⟨f3, f1, f4, f5⟩
  · obtain ⟨o, es, ep, ho, r⟩ := hm
    exact ⟨o, es, ep, k _ o (fun z => (hf _ z).2.1 rfl) ho, r⟩
  · refine (I.hok b u e).stay (fun c v hc q => k c v ?_ q) (fun _ q => q) fun _ _ q => q
    rcases hc with z | z
    · rw [z]; exact nit b u e
    · exact nit c _ z
end
/-- a pair for each turn: new tuples -/
def Ite (K : PySem.W.Frag) (a : Addr) : It :=
  ⟨fun i H => ∃ xs x, SqL K H a xs ∧ xs[i]? = some x, fun i H x H' => ∃ T v, x = .ref T ∧ H T = none ∧ H' = upd H T (.tup [.int i, v]) ∧ ∀ xs, SqL K H a xs → xs[i]? = some v, fun i H => ∃ xs, SqL K H a xs ∧ xs.length ≤ i⟩
def Itz (K : PySem.W.Frag) (a b : Addr) : It :=
  ⟨fun i H => ∃ xs ys x y, SqL K H a xs ∧ SqL K H b ys ∧ xs[i]? = some x ∧ ys[i]? = some y, fun i H x H' => ∃ T u v, x = .ref T ∧ H T = none ∧ H' = upd H T (.tup [u, v]) ∧ (∀ xs, SqL K H a xs → xs[i]? = some u) ∧ ∀ ys, SqL K H b ys → ys[i]? = some v,
    fun i H => ∃ xs ys, SqL K H a xs ∧ SqL K H b ys ∧ (xs.length ≤ i ∨ ys.length ≤ i)⟩
theorem two_le : (2 : Nat) ≤ sizeLine := by decide
theorem turn_enum {P : Program} {w : World} {K : PySem.W.Frag} {elts : List Expr} {kt : Nat} {pt : Pos} (a e it : Addr) (hne : e ≠ it) : Turn P w K (.Tuple elts kt pt) (Ite K a) [e, it] e (fun i h => (∃ old, IsEnum h e it i old) ∧ h.IsListIter it a i) where
  mem := by simp
  obj := fun i h st b hb => by
    obtain ⟨⟨old, he⟩, hi⟩ := st
    rcases List.mem_cons.mp hb with rfl | hb
    · exact ⟨_, he, fun v z => by cases z⟩
    · obtain rfl := List.mem_singleton.mp hb
      obtain ⟨o, e', c, d⟩ := hi
      exact ⟨o, e', fun v z => by rw [d] at z; cases z⟩
  keep := fun i h h' st k => by
    obtain ⟨⟨old, he⟩, hi⟩ := st
    exact ⟨⟨old, k e (by simp) _ he⟩, hi.at fun o q => k it (by simp) o q⟩
  item := by
    intro X hP hw hK hc i pins s σ H E I hf st hg
    subst hP hw hK
    obtain ⟨⟨old, he⟩, hit⟩ := st
    obtain ⟨xs, x, hq, hx⟩ := hg
    obtain ⟨its, rv, p, hz⟩ := I.list hq
    obtain ⟨u, hu, ru⟩ := rv.get hx
    refine wpAny_pyNext_enum_item he hit p.isList (x := u) (by simpa using hu) hne fun h1 ho hit1 hT hsz hk => ?_
    refine ⟨_, rfl, wpAny_letOwnedTupleGo_enum ho fun h2 he2 hs2 => ?_⟩
    have helt : e < s.heap.objs.size := Heap.lt_size he
    have hs2' : Heap.SameBut e h1 h2 := hs2
    have kk : ∀ b o, b ∉ [e, it] → s.heap.get? b = some o → h2.get? b = some o := fun b o hb q => hs2'.extBut b o (fun z => hb (by simp [z])) (hk b o (fun z => hb (by simp [z])) (fun z => hb (by simp [z])) q)
    have I1 : Inv X pins σ H { s with heap := h2, toks := s.toks + 1 } := I.turnedL kk hf
    have hTn : H s.heap.objs.size = none := I.hok.fresh (Nat.le_refl _)
    have hT2 : h2.get? s.heap.objs.size = some { cls := .type "tuple", data := .seq #[.int i s.toks, u] } := hs2'.extBut _ _ (Nat.ne_of_gt helt) hT
    have I2 : Inv X pins σ (upd H s.heap.objs.size (.tup [.int i, x])) { s with heap := h2, toks := s.toks + 1 } :=
      I1.track hTn (I.fpOk (Nat.le_refl _) hTn) (show ObjOk X.prog X.w _ h2 _ (.tup [.int i, x]) from ⟨two_le, [.int i s.toks, u], .cons ⟨_, rfl⟩ (.cons ru .nil), ⟨_, hT2, rfl, _, rfl⟩⟩)
    refine ⟨.ref s.heap.objs.size, _, I2, rfl, ⟨s.heap.objs.size, x, rfl, hTn, rfl, fun ys hy => by rw [I.list_inj hy hq]; exact hx⟩, ⟨⟨u, by simpa using he2⟩, hit1.at fun o q => (hs2'.2 it hne.symm).trans q⟩, fun b hb => ?_⟩
    have hbl : b < s.heap.objs.size := by
      rcases List.mem_cons.mp hb with rfl | hb
      · exact helt
      · obtain rfl := List.mem_singleton.mp hb
        obtain ⟨o, e', _⟩ := hit
        exact Heap.lt_size e'
    rw [upd_ne (Nat.ne_of_lt hbl)]
    exact (hf b hb).1
  done := by
    intro X hP hw hK hc i pins s σ H E I hf st hg
    subst hP hw hK
    obtain ⟨⟨old, he⟩, hit⟩ := st
    obtain ⟨xs, hq, hx⟩ := hg
    obtain ⟨its, rv, p, hz⟩ := I.list hq
    have hl := rv.length
    exact wpAny_pyNext_enum_end (I.ok.hd hc) he hit p.isList (by simp; omega) fun h' eb => ⟨rfl, I.turnedL (t' := s.toks) (fun b o hb q => eb b o (fun z => hb (by simp [z])) q) hf⟩
  self := fun _ _ _ _ _ st h => by
    obtain ⟨⟨old, he⟩, _⟩ := st
    exact wpAny_pyIter_enum he h
section
variable {X : Cx}
def iEnum (K : PySem.W.Frag) (ta : TA) : TI := fun σ H R => ta σ H fun vs H1 => ∃ a, vs = [.ref a] ∧ (∃ xs, SqL K H1 a xs) ∧ R (Ite K a) H1
theorem pi_enum {elts : List Expr} {kt : Nat} {pt p pos : Pos} {l : Expr} {ta : TA} (hg : Gl X "enumerate") (hm : X.mg "enumerate" = none) (ha : PA X [l] ta) (hst : isStar l = false := by rfl) : PI X (.Tuple elts kt pt) (.Call (.Name "enumerate" p) [l] [] pos) (iEnum X.K ta) := by
  intro pins s σ H R I h
  refine Call_ (ld_blt I hg hm boot_enumerate (PyProof.Rows.callWith_type1 (thn (ha pos pins s σ H _ I h) fun us s1 ⟨vs, H1, I1, r1, q1⟩ => ?_) (starEach_plain hst) rfl))
  obtain ⟨a, e, ⟨xs, hq⟩, q⟩ := q1
  subst e
  cases r1 with
  | cons r rr =>
    cases rr
    cases r
    obtain ⟨its, rv, pl, hz⟩ := I1.list hq
    refine call_enumerate_list pl.isList fun h' he hi hsz hk => ?_
    have I2 : Inv X pins σ H1 { s1 with heap := h' } := I1.kept (t' := s1.toks) hk
    refine wpAny_pyIter_enum he ?_
    refine ⟨s1.heap.objs.size + 1, [s1.heap.objs.size + 1, s1.heap.objs.size], _, _, H1, rfl, I2, turn_enum a _ _ (Nat.succ_ne_self _), ⟨⟨_, he⟩, hi⟩, fun b hb => ?_, q⟩
    have hle : s1.heap.objs.size ≤ b := by
      rcases List.mem_cons.mp hb with rfl | hb
      · exact Nat.le_succ _
      · obtain rfl := List.mem_singleton.mp hb
        exact Nat.le_refl _
    exact I1.fpOk hle (I1.hok.fresh hle)
end
theorem turn_zip {P : Program} {w : World} {K : PySem.W.Frag} {elts : List Expr} {kt : Nat} {pt : Pos} (a b z TI TO i1 i2 : Addr) (D : ZipApart z TI TO i1 i2 a b) :
    Turn P w K (.Tuple elts kt pt) (Itz K a b) [z, TI, TO, i1, i2] z (fun i h => IsZip h z TI TO .none ∧ IsPair h TI (.ref i1) (.ref i2) ∧ (∃ u v, IsPair h TO u v) ∧ h.IsListIter i1 a i ∧ h.IsListIter i2 b i) where
  mem := by simp
  obj := fun i h st c hc => by
    obtain ⟨hz, hTI, ⟨u, v, hTO⟩, h1, h2⟩ := st
    simp only [List.mem_cons, List.not_mem_nil, or_false] at hc
    rcases hc with rfl | rfl | rfl | rfl | rfl
    · exact ⟨_, hz, fun v z => by cases z⟩
    · exact ⟨_, hTI, fun v z => by cases z⟩
    · exact ⟨_, hTO, fun v z => by cases z⟩
    · obtain ⟨o, e', c, d⟩ := h1
      exact ⟨o, e', fun v z => by rw [d] at z; cases z⟩
    · obtain ⟨o, e', c, d⟩ := h2
      exact ⟨o, e', fun v z => by rw [d] at z; cases z⟩
  keep := fun i h h' st k => by
    obtain ⟨hz, hTI, ⟨u, v, hTO⟩, h1, h2⟩ := st
    exact ⟨k z (by simp) _ hz, k TI (by simp) _ hTI, ⟨u, v, k TO (by simp) _ hTO⟩, h1.at fun o q => k i1 (by simp) o q, h2.at fun o q => k i2 (by simp) o q⟩
  item := by
    intro X hP hw hK hc i pins s σ H E I hf st hg
    subst hP hw hK
    obtain ⟨hz, hTI, ⟨u0, v0, hTO⟩, h1, h2⟩ := st
    obtain ⟨xs, ys, x, y, hq, hq2, hx, hy⟩ := hg
    obtain ⟨its, rv, p, _⟩ := I.list hq
    obtain ⟨its2, rv2, p2, _⟩ := I.list hq2
    obtain ⟨u, hu, ru⟩ := rv.get hx
    obtain ⟨u2, hu2, ru2⟩ := rv2.get hy
    refine wpAny_pyNext_zip_item D hz hTI hTO h1 h2 p.isList p2.isList (x := u) (y := u2) (by simpa using hu) (by simpa using hu2) fun h3 a1 a2 a3 a4 a5 a6 hk => ?_
    refine ⟨_, rfl, wpAny_letOwnedTupleGo_zip a1 fun h4 hz4 hs4 => ?_⟩
    have hs4' : Heap.SameBut z h3 h4 := hs4
    have hzl : z < s.heap.objs.size := Heap.lt_size hz
    have kk : ∀ c o, c ∉ [z, TI, TO, i1, i2] → s.heap.get? c = some o → h4.get? c = some o := fun c o hc' q =>
      hs4'.extBut c o (fun e => hc' (by simp [e])) (hk c o (fun e => hc' (by simp [e])) (fun e => hc' (by simp [e])) (fun e => hc' (by simp [e])) (fun e => hc' (by simp [e])) q)
    have I1 : Inv X pins σ H { s with heap := h4, toks := s.toks } := I.turnedL kk hf
    have hTn : H s.heap.objs.size = none := I.hok.fresh (Nat.le_refl _)
    have hT2 : h4.get? s.heap.objs.size = some { cls := .type "tuple", data := .seq #[u, u2] } := hs4'.extBut _ _ (Nat.ne_of_gt hzl) a5
    have I2 : Inv X pins σ (upd H s.heap.objs.size (.tup [x, y])) { s with heap := h4, toks := s.toks } :=
      I1.track hTn (I.fpOk (Nat.le_refl _) hTn) (show ObjOk X.prog X.w _ h4 _ (.tup [x, y]) from ⟨two_le, [u, u2], .cons ru (.cons ru2 .nil), ⟨_, hT2, rfl, _, rfl⟩⟩)
    refine ⟨.ref s.heap.objs.size, _, I2, rfl, ⟨s.heap.objs.size, x, y, rfl, hTn, rfl, fun zs hz' => by rw [I.list_inj hz' hq]; exact hx, fun zs hz' => by rw [I.list_inj hz' hq2]; exact hy⟩,
      ⟨hz4, hs4'.extBut _ _ D.TIz (hk _ _ D.TIz D.TITO D.TIi1 D.TIi2 hTI), ⟨_, _, hs4'.extBut _ _ D.TOz a2⟩, a3.at fun o q => (hs4'.2 i1 D.i1z).trans q, a4.at fun o q => (hs4'.2 i2 D.i2z).trans q⟩, fun c hc' => ?_⟩
    have hcl : c < s.heap.objs.size := by
      simp only [List.mem_cons, List.not_mem_nil, or_false] at hc'
      rcases hc' with rfl | rfl | rfl | rfl | rfl
      · exact hzl
      · exact Heap.lt_size hTI
      · exact Heap.lt_size hTO
      · obtain ⟨o, e', _⟩ := h1; exact Heap.lt_size e'
      · obtain ⟨o, e', _⟩ := h2; exact Heap.lt_size e'
    rw [upd_ne (Nat.ne_of_lt hcl)]
    exact (hf c hc').1
  done := by
    intro X hP hw hK hc i pins s σ H E I hf st hg
    subst hP hw hK
    obtain ⟨hz, hTI, ⟨u0, v0, hTO⟩, h1, h2⟩ := st
    obtain ⟨xs, ys, hq, hq2, hend⟩ := hg
    obtain ⟨its, rv, p, _⟩ := I.list hq
    obtain ⟨its2, rv2, p2, _⟩ := I.list hq2
    have e1 := rv.length
    have e2 := rv2.length
    refine wpAny_pyNext_zip_end (I.ok.hd hc) D hz hTI hTO h1 h2 p.isList p2.isList ?_ fun h' hk => ⟨rfl, I.turnedL (t' := s.toks) (fun c o hc' q => hk c o (fun e => hc' (by simp [e])) (fun e => hc' (by simp [e])) (fun e => hc' (by simp [e])) (fun e => hc' (by simp [e])) q) hf⟩
    rcases hend with z | z
    · exact .inl (by simp; omega)
    · exact .inr (by simp; omega)
  self := fun _ _ _ _ _ st h => wpAny_pyIter_zip st.1 h
section
variable {X : Cx}
def iZip (K : PySem.W.Frag) (ta : TA) : TI := fun σ H R => ta σ H fun vs H1 => ∃ a b, vs = [.ref a, .ref b] ∧ (∃ xs, SqL K H1 a xs) ∧ (∃ ys, SqL K H1 b ys) ∧ R (Itz K a b) H1
theorem pi_zip {elts : List Expr} {kt : Nat} {pt p pos : Pos} {l l2 : Expr} {ta : TA} (hg : Gl X "zip") (hm : X.mg "zip" = none) (ha : PA X [l, l2] ta) (hst : isStar l = false := by rfl) (hst2 : isStar l2 = false := by rfl) : PI X (.Tuple elts kt pt) (.Call (.Name "zip" p) [l, l2] [] pos) (iZip X.K ta) := by
  intro pins s σ H R I h
  have hpl := noStars_any (pos := pos) (env := X.env) (es := [l2]) (by simp [noStars, hst2])
  refine Call_ (ld_blt I hg hm boot_zip (PyProof.Rows.callWith_type1 (thn (ha pos pins s σ H _ I h) fun us s1 ⟨vs, H1, I1, r1, q1⟩ => ?_) (starEach_plain hst) hpl))
  obtain ⟨a, b, e, ⟨xs, hq⟩, ⟨ys, hq2⟩, q⟩ := q1
  subst e
  cases r1 with
  | cons r rr =>
    cases rr with
    | cons r2 rr =>
      cases rr
      cases r
      cases r2
      obtain ⟨its, rv, pl, _⟩ := I1.list hq
      obtain ⟨its2, rv2, pl2, _⟩ := I1.list hq2
      have hla : a < s1.heap.objs.size := by obtain ⟨_, e, _⟩ := pl.isList; exact Heap.lt_size e
      have hlb : b < s1.heap.objs.size := by obtain ⟨_, e, _⟩ := pl2.isList; exact Heap.lt_size e
      refine call_zip_2 pl.isList pl2.isList fun h' hz hTI hTO h1 h2 hsz hk => ?_
      have I2 : Inv X pins σ H1 { s1 with heap := h' } := I1.kept (t' := s1.toks) hk
      refine wpAny_pyIter_zip hz ?_
      refine ⟨s1.heap.objs.size + 4, [s1.heap.objs.size + 4, s1.heap.objs.size + 2, s1.heap.objs.size + 3, s1.heap.objs.size, s1.heap.objs.size + 1], _, _, H1, rfl, I2, turn_zip a b _ _ _ _ _ (zipApart_new hla hlb), ⟨hz, hTI, ⟨_, _, hTO⟩, h1, h2⟩, fun c hc => ?_, q⟩
      have hle : s1.heap.objs.size ≤ c := by
        simp only [List.mem_cons, List.not_mem_nil, or_false] at hc
        rcases hc with rfl | rfl | rfl | rfl | rfl <;> first | exact Nat.le_refl _ | exact Nat.le_add_right _ _
      exact I1.fpOk hle (I1.hok.fresh hle)
end
end L2


set_option Elab.async false
set_option linter.all false
set_option maxRecDepth 100000
/-! dicts copied and listed, texts sorted, a list or a tuple walked -/
namespace L2
open PySem PySem.Spec PyProof.Rows
theorem Room.units1 {k : Nat} {A : Around} (r : Room k A) : A.units + 1 < cLine := by have := r.un; omega
section
variable {X : Cx}
theorem call_dict_of : CallR X (.type "dict") (fun xs H Q => ∃ a kvs, xs = [.ref a] ∧ Rd H a (.dK kvs) ∧ ∀ p, H p = none → Q (.ref p) (upd H p (.dK kvs))) := by
  intro pins s σ H xs us Q I r h
  obtain ⟨a, kvs, rfl, e, q⟩ := h
  obtain ⟨u, rfl, r1⟩ := r.one
  cases r1
  exact d_copyOf I e fun p s' hp I' => ⟨.ref p, _, I', rfl, q p hp⟩
theorem call_list_dict (hc : X.calm = true) : CallR X (.type "list") (fun xs H Q => ∃ (a : Addr) (kvs : List (Key × V)), xs = [.ref a] ∧ Rd H a (.dK kvs) ∧ ∀ l, H l = none → Q (.ref l) (upd H l (.lst (kvs.map fun kv => kV kv.1)))) := by
  intro pins s σ H xs us Q I r h
  obtain ⟨a, kvs, rfl, e, q⟩ := h
  obtain ⟨u, rfl, r1⟩ := r.one
  cases r1
  obtain ⟨z, hd, vs, rel, dd⟩ := dk_rd I.hok e
  obtain ⟨ep, da⟩ := dd.dictAt
  have hlen : kvs.length = vs.length := rel.length
  refine PySem.W.kdl_call (PySem.W.kdl_dict (knd := mixKind X.prog X.w) (kvs := vs) (ep := ep) hd) (I.ok.hd hc) da (by omega) fun h' tk acc c' hk hS hacc => ?_
  have hv : Vals (kvs.map fun kv => kV kv.1) acc.toList := by
    have key : ∀ (kvs : List (Key × V)) (vs : List (Key × Value)), KV kvs vs → ∀ (us : List Value), us.length = vs.length → (∀ (j : Nat) v, us[j]? = some v → ∃ k x, vs[j]? = some (k, x) ∧ (mixKind X.prog X.w).is k v = true) → Vals (kvs.map fun kv => kV kv.1) us := by
      intro kvs vs rel
      induction rel with
      | nil =>
        intro us hl _
        have : us = [] := List.length_eq_zero_iff.mp hl
        subst this
        exact .nil
      | cons rr _ ih =>
        rename_i kv0 vv0 _ _ _
        intro us hl hall
        match us, hl with
        | v :: us, hl =>
          refine .cons ?_ (ih us (by simpa using hl) fun j u hu => by simpa using hall (j + 1) u (by simpa using hu))
          obtain ⟨k, x, e1, e2⟩ := hall 0 v rfl
          have ek : vv0.1 = k := by
            have : vv0 = (k, x) := by simpa using e1
            rw [this]
          show RelV (kV kv0.1) v
          rw [rr.1, ek]
          rcases keyIs_shape e2 with ⟨i, t, rfl, rfl⟩ | ⟨y, t, rfl, rfl⟩
          · exact ⟨t, rfl⟩
          · exact ⟨t, rfl⟩
    exact key kvs vs rel acc.toList (by simpa using hacc.1) fun j v hv => hacc.2 j v (by simpa using hv)
  refine ⟨.ref s.heap.objs.size, _, I.laid (t' := tk) hk (Nat.le_refl _) (show ObjOk X.prog X.w _ _ _ (.lst _) from ⟨by rw [List.length_map]; exact z, acc.toList, c', hv, by simpa using hS⟩), rfl, q _ (I.hok.fresh (Nat.le_refl _))⟩
theorem strsAre_of : ∀ {ns : List Str} {us : List Value}, Vals (ns.map V.str) us → StrsAre us ns
  | [], _, .nil => .nil
  | n :: ns, _ :: _, .cons r t => by
    obtain ⟨k, rfl⟩ := r
    exact .cons n k (strsAre_of t)
theorem vals_of_strs : ∀ {ns : List Str} {us : List Value}, StrsAre us ns → Vals (ns.map V.str) us
  | _, _, .nil => .nil
  | _, _, .cons n t h => .cons ⟨t, rfl⟩ (vals_of_strs h)
def qSortS (K : PySem.W.Frag) : List V → Hp → VK → Prop := fun xs H Q => ∃ (a : Addr) (ns : List Str), xs = [.ref a] ∧ SqL K H a (ns.map V.str) ∧ ns.length < 64 ∧ ∀ (l : Addr) (ms : List Str), H l = none → ms.Perm ns → sortedS ms = true → Q (.ref l) (upd H l (.lst (ms.map V.str)))
theorem call_sortedS : CallR X (.builtin "sorted") (qSortS X.K) := by
  intro pins s σ H xs us Q I r h
  obtain ⟨a, ns, rfl, hq, h64, q⟩ := h
  obtain ⟨u, rfl, r1⟩ := r.one
  cases r1
  obtain ⟨its, rv, pl, hz⟩ := I.list hq
  have hi := strsAre_of rv
  have hlen := rv.length
  rw [List.length_map] at hlen hz
  refine sorted_strs pl.isList hi (by omega) fun out ms a1 a2 a3 => ?_
  obtain ⟨e, he⟩ := sortedAll_at s.heap its out
  refine ⟨.ref (s.heap.objs.size + 1), _, I.laid (t' := s.toks) (fun b o e => sortedAll_old e) (Nat.le_succ _) (show ObjOk X.prog X.w _ _ _ (.lst (ms.map V.str)) from ⟨?_, out.toList, e, vals_of_strs a1, ?_⟩), rfl, q _ _ (I.hok.fresh (Nat.le_succ _)) a2 a3⟩
  · rw [List.length_map, a2.length_eq]; exact hz
  · simpa [seqObj] using he
/-! ### a chain of three comparisons, as a test -/
def tChain3 (r r' r'' : R2) (ta tb tc td : TE) : TT := fun σ H Q => ta σ H fun x H1 => tb σ H1 fun y H2 => r x y H2 fun z H3 => ∃ k, z = .bl k ∧ (if k = true then tc σ H3 fun w H4 => r' y w H4 fun z H5 => ∃ k, z = .bl k ∧
  (if k = true then td σ H5 fun v H6 => r'' w v H6 fun z H7 => ∃ k, z = .bl k ∧ Q k H7 else Q false H5) else Q false H3)
theorem pt_chain3 {a b c d : Expr} {pos : Pos} {ta tb tc td : TE} {op op' op'' : CmpOp} {r r' r'' : R2} (ho : OpR X (compareOp op) r) (ho' : OpR X (compareOp op') r') (ho'' : OpR X (compareOp op'') r'') (ha : PE X a ta) (hb : PE X b tb) (hc : PE X c tc) (hd : PE X d td)
    (hm : lastMarks [op, op', op''] [b, c, d] = false := by with_unfolding_all rfl) : PT X (.Compare a [op, op', op''] [b, c, d] pos) (tChain3 r r' r'' ta tb tc td) := by
  intro pins s σ H Q I h
  refine isTrue_chain (thn (ha pins s σ H _ I h) fun v s1 ⟨x, H1, I1, r1, q1⟩ => test_link (thn (hb pins s1 σ H1 _ I1 q1) fun u s2 ⟨y, H2, I2, r2, q2⟩ =>
    thn (ho pins s2 σ H2 x y v u _ I2 r1 r2 q2) fun d s3 ⟨z, H3, I3, r3, k, e, q3⟩ => ?_)) hm
  subst e
  cases r3
  refine wpAny_truthy_bool ?_
  cases k with
  | false => exact ite_ff ⟨H3, I3, q3⟩
  | true =>
    refine ite_tt (test_link (thn (hc pins s3 σ H3 _ I3 q3) fun w' s4 ⟨z', H4, I4, r4, q4⟩ => thn (ho' pins s4 σ H4 y z' u w' _ I4 r2 r4 q4) fun d' s5 ⟨z2, H5, I5, r5, k2, e2, q5⟩ => ?_))
    subst e2
    cases r5
    refine wpAny_truthy_bool ?_
    cases k2 with
    | false => exact ite_ff ⟨H5, I5, q5⟩
    | true =>
      refine ite_tt (test_last (thn (hd pins s5 σ H5 _ I5 q5) fun w2 s6 ⟨z3, H6, I6, r6, q6⟩ => thn (ho'' pins s6 σ H6 z' z3 w' w2 _ I6 r4 r6 q6) fun d2 s7 ⟨z4, H7, I7, r7, k3, e3, q7⟩ => ?_))
      subst e3
      cases r7
      exact wpAny_truthy_bool ⟨H7, I7, q7⟩
/-! ### a list or a tuple, walked -/
def iSeq (K : PySem.W.Frag) (tl : TE) : TI := fun σ H R => tl σ H fun x H1 => ∃ a, x = .ref a ∧ (((∃ xs, SqL K H1 a xs) ∧ R (Itl K a) H1) ∨ ((∃ xs, SqT K H1 a xs) ∧ R (Itt K a) H1))
theorem pi_seq {tg l : Expr} {tl : TE} (hl : PE X l tl) : PI X tg l (iSeq X.K tl) := by
  intro pins s σ H R I h
  refine thn (hl pins s σ H _ I h) fun v s1 ⟨x, H1, I1, r1, q1⟩ => ?_
  obtain ⟨a, e, q⟩ := q1
  subst e
  cases r1
  rcases q with ⟨⟨xs, hq⟩, q⟩ | ⟨⟨xs, hq⟩, q⟩
  · obtain ⟨its, rv, p, hz⟩ := I1.list hq
    refine wpAny_pyIter_list p.isList ?_
    refine ⟨s1.heap.objs.size, [s1.heap.objs.size], _, _, H1, rfl, I1.kept (t' := s1.toks) fun b o e => Heap.get?_push_of_some _ e, turn_list a _, ⟨_, Heap.get?_push_size _ rfl, rfl, rfl⟩, fun b hb => ?_, q⟩
    have e : b = s1.heap.objs.size := by simpa using hb
    subst e
    exact I1.fpOk (Nat.le_refl _) (I1.hok.fresh (Nat.le_refl _))
  · obtain ⟨its, rv, p, hz⟩ := I1.tuple hq
    refine wpAny_pyIter_tuple (show s1.heap.IsTuple a its.toArray from p) ?_
    refine ⟨s1.heap.objs.size, [s1.heap.objs.size], _, _, H1, rfl, I1.kept (t' := s1.toks) fun b o e => Heap.get?_push_of_some _ e, turn_tuple a _, ⟨_, Heap.get?_push_size _ rfl, rfl, rfl⟩, fun b hb => ?_, q⟩
    have e : b = s1.heap.objs.size := by simpa using hb
    subst e
    exact I1.fpOk (Nat.le_refl _) (I1.hok.fresh (Nat.le_refl _))
end
theorem for_enum {K : PySem.W.Frag} {a : Addr} {xs : List V} {g : TG} {tb : TS} {D : Ends} {σ : St} {H : Hp} (Pv : Nat → St → Hp → Prop) (h0 : Pv 0 σ H) (hl : ∀ i σ H, i ≤ xs.length → Pv i σ H → SqL K H a xs)
    (hs : ∀ i x σ H T, xs[i]? = some x → Pv i σ H → H T = none → g (.ref T) σ (upd H T (.tup [.int i, x])) fun σ2 H2 => tb { D with nx := Pv (i + 1), ct := Pv (i + 1), bk := D.nx } σ2 H2) (hd : ∀ σ H, Pv xs.length σ H → D.nx σ H) :
    ∃ W : Nat → Nat → St → Hp → Prop, (∃ m, W 0 m σ H) ∧ ∀ i m σ H, W i m σ H →
      ((Ite K a).stop i H ∧ D.nx σ H) ∨ ((Ite K a).go i H ∧ ∃ N : St → Hp → Prop, (∀ σ' H', N σ' H' → ∃ m', m' < m ∧ W (i + 1) m' σ' H') ∧ ∀ x H', (Ite K a).yld i H x H' → g x σ H' fun σ2 H2 => tb { D with nx := N, ct := N, bk := D.nx } σ2 H2) := by
  refine ⟨fun i m σ H => m = xs.length - i ∧ i ≤ xs.length ∧ Pv i σ H, ⟨xs.length, by simp, Nat.zero_le _, h0⟩, ?_⟩
  rintro i m σ H ⟨rfl, hi, p⟩
  have q := hl i σ H hi p
  by_cases hlt : i < xs.length
  · refine .inr ⟨⟨xs, xs[i], q, by simp [hlt]⟩, Pv (i + 1), fun σ' H' p' => ⟨xs.length - (i + 1), by omega, rfl, hlt, p'⟩, fun x H' y => ?_⟩
    obtain ⟨T, v, rfl, hT, rfl, y⟩ := y
    exact hs i v σ H T (y xs q) p hT
  · have e : i = xs.length := by omega
    subst e
    exact .inl ⟨⟨xs, q, Nat.le_refl _⟩, hd σ H p⟩
theorem for_zip {K : PySem.W.Frag} {a b : Addr} {xs ys : List V} {g : TG} {tb : TS} {D : Ends} {σ : St} {H : Hp} (hxy : xs.length = ys.length) (Pv : Nat → St → Hp → Prop) (h0 : Pv 0 σ H) (hl : ∀ i σ H, i ≤ xs.length → Pv i σ H → SqL K H a xs ∧ SqL K H b ys)
    (hs : ∀ i x y σ H T, xs[i]? = some x → ys[i]? = some y → Pv i σ H → H T = none → g (.ref T) σ (upd H T (.tup [x, y])) fun σ2 H2 => tb { D with nx := Pv (i + 1), ct := Pv (i + 1), bk := D.nx } σ2 H2) (hd : ∀ σ H, Pv xs.length σ H → D.nx σ H) :
    ∃ W : Nat → Nat → St → Hp → Prop, (∃ m, W 0 m σ H) ∧ ∀ i m σ H, W i m σ H →
      ((Itz K a b).stop i H ∧ D.nx σ H) ∨ ((Itz K a b).go i H ∧ ∃ N : St → Hp → Prop, (∀ σ' H', N σ' H' → ∃ m', m' < m ∧ W (i + 1) m' σ' H') ∧ ∀ x H', (Itz K a b).yld i H x H' → g x σ H' fun σ2 H2 => tb { D with nx := N, ct := N, bk := D.nx } σ2 H2) := by
  refine ⟨fun i m σ H => m = xs.length - i ∧ i ≤ xs.length ∧ Pv i σ H, ⟨xs.length, by simp, Nat.zero_le _, h0⟩, ?_⟩
  rintro i m σ H ⟨rfl, hi, p⟩
  have q := hl i σ H hi p
  by_cases hlt : i < xs.length
  · refine .inr ⟨⟨xs, ys, xs[i], ys[i]'(by omega), q.1, q.2, by simp [hlt], by simp⟩, Pv (i + 1), fun σ' H' p' => ⟨xs.length - (i + 1), by omega, rfl, hlt, p'⟩, fun x H' y => ?_⟩
    obtain ⟨T, u, v, rfl, hT, rfl, y1, y2⟩ := y
    exact hs i u v σ H T (y1 xs q.1) (y2 ys q.2) p hT
  · have e : i = xs.length := by omega
    subst e
    exact .inl ⟨⟨xs, ys, q.1, q.2, .inl (Nat.le_refl _)⟩, hd σ H p⟩
/-! ### == of lists of nested data -/
section
variable {X : Cx}
def EqDL (K : PySem.W.Frag) (H : Hp) (x y : V) (b : Bool) : Prop := ∃ a c xs ys ds es, x = .ref a ∧ y = .ref c ∧ SqL K H a xs ∧ SqL K H c ys ∧ DtA H xs ds ∧ DtA H ys es ∧ shutA ds = true ∧ shutA es = true ∧ SeqAt.shaped (.list (datA ds)) = true ∧ SeqAt.shaped (.list (datA es)) = true ∧ b = PyData.eqv (.list (datA ds)) (.list (datA es))
def qEqDL (K : PySem.W.Frag) : R2 := fun x y H Q => ∃ b, EqDL K H x y b ∧ Q (.bl b) H
def qNeDL (K : PySem.W.Frag) : R2 := fun x y H Q => ∃ b, EqDL K H x y b ∧ Q (.bl (!b)) H
theorem Inv.readsDL {pins : List (Addr × Obj)} {σ : St} {H : Hp} {s : Shared} {a : Addr} {xs : List V} {ds : List Dm} (I : Inv X pins σ H s) (h : SqL X.K H a xs) (d : DtA H xs ds) (hs : shutA ds = true) : ∃ as, Reads s.heap (.ref a) (.list (datA ds)) as := by
  obtain ⟨its, r, ⟨o, n, e, c, _, dd⟩, _⟩ := I.list h
  obtain ⟨as, q⟩ := DtA.reads I d hs r
  exact ⟨_, .list e c dd (by simpa using q)⟩
theorem dlNe (hu : X.A.units + 64 < cLine) : OpR X (compareOp .NotEq) (qNeDL X.K) := by
  intro pins s σ H x y v u Q I rx ry h
  obtain ⟨b, ⟨a, c, xs, ys, ds, es, rfl, rfl, h1, h2, d1, d2, s1, s2, s3, s4, rfl⟩, q⟩ := h
  cases rx; cases ry
  obtain ⟨as, ra⟩ := I.readsDL h1 d1 s1
  obtain ⟨bs, rb⟩ := I.readsDL h2 d2 s2
  exact ne_dataH ra rb s3 s4 hu ⟨.bl _, H, I, rfl, q⟩
end
end L2


set_option Elab.async false
set_option linter.all false
set_option maxRecDepth 100000
set_option maxHeartbeats 0
namespace SR
open PySem L2
def top (i : Nat) : Stmt := PySem.Challenge.pw_smallrooms_k22_whole_behind.main.body.getD i (.Pass ⟨0, 0, 0, 0⟩)
-- s_worth_of s_joined s_met s_between s_stretch_of s_stretch_of_same s_stretch_of_ends s_reckoned_from s_behind s_behind_question s_with_left s_left_of_one s_left_of_other s_left_of_name s_left_by_same s_without s_law_cell s_law_pick s_law_reckoned s_law_side s_law_so s_law_hull s_law_once s_law
theorem bt_dict : bootBuiltins "dict" = some (.type "dict") := by decide +kernel
theorem bt_len : bootBuiltins "len" = some (.builtin "len") := by decide +kernel
theorem bt_list : bootBuiltins "list" = some (.type "list") := by decide +kernel
theorem bt_max : bootBuiltins "max" = some (.builtin "max") := by decide +kernel
theorem bt_min : bootBuiltins "min" = some (.builtin "min") := by decide +kernel
theorem bt_sorted : bootBuiltins "sorted" = some (.builtin "sorted") := by decide +kernel
theorem cd__law_a : (("_law_a" : Str) == ("__classdict__" : Str)) = false := by decide +kernel
theorem cd__law_alone : (("_law_alone" : Str) == ("__classdict__" : Str)) = false := by decide +kernel
theorem cd__law_at : (("_law_at" : Str) == ("__classdict__" : Str)) = false := by decide +kernel
theorem cd__law_b : (("_law_b" : Str) == ("__classdict__" : Str)) = false := by decide +kernel
theorem cd__law_book : (("_law_book" : Str) == ("__classdict__" : Str)) = false := by decide +kernel
theorem cd__law_cell_here : (("_law_cell_here" : Str) == ("__classdict__" : Str)) = false := by decide +kernel
theorem cd__law_drawn : (("_law_drawn" : Str) == ("__classdict__" : Str)) = false := by decide +kernel
theorem cd__law_expr : (("_law_expr" : Str) == ("__classdict__" : Str)) = false := by decide +kernel
theorem cd__law_fits : (("_law_fits" : Str) == ("__classdict__" : Str)) = false := by decide +kernel
theorem cd__law_high : (("_law_high" : Str) == ("__classdict__" : Str)) = false := by decide +kernel
theorem cd__law_hull_here : (("_law_hull_here" : Str) == ("__classdict__" : Str)) = false := by decide +kernel
theorem cd__law_hulls : (("_law_hulls" : Str) == ("__classdict__" : Str)) = false := by decide +kernel
theorem cd__law_is_so : (("_law_is_so" : Str) == ("__classdict__" : Str)) = false := by decide +kernel
theorem cd__law_k : (("_law_k" : Str) == ("__classdict__" : Str)) = false := by decide +kernel
theorem cd__law_low : (("_law_low" : Str) == ("__classdict__" : Str)) = false := by decide +kernel
theorem cd__law_many : (("_law_many" : Str) == ("__classdict__" : Str)) = false := by decide +kernel
theorem cd__law_name : (("_law_name" : Str) == ("__classdict__" : Str)) = false := by decide +kernel
theorem cd__law_names : (("_law_names" : Str) == ("__classdict__" : Str)) = false := by decide +kernel
theorem cd__law_one : (("_law_one" : Str) == ("__classdict__" : Str)) = false := by decide +kernel
theorem cd__law_other : (("_law_other" : Str) == ("__classdict__" : Str)) = false := by decide +kernel
theorem cd__law_pair : (("_law_pair" : Str) == ("__classdict__" : Str)) = false := by decide +kernel
theorem cd__law_script : (("_law_script" : Str) == ("__classdict__" : Str)) = false := by decide +kernel
theorem cd__law_side_here : (("_law_side_here" : Str) == ("__classdict__" : Str)) = false := by decide +kernel
theorem cd__law_told : (("_law_told" : Str) == ("__classdict__" : Str)) = false := by decide +kernel
theorem cd__law_turn : (("_law_turn" : Str) == ("__classdict__" : Str)) = false := by decide +kernel
theorem cd__law_word : (("_law_word" : Str) == ("__classdict__" : Str)) = false := by decide +kernel
theorem cd__law_worths : (("_law_worths" : Str) == ("__classdict__" : Str)) = false := by decide +kernel
theorem cd_above : (("above" : Str) == ("__classdict__" : Str)) = false := by decide +kernel
theorem cd_below : (("below" : Str) == ("__classdict__" : Str)) = false := by decide +kernel
theorem cd_beside : (("beside" : Str) == ("__classdict__" : Str)) = false := by decide +kernel
theorem cd_book : (("book" : Str) == ("__classdict__" : Str)) = false := by decide +kernel
theorem cd_can_be : (("can_be" : Str) == ("__classdict__" : Str)) = false := by decide +kernel
theorem cd_ends : (("ends" : Str) == ("__classdict__" : Str)) = false := by decide +kernel
theorem cd_high : (("high" : Str) == ("__classdict__" : Str)) = false := by decide +kernel
theorem cd_is_so : (("is_so" : Str) == ("__classdict__" : Str)) = false := by decide +kernel
theorem cd_is_sure : (("is_sure" : Str) == ("__classdict__" : Str)) = false := by decide +kernel
theorem cd_left : (("left" : Str) == ("__classdict__" : Str)) = false := by decide +kernel
theorem cd_low : (("low" : Str) == ("__classdict__" : Str)) = false := by decide +kernel
theorem cd_low_or_high : (("low_or_high" : Str) == ("__classdict__" : Str)) = false := by decide +kernel
theorem cd_name : (("name" : Str) == ("__classdict__" : Str)) = false := by decide +kernel
theorem cd_one : (("one" : Str) == ("__classdict__" : Str)) = false := by decide +kernel
theorem cd_other : (("other" : Str) == ("__classdict__" : Str)) = false := by decide +kernel
theorem cd_own : (("own" : Str) == ("__classdict__" : Str)) = false := by decide +kernel
theorem cd_stretch : (("stretch" : Str) == ("__classdict__" : Str)) = false := by decide +kernel
theorem cd_term : (("term" : Str) == ("__classdict__" : Str)) = false := by decide +kernel
theorem cd_word : (("word" : Str) == ("__classdict__" : Str)) = false := by decide +kernel
theorem cd_worth : (("worth" : Str) == ("__classdict__" : Str)) = false := by decide +kernel
theorem db_WIDE : (("WIDE" : Str) == ("__debug__" : Str)) = false := by decide +kernel
theorem db__law_a : (("_law_a" : Str) == ("__debug__" : Str)) = false := by decide +kernel
theorem db__law_alone : (("_law_alone" : Str) == ("__debug__" : Str)) = false := by decide +kernel
theorem db__law_at : (("_law_at" : Str) == ("__debug__" : Str)) = false := by decide +kernel
theorem db__law_b : (("_law_b" : Str) == ("__debug__" : Str)) = false := by decide +kernel
theorem db__law_book : (("_law_book" : Str) == ("__debug__" : Str)) = false := by decide +kernel
theorem db__law_cell : (("_law_cell" : Str) == ("__debug__" : Str)) = false := by decide +kernel
theorem db__law_cell_here : (("_law_cell_here" : Str) == ("__debug__" : Str)) = false := by decide +kernel
theorem db__law_drawn : (("_law_drawn" : Str) == ("__debug__" : Str)) = false := by decide +kernel
theorem db__law_expr : (("_law_expr" : Str) == ("__debug__" : Str)) = false := by decide +kernel
theorem db__law_fits : (("_law_fits" : Str) == ("__debug__" : Str)) = false := by decide +kernel
theorem db__law_high : (("_law_high" : Str) == ("__debug__" : Str)) = false := by decide +kernel
theorem db__law_hull : (("_law_hull" : Str) == ("__debug__" : Str)) = false := by decide +kernel
theorem db__law_hull_here : (("_law_hull_here" : Str) == ("__debug__" : Str)) = false := by decide +kernel
theorem db__law_hulls : (("_law_hulls" : Str) == ("__debug__" : Str)) = false := by decide +kernel
theorem db__law_is_so : (("_law_is_so" : Str) == ("__debug__" : Str)) = false := by decide +kernel
theorem db__law_k : (("_law_k" : Str) == ("__debug__" : Str)) = false := by decide +kernel
theorem db__law_low : (("_law_low" : Str) == ("__debug__" : Str)) = false := by decide +kernel
theorem db__law_many : (("_law_many" : Str) == ("__debug__" : Str)) = false := by decide +kernel
theorem db__law_name : (("_law_name" : Str) == ("__debug__" : Str)) = false := by decide +kernel
theorem db__law_names : (("_law_names" : Str) == ("__debug__" : Str)) = false := by decide +kernel
theorem db__law_once : (("_law_once" : Str) == ("__debug__" : Str)) = false := by decide +kernel
theorem db__law_one : (("_law_one" : Str) == ("__debug__" : Str)) = false := by decide +kernel
theorem db__law_other : (("_law_other" : Str) == ("__debug__" : Str)) = false := by decide +kernel
theorem db__law_pair : (("_law_pair" : Str) == ("__debug__" : Str)) = false := by decide +kernel
theorem db__law_pick : (("_law_pick" : Str) == ("__debug__" : Str)) = false := by decide +kernel
theorem db__law_reckoned : (("_law_reckoned" : Str) == ("__debug__" : Str)) = false := by decide +kernel
theorem db__law_script : (("_law_script" : Str) == ("__debug__" : Str)) = false := by decide +kernel
theorem db__law_side : (("_law_side" : Str) == ("__debug__" : Str)) = false := by decide +kernel
theorem db__law_side_here : (("_law_side_here" : Str) == ("__debug__" : Str)) = false := by decide +kernel
theorem db__law_so : (("_law_so" : Str) == ("__debug__" : Str)) = false := by decide +kernel
theorem db__law_told : (("_law_told" : Str) == ("__debug__" : Str)) = false := by decide +kernel
theorem db__law_turn : (("_law_turn" : Str) == ("__debug__" : Str)) = false := by decide +kernel
theorem db__law_word : (("_law_word" : Str) == ("__debug__" : Str)) = false := by decide +kernel
theorem db__law_worths : (("_law_worths" : Str) == ("__debug__" : Str)) = false := by decide +kernel
theorem db_above : (("above" : Str) == ("__debug__" : Str)) = false := by decide +kernel
theorem db_behind : (("behind" : Str) == ("__debug__" : Str)) = false := by decide +kernel
theorem db_behind_question : (("behind_question" : Str) == ("__debug__" : Str)) = false := by decide +kernel
theorem db_below : (("below" : Str) == ("__debug__" : Str)) = false := by decide +kernel
theorem db_beside : (("beside" : Str) == ("__debug__" : Str)) = false := by decide +kernel
theorem db_between : (("between" : Str) == ("__debug__" : Str)) = false := by decide +kernel
theorem db_book : (("book" : Str) == ("__debug__" : Str)) = false := by decide +kernel
theorem db_can_be : (("can_be" : Str) == ("__debug__" : Str)) = false := by decide +kernel
theorem db_dict : (("dict" : Str) == ("__debug__" : Str)) = false := by decide +kernel
theorem db_ends : (("ends" : Str) == ("__debug__" : Str)) = false := by decide +kernel
theorem db_high : (("high" : Str) == ("__debug__" : Str)) = false := by decide +kernel
theorem db_is_so : (("is_so" : Str) == ("__debug__" : Str)) = false := by decide +kernel
theorem db_is_sure : (("is_sure" : Str) == ("__debug__" : Str)) = false := by decide +kernel
theorem db_joined : (("joined" : Str) == ("__debug__" : Str)) = false := by decide +kernel
theorem db_left : (("left" : Str) == ("__debug__" : Str)) = false := by decide +kernel
theorem db_left_by_same : (("left_by_same" : Str) == ("__debug__" : Str)) = false := by decide +kernel
theorem db_left_of_name : (("left_of_name" : Str) == ("__debug__" : Str)) = false := by decide +kernel
theorem db_left_of_one : (("left_of_one" : Str) == ("__debug__" : Str)) = false := by decide +kernel
theorem db_left_of_other : (("left_of_other" : Str) == ("__debug__" : Str)) = false := by decide +kernel
theorem db_len : (("len" : Str) == ("__debug__" : Str)) = false := by decide +kernel
theorem db_list : (("list" : Str) == ("__debug__" : Str)) = false := by decide +kernel
theorem db_low : (("low" : Str) == ("__debug__" : Str)) = false := by decide +kernel
theorem db_low_or_high : (("low_or_high" : Str) == ("__debug__" : Str)) = false := by decide +kernel
theorem db_max : (("max" : Str) == ("__debug__" : Str)) = false := by decide +kernel
theorem db_met : (("met" : Str) == ("__debug__" : Str)) = false := by decide +kernel
theorem db_min : (("min" : Str) == ("__debug__" : Str)) = false := by decide +kernel
theorem db_name : (("name" : Str) == ("__debug__" : Str)) = false := by decide +kernel
theorem db_one : (("one" : Str) == ("__debug__" : Str)) = false := by decide +kernel
theorem db_other : (("other" : Str) == ("__debug__" : Str)) = false := by decide +kernel
theorem db_own : (("own" : Str) == ("__debug__" : Str)) = false := by decide +kernel
theorem db_reckoned_from : (("reckoned_from" : Str) == ("__debug__" : Str)) = false := by decide +kernel
theorem db_sorted : (("sorted" : Str) == ("__debug__" : Str)) = false := by decide +kernel
theorem db_stretch : (("stretch" : Str) == ("__debug__" : Str)) = false := by decide +kernel
theorem db_stretch_of : (("stretch_of" : Str) == ("__debug__" : Str)) = false := by decide +kernel
theorem db_stretch_of_ends : (("stretch_of_ends" : Str) == ("__debug__" : Str)) = false := by decide +kernel
theorem db_stretch_of_same : (("stretch_of_same" : Str) == ("__debug__" : Str)) = false := by decide +kernel
theorem db_term : (("term" : Str) == ("__debug__" : Str)) = false := by decide +kernel
theorem db_with_left : (("with_left" : Str) == ("__debug__" : Str)) = false := by decide +kernel
theorem db_without : (("without" : Str) == ("__debug__" : Str)) = false := by decide +kernel
theorem db_word : (("word" : Str) == ("__debug__" : Str)) = false := by decide +kernel
theorem db_worth : (("worth" : Str) == ("__debug__" : Str)) = false := by decide +kernel
theorem db_worth_of : (("worth_of" : Str) == ("__debug__" : Str)) = false := by decide +kernel
theorem nn_dict : ("dict" : Str) ≠ "__name__" := by decide +kernel
theorem nn_len : ("len" : Str) ≠ "__name__" := by decide +kernel
theorem nn_list : ("list" : Str) ≠ "__name__" := by decide +kernel
theorem nn_max : ("max" : Str) ≠ "__name__" := by decide +kernel
theorem nn_min : ("min" : Str) ≠ "__name__" := by decide +kernel
theorem nn_sorted : ("sorted" : Str) ≠ "__name__" := by decide +kernel
abbrev s_worth_of : Stmt := top 2
theorem sc_worth_of : FnScope ["word", "one", "other"] ["word", "one", "other"] (defScope s_worth_of) := ⟨rfl, rfl, rfl, by decide +kernel, rfl, by decide +kernel, by decide +kernel⟩
theorem gl_worth_of_max : (defScope s_worth_of).names.lookup ("max" : Str) = some NameKind.globalImplicit := by decide +kernel
theorem gl_worth_of_min : (defScope s_worth_of).names.lookup ("min" : Str) = some NameKind.globalImplicit := by decide +kernel
theorem vis_worth_of_one : Vis (defScope s_worth_of) "one" := Or.inl (by decide +kernel)
theorem vis_worth_of_other : Vis (defScope s_worth_of) "other" := Or.inl (by decide +kernel)
theorem vis_worth_of_word : Vis (defScope s_worth_of) "word" := Or.inl (by decide +kernel)
abbrev s_joined : Stmt := top 4
theorem sc_joined : FnScope ["one", "other"] ["one", "other"] (defScope s_joined) := ⟨rfl, rfl, rfl, by decide +kernel, rfl, by decide +kernel, by decide +kernel⟩
theorem gl_joined_max : (defScope s_joined).names.lookup ("max" : Str) = some NameKind.globalImplicit := by decide +kernel
theorem gl_joined_min : (defScope s_joined).names.lookup ("min" : Str) = some NameKind.globalImplicit := by decide +kernel
theorem vis_joined_one : Vis (defScope s_joined) "one" := Or.inl (by decide +kernel)
theorem vis_joined_other : Vis (defScope s_joined) "other" := Or.inl (by decide +kernel)
abbrev s_met : Stmt := top 5
theorem sc_met : FnScope ["one", "other"] ["one", "other"] (defScope s_met) := ⟨rfl, rfl, rfl, by decide +kernel, rfl, by decide +kernel, by decide +kernel⟩
theorem gl_met_between : (defScope s_met).names.lookup ("between" : Str) = some NameKind.globalImplicit := by decide +kernel
theorem gl_met_max : (defScope s_met).names.lookup ("max" : Str) = some NameKind.globalImplicit := by decide +kernel
theorem gl_met_min : (defScope s_met).names.lookup ("min" : Str) = some NameKind.globalImplicit := by decide +kernel
theorem vis_met_one : Vis (defScope s_met) "one" := Or.inl (by decide +kernel)
theorem vis_met_other : Vis (defScope s_met) "other" := Or.inl (by decide +kernel)
abbrev s_between : Stmt := top 6
theorem sc_between : FnScope ["low", "high"] ["low", "high"] (defScope s_between) := ⟨rfl, rfl, rfl, by decide +kernel, rfl, by decide +kernel, by decide +kernel⟩
theorem vis_between_high : Vis (defScope s_between) "high" := Or.inl (by decide +kernel)
theorem vis_between_low : Vis (defScope s_between) "low" := Or.inl (by decide +kernel)
abbrev s_stretch_of : Stmt := top 7
theorem sc_stretch_of : FnScope ["word", "one", "other", "below", "above"] ["word", "one", "other"] (defScope s_stretch_of) := ⟨rfl, rfl, rfl, by decide +kernel, rfl, by decide +kernel, by decide +kernel⟩
theorem gl_stretch_of_between : (defScope s_stretch_of).names.lookup ("between" : Str) = some NameKind.globalImplicit := by decide +kernel
theorem gl_stretch_of_joined : (defScope s_stretch_of).names.lookup ("joined" : Str) = some NameKind.globalImplicit := by decide +kernel
theorem gl_stretch_of_max : (defScope s_stretch_of).names.lookup ("max" : Str) = some NameKind.globalImplicit := by decide +kernel
theorem gl_stretch_of_min : (defScope s_stretch_of).names.lookup ("min" : Str) = some NameKind.globalImplicit := by decide +kernel
theorem gl_stretch_of_stretch_of_ends : (defScope s_stretch_of).names.lookup ("stretch_of_ends" : Str) = some NameKind.globalImplicit := by decide +kernel
theorem gl_stretch_of_stretch_of_same : (defScope s_stretch_of).names.lookup ("stretch_of_same" : Str) = some NameKind.globalImplicit := by decide +kernel
theorem loc_stretch_of_above : Loc (defScope s_stretch_of) "above" := Or.inl (by decide +kernel)
theorem loc_stretch_of_below : Loc (defScope s_stretch_of) "below" := Or.inl (by decide +kernel)
theorem vis_stretch_of_above : Vis (defScope s_stretch_of) "above" := Or.inl (by decide +kernel)
theorem vis_stretch_of_below : Vis (defScope s_stretch_of) "below" := Or.inl (by decide +kernel)
theorem vis_stretch_of_one : Vis (defScope s_stretch_of) "one" := Or.inl (by decide +kernel)
theorem vis_stretch_of_other : Vis (defScope s_stretch_of) "other" := Or.inl (by decide +kernel)
theorem vis_stretch_of_word : Vis (defScope s_stretch_of) "word" := Or.inl (by decide +kernel)
abbrev s_stretch_of_same : Stmt := top 8
theorem sc_stretch_of_same : FnScope ["one", "other", "is_sure", "can_be"] ["one", "other"] (defScope s_stretch_of_same) := ⟨rfl, rfl, rfl, by decide +kernel, rfl, by decide +kernel, by decide +kernel⟩
theorem gl_stretch_of_same_met : (defScope s_stretch_of_same).names.lookup ("met" : Str) = some NameKind.globalImplicit := by decide +kernel
theorem loc_stretch_of_same_can_be : Loc (defScope s_stretch_of_same) "can_be" := Or.inl (by decide +kernel)
theorem loc_stretch_of_same_is_sure : Loc (defScope s_stretch_of_same) "is_sure" := Or.inl (by decide +kernel)
theorem vis_stretch_of_same_can_be : Vis (defScope s_stretch_of_same) "can_be" := Or.inl (by decide +kernel)
theorem vis_stretch_of_same_is_sure : Vis (defScope s_stretch_of_same) "is_sure" := Or.inl (by decide +kernel)
theorem vis_stretch_of_same_one : Vis (defScope s_stretch_of_same) "one" := Or.inl (by decide +kernel)
theorem vis_stretch_of_same_other : Vis (defScope s_stretch_of_same) "other" := Or.inl (by decide +kernel)
abbrev s_stretch_of_ends : Stmt := top 9
theorem sc_stretch_of_ends : FnScope ["word", "one", "other", "ends"] ["word", "one", "other"] (defScope s_stretch_of_ends) := ⟨rfl, rfl, rfl, by decide +kernel, rfl, by decide +kernel, by decide +kernel⟩
theorem gl_stretch_of_ends_max : (defScope s_stretch_of_ends).names.lookup ("max" : Str) = some NameKind.globalImplicit := by decide +kernel
theorem gl_stretch_of_ends_min : (defScope s_stretch_of_ends).names.lookup ("min" : Str) = some NameKind.globalImplicit := by decide +kernel
theorem loc_stretch_of_ends_ends : Loc (defScope s_stretch_of_ends) "ends" := Or.inl (by decide +kernel)
theorem vis_stretch_of_ends_ends : Vis (defScope s_stretch_of_ends) "ends" := Or.inl (by decide +kernel)
theorem vis_stretch_of_ends_one : Vis (defScope s_stretch_of_ends) "one" := Or.inl (by decide +kernel)
theorem vis_stretch_of_ends_other : Vis (defScope s_stretch_of_ends) "other" := Or.inr <| Or.inl (by decide +kernel)
abbrev s_reckoned_from : Stmt := top 11
theorem sc_reckoned_from : FnScope ["term", "book"] ["term", "book"] (defScope s_reckoned_from) := ⟨rfl, rfl, rfl, by decide +kernel, rfl, by decide +kernel, by decide +kernel⟩
theorem gl_reckoned_from_WIDE : (defScope s_reckoned_from).names.lookup ("WIDE" : Str) = some NameKind.globalImplicit := by decide +kernel
theorem gl_reckoned_from_met : (defScope s_reckoned_from).names.lookup ("met" : Str) = some NameKind.globalImplicit := by decide +kernel
theorem gl_reckoned_from_reckoned_from : (defScope s_reckoned_from).names.lookup ("reckoned_from" : Str) = some NameKind.globalImplicit := by decide +kernel
theorem gl_reckoned_from_stretch_of : (defScope s_reckoned_from).names.lookup ("stretch_of" : Str) = some NameKind.globalImplicit := by decide +kernel
theorem vis_reckoned_from_book : Vis (defScope s_reckoned_from) "book" := Or.inl (by decide +kernel)
theorem vis_reckoned_from_term : Vis (defScope s_reckoned_from) "term" := Or.inl (by decide +kernel)
abbrev s_behind : Stmt := top 12
theorem sc_behind : FnScope ["term", "book", "is_so"] ["term", "book", "is_so"] (defScope s_behind) := ⟨rfl, rfl, rfl, by decide +kernel, rfl, by decide +kernel, by decide +kernel⟩
theorem gl_behind_behind_question : (defScope s_behind).names.lookup ("behind_question" : Str) = some NameKind.globalImplicit := by decide +kernel
theorem gl_behind_dict : (defScope s_behind).names.lookup ("dict" : Str) = some NameKind.globalImplicit := by decide +kernel
theorem gl_behind_left_of_name : (defScope s_behind).names.lookup ("left_of_name" : Str) = some NameKind.globalImplicit := by decide +kernel
theorem gl_behind_with_left : (defScope s_behind).names.lookup ("with_left" : Str) = some NameKind.globalImplicit := by decide +kernel
theorem vis_behind_book : Vis (defScope s_behind) "book" := Or.inl (by decide +kernel)
theorem vis_behind_is_so : Vis (defScope s_behind) "is_so" := Or.inl (by decide +kernel)
theorem vis_behind_term : Vis (defScope s_behind) "term" := Or.inl (by decide +kernel)
abbrev s_behind_question : Stmt := top 13
theorem sc_behind_question : FnScope ["term", "book", "is_so", "one", "other", "left", "own"] ["term", "book", "is_so"] (defScope s_behind_question) := ⟨rfl, rfl, rfl, by decide +kernel, rfl, by decide +kernel, by decide +kernel⟩
theorem gl_behind_question_dict : (defScope s_behind_question).names.lookup ("dict" : Str) = some NameKind.globalImplicit := by decide +kernel
theorem gl_behind_question_left_of_one : (defScope s_behind_question).names.lookup ("left_of_one" : Str) = some NameKind.globalImplicit := by decide +kernel
theorem gl_behind_question_left_of_other : (defScope s_behind_question).names.lookup ("left_of_other" : Str) = some NameKind.globalImplicit := by decide +kernel
theorem gl_behind_question_reckoned_from : (defScope s_behind_question).names.lookup ("reckoned_from" : Str) = some NameKind.globalImplicit := by decide +kernel
theorem gl_behind_question_with_left : (defScope s_behind_question).names.lookup ("with_left" : Str) = some NameKind.globalImplicit := by decide +kernel
theorem loc_behind_question_left : Loc (defScope s_behind_question) "left" := Or.inl (by decide +kernel)
theorem loc_behind_question_one : Loc (defScope s_behind_question) "one" := Or.inl (by decide +kernel)
theorem loc_behind_question_other : Loc (defScope s_behind_question) "other" := Or.inl (by decide +kernel)
theorem loc_behind_question_own : Loc (defScope s_behind_question) "own" := Or.inl (by decide +kernel)
theorem vis_behind_question_book : Vis (defScope s_behind_question) "book" := Or.inl (by decide +kernel)
theorem vis_behind_question_is_so : Vis (defScope s_behind_question) "is_so" := Or.inl (by decide +kernel)
theorem vis_behind_question_left : Vis (defScope s_behind_question) "left" := Or.inl (by decide +kernel)
theorem vis_behind_question_one : Vis (defScope s_behind_question) "one" := Or.inl (by decide +kernel)
theorem vis_behind_question_other : Vis (defScope s_behind_question) "other" := Or.inl (by decide +kernel)
theorem vis_behind_question_own : Vis (defScope s_behind_question) "own" := Or.inl (by decide +kernel)
theorem vis_behind_question_term : Vis (defScope s_behind_question) "term" := Or.inl (by decide +kernel)
abbrev s_with_left : Stmt := top 14
theorem sc_with_left : FnScope ["book", "name", "stretch", "left"] ["book", "name", "stretch"] (defScope s_with_left) := ⟨rfl, rfl, rfl, by decide +kernel, rfl, by decide +kernel, by decide +kernel⟩
theorem gl_with_left_dict : (defScope s_with_left).names.lookup ("dict" : Str) = some NameKind.globalImplicit := by decide +kernel
theorem loc_with_left_left : Loc (defScope s_with_left) "left" := Or.inl (by decide +kernel)
theorem vis_with_left_book : Vis (defScope s_with_left) "book" := Or.inl (by decide +kernel)
theorem vis_with_left_left : Vis (defScope s_with_left) "left" := Or.inl (by decide +kernel)
theorem vis_with_left_name : Vis (defScope s_with_left) "name" := Or.inl (by decide +kernel)
theorem vis_with_left_stretch : Vis (defScope s_with_left) "stretch" := Or.inl (by decide +kernel)
abbrev s_left_of_name : Stmt := top 15
theorem sc_left_of_name : FnScope ["own", "is_so"] ["own", "is_so"] (defScope s_left_of_name) := ⟨rfl, rfl, rfl, by decide +kernel, rfl, by decide +kernel, by decide +kernel⟩
theorem gl_left_of_name_met : (defScope s_left_of_name).names.lookup ("met" : Str) = some NameKind.globalImplicit := by decide +kernel
theorem gl_left_of_name_without : (defScope s_left_of_name).names.lookup ("without" : Str) = some NameKind.globalImplicit := by decide +kernel
theorem vis_left_of_name_is_so : Vis (defScope s_left_of_name) "is_so" := Or.inl (by decide +kernel)
theorem vis_left_of_name_own : Vis (defScope s_left_of_name) "own" := Or.inl (by decide +kernel)
abbrev s_left_of_one : Stmt := top 16
theorem sc_left_of_one : FnScope ["word", "own", "other", "is_so"] ["word", "own", "other", "is_so"] (defScope s_left_of_one) := ⟨rfl, rfl, rfl, by decide +kernel, rfl, by decide +kernel, by decide +kernel⟩
theorem gl_left_of_one_between : (defScope s_left_of_one).names.lookup ("between" : Str) = some NameKind.globalImplicit := by decide +kernel
theorem gl_left_of_one_left_by_same : (defScope s_left_of_one).names.lookup ("left_by_same" : Str) = some NameKind.globalImplicit := by decide +kernel
theorem gl_left_of_one_max : (defScope s_left_of_one).names.lookup ("max" : Str) = some NameKind.globalImplicit := by decide +kernel
theorem gl_left_of_one_min : (defScope s_left_of_one).names.lookup ("min" : Str) = some NameKind.globalImplicit := by decide +kernel
theorem vis_left_of_one_is_so : Vis (defScope s_left_of_one) "is_so" := Or.inl (by decide +kernel)
theorem vis_left_of_one_other : Vis (defScope s_left_of_one) "other" := Or.inl (by decide +kernel)
theorem vis_left_of_one_own : Vis (defScope s_left_of_one) "own" := Or.inl (by decide +kernel)
theorem vis_left_of_one_word : Vis (defScope s_left_of_one) "word" := Or.inl (by decide +kernel)
abbrev s_left_of_other : Stmt := top 17
theorem sc_left_of_other : FnScope ["word", "own", "one", "is_so"] ["word", "own", "one", "is_so"] (defScope s_left_of_other) := ⟨rfl, rfl, rfl, by decide +kernel, rfl, by decide +kernel, by decide +kernel⟩
theorem gl_left_of_other_between : (defScope s_left_of_other).names.lookup ("between" : Str) = some NameKind.globalImplicit := by decide +kernel
theorem gl_left_of_other_left_by_same : (defScope s_left_of_other).names.lookup ("left_by_same" : Str) = some NameKind.globalImplicit := by decide +kernel
theorem gl_left_of_other_max : (defScope s_left_of_other).names.lookup ("max" : Str) = some NameKind.globalImplicit := by decide +kernel
theorem gl_left_of_other_min : (defScope s_left_of_other).names.lookup ("min" : Str) = some NameKind.globalImplicit := by decide +kernel
theorem vis_left_of_other_is_so : Vis (defScope s_left_of_other) "is_so" := Or.inl (by decide +kernel)
theorem vis_left_of_other_one : Vis (defScope s_left_of_other) "one" := Or.inl (by decide +kernel)
theorem vis_left_of_other_own : Vis (defScope s_left_of_other) "own" := Or.inl (by decide +kernel)
theorem vis_left_of_other_word : Vis (defScope s_left_of_other) "word" := Or.inl (by decide +kernel)
abbrev s_left_by_same : Stmt := top 18
theorem sc_left_by_same : FnScope ["own", "beside", "is_so"] ["own", "beside", "is_so"] (defScope s_left_by_same) := ⟨rfl, rfl, rfl, by decide +kernel, rfl, by decide +kernel, by decide +kernel⟩
theorem gl_left_by_same_met : (defScope s_left_by_same).names.lookup ("met" : Str) = some NameKind.globalImplicit := by decide +kernel
theorem gl_left_by_same_without : (defScope s_left_by_same).names.lookup ("without" : Str) = some NameKind.globalImplicit := by decide +kernel
theorem vis_left_by_same_beside : Vis (defScope s_left_by_same) "beside" := Or.inl (by decide +kernel)
theorem vis_left_by_same_is_so : Vis (defScope s_left_by_same) "is_so" := Or.inl (by decide +kernel)
theorem vis_left_by_same_own : Vis (defScope s_left_by_same) "own" := Or.inl (by decide +kernel)
abbrev s_without : Stmt := top 19
theorem sc_without : FnScope ["own", "worth"] ["own", "worth"] (defScope s_without) := ⟨rfl, rfl, rfl, by decide +kernel, rfl, by decide +kernel, by decide +kernel⟩
theorem gl_without_between : (defScope s_without).names.lookup ("between" : Str) = some NameKind.globalImplicit := by decide +kernel
theorem vis_without_own : Vis (defScope s_without) "own" := Or.inl (by decide +kernel)
theorem vis_without_worth : Vis (defScope s_without) "worth" := Or.inl (by decide +kernel)
abbrev s_law_cell : Stmt := top 21
theorem sc_law_cell : FnScope ["_law_script", "_law_k"] ["_law_script", "_law_k"] (defScope s_law_cell) := ⟨rfl, rfl, rfl, by decide +kernel, rfl, by decide +kernel, by decide +kernel⟩
theorem gl_law_cell_len : (defScope s_law_cell).names.lookup ("len" : Str) = some NameKind.globalImplicit := by decide +kernel
theorem vis_law_cell__law_k : Vis (defScope s_law_cell) "_law_k" := Or.inl (by decide +kernel)
theorem vis_law_cell__law_script : Vis (defScope s_law_cell) "_law_script" := Or.inl (by decide +kernel)
abbrev s_law_pick : Stmt := top 22
theorem sc_law_pick : FnScope ["_law_script", "_law_k", "_law_many", "_law_drawn"] ["_law_script", "_law_k", "_law_many"] (defScope s_law_pick) := ⟨rfl, rfl, rfl, by decide +kernel, rfl, by decide +kernel, by decide +kernel⟩
theorem gl_law_pick__law_cell : (defScope s_law_pick).names.lookup ("_law_cell" : Str) = some NameKind.globalImplicit := by decide +kernel
theorem loc_law_pick__law_drawn : Loc (defScope s_law_pick) "_law_drawn" := Or.inl (by decide +kernel)
theorem vis_law_pick__law_drawn : Vis (defScope s_law_pick) "_law_drawn" := Or.inl (by decide +kernel)
theorem vis_law_pick__law_k : Vis (defScope s_law_pick) "_law_k" := Or.inl (by decide +kernel)
theorem vis_law_pick__law_many : Vis (defScope s_law_pick) "_law_many" := Or.inl (by decide +kernel)
theorem vis_law_pick__law_script : Vis (defScope s_law_pick) "_law_script" := Or.inl (by decide +kernel)
abbrev s_law_reckoned : Stmt := top 23
theorem sc_law_reckoned : FnScope ["_law_word", "_law_one", "_law_other"] ["_law_word", "_law_one", "_law_other"] (defScope s_law_reckoned) := ⟨rfl, rfl, rfl, by decide +kernel, rfl, by decide +kernel, by decide +kernel⟩
theorem gl_law_reckoned_sorted : (defScope s_law_reckoned).names.lookup ("sorted" : Str) = some NameKind.globalImplicit := by decide +kernel
theorem vis_law_reckoned__law_one : Vis (defScope s_law_reckoned) "_law_one" := Or.inl (by decide +kernel)
theorem vis_law_reckoned__law_other : Vis (defScope s_law_reckoned) "_law_other" := Or.inl (by decide +kernel)
theorem vis_law_reckoned__law_word : Vis (defScope s_law_reckoned) "_law_word" := Or.inl (by decide +kernel)
abbrev s_law_side : Stmt := top 27
theorem sc_law_side : FnScope ["_law_script", "_law_at"] ["_law_script", "_law_at"] (defScope s_law_side) := ⟨rfl, rfl, rfl, by decide +kernel, rfl, by decide +kernel, by decide +kernel⟩
theorem gl_law_side__law_pick : (defScope s_law_side).names.lookup ("_law_pick" : Str) = some NameKind.globalImplicit := by decide +kernel
theorem vis_law_side__law_at : Vis (defScope s_law_side) "_law_at" := Or.inl (by decide +kernel)
theorem vis_law_side__law_script : Vis (defScope s_law_side) "_law_script" := Or.inl (by decide +kernel)
abbrev s_law_so : Stmt := top 28
theorem sc_law_so : FnScope ["_law_expr", "_law_book"] ["_law_expr", "_law_book"] (defScope s_law_so) := ⟨rfl, rfl, rfl, by decide +kernel, rfl, by decide +kernel, by decide +kernel⟩
theorem gl_law_so__law_reckoned : (defScope s_law_so).names.lookup ("_law_reckoned" : Str) = some NameKind.globalImplicit := by decide +kernel
theorem gl_law_so__law_so : (defScope s_law_so).names.lookup ("_law_so" : Str) = some NameKind.globalImplicit := by decide +kernel
theorem vis_law_so__law_book : Vis (defScope s_law_so) "_law_book" := Or.inl (by decide +kernel)
theorem vis_law_so__law_expr : Vis (defScope s_law_so) "_law_expr" := Or.inl (by decide +kernel)
abbrev s_law_hull : Stmt := top 29
theorem sc_law_hull : FnScope ["_law_worths"] ["_law_worths"] (defScope s_law_hull) := ⟨rfl, rfl, rfl, by decide +kernel, rfl, by decide +kernel, by decide +kernel⟩
theorem gl_law_hull_max : (defScope s_law_hull).names.lookup ("max" : Str) = some NameKind.globalImplicit := by decide +kernel
theorem gl_law_hull_min : (defScope s_law_hull).names.lookup ("min" : Str) = some NameKind.globalImplicit := by decide +kernel
theorem vis_law_hull__law_worths : Vis (defScope s_law_hull) "_law_worths" := Or.inl (by decide +kernel)
abbrev s_law_once : Stmt := top 30
theorem sc_law_once : FnScope ["_law_script", "_law_book", "_law_k", "_law_name", "_law_low", "_law_expr", "_law_is_so", "_law_fits", "_law_a", "_law_b", "_law_told", "_law_alone", "_law_hulls", "_law_hull_here", "_law_high", "_law_names"] ["_law_script"] (defScope s_law_once) := ⟨rfl, rfl, rfl, by decide +kernel, rfl, by decide +kernel, by decide +kernel⟩
theorem gl_law_once__law_hull : (defScope s_law_once).names.lookup ("_law_hull" : Str) = some NameKind.globalImplicit := by decide +kernel
theorem gl_law_once__law_pick : (defScope s_law_once).names.lookup ("_law_pick" : Str) = some NameKind.globalImplicit := by decide +kernel
theorem gl_law_once__law_side : (defScope s_law_once).names.lookup ("_law_side" : Str) = some NameKind.globalImplicit := by decide +kernel
theorem gl_law_once__law_so : (defScope s_law_once).names.lookup ("_law_so" : Str) = some NameKind.globalImplicit := by decide +kernel
theorem gl_law_once_behind : (defScope s_law_once).names.lookup ("behind" : Str) = some NameKind.globalImplicit := by decide +kernel
theorem gl_law_once_enumerate : (defScope s_law_once).names.lookup ("enumerate" : Str) = some NameKind.globalImplicit := by decide +kernel
theorem gl_law_once_list : (defScope s_law_once).names.lookup ("list" : Str) = some NameKind.globalImplicit := by decide +kernel
theorem gl_law_once_range : (defScope s_law_once).names.lookup ("range" : Str) = some NameKind.globalImplicit := by decide +kernel
theorem gl_law_once_reckoned_from : (defScope s_law_once).names.lookup ("reckoned_from" : Str) = some NameKind.globalImplicit := by decide +kernel
theorem gl_law_once_sorted : (defScope s_law_once).names.lookup ("sorted" : Str) = some NameKind.globalImplicit := by decide +kernel
theorem gl_law_once_zip : (defScope s_law_once).names.lookup ("zip" : Str) = some NameKind.globalImplicit := by decide +kernel
theorem loc_law_once__law_a : Loc (defScope s_law_once) "_law_a" := Or.inl (by decide +kernel)
theorem loc_law_once__law_alone : Loc (defScope s_law_once) "_law_alone" := Or.inl (by decide +kernel)
theorem loc_law_once__law_b : Loc (defScope s_law_once) "_law_b" := Or.inl (by decide +kernel)
theorem loc_law_once__law_book : Loc (defScope s_law_once) "_law_book" := Or.inl (by decide +kernel)
theorem loc_law_once__law_expr : Loc (defScope s_law_once) "_law_expr" := Or.inl (by decide +kernel)
theorem loc_law_once__law_fits : Loc (defScope s_law_once) "_law_fits" := Or.inl (by decide +kernel)
theorem loc_law_once__law_high : Loc (defScope s_law_once) "_law_high" := Or.inl (by decide +kernel)
theorem loc_law_once__law_hull_here : Loc (defScope s_law_once) "_law_hull_here" := Or.inl (by decide +kernel)
theorem loc_law_once__law_hulls : Loc (defScope s_law_once) "_law_hulls" := Or.inl (by decide +kernel)
theorem loc_law_once__law_is_so : Loc (defScope s_law_once) "_law_is_so" := Or.inl (by decide +kernel)
theorem loc_law_once__law_k : Loc (defScope s_law_once) "_law_k" := Or.inl (by decide +kernel)
theorem loc_law_once__law_low : Loc (defScope s_law_once) "_law_low" := Or.inl (by decide +kernel)
theorem loc_law_once__law_name : Loc (defScope s_law_once) "_law_name" := Or.inl (by decide +kernel)
theorem loc_law_once__law_names : Loc (defScope s_law_once) "_law_names" := Or.inl (by decide +kernel)
theorem loc_law_once__law_told : Loc (defScope s_law_once) "_law_told" := Or.inl (by decide +kernel)
theorem vis_law_once__law_a : Vis (defScope s_law_once) "_law_a" := Or.inl (by decide +kernel)
theorem vis_law_once__law_alone : Vis (defScope s_law_once) "_law_alone" := Or.inl (by decide +kernel)
theorem vis_law_once__law_b : Vis (defScope s_law_once) "_law_b" := Or.inl (by decide +kernel)
theorem vis_law_once__law_book : Vis (defScope s_law_once) "_law_book" := Or.inl (by decide +kernel)
theorem vis_law_once__law_expr : Vis (defScope s_law_once) "_law_expr" := Or.inl (by decide +kernel)
theorem vis_law_once__law_fits : Vis (defScope s_law_once) "_law_fits" := Or.inl (by decide +kernel)
theorem vis_law_once__law_high : Vis (defScope s_law_once) "_law_high" := Or.inl (by decide +kernel)
theorem vis_law_once__law_hull_here : Vis (defScope s_law_once) "_law_hull_here" := Or.inl (by decide +kernel)
theorem vis_law_once__law_hulls : Vis (defScope s_law_once) "_law_hulls" := Or.inl (by decide +kernel)
theorem vis_law_once__law_is_so : Vis (defScope s_law_once) "_law_is_so" := Or.inl (by decide +kernel)
theorem vis_law_once__law_k : Vis (defScope s_law_once) "_law_k" := Or.inl (by decide +kernel)
theorem vis_law_once__law_low : Vis (defScope s_law_once) "_law_low" := Or.inl (by decide +kernel)
theorem vis_law_once__law_name : Vis (defScope s_law_once) "_law_name" := Or.inl (by decide +kernel)
theorem vis_law_once__law_names : Vis (defScope s_law_once) "_law_names" := Or.inl (by decide +kernel)
theorem vis_law_once__law_script : Vis (defScope s_law_once) "_law_script" := Or.inl (by decide +kernel)
theorem vis_law_once__law_told : Vis (defScope s_law_once) "_law_told" := Or.inl (by decide +kernel)
abbrev s_law : Stmt := top 31
theorem sc_law : FnScope ["_law_script", "_law_turn"] ["_law_script"] (defScope s_law) := ⟨rfl, rfl, rfl, by decide +kernel, rfl, by decide +kernel, by decide +kernel⟩
theorem gl_law__law_once : (defScope s_law).names.lookup ("_law_once" : Str) = some NameKind.globalImplicit := by decide +kernel
theorem gl_law_range : (defScope s_law).names.lookup ("range" : Str) = some NameKind.globalImplicit := by decide +kernel
theorem loc_law__law_turn : Loc (defScope s_law) "_law_turn" := Or.inr (by decide +kernel)
theorem vis_law__law_script : Vis (defScope s_law) "_law_script" := Or.inl (by decide +kernel)
/-! ### the readings of loops and comprehensions, folded -/
abbrev ForW (J : It) (g : TG) (tb : TS) (D : Ends) (σ : St) (H : Hp) : Prop := ∃ W : Nat → Nat → St → Hp → Prop, (∃ m, W 0 m σ H) ∧ ∀ i m σ H, W i m σ H →
  (J.stop i H ∧ D.nx σ H) ∨ (J.go i H ∧ ∃ N : St → Hp → Prop, (∀ σ' H', N σ' H' → ∃ m', m' < m ∧ W (i + 1) m' σ' H') ∧ ∀ x H', J.yld i H x H' → g x σ H' fun σ2 H2 => tb { D with nx := N, ct := N, bk := D.nx } σ2 H2)
theorem tFor_tup {K : PySem.W.Frag} {tl : TE} {g : TG} {tb : TS} {D : Ends} {σ : St} {H : Hp} : tFor (iTup K tl) g tb D σ H = tl σ H fun x H1 => ∃ a, x = .ref a ∧ (∃ xs, SqT K H1 a xs) ∧ ForW (Itt K a) g tb D σ H1 := rfl
theorem tFor_list {K : PySem.W.Frag} {tl : TE} {g : TG} {tb : TS} {D : Ends} {σ : St} {H : Hp} : tFor (iList K tl) g tb D σ H = tl σ H fun x H1 => ∃ a, x = .ref a ∧ (∃ xs, SqL K H1 a xs) ∧ ForW (Itl K a) g tb D σ H1 := rfl
theorem tFor_rng1 {ta : TA} {g : TG} {tb : TS} {D : Ends} {σ : St} {H : Hp} : tFor (iRng1 ta) g tb D σ H = ta σ H fun vs H1 => ∃ j : Int, vs = [.int j] ∧ -(2 ^ 62) ≤ j ∧ j < 2 ^ 62 ∧ ForW (Itr 0 j.toNat) g tb D σ H1 := rfl
theorem tComp_tup {K : PySem.W.Frag} {tl : TE} {g : TG} {tt : TT} {te : TE} {mp : List (Option Nat)} {σ : St} {H : Hp} {Q : VK} : tComp (iTup K tl) g tt te mp σ H Q = tl σ H fun x H1 => ∃ a, x = .ref a ∧ (∃ xs, SqT K H1 a xs) ∧ CompW (Itt K a) g tt te Q (subσ mp σ) H1 := rfl
theorem tComp_list {K : PySem.W.Frag} {tl : TE} {g : TG} {tt : TT} {te : TE} {mp : List (Option Nat)} {σ : St} {H : Hp} {Q : VK} : tComp (iList K tl) g tt te mp σ H Q = tl σ H fun x H1 => ∃ a, x = .ref a ∧ (∃ xs, SqL K H1 a xs) ∧ CompW (Itl K a) g tt te Q (subσ mp σ) H1 := rfl
theorem tComp_str {tl : TE} {g : TG} {tt : TT} {te : TE} {mp : List (Option Nat)} {σ : St} {H : Hp} {Q : VK} : tComp (iStr tl) g tt te mp σ H Q = tl σ H fun x H1 => ∃ z, x = .str z ∧ CompW (Its z) g tt te Q (subσ mp σ) H1 := rfl
/-! ### programs as data -/
inductive Wd where
  | add | sub | mul | quo | less | same | min | max
  deriving DecidableEq
def Wd.str : Wd → Str
  | .add => "add" | .sub => "sub" | .mul => "mul" | .quo => "quo" | .less => "less" | .same => "same" | .min => "min" | .max => "max"
inductive T where
  | num (i : Int) | nm (x : Str) | op (w : Wd) (a b : T)
def T.enc : T → Dm
  | .num i => .tup [.str "num", .int i]
  | .nm x => .tup [.str "name", .str x]
  | .op w a b => .tup [.str w.str, a.enc, b.enc]
/-- so deep at most, of these names, its numbers in the wide room -/
def T.ok (g : List Str) : Nat → T → Prop
  | 0, _ => False
  | _ + 1, .num i => -32768 ≤ i ∧ i ≤ 32767
  | _ + 1, .nm x => x ∈ g
  | n + 1, .op _ a b => T.ok g n a ∧ T.ok g n b
theorem T.ok.mono {g g' : List Str} (hg : ∀ x ∈ g, x ∈ g') : ∀ {n m : Nat} {t : T}, T.ok g n t → n ≤ m → T.ok g' m t
  | 0, _, _, h, _ => h.elim
  | n + 1, 0, _, _, h => absurd h (by omega)
  | n + 1, m + 1, .num i, h, _ => h
  | n + 1, m + 1, .nm x, h, _ => hg x h
  | n + 1, m + 1, .op w a b, h, hm => ⟨T.ok.mono hg h.1 (by omega), T.ok.mono hg h.2 (by omega)⟩
inductive D where
  | set (x : Str) (t : T) | ite (t : T) (b c : List D) | whl (t : T) (m : Int) (b : List D)
mutual
def D.enc : D → Dm
  | .set x t => .tup [.str "set", .str x, t.enc]
  | .ite t b c => .tup [.str "if", t.enc, .tup (encB b), .tup (encB c)]
  | .whl t m b => .tup [.str "while", t.enc, .int m, .tup (encB b)]
def encB : List D → List Dm
  | [] => []
  | d :: r => d.enc :: encB r
end
def pool : List Str := ["a", "b", "c", "dd"]
/-- blocks so deep at most -/
def okB : Nat → List D → Prop
  | 0, _ => False
  | n + 1, b => b.length ≤ 6 ∧ ∀ d ∈ b, match d with
    | .set x t => x ∈ pool ∧ t.ok pool 5
    | .ite t b c => t.ok pool 5 ∧ okB n b ∧ okB n c
    | .whl t m b => t.ok pool 5 ∧ 0 ≤ m ∧ m ≤ 20 ∧ okB n b
abbrev okD (n : Nat) (d : D) : Prop := match d with
  | .set x t => x ∈ pool ∧ t.ok pool 5
  | .ite t b c => t.ok pool 5 ∧ okB n b ∧ okB n c
  | .whl t m b => t.ok pool 5 ∧ 0 ≤ m ∧ m ≤ 20 ∧ okB n b
/-! what is known, as the program tells it -/
def T.knows (p : List Str) : T → Bool
  | .num _ => true
  | .nm x => p.contains x
  | .op _ a b => a.knows p && b.knows p
mutual
def kbD (p : List Str) : D → Option (List Str)
  | .set x t => if t.knows p then some (p ++ [x]) else none
  | .ite t b c => if t.knows p then (match kbB p b, kbB p c with | some q, some r => some (q.filter fun x => r.contains x) | _, _ => none) else none
  | .whl t _ b => if t.knows p then (match kbB p b with | some _ => some p | none => none) else none
def kbB (p : List Str) : List D → Option (List Str)
  | [] => some p
  | d :: r => match kbD p d with
    | some q => kbB q r
    | none => none
end
theorem kbB_append (p : List Str) : ∀ (b c : List D), kbB p (b ++ c) = match kbB p b with | some q => kbB q c | none => none
  | [], c => by simp [kbB]
  | d :: b, c => by
    rw [List.cons_append, kbB, kbB]
    cases kbD p d with
    | none => rfl
    | some q => exact kbB_append q b c
def Sub (g p : List Str) : Prop := ∀ x ∈ g, x ∈ p
theorem Sub.refl (g : List Str) : Sub g g := fun _ h => h
theorem Sub.trans {a b c : List Str} (h : Sub a b) (k : Sub b c) : Sub a c := fun x hx => k x (h x hx)
theorem T.ok.knows {g p : List Str} (hg : Sub g p) : ∀ {n : Nat} {t : T}, T.ok g n t → t.knows p = true
  | 0, _, h => h.elim
  | n + 1, .num i, _ => rfl
  | n + 1, .nm x, h => by simpa [T.knows] using hg x h
  | n + 1, .op w a b, h => by simp [T.knows, T.ok.knows hg h.1, T.ok.knows hg h.2]
/-- with g known ahead, a block is gone through, and g' is known behind -/
def Knows (g : List Str) (b : List D) (g' : List Str) : Prop := ∀ p, Sub g p → ∃ q, kbB p b = some q ∧ Sub g' q ∧ Sub p q
def KnowsD (g : List Str) (d : D) (g' : List Str) : Prop := ∀ p, Sub g p → ∃ q, kbD p d = some q ∧ Sub g' q ∧ Sub p q
theorem Knows.nil (g : List Str) : Knows g [] g := fun p h => ⟨p, by simp [kbB], h, Sub.refl p⟩
theorem Knows.snoc {g g1 g2 : List Str} {b : List D} {d : D} (h : Knows g b g1) (k : KnowsD g1 d g2) : Knows g (b ++ [d]) g2 := fun p hp => by
  obtain ⟨q, e, s1, s2⟩ := h p hp
  obtain ⟨r, e2, s3, s4⟩ := k q s1
  refine ⟨r, ?_, s3, s2.trans s4⟩
  rw [kbB_append, e]
  simp [kbB, e2]
theorem KnowsD.set {g g' : List Str} {x : Str} {t : T} {n : Nat} (ht : t.ok g n) (hs : ∀ y ∈ g', y ∈ g ∨ y = x) : KnowsD g (.set x t) g' := fun p hp => by
  refine ⟨p ++ [x], by simp [kbD, ht.knows hp], fun y hy => ?_, fun y hy => List.mem_append_left _ hy⟩
  rcases hs y hy with z | z
  · exact List.mem_append_left _ (hp y z)
  · exact List.mem_append_right _ (by simp [z])
theorem KnowsD.ite {g m y g' : List Str} {t : T} {b c : List D} {n : Nat} (ht : t.ok g n) (hb : Knows g b m) (hc : Knows g c y) (hs : ∀ x ∈ g', x ∈ m ∧ x ∈ y) : KnowsD g (.ite t b c) g' := fun p hp => by
  obtain ⟨q, e, s1, s2⟩ := hb p hp
  obtain ⟨r, e2, s3, s4⟩ := hc p hp
  refine ⟨q.filter fun x => r.contains x, by simp [kbD, ht.knows hp, e, e2], fun x hx => ?_, fun x hx => ?_⟩
  · exact List.mem_filter.mpr ⟨s1 x (hs x hx).1, by simpa using s3 x (hs x hx).2⟩
  · exact List.mem_filter.mpr ⟨s2 x hx, by simpa using s4 x hx⟩
theorem KnowsD.whl {g g1 : List Str} {t : T} {m : Int} {b : List D} {n : Nat} (ht : t.ok g n) (hb : Knows g b g1) : KnowsD g (.whl t m b) g := fun p hp => by
  obtain ⟨q, e, s1, s2⟩ := hb p hp
  exact ⟨p, by simp [kbD, ht.knows hp, e], hp, Sub.refl p⟩
theorem Knows.sub {g g1 : List Str} {b : List D} (h : Knows g b g1) : Knows g b g := fun p hp => by
  obtain ⟨q, e, s1, s2⟩ := h p hp
  exact ⟨q, e, hp.trans s2, s2⟩
/-! ### small facts for the readings -/
theorem atI_lt {xs : List V} {k : Int} (h0 : 0 ≤ k) (h : k < (xs.length : Int)) : ∃ v, xs[k.toNat]? = some v ∧ atI xs k = some v := by
  have hk : k.toNat < xs.length := by omega
  have ek : k = ((k.toNat : Nat) : Int) := by omega
  refine ⟨xs[k.toNat], List.getElem?_eq_getElem hk, ?_⟩
  have q : atI xs ((k.toNat : Nat) : Int) = some xs[k.toNat] := atI_nat (List.getElem?_eq_getElem hk)
  rw [← ek] at q
  exact q
theorem atI_map {α : Type} {c : α → V} {ns : List α} {k : Int} (h0 : 0 ≤ k) (h : k < (ns.length : Int)) : ∃ v ∈ ns, atI (ns.map c) k = some (c v) := by
  obtain ⟨v, e1, e2⟩ := atI_lt (xs := ns.map c) h0 (by rw [List.length_map]; exact h)
  rw [List.getElem?_map] at e1
  cases e : ns[k.toNat]? with
  | none => rw [e] at e1; cases e1
  | some i => rw [e] at e1; cases e1; exact ⟨i, List.mem_of_getElem? e, e2⟩
theorem okInts (ns : List Int) : (ns.map V.int).all okV = true := by simp [okV]
theorem zl (n : Nat) (h : n ≤ 1000) : n ≤ sizeLine := Nat.le_of_lt (small1000 h)
theorem lenL {K : PySem.W.Frag} {H : Hp} {a : Addr} {xs : List V} (h : SqL K H a xs) : LenOf K (.ref a) H xs.length := .inl ⟨a, xs, rfl, .inl h, rfl⟩
theorem eqNil {K : PySem.W.Frag} {H : Hp} {a p : Addr} {xs : List V} (h : SqL K H a xs) (ho : xs.all okV = true) (hp : SqL K H p []) : EqOf K (.ref a) (.ref p) H xs.isEmpty := .inr (.inl ⟨a, p, xs, [], rfl, rfl, h, hp, ho, rfl, (eqL_nil xs).symm⟩)
/-! ### words and stretches, as numbers -/
def Wd.worth : Wd → Int → Int → Int
  | .add, a, b => a + b
  | .sub, a, b => a - b
  | .mul, a, b => a * b
  | .quo, a, b => a.fdiv b
  | .less, a, b => if a < b then 1 else 0
  | .same, a, b => if a = b then 1 else 0
  | .min, a, b => if b < a then b else a
  | .max, a, b => if b > a then b else a
def Btw (l v h : Int) : Prop := (l ≤ v ∧ v ≤ h) ∨ (h ≤ v ∧ v ≤ l)
theorem fdiv_neg' (x y : Int) (hy : y < 0) : x.fdiv y = (-x) / (-y) := by
  rw [← Int.neg_fdiv_neg, Int.fdiv_eq_ediv_of_nonneg _ (by omega)]
theorem ediv_mono_r {x y z : Int} (hy : 0 < y) (h : y ≤ z) : (0 ≤ x → x / z ≤ x / y) ∧ (x < 0 → x / y ≤ x / z) := by
  have hz : 0 < z := by omega
  constructor
  · intro hx
    rw [Int.le_ediv_iff_mul_le hy]
    have h0 : 0 ≤ x / z := Int.ediv_nonneg hx (by omega)
    have h1 : x / z * y ≤ x / z * z := Int.mul_le_mul_of_nonneg_left h h0
    have h2 : x / z * z ≤ x := Int.ediv_mul_le x (by omega)
    omega
  · intro hx
    rw [Int.le_ediv_iff_mul_le hz]
    have h0 : x / y < 0 := Int.ediv_neg_of_neg_of_pos hx hy
    have h1 : x / y * z ≤ x / y * y := by
      have := Int.mul_le_mul_of_nonneg_left h (show 0 ≤ -(x / y) by omega)
      rw [Int.neg_mul, Int.neg_mul] at this
      omega
    have h2 : x / y * y ≤ x := Int.ediv_mul_le x (by omega)
    omega
/-- no 0 in what is divided by -/
def Sgn (w : Wd) (c d : Int) : Prop := w = .quo → (0 < c ∨ d < 0)
theorem btw1 {w : Wd} (hs : w ≠ .same) {a b x c d y : Int} (h1 : a ≤ x) (h2 : x ≤ b) (h3 : c ≤ y) (h4 : y ≤ d) (hq : Sgn w c d) : Btw (w.worth a y) (w.worth x y) (w.worth b y) := by
  cases w <;> simp only [Wd.worth, Btw]
  · omega
  · omega
  · rcases Int.le_total 0 y with h | h
    · exact .inl ⟨Int.mul_le_mul_of_nonneg_right h1 h, Int.mul_le_mul_of_nonneg_right h2 h⟩
    · exact .inr ⟨Int.mul_le_mul_of_nonpos_right h2 h, Int.mul_le_mul_of_nonpos_right h1 h⟩
  · rcases hq rfl with h | h
    · have hy : 0 < y := by omega
      rw [Int.fdiv_eq_ediv_of_nonneg _ (by omega), Int.fdiv_eq_ediv_of_nonneg _ (by omega), Int.fdiv_eq_ediv_of_nonneg _ (by omega)]
      exact .inl ⟨Int.ediv_le_ediv hy h1, Int.ediv_le_ediv hy h2⟩
    · have hy : y < 0 := by omega
      rw [fdiv_neg' _ _ hy, fdiv_neg' _ _ hy, fdiv_neg' _ _ hy]
      exact .inr ⟨Int.ediv_le_ediv (by omega) (by omega), Int.ediv_le_ediv (by omega) (by omega)⟩
  · right; constructor <;> (repeat' split) <;> omega
  · exact absurd rfl hs
  · left; constructor <;> (repeat' split) <;> omega
  · left; constructor <;> (repeat' split) <;> omega
theorem btw2 {w : Wd} (hs : w ≠ .same) {x c d y : Int} (h3 : c ≤ y) (h4 : y ≤ d) (hq : Sgn w c d) : Btw (w.worth x c) (w.worth x y) (w.worth x d) := by
  cases w <;> simp only [Wd.worth, Btw]
  · omega
  · omega
  · rcases Int.le_total 0 x with h | h
    · exact .inl ⟨Int.mul_le_mul_of_nonneg_left h3 h, Int.mul_le_mul_of_nonneg_left h4 h⟩
    · exact .inr ⟨Int.mul_le_mul_of_nonpos_left h h4, Int.mul_le_mul_of_nonpos_left h h3⟩
  · rcases hq rfl with h | h
    · rw [Int.fdiv_eq_ediv_of_nonneg _ (by omega), Int.fdiv_eq_ediv_of_nonneg _ (by omega), Int.fdiv_eq_ediv_of_nonneg _ (by omega)]
      rcases (show x < 0 ∨ 0 ≤ x by omega) with hx | hx
      · exact .inl ⟨(ediv_mono_r (by omega) h3).2 hx, (ediv_mono_r (by omega) h4).2 hx⟩
      · exact .inr ⟨(ediv_mono_r (by omega) h4).1 hx, (ediv_mono_r (by omega) h3).1 hx⟩
    · rw [fdiv_neg' _ _ (by omega), fdiv_neg' _ _ (by omega), fdiv_neg' _ _ (by omega)]
      rcases (show -x < 0 ∨ 0 ≤ -x by omega) with hx | hx
      · exact .inr ⟨(ediv_mono_r (by omega) (by omega)).2 hx, (ediv_mono_r (by omega) (by omega)).2 hx⟩
      · exact .inl ⟨(ediv_mono_r (by omega) (by omega)).1 hx, (ediv_mono_r (by omega) (by omega)).1 hx⟩
  · left; constructor <;> (repeat' split) <;> omega
  · exact absurd rfl hs
  · left; constructor <;> (repeat' split) <;> omega
  · left; constructor <;> (repeat' split) <;> omega
/-- a stretch: none, or from low to high -/
abbrev S := Option (Int × Int)
/-- what the word comes to for worths of two stretches -/
def Val (w : Wd) (a b c d v : Int) : Prop := ∃ x y, a ≤ x ∧ x ≤ b ∧ c ≤ y ∧ y ≤ d ∧ (w = .quo → y ≠ 0) ∧ v = w.worth x y
/-- .. at ends -/
def ValE (w : Wd) (a b c d v : Int) : Prop := ∃ x y, (x = a ∨ x = b) ∧ (y = c ∨ y = d ∨ y = -1 ∨ y = 1) ∧ a ≤ x ∧ x ≤ b ∧ c ≤ y ∧ y ≤ d ∧ (w = .quo → y ≠ 0) ∧ v = w.worth x y
/-- the least stretch of these -/
def IsS (w : Wd) (a b c d : Int) (r : S) : Prop := match r with
  | none => ∀ v, ¬ Val w a b c d v
  | some (lo, hi) => Val w a b c d lo ∧ Val w a b c d hi ∧ (∀ v, Val w a b c d v → lo ≤ v ∧ v ≤ hi) ∧ (w ≠ .same → ValE w a b c d lo ∧ ValE w a b c d hi)
theorem ValE.val {w : Wd} {a b c d v : Int} (h : ValE w a b c d v) : Val w a b c d v := by
  obtain ⟨x, y, _, _, h1, h2, h3, h4, h5, h6⟩ := h
  exact ⟨x, y, h1, h2, h3, h4, h5, h6⟩
theorem Val.mono {w : Wd} {a b c d a' b' c' d' v : Int} (h : Val w a b c d v) (h1 : a' ≤ a) (h2 : b ≤ b') (h3 : c' ≤ c) (h4 : d ≤ d') : Val w a' b' c' d' v := by
  obtain ⟨x, y, k1, k2, k3, k4, k5, k6⟩ := h
  exact ⟨x, y, by omega, by omega, by omega, by omega, k5, k6⟩
/-- the least and the greatest of some -/
structure Hull (ns : List Int) (lo hi : Int) : Prop where
  l : lo ∈ ns
  h : hi ∈ ns
  all : ∀ a ∈ ns, lo ≤ a ∧ a ≤ hi
def corners (w : Wd) (a b c d : Int) : List Int := [w.worth a c, w.worth b c, w.worth a d, w.worth b d]
theorem ends_all {w : Wd} (hs : w ≠ .same) {a b c d lo hi : Int} (hcd : c ≤ d) (hq : Sgn w c d) (h : Hull (corners w a b c d) lo hi) {v : Int} (hv : Val w a b c d v) : lo ≤ v ∧ v ≤ hi := by
  obtain ⟨x, y, h1, h2, h3, h4, _, rfl⟩ := hv
  have k1 := h.all (w.worth a c) (by simp [corners])
  have k2 := h.all (w.worth b c) (by simp [corners])
  have k3 := h.all (w.worth a d) (by simp [corners])
  have k4 := h.all (w.worth b d) (by simp [corners])
  have e := btw1 hs h1 h2 h3 h4 hq
  have ea := btw2 hs (x := a) h3 h4 hq
  have eb := btw2 hs (x := b) h3 h4 hq
  simp only [Btw] at e ea eb
  omega
theorem corner_val {w : Wd} {a b c d v : Int} (hab : a ≤ b) (hcd : c ≤ d) (hq : Sgn w c d) (h : v ∈ corners w a b c d) : ValE w a b c d v := by
  have hc : w = .quo → c ≠ 0 := fun e => by rcases hq e with z | z <;> omega
  have hd : w = .quo → d ≠ 0 := fun e => by rcases hq e with z | z <;> omega
  simp only [corners, List.mem_cons, List.not_mem_nil, or_false] at h
  rcases h with rfl | rfl | rfl | rfl
  · exact ⟨a, c, .inl rfl, .inl rfl, Int.le_refl _, hab, Int.le_refl _, hcd, hc, rfl⟩
  · exact ⟨b, c, .inr rfl, .inl rfl, hab, Int.le_refl _, Int.le_refl _, hcd, hc, rfl⟩
  · exact ⟨a, d, .inl rfl, .inr (.inl rfl), Int.le_refl _, hab, hcd, Int.le_refl _, hd, rfl⟩
  · exact ⟨b, d, .inr rfl, .inr (.inl rfl), hab, Int.le_refl _, hcd, Int.le_refl _, hd, rfl⟩
theorem ends_isS {w : Wd} (hs : w ≠ .same) {a b c d lo hi : Int} (hab : a ≤ b) (hcd : c ≤ d) (hq : Sgn w c d) (h : Hull (corners w a b c d) lo hi) : IsS w a b c d (some (lo, hi)) :=
  ⟨(corner_val hab hcd hq h.l).val, (corner_val hab hcd hq h.h).val, fun _ hv => ends_all hs hcd hq h hv, fun _ => ⟨corner_val hab hcd hq h.l, corner_val hab hcd hq h.h⟩⟩
def bet (l h : Int) : S := if l > h then none else some (l, h)
def mn (i j : Int) : Int := if j < i then j else i
def mx (i j : Int) : Int := if j > i then j else i
def join : S → S → S
  | none, y => y
  | x, none => x
  | some (a, b), some (c, d) => some (mn a c, mx b d)
def meet : S → S → S
  | none, _ => none
  | _, none => none
  | some (a, b), some (c, d) => bet (mx a c) (mn b d)
def within (x y : S) : Bool := decide (meet x y = x)
/-- the stretch by ends, of a part of what is divided by -/
def IsE (w : Wd) (a b : Int) (o r : S) : Prop := match o with
  | none => r = none
  | some (c, d) => ∃ lo hi, r = some (lo, hi) ∧ Hull (corners w a b c d) lo hi
theorem quo_isS {a b c d : Int} (hab : a ≤ b) (hcd : c ≤ d) {r1 r2 : S} (h1 : IsE .quo a b (bet c (mn d (-1))) r1) (h2 : IsE .quo a b (bet (mx c 1) d) r2) : IsS .quo a b c d (join r1 r2) := by
  have hmn : mn d (-1) ≤ d ∧ mn d (-1) ≤ -1 ∧ (mn d (-1) = d ∨ mn d (-1) = -1) := by unfold mn; split <;> omega
  have hmx : c ≤ mx c 1 ∧ 1 ≤ mx c 1 ∧ (mx c 1 = c ∨ mx c 1 = 1) := by unfold mx; split <;> omega
  have split : ∀ v, Val .quo a b c d v → Val .quo a b c (mn d (-1)) v ∨ Val .quo a b (mx c 1) d v := by
    rintro v ⟨x, y, k1, k2, k3, k4, k5, k6⟩
    have := k5 rfl
    rcases Int.lt_or_gt_of_ne this with z | z
    · exact .inl ⟨x, y, k1, k2, k3, by unfold mn; split <;> omega, k5, k6⟩
    · exact .inr ⟨x, y, k1, k2, by unfold mx; split <;> omega, k4, k5, k6⟩
  have e1 : ∀ v, Val .quo a b c (mn d (-1)) v → Val .quo a b c d v := fun v h => h.mono (Int.le_refl _) (Int.le_refl _) (Int.le_refl _) hmn.1
  have e2 : ∀ v, Val .quo a b (mx c 1) d v → Val .quo a b c d v := fun v h => h.mono (Int.le_refl _) (Int.le_refl _) hmx.1 (Int.le_refl _)
  have f1 : ∀ v, ValE .quo a b c (mn d (-1)) v → ValE .quo a b c d v := by
    rintro v ⟨x, y, k1, k2, k3, k4, k5, k6, k7⟩
    exact ⟨x, y, k1, by omega, k3, k4, k5, by omega, k7⟩
  have f2 : ∀ v, ValE .quo a b (mx c 1) d v → ValE .quo a b c d v := by
    rintro v ⟨x, y, k1, k2, k3, k4, k5, k6, k7⟩
    exact ⟨x, y, k1, by omega, k3, k4, by omega, k6, k7⟩
  have g1 : ∀ v, c > mn d (-1) → ¬ Val .quo a b c (mn d (-1)) v := by
    rintro v h ⟨x, y, k1, k2, k3, k4, _⟩; omega
  have g2 : ∀ v, mx c 1 > d → ¬ Val .quo a b (mx c 1) d v := by
    rintro v h ⟨x, y, k1, k2, k3, k4, _⟩; omega
  by_cases q1 : c > mn d (-1)
  · rw [show bet c (mn d (-1)) = none from if_pos q1] at h1
    have hr1 : r1 = none := h1
    subst hr1
    by_cases q2 : mx c 1 > d
    · rw [show bet (mx c 1) d = none from if_pos q2] at h2
      have hr2 : r2 = none := h2
      subst hr2
      intro v hv
      rcases split v hv with z | z
      · exact g1 v q1 z
      · exact g2 v q2 z
    · rw [show bet (mx c 1) d = some (mx c 1, d) from if_neg q2] at h2
      obtain ⟨lo, hi, rfl, hh⟩ := h2
      have I := ends_isS (w := .quo) (fun z => nomatch z) hab (by omega) (fun _ => .inl (by omega)) hh
      refine ⟨e2 _ I.1, e2 _ I.2.1, fun v hv => ?_, fun n => ⟨f2 _ (I.2.2.2 n).1, f2 _ (I.2.2.2 n).2⟩⟩
      rcases split v hv with z | z
      · exact absurd z (g1 v q1)
      · exact I.2.2.1 v z
  · rw [show bet c (mn d (-1)) = some (c, mn d (-1)) from if_neg q1] at h1
    obtain ⟨lo, hi, rfl, hh⟩ := h1
    have I := ends_isS (w := .quo) (fun z => nomatch z) hab (by omega) (fun _ => .inr (by omega)) hh
    by_cases q2 : mx c 1 > d
    · rw [show bet (mx c 1) d = none from if_pos q2] at h2
      have hr2 : r2 = none := h2
      subst hr2
      refine ⟨e1 _ I.1, e1 _ I.2.1, fun v hv => ?_, fun n => ⟨f1 _ (I.2.2.2 n).1, f1 _ (I.2.2.2 n).2⟩⟩
      rcases split v hv with z | z
      · exact I.2.2.1 v z
      · exact absurd z (g2 v q2)
    · rw [show bet (mx c 1) d = some (mx c 1, d) from if_neg q2] at h2
      obtain ⟨lo', hi', rfl, hh'⟩ := h2
      have J := ends_isS (w := .quo) (fun z => nomatch z) hab (by omega) (fun _ => .inl (by omega)) hh'
      have p1 : mn lo lo' = lo ∨ mn lo lo' = lo' := by unfold mn; split <;> omega
      have p2 : mx hi hi' = hi ∨ mx hi hi' = hi' := by unfold mx; split <;> omega
      have p3 : mn lo lo' ≤ lo ∧ mn lo lo' ≤ lo' := by unfold mn; split <;> omega
      have p4 : hi ≤ mx hi hi' ∧ hi' ≤ mx hi hi' := by unfold mx; split <;> omega
      refine ⟨?_, ?_, fun v hv => ?_, fun n => ⟨?_, ?_⟩⟩
      · rcases p1 with z | z <;> rw [z]
        · exact e1 _ I.1
        · exact e2 _ J.1
      · rcases p2 with z | z <;> rw [z]
        · exact e1 _ I.2.1
        · exact e2 _ J.2.1
      · rcases split v hv with z | z
        · have := I.2.2.1 v z; omega
        · have := J.2.2.1 v z; omega
      · rcases p1 with z | z <;> rw [z]
        · exact f1 _ (I.2.2.2 n).1
        · exact f2 _ (J.2.2.2 n).1
      · rcases p2 with z | z <;> rw [z]
        · exact f1 _ (I.2.2.2 n).2
        · exact f2 _ (J.2.2.2 n).2
theorem same_isS {a b c d : Int} (hab : a ≤ b) (hcd : c ≤ d) : IsS .same a b c d (some (if (a = c ∧ b = d) ∧ a = b then 1 else 0, if meet (some (a, b)) (some (c, d)) ≠ none then 1 else 0)) := by
  have hm : (meet (some (a, b)) (some (c, d)) ≠ none) ↔ (a ≤ d ∧ c ≤ b) := by
    show bet (mx a c) (mn b d) ≠ none ↔ _
    unfold bet mx mn
    constructor
    · intro h
      by_cases q : (if c > a then c else a) > (if d < b then d else b)
      · rw [if_pos q] at h; exact absurd rfl h
      · revert q; (repeat' split) <;> omega
    · intro h
      rw [if_neg]
      · exact fun z => nomatch z
      · (repeat' split) <;> omega
  refine ⟨?_, ?_, ?_, fun n => absurd rfl n⟩
  · by_cases q : (a = c ∧ b = d) ∧ a = b
    · rw [if_pos q]
      exact ⟨a, c, Int.le_refl _, hab, Int.le_refl _, hcd, (fun z => nomatch z), by simp only [Wd.worth]; rw [if_pos q.1.1]⟩
    · rw [if_neg q]
      by_cases k : a = c
      · by_cases k2 : b = d
        · exact ⟨a, d, Int.le_refl _, hab, hcd, Int.le_refl _, (fun z => nomatch z), by simp only [Wd.worth]; rw [if_neg]; omega⟩
        · by_cases k3 : a = b
          · exact ⟨a, d, Int.le_refl _, hab, hcd, Int.le_refl _, (fun z => nomatch z), by simp only [Wd.worth]; rw [if_neg]; omega⟩
          · exact ⟨b, c, hab, Int.le_refl _, Int.le_refl _, hcd, (fun z => nomatch z), by simp only [Wd.worth]; rw [if_neg]; omega⟩
      · exact ⟨a, c, Int.le_refl _, hab, Int.le_refl _, hcd, (fun z => nomatch z), by simp only [Wd.worth]; rw [if_neg k]⟩
  · by_cases q : meet (some (a, b)) (some (c, d)) ≠ none
    · rw [if_pos q]
      have q2 := hm.mp q
      by_cases k : a ≤ c
      · exact ⟨c, c, by omega, by omega, by omega, by omega, (fun z => nomatch z), by simp [Wd.worth]⟩
      · exact ⟨a, a, by omega, by omega, by omega, by omega, (fun z => nomatch z), by simp [Wd.worth]⟩
    · rw [if_neg q]
      refine ⟨a, c, by omega, by omega, by omega, by omega, (fun z => nomatch z), ?_⟩
      simp only [Wd.worth]
      rw [if_neg]
      intro k
      exact q (hm.mpr (by omega))
  · rintro v ⟨x, y, k1, k2, k3, k4, _, rfl⟩
    simp only [Wd.worth]
    by_cases q : (a = c ∧ b = d) ∧ a = b
    · have : x = y := by omega
      rw [if_pos q, if_pos this, if_pos (hm.mpr (by omega))]
      omega
    · rw [if_neg q]
      by_cases k : x = y
      · rw [if_pos k, if_pos (hm.mpr (by omega))]; omega
      · rw [if_neg k]; split <;> omega
/-! ### hulls of lists -/
def IsH (w : Wd) (a b c d : Int) (r : S) : Prop := match r with
  | none => ∀ v, ¬ Val w a b c d v
  | some (lo, hi) => Val w a b c d lo ∧ Val w a b c d hi ∧ ∀ v, Val w a b c d v → lo ≤ v ∧ v ≤ hi
/-- the stretch of a list's numbers -/
def HullS (ns : List Int) (r : S) : Prop := match r with
  | none => ns = []
  | some (lo, hi) => Hull ns lo hi
def rng (lo : Int) (n : Nat) : List Int := (List.range n).map fun (i : Nat) => lo + (i : Int)
def fitL (w : Wd) (ys : List Int) : List Int := ys.filter fun y => decide (w ≠ .quo) || decide (y ≠ 0)
def allW (w : Wd) (xs ys : List Int) : List Int := xs.flatMap fun x => (fitL w ys).map (w.worth x)
def inBoth (xs ys : List Int) : List Int := xs.filter fun x => ys.contains x
def inOne (xs ys : List Int) : List Int := xs.filter fun x => !ys.contains x
theorem cxOf_K (CX : CXT) (P : Program) (w : World) (K : PySem.W.Frag) (mg : Str → Option Value) (base : Heap) (N : List Str) (qual : Str) (scope : Scope) (f : Addr) (cd : Value) (A : Around) (outer : List Env) (s : Shared) (H : Hp) (E : XK) : (cxOf CX P w K mg base N qual scope f cd A outer s H E).K = K := rfl
theorem cxOf_nox_K (CX : CXT) (P : Program) (w : World) (K : PySem.W.Frag) (mg : Str → Option Value) (base : Heap) (N : List Str) (qual : Str) (scope : Scope) (f : Addr) (cd : Value) (A : Around) (outer : List Env) (s : Shared) (H : Hp) (E : XK) : (cxOf CX P w K mg base N qual scope f cd A outer s H E).nox.K = K := rfl
theorem cxComp_K (X : Cx) (N' : List Str) (scope : Scope) (cl : List (Str × Addr)) (C : Addr) (s₀ : Shared) (H₀ : Hp) (ex : List Addr) : (cxComp X N' scope cl C s₀ H₀ ex).K = X.K := rfl
theorem tFor_enum {K : PySem.W.Frag} {ta : TA} {g : TG} {tb : TS} {D : Ends} {σ : St} {H : Hp} : tFor (iEnum K ta) g tb D σ H = ta σ H fun vs H1 => ∃ a, vs = [.ref a] ∧ (∃ xs, SqL K H1 a xs) ∧ ForW (Ite K a) g tb D σ H1 := rfl
theorem tFor_zip {K : PySem.W.Frag} {ta : TA} {g : TG} {tb : TS} {D : Ends} {σ : St} {H : Hp} : tFor (iZip K ta) g tb D σ H = ta σ H fun vs H1 => ∃ a b, vs = [.ref a, .ref b] ∧ (∃ xs, SqL K H1 a xs) ∧ (∃ ys, SqL K H1 b ys) ∧ ForW (Itz K a b) g tb D σ H1 := rfl
theorem tFor_rng2 {ta : TA} {g : TG} {tb : TS} {D : Ends} {σ : St} {H : Hp} : tFor (iRng2 ta) g tb D σ H = ta σ H fun vs H1 => ∃ i j : Int, vs = [.int i, .int j] ∧ (-(2 ^ 62) ≤ i ∧ i < 2 ^ 62 ∧ -(2 ^ 62) ≤ j ∧ j < 2 ^ 62) ∧ ForW (Itr i (j - i).toNat) g tb D σ H1 := rfl
theorem tComp_seq {K : PySem.W.Frag} {tl : TE} {g : TG} {tt : TT} {te : TE} {mp : List (Option Nat)} {σ : St} {H : Hp} {Q : VK} : tComp (iSeq K tl) g tt te mp σ H Q = tl σ H fun x H1 => ∃ a, x = .ref a ∧ (((∃ xs, SqL K H1 a xs) ∧ CompW (Itl K a) g tt te Q (subσ mp σ) H1) ∨ ((∃ xs, SqT K H1 a xs) ∧ CompW (Itt K a) g tt te Q (subσ mp σ) H1)) := rfl
local macro_rules | `(tactic| walk_at "rd") => `(tactic| simp only [tSeq, tIfS, tTest, tOp, tVar, tC, tAsg, gName, gTup, gCons, gNil, tRet, tRetN, tDrop, tNext, tCB, tCons, tNil, tCall, tUn, rU, rI0, rI, tAnd, tOr, tNot, tB, tAndV, tOrV, tNotV, tIf, tIfT, tKGet, tChain, tDGet, tDGet1, sDPut, tDNewK, tDisp, tPairs, tCont, tSl, tNoPart, tPart, rSlT, tChain3, qSortS, qEqDL, qNeDL, tFor_enum, tFor_zip, tFor_rng2, tComp_seq, tTup, tLst, tBM,
  qEq, qNe, qIn, qNotIn, qIsN, qNotN, qIsB, qNotB, qLen, qInst, qEqD, qNeD, qMinL, qMaxL, qSortI, rIx, rIxL, rIxT, rIxS, rCat, rCatT2, rRep, rRepT, rLeS, rLtS, rAppend, rExtend, tNever, tBreak, tYes,
  tFor_tup, tFor_list, tFor_rng1, tComp_tup, tComp_list, tComp_str, L2.start, cxOf_K, cxOf_nox_K, cxComp_K, List.map_cons, List.map_nil, List.length_cons, List.length_nil, List.replicate_succ, List.replicate_zero, Nat.reduceAdd, Nat.reduceSub, Nat.zero_add, Nat.add_zero, Nat.sub_zero, Nat.sub_self, Nat.add_sub_cancel,
  List.getElem?_cons_zero, List.getElem?_cons_succ, List.set_cons_zero, List.set_cons_succ, List.cons_append, List.nil_append, List.append_nil, List.cons.injEq, Option.some.injEq, V.int.injEq, V.ref.injEq, V.str.injEq, V.bl.injEq, V.ty.injEq,
  reduceCtorEq, false_and, and_false, and_true, true_and, exists_false, exists_const, false_or, or_false, exists_eq_left, exists_eq_left', exists_eq_right, exists_eq_right', exists_and_left, decide_eq_true_eq, Bool.not_eq_true', Bool.decide_eq_true, exists_eq, true_or, or_true, Bool.false_eq_true, if_true, if_false, Bool.true_eq_false, Bool.not_true, Bool.not_false, decide_true, decide_false, List.isEmpty_cons, List.isEmpty_nil, Bool.true_and, Bool.false_and, bne_self_eq_false, beq_self_eq_true])
section
variable {P : Program} {w : World} {K : PySem.W.Frag} {mg : Str → Option Value} {base : Heap} {f : Addr} {fd : FuncData}
def spCell (K : PySem.W.Frag) : Sp := fun vs H Q _ => ∃ (a : Addr) (ns : List Int) (k : Int), vs = [.ref a, .int k] ∧ SqL K H a (ns.map V.int) ∧ 0 ≤ k ∧ ∀ (i : Int) (H' : Hp), Same H H' → Q (.int i) H'
theorem ok_cell (F : Fun K "_law_cell" "_law_cell" s_law_cell f fd) (b_len : mg "len" = none) : FnOk P w K mg base CX0 1 f fd ["_law_script", "_law_k"] (spCell K) := by
  refine F.ok sc_law_cell (fun vs H Q E h => ?_) (fun cdv A outer s H vs Q E hr h => ?_)
  · obtain ⟨a, ns, k, rfl, _⟩ := h
    rfl
  obtain ⟨a, ns, k, rfl, hS, h0, q⟩ := h
  refine ⟨_, (pss_cons (ps_if (pt_cmpR op_lt (pe_var (i := 1) rfl vis_law_cell__law_k db__law_k cd__law_k) (pe_cB gLen gl_law_cell_len b_len bt_len (pa_c (pe_var (i := 0) rfl vis_law_cell__law_script db__law_script cd__law_script) pa_nil) nn_len db_len) (nomark _)) (pss_one (ps_ret (pe_ix ix_list (pe_var (i := 0) rfl vis_law_cell__law_script db__law_script cd__law_script) (pe_var (i := 1) rfl vis_law_cell__law_k db__law_k cd__law_k) (fun _ _ => rfl)))) pss_nil)
  (pss_cons (ps_if (pt_cmpR (gEq hr.units) (pe_var (i := 0) rfl vis_law_cell__law_script db__law_script cd__law_script) (pe_lst pa_nil) (nomark _)) (pss_one (ps_ret pe_int)) pss_nil)
  (pss_one (ps_ret (pe_op op_add (pe_op op_mul (pe_ix ix_list (pe_var (i := 0) rfl vis_law_cell__law_script db__law_script cd__law_script) (pe_op op_mod (pe_var (i := 1) rfl vis_law_cell__law_k db__law_k cd__law_k) (pe_cB gLen gl_law_cell_len b_len bt_len (pa_c (pe_var (i := 0) rfl vis_law_cell__law_script db__law_script cd__law_script) pa_nil) nn_len db_len)) (fun _ _ => rfl)) pe_int) (pe_var (i := 1) rfl vis_law_cell__law_k db__law_k cd__law_k)))))), ?_⟩
  walk_at "rd"
  refine ⟨_, lenL hS, ?_⟩
  rw [List.length_map]
  split
  · rename_i hk
    obtain ⟨i, _, e⟩ := atI_map (c := V.int) h0 hk
    exact ⟨_, hS, _, e, q i H (Same.refl _)⟩
  · refine ⟨Nat.zero_le _, fun p hp => ?_⟩
    have s1 := same_new hp (.lst [])
    refine ⟨_, eqNil (s1.seq hS) (okInts ns) (SqL.of upd_same), ?_⟩
    split
    · exact q 0 _ s1
    · rename_i hne
      have hl : 0 < (ns.length : Int) := by
        cases ns with
        | nil => exact absurd rfl hne
        | cons a r => simp only [List.length_cons]; omega
      obtain ⟨i, _, e⟩ := atI_map (c := V.int) (ns := ns) (k := k % (ns.length : Int)) (Int.emod_nonneg _ (by omega)) (Int.emod_lt_of_pos _ hl)
      exact ⟨_, lenL (s1.seq hS), by rw [List.length_map]; exact hl, _, s1.seq hS, _, by rw [List.length_map]; exact e, i, rfl, .inr ⟨by decide, by decide⟩, q _ _ s1⟩
def spPick (K : PySem.W.Frag) : Sp := fun vs H Q _ => ∃ (a : Addr) (ns : List Int) (k m : Int), vs = [.ref a, .int k, .int m] ∧ SqL K H a (ns.map V.int) ∧ 0 ≤ k ∧ 0 < m ∧ ∀ (i : Int) (H' : Hp), 0 ≤ i → i < m → Same H H' → Q (.int i) H'
theorem ok_pick (F : Fun K "_law_pick" "_law_pick" s_law_pick f fd) (c_law_cell : Callee P w K mg base "_law_cell" ["_law_script", "_law_k"] 1 (spCell K)) : FnOk P w K mg base CX0 2 f fd ["_law_script", "_law_k", "_law_many"] (spPick K) := by
  refine F.ok sc_law_pick (fun vs H Q E h => ?_) (fun cdv A outer s H vs Q E hr h => ?_)
  · obtain ⟨a, ns, k, m, rfl, _⟩ := h
    rfl
  obtain ⟨a, ns, k, m, rfl, hS, h0, hm, q⟩ := h
  refine ⟨_, (pss_cons (ps_set (i := 3) sc_law_pick.nd rfl loc_law_pick__law_drawn (pe_op op_mod (pe_op op_mul (pe_op op_add (pe_cc c_law_cell hr (by omega) (pa_c (pe_var (i := 0) rfl vis_law_pick__law_script db__law_script cd__law_script) (pa_c (pe_var (i := 1) rfl vis_law_pick__law_k db__law_k cd__law_k) pa_nil)) gl_law_pick__law_cell db__law_cell) (pe_op op_mul pe_int (pe_op op_add (pe_var (i := 1) rfl vis_law_pick__law_k db__law_k cd__law_k) pe_int))) pe_int) pe_int) (swaps_plain rfl))
  (pss_one (ps_ret (pe_op op_mod (pe_op op_mod (pe_op op_add (pe_op op_mul (pe_var (i := 3) rfl vis_law_pick__law_drawn db__law_drawn cd__law_drawn) (pe_var (i := 3) rfl vis_law_pick__law_drawn db__law_drawn cd__law_drawn)) (pe_op op_fdiv (pe_var (i := 3) rfl vis_law_pick__law_drawn db__law_drawn cd__law_drawn) pe_int)) pe_int) (pe_var (i := 2) rfl vis_law_pick__law_many db__law_many cd__law_many))))), ?_⟩
  walk_at "rd"
  refine ⟨a, ns, k, rfl, hS, h0, fun i H' s1 => ?_⟩
  walk_at "rd"
  refine ⟨.inl ⟨by decide, by decide⟩, .inr ⟨by decide, by decide⟩, by decide, ?_⟩
  have e1 : 0 ≤ (i + 6151 * (k + 1)) * 40692 % 2147483399 := Int.emod_nonneg _ (by decide)
  have e2 : (i + 6151 * (k + 1)) * 40692 % 2147483399 < 2147483399 := Int.emod_lt_of_pos _ (by decide)
  refine ⟨.inl ⟨by omega, by omega⟩, ⟨by decide, by decide⟩, by decide, hm, q _ _ (Int.emod_nonneg _ (by omega)) (Int.emod_lt_of_pos _ hm) s1⟩
/-- a def of the text, for the callers -/
structure Df (K : PySem.W.Frag) (mg : Str → Option Value) (x : Str) (st : Stmt) (ps : List Str) (f : Addr) (fd : FuncData) : Prop where
  F : Fun K x x st f fd
  m : mg x = some (.ref f)
  b : Binds K fd ps []
theorem Df.callee {x : Str} {st : Stmt} {ps : List Str} {k : Nat} {sp : Sp} (d : Df K mg x st ps f fd) (h : FnOk P w K mg base CX0 k f fd ps sp) : Callee P w K mg base x ps k sp := ⟨f, fd, h, d.m, d.F.kp, d.b⟩
theorem inV_strs (x : Str) : ∀ g : List Str, inV (.str x) (g.map V.str) = g.contains x
  | [] => rfl
  | y :: g => by
    have ih := inV_strs x g
    unfold inV at ih ⊢
    rw [List.map_cons, List.any_cons, ih, List.contains_cons]
    have e : eqV (.str y) (.str x) = (x == y) := by
      show (y == x) = (x == y)
      rw [Bool.eq_iff_iff, beq_iff_eq, beq_iff_eq]
      exact eq_comm
    rw [e]
theorem same_upd {H H' : Hp} {p : Addr} {o : HO} (s : Same H H') (h : H p = none) : Same H (upd H' p o) := fun b u q => by rw [upd_ne (ne_of_none q h)]; exact s b u q
end
end SR


set_option Elab.async false
set_option linter.all false
set_option maxRecDepth 100000
set_option maxHeartbeats 0
namespace SR
open PySem L2
local macro_rules | `(tactic| walk_at "rd") => `(tactic| simp only [tSeq, tIfS, tTest, tOp, tVar, tC, tAsg, gName, gTup, gCons, gNil, tRet, tRetN, tDrop, tNext, tCB, tCons, tNil, tCall, tUn, rU, rI0, rI, tAnd, tOr, tNot, tB, tAndV, tOrV, tNotV, tIf, tIfT, tKGet, tChain, tDGet, tDGet1, sDPut, tDNewK, tDisp, tPairs, tCont, tSl, tNoPart, tPart, rSlT, tChain3, qSortS, qEqDL, qNeDL, tFor_enum, tFor_zip, tFor_rng2, tComp_seq, tTup, tLst, tBM,
  qEq, qNe, qIn, qNotIn, qIsN, qNotN, qIsB, qNotB, qLen, qInst, qEqD, qNeD, qMinL, qMaxL, qSortI, rIx, rIxL, rIxT, rIxS, rCat, rCatT2, rRep, rRepT, rLeS, rLtS, rAppend, rExtend, tNever, tBreak, tYes,
  tFor_tup, tFor_list, tFor_rng1, tComp_tup, tComp_list, tComp_str, L2.start, cxOf_K, cxOf_nox_K, cxComp_K, List.map_cons, List.map_nil, List.length_cons, List.length_nil, List.replicate_succ, List.replicate_zero, Nat.reduceAdd, Nat.reduceSub, Nat.zero_add, Nat.add_zero, Nat.sub_zero, Nat.sub_self, Nat.add_sub_cancel,
  List.getElem?_cons_zero, List.getElem?_cons_succ, List.set_cons_zero, List.set_cons_succ, List.cons_append, List.nil_append, List.append_nil, List.cons.injEq, Option.some.injEq, V.int.injEq, V.ref.injEq, V.str.injEq, V.bl.injEq, V.ty.injEq,
  reduceCtorEq, false_and, and_false, and_true, true_and, exists_false, exists_const, false_or, or_false, exists_eq_left, exists_eq_left', exists_eq_right, exists_eq_right', exists_and_left, decide_eq_true_eq, Bool.not_eq_true', Bool.decide_eq_true, exists_eq, true_or, or_true, Bool.false_eq_true, if_true, if_false, Bool.true_eq_false, Bool.not_true, Bool.not_false, decide_true, decide_false, List.isEmpty_cons, List.isEmpty_nil, Bool.true_and, Bool.false_and, bne_self_eq_false, beq_self_eq_true])
/-! ### the stretches' defs -/
section
variable {P : Program} {w : World} {K : PySem.W.Frag} {mg : Str → Option Value} {base : Heap} {f : Addr} {fd : FuncData}
def encS : S → Dm
  | none => .non
  | some (a, b) => .tup [.int a, .int b]
theorem encS_shut (s : S) : (encS s).shut = true ∧ SeqAt.shaped (encS s).dat = true := by
  match s with
  | none => exact ⟨rfl, rfl⟩
  | some (a, b) => exact ⟨rfl, rfl⟩
theorem encS_eqv (s t : S) : PyData.eqv (encS s).dat (encS t).dat = decide (s = t) := by
  match s, t with
  | none, none => rfl
  | none, some (c, d) => rfl
  | some (a, b), none => rfl
  | some (a, b), some (c, d) =>
    simp only [encS, Dm.dat, datA, PyData.eqv, PyData.eqvAll, Bool.and_true]
    rw [Bool.eq_iff_iff]
    simp
theorem eqS_of {H : Hp} {x y : V} {s t : S} (h : Dt H x (encS s)) (k : Dt H y (encS t)) : EqD H x y (decide (s = t)) :=
  ⟨_, _, h, k, encS_shut s, encS_shut t, (encS_eqv s t).symm⟩
theorem dtS {H : Hp} {x : V} {s : S} (h : Dt H x (encS s)) : (s = none ∧ x = .non) ∨ ∃ a b p, s = some (a, b) ∧ x = .ref p ∧ H p = some (.tup [.int a, .int b]) := by
  match s, h with
  | none, .non => exact .inl ⟨rfl, rfl⟩
  | some (a, b), .tup e r =>
    rcases r with _ | ⟨r1, _ | ⟨r2, _ | _⟩⟩
    cases r1; cases r2
    exact .inr ⟨a, b, _, rfl, rfl, e⟩
theorem dtS_mk {H : Hp} {p : Addr} {a b : Int} (h : H p = some (.tup [.int a, .int b])) : Dt H (.ref p) (encS (some (a, b))) := .tup h (.cons (.int a) (.cons (.int b) .nil))
theorem eqW {H : Hp} (w v : Wd) : EqOf K (.str w.str) (.str v.str) H (decide (w = v)) := .inl ⟨rfl, by cases w <;> cases v <;> decide +kernel⟩
def spWorth : Sp := fun vs H Q _ => ∃ (w : Wd) (a b : Int), vs = [.str w.str, .int a, .int b] ∧ (w = .quo → b ≠ 0) ∧ b.natAbs < 1073741824 ∧ Q (.int (w.worth a b)) H
theorem ok_worth_of (F : Fun K "worth_of" "worth_of" s_worth_of f fd) (b_min : mg "min" = none) (b_max : mg "max" = none) : FnOk P w K mg base CX0 1 f fd ["word", "one", "other"] spWorth := by
  refine F.ok sc_worth_of (fun vs H Q E h => ?_) (fun cdv A outer s H vs Q E hr h => ?_)
  · obtain ⟨w, a, b, rfl, _⟩ := h
    rfl
  obtain ⟨w, a, b, rfl, hq, hb, q⟩ := h
  refine ⟨_, (pss_cons (ps_if (pt_cmpR (gEq hr.units) (pe_var (i := 0) rfl vis_worth_of_word db_word cd_word) pe_str (nomark _)) (pss_one (ps_ret (pe_op op_add (pe_var (i := 1) rfl vis_worth_of_one db_one cd_one) (pe_var (i := 2) rfl vis_worth_of_other db_other cd_other)))) pss_nil)
  (pss_cons (ps_if (pt_cmpR (gEq hr.units) (pe_var (i := 0) rfl vis_worth_of_word db_word cd_word) pe_str (nomark _)) (pss_one (ps_ret (pe_op op_sub (pe_var (i := 1) rfl vis_worth_of_one db_one cd_one) (pe_var (i := 2) rfl vis_worth_of_other db_other cd_other)))) pss_nil)
  (pss_cons (ps_if (pt_cmpR (gEq hr.units) (pe_var (i := 0) rfl vis_worth_of_word db_word cd_word) pe_str (nomark _)) (pss_one (ps_ret (pe_op op_mul (pe_var (i := 1) rfl vis_worth_of_one db_one cd_one) (pe_var (i := 2) rfl vis_worth_of_other db_other cd_other)))) pss_nil)
  (pss_cons (ps_if (pt_cmpR (gEq hr.units) (pe_var (i := 0) rfl vis_worth_of_word db_word cd_word) pe_str (nomark _)) (pss_one (ps_ret (pe_op op_fdivN (pe_var (i := 1) rfl vis_worth_of_one db_one cd_one) (pe_var (i := 2) rfl vis_worth_of_other db_other cd_other)))) pss_nil)
  (pss_cons (ps_if (pt_cmpR (gEq hr.units) (pe_var (i := 0) rfl vis_worth_of_word db_word cd_word) pe_str (nomark _)) (pss_one (ps_ret (pe_ifExp (pt_cmpR op_lt (pe_var (i := 1) rfl vis_worth_of_one db_one cd_one) (pe_var (i := 2) rfl vis_worth_of_other db_other cd_other) (nomark _)) pe_int pe_int))) pss_nil)
  (pss_cons (ps_if (pt_cmpR (gEq hr.units) (pe_var (i := 0) rfl vis_worth_of_word db_word cd_word) pe_str (nomark _)) (pss_one (ps_ret (pe_ifExp (pt_cmpR op_eqI (pe_var (i := 1) rfl vis_worth_of_one db_one cd_one) (pe_var (i := 2) rfl vis_worth_of_other db_other cd_other) (nomark _)) pe_int pe_int))) pss_nil)
  (pss_cons (ps_if (pt_cmpR (gEq hr.units) (pe_var (i := 0) rfl vis_worth_of_word db_word cd_word) pe_str (nomark _)) (pss_one (ps_ret (pe_cB (call_min2 rfl) gl_worth_of_min b_min bt_min (pa_c (pe_var (i := 1) rfl vis_worth_of_one db_one cd_one) (pa_c (pe_var (i := 2) rfl vis_worth_of_other db_other cd_other) pa_nil)) nn_min db_min))) pss_nil)
  (pss_one (ps_ret (pe_cB (call_max2 rfl) gl_worth_of_max b_max bt_max (pa_c (pe_var (i := 1) rfl vis_worth_of_one db_one cd_one) (pa_c (pe_var (i := 2) rfl vis_worth_of_other db_other cd_other) pa_nil)) nn_max db_max)))))))))), ?_⟩
  walk_at "rd"
  have hm : CMul a b := .inr ⟨by omega, by omega⟩
  refine ⟨_, eqW w .add, ?_⟩
  split
  · rename_i e; cases of_decide_eq_true e; exact q
  rename_i n1
  refine ⟨_, eqW w .sub, ?_⟩
  split
  · rename_i e; cases of_decide_eq_true e; exact q
  rename_i n2
  refine ⟨_, eqW w .mul, ?_⟩
  split
  · rename_i e; cases of_decide_eq_true e; exact ⟨hm, q⟩
  rename_i n3
  refine ⟨_, eqW w .quo, ?_⟩
  split
  · rename_i e; cases of_decide_eq_true e; exact ⟨⟨hq rfl, hb⟩, q⟩
  rename_i n4
  refine ⟨_, eqW w .less, ?_⟩
  split
  · rename_i e; cases of_decide_eq_true e
    have q : Q (.int (if a < b then 1 else 0)) H := q
    split
    · rename_i c; rw [if_pos c] at q; exact q
    · rename_i c; rw [if_neg c] at q; exact q
  rename_i n5
  refine ⟨_, eqW w .same, ?_⟩
  split
  · rename_i e; cases of_decide_eq_true e
    have q : Q (.int (if a = b then 1 else 0)) H := q
    split
    · rename_i c; rw [if_pos c] at q; exact q
    · rename_i c; rw [if_neg c] at q; exact q
  rename_i n6
  refine ⟨_, eqW w .min, ?_⟩
  split
  · rename_i e; cases of_decide_eq_true e; exact ⟨_, _, ⟨rfl, rfl⟩, q⟩
  rename_i n7
  have e : w = .max := by
    cases w <;> first | rfl | exact absurd rfl (by assumption)
  cases e
  exact ⟨_, _, ⟨rfl, rfl⟩, q⟩
def spBetween : Sp := fun vs H Q _ => ∃ (l h : Int), vs = [.int l, .int h] ∧ ∀ (r : V) (H' : Hp), Same H H' → Dt H' r (encS (bet l h)) → Q r H'
theorem ok_between (F : Fun K "between" "between" s_between f fd) : FnOk P w K mg base CX0 1 f fd ["low", "high"] spBetween := by
  refine F.ok sc_between (fun vs H Q E h => ?_) (fun cdv A outer s H vs Q E hr h => ?_)
  · obtain ⟨l, h, rfl, _⟩ := h
    rfl
  obtain ⟨l, h, rfl, q⟩ := h
  refine ⟨_, (pss_cons (ps_if (pt_cmpR op_gt (pe_var (i := 0) rfl vis_between_low db_low cd_low) (pe_var (i := 1) rfl vis_between_high db_high cd_high) (nomark _)) (pss_one (ps_ret pe_non)) pss_nil)
  (pss_one (ps_ret (pe_tup (pa_c (pe_var (i := 0) rfl vis_between_low db_low cd_low) (pa_c (pe_var (i := 1) rfl vis_between_high db_high cd_high) pa_nil)))))), ?_⟩
  walk_at "rd"
  split
  · rename_i c
    rw [show bet l h = none from if_pos c] at q
    exact q _ _ (Same.refl _) .non
  · rename_i c
    rw [show bet l h = some (l, h) from if_neg c] at q
    exact ⟨zl 2 (by decide), fun p hp => q _ _ (same_new hp _) (dtS_mk upd_same)⟩
def spS2 (g : S → S → S) : Sp := fun vs H Q _ => ∃ (x y : V) (s t : S), vs = [x, y] ∧ Dt H x (encS s) ∧ Dt H y (encS t) ∧ ∀ (r : V) (H' : Hp), Same H H' → Dt H' r (encS (g s t)) → Q r H'
theorem ok_joined (F : Fun K "joined" "joined" s_joined f fd) (b_min : mg "min" = none) (b_max : mg "max" = none) : FnOk P w K mg base CX0 1 f fd ["one", "other"] (spS2 join) := by
  refine F.ok sc_joined (fun vs H Q E h => ?_) (fun cdv A outer s H vs Q E hr h => ?_)
  · obtain ⟨x, y, s, t, rfl, _⟩ := h
    rfl
  obtain ⟨x, y, s, t, rfl, hx, hy, q⟩ := h
  refine ⟨_, (pss_cons (ps_if (pt_cmpR gIsN (pe_var (i := 0) rfl vis_joined_one db_one cd_one) pe_non (nomark _)) (pss_one (ps_ret (pe_var (i := 1) rfl vis_joined_other db_other cd_other))) pss_nil)
  (pss_cons (ps_if (pt_cmpR gIsN (pe_var (i := 1) rfl vis_joined_other db_other cd_other) pe_non (nomark _)) (pss_one (ps_ret (pe_var (i := 0) rfl vis_joined_one db_one cd_one))) pss_nil)
  (pss_one (ps_ret (pe_tup (pa_c (pe_cB (call_min2 rfl) gl_joined_min b_min bt_min (pa_c (pe_ix ix_tup (pe_var (i := 0) rfl vis_joined_one db_one cd_one) pe_int (fun _ _ => rfl)) (pa_c (pe_ix ix_tup (pe_var (i := 1) rfl vis_joined_other db_other cd_other) pe_int (fun _ _ => rfl)) pa_nil)) nn_min db_min) (pa_c (pe_cB (call_max2 rfl) gl_joined_max b_max bt_max (pa_c (pe_ix ix_tup (pe_var (i := 0) rfl vis_joined_one db_one cd_one) pe_int (fun _ _ => rfl)) (pa_c (pe_ix ix_tup (pe_var (i := 1) rfl vis_joined_other db_other cd_other) pe_int (fun _ _ => rfl)) pa_nil)) nn_max db_max) pa_nil))))))), ?_⟩
  rcases dtS hx with ⟨rfl, rfl⟩ | ⟨a, b, p, rfl, rfl, hp⟩ <;> rcases dtS hy with ⟨rfl, rfl⟩ | ⟨c, d, p2, rfl, rfl, hp2⟩ <;> walk_at "rd"
  · exact q _ _ (Same.refl _) hy
  · exact q _ _ (Same.refl _) hy
  · exact q _ _ (Same.refl _) hx
  · exact ⟨_, SqT.of hp, _, rfl, _, SqT.of hp2, _, rfl, _, _, ⟨rfl, rfl⟩, _, SqT.of hp, _, rfl, _, SqT.of hp2, _, rfl, _, _, ⟨rfl, rfl⟩, zl 2 (by decide), fun p3 hp3 => q _ _ (same_new hp3 _) (dtS_mk upd_same)⟩
theorem ok_met (F : Fun K "met" "met" s_met f fd) (b_min : mg "min" = none) (b_max : mg "max" = none) (c_between : Callee P w K mg base "between" ["low", "high"] 1 spBetween) : FnOk P w K mg base CX0 2 f fd ["one", "other"] (spS2 meet) := by
  refine F.ok sc_met (fun vs H Q E h => ?_) (fun cdv A outer s H vs Q E hr h => ?_)
  · obtain ⟨x, y, s, t, rfl, _⟩ := h
    rfl
  obtain ⟨x, y, s, t, rfl, hx, hy, q⟩ := h
  refine ⟨_, (pss_cons (ps_if (PW.pt (pw_or (pt_cmpR gIsN (pe_var (i := 0) rfl vis_met_one db_one cd_one) pe_non (nomark _)) (pw_or1 (pt_cmpR gIsN (pe_var (i := 1) rfl vis_met_other db_other cd_other) pe_non (nomark _))))) (pss_one (ps_ret pe_non)) pss_nil)
  (pss_one (ps_ret (pe_cc c_between hr (by omega) (pa_c (pe_cB (call_max2 rfl) gl_met_max b_max bt_max (pa_c (pe_ix ix_tup (pe_var (i := 0) rfl vis_met_one db_one cd_one) pe_int (fun _ _ => rfl)) (pa_c (pe_ix ix_tup (pe_var (i := 1) rfl vis_met_other db_other cd_other) pe_int (fun _ _ => rfl)) pa_nil)) nn_max db_max) (pa_c (pe_cB (call_min2 rfl) gl_met_min b_min bt_min (pa_c (pe_ix ix_tup (pe_var (i := 0) rfl vis_met_one db_one cd_one) pe_int (fun _ _ => rfl)) (pa_c (pe_ix ix_tup (pe_var (i := 1) rfl vis_met_other db_other cd_other) pe_int (fun _ _ => rfl)) pa_nil)) nn_min db_min) pa_nil)) gl_met_between db_between)))), ?_⟩
  rcases dtS hx with ⟨rfl, rfl⟩ | ⟨a, b, p, rfl, rfl, hp⟩ <;> rcases dtS hy with ⟨rfl, rfl⟩ | ⟨c, d, p2, rfl, rfl, hp2⟩ <;> walk_at "rd"
  · exact q _ _ (Same.refl _) .non
  · exact q _ _ (Same.refl _) .non
  · exact q _ _ (Same.refl _) .non
  · exact ⟨_, SqT.of hp, _, rfl, _, SqT.of hp2, _, rfl, _, _, ⟨rfl, rfl⟩, _, SqT.of hp, _, rfl, _, SqT.of hp2, _, rfl, _, _, ⟨rfl, rfl⟩, _, _, rfl, fun r H' s1 hr' => q _ _ s1 hr'⟩
def sameF : S → S → S
  | some (a, b), some (c, d) => some (if (a = c ∧ b = d) ∧ a = b then 1 else 0, if meet (some (a, b)) (some (c, d)) ≠ none then 1 else 0)
  | _, _ => none
theorem ok_stretch_of_same (F : Fun K "stretch_of_same" "stretch_of_same" s_stretch_of_same f fd) (c_met : Callee P w K mg base "met" ["one", "other"] 2 (spS2 meet)) : FnOk P w K mg base CX0 3 f fd ["one", "other"] (spS2 sameF) := by
  refine F.ok sc_stretch_of_same (fun vs H Q E h => ?_) (fun cdv A outer s H vs Q E hr h => ?_)
  · obtain ⟨x, y, s, t, rfl, _⟩ := h
    rfl
  obtain ⟨x, y, s, t, rfl, hx, hy, q⟩ := h
  refine ⟨_, (pss_cons (ps_if (PW.pt (pw_or (pt_cmpR gIsN (pe_var (i := 0) rfl vis_stretch_of_same_one db_one cd_one) pe_non (nomark _)) (pw_or1 (pt_cmpR gIsN (pe_var (i := 1) rfl vis_stretch_of_same_other db_other cd_other) pe_non (nomark _))))) (pss_one (ps_ret pe_non)) pss_nil)
  (pss_cons (ps_set (i := 2) sc_stretch_of_same.nd rfl loc_stretch_of_same_is_sure (pe_and (pe_cmpR (dEq hr.units) (pe_var (i := 0) rfl vis_stretch_of_same_one db_one cd_one) (pe_var (i := 1) rfl vis_stretch_of_same_other db_other cd_other) (nomark _)) (pe_one (pe_cmpR op_eqI (pe_ix ix_tup (pe_var (i := 0) rfl vis_stretch_of_same_one db_one cd_one) pe_int (fun _ _ => rfl)) (pe_ix ix_tup (pe_var (i := 0) rfl vis_stretch_of_same_one db_one cd_one) pe_int (fun _ _ => rfl)) (nomark _)))) (swaps_plain rfl))
  (pss_cons (ps_set (i := 3) sc_stretch_of_same.nd rfl loc_stretch_of_same_can_be (pe_cmpR gNotN (pe_cc c_met hr (by omega) (pa_c (pe_var (i := 0) rfl vis_stretch_of_same_one db_one cd_one) (pa_c (pe_var (i := 1) rfl vis_stretch_of_same_other db_other cd_other) pa_nil)) gl_stretch_of_same_met db_met) pe_non (nomark _)) (swaps_plain rfl))
  (pss_one (ps_ret (pe_tup (pa_c (pe_ifExp (pt_val (pe_var (i := 2) rfl vis_stretch_of_same_is_sure db_is_sure cd_is_sure)) pe_int pe_int) (pa_c (pe_ifExp (pt_val (pe_var (i := 3) rfl vis_stretch_of_same_can_be db_can_be cd_can_be)) pe_int pe_int) pa_nil)))))))), ?_⟩
  rcases dtS hx with ⟨rfl, rfl⟩ | ⟨a, b, p, rfl, rfl, hp⟩ <;> rcases dtS hy with ⟨rfl, rfl⟩ | ⟨c, d, p2, rfl, rfl, hp2⟩ <;> walk_at "rd"
  · exact q _ _ (Same.refl _) .non
  · exact q _ _ (Same.refl _) .non
  · exact q _ _ (Same.refl _) .non
  · have fin : ∀ u : Int, u = (if (a = c ∧ b = d) ∧ a = b then 1 else 0) → spS2 meet [V.ref p, V.ref p2] H (fun x H1 =>
        if decide (x = V.non) = false then 2 ≤ sizeLine ∧ ∀ (p : Addr), H1 p = none → Q (V.ref p) (upd H1 p (HO.tup [V.int u, V.int 1]))
        else 2 ≤ sizeLine ∧ ∀ (p : Addr), H1 p = none → Q (V.ref p) (upd H1 p (HO.tup [V.int u, V.int 0]))) E0 := by
      intro u hu
      refine ⟨_, _, _, _, rfl, hx, hy, fun r H' s1 dr => ?_⟩
      have hF : ∀ v : Int, v = (if meet (some (a, b)) (some (c, d)) ≠ none then 1 else 0) → sameF (some (a, b)) (some (c, d)) = some (u, v) := by
        intro v hv
        rw [hu, hv]; rfl
      rcases dtS dr with ⟨e, rfl⟩ | ⟨a1, b1, p3, e, rfl, _⟩
      · dsimp only
        rw [if_neg (by simp)]
        rw [hF 0 (by rw [if_neg (by rw [e]; simp)])] at q
        exact ⟨zl 2 (by decide), fun p3 hp3 => q _ _ (s1.trans (same_new hp3 _)) (dtS_mk upd_same)⟩
      · dsimp only
        rw [if_pos (by simp)]
        rw [hF 1 (by rw [if_pos (by rw [e]; simp)])] at q
        exact ⟨zl 2 (by decide), fun p3 hp3 => q _ _ (s1.trans (same_new hp3 _)) (dtS_mk upd_same)⟩
    refine ⟨_, eqS_of hx hy, ?_⟩
    split
    · rename_i e
      have e := of_decide_eq_true e
      injection e with e
      injection e with e1 e2
      refine ⟨_, SqT.of hp, _, rfl, _, SqT.of hp, _, rfl, _, rfl, _, rfl, ?_⟩
      by_cases hab : a = b
      · simp only [if_pos hab]
        exact fin 1 (by rw [if_pos ⟨⟨e1, e2⟩, hab⟩])
      · simp only [if_neg hab]
        exact fin 0 (by rw [if_neg fun z => hab z.2])
    · rename_i e
      refine fin 0 (by rw [if_neg]; rintro ⟨⟨h1, h2⟩, _⟩; exact e (decide_eq_true (by rw [h1, h2])))
def EndsRel (w : Wd) (s t r : S) : Prop := match s, t with
  | some (a, b), some (c, d) => ∃ lo hi, r = some (lo, hi) ∧ Hull (corners w a b c d) lo hi
  | _, _ => r = none
def Small (w : Wd) (t : S) : Prop := match t with
  | none => True
  | some (c, d) => (w = .quo → c ≠ 0 ∧ d ≠ 0) ∧ c.natAbs < 1073741824 ∧ d.natAbs < 1073741824
def spEnds : Sp := fun vs H Q _ => ∃ (w : Wd) (x y : V) (s t : S), vs = [.str w.str, x, y] ∧ Dt H x (encS s) ∧ Dt H y (encS t) ∧ Small w t ∧ ∀ (r : V) (H' : Hp) (o : S), Same H H' → EndsRel w s t o → Dt H' r (encS o) → Q r H'
def EInv (H : Hp) (w : Wd) (p2 : Addr) (ns : List Int) (k : Int) (i : Nat) (ys : List V) (σ' : St) (H' : Hp) : Prop := H' = H ∧ (∃ t, σ' = [t, some (.str w.str), some (.ref p2)]) ∧ ys = ((ns.take i).map fun x => w.worth x k).map V.int
theorem ok_stretch_of_ends (F : Fun K "stretch_of_ends" "stretch_of_ends" s_stretch_of_ends f fd) (b_min : mg "min" = none) (b_max : mg "max" = none) (c_worth_of : Callee P w K mg base "worth_of" ["word", "one", "other"] 1 spWorth) : FnOk P w K mg base CX0 2 f fd ["word", "one", "other"] spEnds := by
  refine F.ok sc_stretch_of_ends (fun vs H Q E h => ?_) (fun cdv A outer s H vs Q E hr h => ?_)
  · obtain ⟨w, x, y, s, t, rfl, _⟩ := h
    rfl
  obtain ⟨w, x, y, s, t, rfl, hx, hy, hsm, q⟩ := h
  refine ⟨_, (pss_cons (ps_if (PW.pt (pw_or (pt_cmpR gIsN (pe_var (i := 1) rfl vis_stretch_of_ends_one db_one cd_one) pe_non (nomark _)) (pw_or1 (pt_cmpR gIsN (pe_var (i := 2) rfl vis_stretch_of_ends_other db_other cd_other) pe_non (nomark _))))) (pss_one (ps_ret pe_non)) pss_nil)
  (pss_cons (ps_setc (i := 3) ["low_or_high", "word", "other"] [none, some 0, some 2] sc_stretch_of_ends.nd rfl loc_stretch_of_ends_ends rfl (CompS.of (by rfl)) (pi_tup (pe_var (i := 1) rfl vis_stretch_of_ends_one db_one cd_one)) (fun _ _ _ _ _ => (pg_name (i := 0) (show List.Nodup (["low_or_high", "word", "other"] : List Str) from by decide +kernel) rfl (Or.inl rfl))) (fun _ _ _ _ _ => pif_nil) (fun _ _ _ _ _ => (pe_cc c_worth_of hr (by omega) (pa_c (pe_var (i := 1) rfl (by first | exact Or.inl rfl | exact Or.inr (Or.inl rfl) | exact Or.inr (Or.inr rfl)) db_word cd_word) (pa_c (pe_var (i := 0) rfl (by first | exact Or.inl rfl | exact Or.inr (Or.inl rfl) | exact Or.inr (Or.inr rfl)) db_low_or_high cd_low_or_high) (pa_c (pe_ix (ixK (r := rIxT) (K := K) ix_tup rfl) (pe_var (i := 2) rfl (by first | exact Or.inl rfl | exact Or.inr (Or.inl rfl) | exact Or.inr (Or.inr rfl)) db_other cd_other) pe_int (fun _ _ => rfl)) pa_nil))) rfl db_worth_of)))
  (pss_cons (ps_expr (pe_bm PySem.F.plainAttrs_list PySem.F.slot_list_extend PySem.F.type_list_extend mt_extend (pe_var (i := 3) rfl vis_stretch_of_ends_ends db_ends cd_ends) (pa_c (pe_comp ["low_or_high", "word", "other"] [none, some 0, some 2] rfl (CompS.of (by rfl)) (pi_tup (pe_var (i := 1) rfl vis_stretch_of_ends_one db_one cd_one)) (fun _ _ _ _ _ => (pg_name (i := 0) (show List.Nodup (["low_or_high", "word", "other"] : List Str) from by decide +kernel) rfl (Or.inl rfl))) (fun _ _ _ _ _ => pif_nil) (fun _ _ _ _ _ => (pe_cc c_worth_of hr (by omega) (pa_c (pe_var (i := 1) rfl (by first | exact Or.inl rfl | exact Or.inr (Or.inl rfl) | exact Or.inr (Or.inr rfl)) db_word cd_word) (pa_c (pe_var (i := 0) rfl (by first | exact Or.inl rfl | exact Or.inr (Or.inl rfl) | exact Or.inr (Or.inr rfl)) db_low_or_high cd_low_or_high) (pa_c (pe_ix (ixK (r := rIxT) (K := K) ix_tup rfl) (pe_var (i := 2) rfl (by first | exact Or.inl rfl | exact Or.inr (Or.inl rfl) | exact Or.inr (Or.inr rfl)) db_other cd_other) pe_int (fun _ _ => rfl)) pa_nil))) rfl db_worth_of))) pa_nil)) (swaps_plain rfl))
  (pss_one (ps_ret (pe_tup (pa_c (pe_cB (call_minL rfl) gl_stretch_of_ends_min b_min bt_min (pa_c (pe_var (i := 3) rfl vis_stretch_of_ends_ends db_ends cd_ends) pa_nil) nn_min db_min) (pa_c (pe_cB (call_maxL rfl) gl_stretch_of_ends_max b_max bt_max (pa_c (pe_var (i := 3) rfl vis_stretch_of_ends_ends db_ends cd_ends) pa_nil) nn_max db_max) pa_nil)))))))), ?_⟩
  rcases dtS hx with ⟨rfl, rfl⟩ | ⟨a, b, p, rfl, rfl, hp⟩ <;> rcases dtS hy with ⟨rfl, rfl⟩ | ⟨c, d, p2, rfl, rfl, hp2⟩ <;> walk_at "rd"
  · exact q _ _ none (Same.refl _) rfl .non
  · exact q _ _ none (Same.refl _) rfl .non
  · exact q _ _ none (Same.refl _) rfl .non
  · obtain ⟨hq1, hc, hd⟩ := hsm
    have comp : ∀ (H1 : Hp) (j k : Int) (t : Option V) (Q' : VK), H1 p = some (.tup [.int a, .int b]) → H1 p2 = some (.tup [.int c, .int d]) → atI [V.int c, V.int d] j = some (.int k) → (w = .quo → k ≠ 0) → k.natAbs < 1073741824 →
        (∀ p3, H1 p3 = none → Q' (.ref p3) (upd H1 p3 (.lst ([w.worth a k, w.worth b k].map V.int)))) →
        CompW (Itt K p) (gName 0) tYes (tCall spWorth [] E0 (tCons (tVar 1) (tCons (tVar 0) (tCons (tOp (rIxT K) (tVar 2) (tC (V.int j))) tNil)))) Q' [t, some (V.str w.str), some (V.ref p2)] H1 := by
      intro H1 j k t Q' g1 g2 hj hk0 hk fin
      refine comp_tup (K := K) (a := p) (xs := [a, b].map V.int) (EInv H1 w p2 [a, b] k) ⟨rfl, ⟨_, rfl⟩, rfl⟩ (small1000 (by simp)) ?_ ?_ ?_ ?_
      · rintro i ys σ' H' ⟨_, _, rfl⟩
        rw [List.length_map, List.length_map, List.length_take]
        omega
      · rintro i ys σ' H' _ ⟨rfl, _, _⟩
        exact SqT.of g1
      · rintro i ys v σ' H' hxi ⟨rfl, ⟨t, rfl⟩, rfl⟩
        rw [List.getElem?_map] at hxi
        cases hr' : ([a, b] : List Int)[i]? with
        | none => rw [hr'] at hxi; cases hxi
        | some x =>
          rw [hr'] at hxi
          have ev : V.int x = v := by simpa using hxi
          subst ev
          walk_at "rd"
          refine ⟨_, SqT.of g2, _, hj, w, x, k, rfl, hk0, hk, rfl, ⟨_, rfl⟩, ?_⟩
          rw [List.take_add_one, hr', List.map_append, List.map_append]
          rfl
      · rintro ys σ' H' ⟨rfl, _, rfl⟩ p3 hp3
        exact fin p3 hp3
    refine ⟨⟨_, SqT.of hp⟩, comp H 0 c none _ hp hp2 rfl (fun e => (hq1 e).1) hc fun p3 hp3 => ?_⟩
    have s1 := same_new hp3 (.lst ([w.worth a c, w.worth b c].map V.int))
    have e3 : (upd H p3 (.lst ([w.worth a c, w.worth b c].map V.int))) p3 = _ := upd_same
    generalize upd H p3 (.lst ([w.worth a c, w.worth b c].map V.int)) = U1 at s1 e3 ⊢
    refine ⟨.inl ⟨rfl, _, SqL.of e3⟩, ⟨_, SqT.of (s1 _ _ hp)⟩, comp U1 1 d none _ (s1 _ _ hp) (s1 _ _ hp2) rfl (fun e => (hq1 e).2) hd fun p4 hp4 => ?_⟩
    have s2 := same_new hp4 (.lst ([w.worth a d, w.worth b d].map V.int))
    have e4 : (upd U1 p4 (.lst ([w.worth a d, w.worth b d].map V.int))) p4 = _ := upd_same
    generalize upd U1 p4 (.lst ([w.worth a d, w.worth b d].map V.int)) = U2 at s2 e4 ⊢
    have e5 : upd U2 p3 (.lst (([w.worth a c, w.worth b c].map V.int) ++ ([w.worth a d, w.worth b d].map V.int))) p3 = some (.lst ((corners w a b c d).map V.int)) := upd_same
    have s3 : Same H (upd U2 p3 (.lst (([w.worth a c, w.worth b c].map V.int) ++ ([w.worth a d, w.worth b d].map V.int)))) := same_upd (s1.trans s2) hp3
    refine ⟨_, rfl, _, rfl, _, s2 _ _ e3, _, e4, zl 4 (by decide), ?_⟩
    generalize upd U2 p3 (.lst (([w.worth a c, w.worth b c].map V.int) ++ ([w.worth a d, w.worth b d].map V.int))) = U3 at e5 s3 ⊢
    refine ⟨_, rfl, _, SqL.of e5, by simp [corners], fun lo hlo hlo2 => ⟨_, rfl, _, SqL.of e5, by simp [corners], fun hi hhi hhi2 => ⟨zl 2 (by decide), fun p5 hp5 => ?_⟩⟩⟩
    exact q _ _ (some (lo, hi)) (s3.trans (same_new hp5 _)) ⟨lo, hi, rfl, hlo, hhi, fun v hv => ⟨hlo2 v hv, hhi2 v hv⟩⟩ (dtS_mk upd_same)
/-- what stretch_of tells -/
def OfRel (w : Wd) (s t r : S) : Prop := match s, t with
  | some (a, b), some (c, d) => IsS w a b c d r
  | _, _ => r = none
def okS (n : Nat) (s : S) : Prop := match s with
  | none => True
  | some (a, b) => a ≤ b ∧ a.natAbs < n ∧ b.natAbs < n
def spOf : Sp := fun vs H Q _ => ∃ (w : Wd) (x y : V) (s t : S), vs = [.str w.str, x, y] ∧ Dt H x (encS s) ∧ Dt H y (encS t) ∧ okS 1073741824 s ∧ okS 1073741824 t ∧ ∀ (r : V) (H' : Hp) (o : S), Same H H' → OfRel w s t o → Dt H' r (encS o) → Q r H'
theorem ok_stretch_of (F : Fun K "stretch_of" "stretch_of" s_stretch_of f fd) (b_min : mg "min" = none) (b_max : mg "max" = none) (c_between : Callee P w K mg base "between" ["low", "high"] 1 spBetween) (c_joined : Callee P w K mg base "joined" ["one", "other"] 1 (spS2 join))
    (c_stretch_of_same : Callee P w K mg base "stretch_of_same" ["one", "other"] 3 (spS2 sameF)) (c_stretch_of_ends : Callee P w K mg base "stretch_of_ends" ["word", "one", "other"] 2 spEnds) : FnOk P w K mg base CX0 4 f fd ["word", "one", "other"] spOf := by
  refine F.ok sc_stretch_of (fun vs H Q E h => ?_) (fun cdv A outer s H vs Q E hr h => ?_)
  · obtain ⟨w, x, y, s, t, rfl, _⟩ := h
    rfl
  obtain ⟨w, x, y, s, t, rfl, hx, hy, hs, ht, q⟩ := h
  refine ⟨_, (pss_cons (ps_if (pt_cmpR (gEq hr.units) (pe_var (i := 0) rfl vis_stretch_of_word db_word cd_word) pe_str (nomark _)) (pss_one (ps_ret (pe_cc c_stretch_of_same hr (by omega) (pa_c (pe_var (i := 1) rfl vis_stretch_of_one db_one cd_one) (pa_c (pe_var (i := 2) rfl vis_stretch_of_other db_other cd_other) pa_nil)) gl_stretch_of_stretch_of_same db_stretch_of_same))) pss_nil)
  (pss_cons (ps_if (PW.pt (pw_and (pt_cmpR (gEq hr.units) (pe_var (i := 0) rfl vis_stretch_of_word db_word cd_word) pe_str (nomark _)) (pw_and1 (pt_cmpR gNotN (pe_var (i := 2) rfl vis_stretch_of_other db_other cd_other) pe_non (nomark _))))) (pss_cons (ps_set (i := 3) sc_stretch_of.nd rfl loc_stretch_of_below (pe_cc c_between hr (by omega) (pa_c (pe_ix ix_tup (pe_var (i := 2) rfl vis_stretch_of_other db_other cd_other) pe_int (fun _ _ => rfl)) (pa_c (pe_cB (call_min2 rfl) gl_stretch_of_min b_min bt_min (pa_c (pe_ix ix_tup (pe_var (i := 2) rfl vis_stretch_of_other db_other cd_other) pe_int (fun _ _ => rfl)) (pa_c (pe_un un_neg pe_int) pa_nil)) nn_min db_min) pa_nil)) gl_stretch_of_between db_between) (swaps_plain rfl))
  (pss_cons (ps_set (i := 4) sc_stretch_of.nd rfl loc_stretch_of_above (pe_cc c_between hr (by omega) (pa_c (pe_cB (call_max2 rfl) gl_stretch_of_max b_max bt_max (pa_c (pe_ix ix_tup (pe_var (i := 2) rfl vis_stretch_of_other db_other cd_other) pe_int (fun _ _ => rfl)) (pa_c pe_int pa_nil)) nn_max db_max) (pa_c (pe_ix ix_tup (pe_var (i := 2) rfl vis_stretch_of_other db_other cd_other) pe_int (fun _ _ => rfl)) pa_nil)) gl_stretch_of_between db_between) (swaps_plain rfl))
  (pss_one (ps_ret (pe_cc c_joined hr (by omega) (pa_c (pe_cc c_stretch_of_ends hr (by omega) (pa_c (pe_var (i := 0) rfl vis_stretch_of_word db_word cd_word) (pa_c (pe_var (i := 1) rfl vis_stretch_of_one db_one cd_one) (pa_c (pe_var (i := 3) rfl vis_stretch_of_below db_below cd_below) pa_nil))) gl_stretch_of_stretch_of_ends db_stretch_of_ends) (pa_c (pe_cc c_stretch_of_ends hr (by omega) (pa_c (pe_var (i := 0) rfl vis_stretch_of_word db_word cd_word) (pa_c (pe_var (i := 1) rfl vis_stretch_of_one db_one cd_one) (pa_c (pe_var (i := 4) rfl vis_stretch_of_above db_above cd_above) pa_nil))) gl_stretch_of_stretch_of_ends db_stretch_of_ends) pa_nil)) gl_stretch_of_joined db_joined))))) pss_nil)
  (pss_one (ps_ret (pe_cc c_stretch_of_ends hr (by omega) (pa_c (pe_var (i := 0) rfl vis_stretch_of_word db_word cd_word) (pa_c (pe_var (i := 1) rfl vis_stretch_of_one db_one cd_one) (pa_c (pe_var (i := 2) rfl vis_stretch_of_other db_other cd_other) pa_nil))) gl_stretch_of_stretch_of_ends db_stretch_of_ends))))), ?_⟩
  walk_at "rd"
  refine ⟨_, eqW w .same, ?_⟩
  split
  · rename_i e
    cases of_decide_eq_true e
    refine ⟨x, y, s, t, rfl, hx, hy, fun r H' s1 dr => q r H' _ s1 ?_ dr⟩
    match s, t, hs, ht with
    | none, none, _, _ => exact rfl
    | none, some (c, d), _, _ => exact rfl
    | some (a, b), none, _, _ => exact rfl
    | some (a, b), some (c, d), hs, ht => exact same_isS hs.1 ht.1
  rename_i n1
  have n1 : w ≠ .same := fun z => n1 (decide_eq_true z)
  refine ⟨_, eqW w .quo, ?_⟩
  split
  · rename_i e
    cases of_decide_eq_true e
    rcases dtS hy with ⟨rfl, rfl⟩ | ⟨c, d, p2, rfl, rfl, hp2⟩
    · rw [if_neg (by simp)]
      refine ⟨.quo, x, .non, s, none, rfl, hx, hy, trivial, fun r H' o s1 rel dr => q r H' o s1 ?_ dr⟩
      match s, rel with
      | none, rel => exact rel
      | some (a, b), rel => exact rel
    · rw [if_pos (by simp)]
      obtain ⟨hcd, hc, hd⟩ := ht
      refine ⟨_, rfl, _, SqT.of hp2, _, rfl, _, rfl, _, SqT.of hp2, _, rfl, _, _, ⟨rfl, rfl⟩, _, _, rfl, fun r1 H1 s1 d1 => ?_⟩
      have d1 : Dt H1 r1 (encS (bet c (mn d (-1)))) := d1
      refine ⟨_, rfl, _, SqT.of (s1 _ _ hp2), _, rfl, _, _, ⟨rfl, rfl⟩, _, rfl, _, SqT.of (s1 _ _ hp2), _, rfl, _, _, rfl, fun r2 H2 s2 d2 => ?_⟩
      have d2 : Dt H2 r2 (encS (bet (mx c 1) d)) := d2
      have sm1 : Small .quo (bet c (mn d (-1))) := by
        unfold bet
        split
        · trivial
        · rename_i h
          unfold mn at h ⊢
          split at h <;> rename_i g <;> simp only [g, if_true, if_false] <;> exact ⟨fun _ => ⟨by omega, by omega⟩, by omega, by omega⟩
      have sm2 : Small .quo (bet (mx c 1) d) := by
        unfold bet
        split
        · trivial
        · rename_i h
          unfold mx at h ⊢
          split at h <;> rename_i g <;> simp only [g, if_true, if_false] <;> exact ⟨fun _ => ⟨by omega, by omega⟩, by omega, by omega⟩
      refine ⟨.quo, x, r1, s, _, rfl, hx.kp (s1.trans s2).kp, d1.kp s2.kp, sm1, fun r3 H3 o3 s3 rel3 d3 => ?_⟩
      refine ⟨.quo, x, r2, s, _, rfl, hx.kp (s1.trans (s2.trans s3)).kp, d2.kp s3.kp, sm2, fun r4 H4 o4 s4 rel4 d4 => ?_⟩
      refine ⟨r3, r4, o3, o4, rfl, d3.kp s4.kp, d4, fun r5 H5 s5 d5 => q r5 H5 _ (s1.trans (s2.trans (s3.trans (s4.trans s5)))) ?_ d5⟩
      match s, hs, rel3, rel4 with
      | none, _, rel3, rel4 =>
        have e3 : o3 = none := by
          revert rel3
          cases bet c (mn d (-1)) <;> exact id
        have e4 : o4 = none := by
          revert rel4
          cases bet (mx c 1) d <;> exact id
        rw [e3, e4]; exact rfl
      | some (a, b), hs, rel3, rel4 =>
        refine quo_isS hs.1 hcd ?_ ?_
        · revert rel3
          cases bet c (mn d (-1)) <;> exact id
        · revert rel4
          cases bet (mx c 1) d <;> exact id
  · rename_i n2
    have n2 : w ≠ .quo := fun z => n2 (decide_eq_true z)
    refine ⟨w, x, y, s, t, rfl, hx, hy, ?_, fun r H' o s1 rel dr => q r H' o s1 ?_ dr⟩
    · match t, ht with
      | none, _ => trivial
      | some (c, d), ht => exact ⟨fun z => absurd z n2, ht.2.1, ht.2.2⟩
    · match s, t, hs, ht, rel with
      | none, none, _, _, rel => exact rel
      | none, some (c, d), _, _, rel => exact rel
      | some (a, b), none, _, _, rel => exact rel
      | some (a, b), some (c, d), hs, ht, rel =>
        obtain ⟨lo, hi, rfl, hh⟩ := rel
        exact ends_isS n1 hs.1 ht.1 (fun z => absurd z n2) hh
end
/-! ### a comprehension over ints -/
def MInv (H : Hp) (rest : St) (ns : List Int) (p : Int → Bool) (f : Int → Int) (i : Nat) (ys : List V) (σ' : St) (H' : Hp) : Prop := Same H H' ∧ (∃ t, σ' = t :: rest) ∧ ys = (((ns.take i).filter p).map f).map V.int
theorem comp_ints {K : PySem.W.Frag} {a : Addr} {ns : List Int} {g : TG} {tt : TT} {te : TE} {H : Hp} {Q : VK} {t0 : Option V} {rest : St} (p : Int → Bool) (f : Int → Int) (hS : SqL K H a (ns.map V.int)) (hn : ns.length ≤ 1000)
    (hs : ∀ (n : Int) (t : Option V) (H' : Hp) (R1 : V → St → Hp → Prop) (R0 : St → Hp → Prop), n ∈ ns → Same H H' → (p n = true → ∀ t H4, Same H H4 → R1 (.int (f n)) (t :: rest) H4) → (p n = false → ∀ t H3, Same H H3 → R0 (t :: rest) H3) →
      g (.int n) (t :: rest) H' fun σ2 H2 => tt σ2 H2 fun b H3 => if b = true then te σ2 H3 (fun v H4 => R1 v σ2 H4) else R0 σ2 H3)
    (hd : ∀ (H' : Hp) (l : Addr), Same H H' → H' l = none → Q (.ref l) (upd H' l (.lst (((ns.filter p).map f).map V.int)))) : CompW (Itl K a) g tt te Q (t0 :: rest) H := by
  refine comp_list (K := K) (a := a) (xs := ns.map V.int) (MInv H rest ns p f) ⟨Same.refl _, ⟨_, rfl⟩, rfl⟩ (small1000 (by rw [List.length_map]; exact hn)) ?_ ?_ ?_ ?_
  · rintro i ys σ' H' ⟨_, _, rfl⟩
    rw [List.length_map, List.length_map]
    exact Nat.le_trans (List.length_filter_le _ _) (by rw [List.length_take]; omega)
  · rintro i ys σ' H' _ ⟨s, _, _⟩
    exact s.seq hS
  · rintro i ys v σ' H' hxi ⟨s, ⟨t, rfl⟩, rfl⟩
    rw [List.getElem?_map] at hxi
    cases hr' : ns[i]? with
    | none => rw [hr'] at hxi; cases hxi
    | some x =>
      rw [hr'] at hxi
      have ev : V.int x = v := by simpa using hxi
      subst ev
      have et : ns.take (i + 1) = ns.take i ++ [x] := by rw [List.take_add_one, hr']; rfl
      refine hs x t H' (fun v σ2 H4 => MInv H rest ns p f (i + 1) ((((ns.take i).filter p).map f).map V.int ++ [v]) σ2 H4) (fun σ2 H3 => MInv H rest ns p f (i + 1) ((((ns.take i).filter p).map f).map V.int) σ2 H3) (List.mem_of_getElem? hr') s (fun e t H4 s4 => ⟨s4, ⟨t, rfl⟩, ?_⟩) (fun e t H3 s3 => ⟨s3, ⟨t, rfl⟩, ?_⟩)
      · rw [et, List.filter_append, List.map_append, List.map_append]
        simp [e]
      · rw [et, List.filter_append, List.map_append, List.map_append]
        simp [e]
  · rintro ys σ' H' ⟨s, _, rfl⟩ l hl
    have := hd H' l s hl
    rw [List.length_map, List.take_length]
    exact this
section
variable {P : Program} {w : World} {K : PySem.W.Frag} {mg : Str → Option Value} {base : Heap} {f : Addr} {fd : FuncData}
def spRk : Sp := fun vs H Q _ => ∃ (w : Wd) (a b : Int), vs = [.str w.str, .int a, .int b] ∧ (w = .quo → b ≠ 0) ∧ b.natAbs < 1073741824 ∧ ∀ H', Same H H' → Q (.int (w.worth a b)) H'
theorem ok_law_reckoned (F : Fun K "_law_reckoned" "_law_reckoned" s_law_reckoned f fd) (b_sorted : mg "sorted" = none) : FnOk P w K mg base CX0 1 f fd ["_law_word", "_law_one", "_law_other"] spRk := by
  refine F.ok sc_law_reckoned (fun vs H Q E h => ?_) (fun cdv A outer s H vs Q E hr h => ?_)
  · obtain ⟨w, a, b, rfl, _⟩ := h
    rfl
  obtain ⟨w, a, b, rfl, hq, hb, q⟩ := h
  refine ⟨_, (pss_cons (ps_if (pt_cmpR (gEq hr.units) (pe_var (i := 0) rfl vis_law_reckoned__law_word db__law_word cd__law_word) pe_str (nomark _)) (pss_one (ps_ret (pe_op op_add (pe_var (i := 1) rfl vis_law_reckoned__law_one db__law_one cd__law_one) (pe_var (i := 2) rfl vis_law_reckoned__law_other db__law_other cd__law_other)))) pss_nil)
  (pss_cons (ps_if (pt_cmpR (gEq hr.units) (pe_var (i := 0) rfl vis_law_reckoned__law_word db__law_word cd__law_word) pe_str (nomark _)) (pss_one (ps_ret (pe_op op_sub (pe_var (i := 1) rfl vis_law_reckoned__law_one db__law_one cd__law_one) (pe_var (i := 2) rfl vis_law_reckoned__law_other db__law_other cd__law_other)))) pss_nil)
  (pss_cons (ps_if (pt_cmpR (gEq hr.units) (pe_var (i := 0) rfl vis_law_reckoned__law_word db__law_word cd__law_word) pe_str (nomark _)) (pss_one (ps_ret (pe_op op_mul (pe_var (i := 1) rfl vis_law_reckoned__law_one db__law_one cd__law_one) (pe_var (i := 2) rfl vis_law_reckoned__law_other db__law_other cd__law_other)))) pss_nil)
  (pss_cons (ps_if (pt_cmpR (gEq hr.units) (pe_var (i := 0) rfl vis_law_reckoned__law_word db__law_word cd__law_word) pe_str (nomark _)) (pss_one (ps_ret (pe_op op_fdivN (pe_var (i := 1) rfl vis_law_reckoned__law_one db__law_one cd__law_one) (pe_var (i := 2) rfl vis_law_reckoned__law_other db__law_other cd__law_other)))) pss_nil)
  (pss_cons (ps_if (pt_cmpR (gIn hr.units) (pe_var (i := 0) rfl vis_law_reckoned__law_word db__law_word cd__law_word) (pe_tup (pa_c pe_str (pa_c pe_str pa_nil))) (by with_unfolding_all rfl)) (pss_one (ps_ret (pe_ifExp (pt_ifExp (pt_cmpR (gEq hr.units) (pe_var (i := 0) rfl vis_law_reckoned__law_word db__law_word cd__law_word) pe_str (nomark _)) (pt_cmpR op_lt (pe_var (i := 1) rfl vis_law_reckoned__law_one db__law_one cd__law_one) (pe_var (i := 2) rfl vis_law_reckoned__law_other db__law_other cd__law_other) (nomark _)) (pt_cmpR op_eqI (pe_var (i := 1) rfl vis_law_reckoned__law_one db__law_one cd__law_one) (pe_var (i := 2) rfl vis_law_reckoned__law_other db__law_other cd__law_other) (nomark _))) pe_int pe_int))) pss_nil)
  (pss_one (ps_ret (pe_ix ix_list (pe_cB call_sortedI gl_law_reckoned_sorted b_sorted bt_sorted (pa_c (pe_lst (pa_c (pe_var (i := 1) rfl vis_law_reckoned__law_one db__law_one cd__law_one) (pa_c (pe_var (i := 2) rfl vis_law_reckoned__law_other db__law_other cd__law_other) pa_nil))) pa_nil) nn_sorted db_sorted) (pe_ifExp (pt_cmpR (gEq hr.units) (pe_var (i := 0) rfl vis_law_reckoned__law_word db__law_word cd__law_word) pe_str (nomark _)) pe_int pe_int) (fun _ _ => rfl))))))))), ?_⟩
  walk_at "rd"
  have hm : CMul a b := .inr ⟨by omega, by omega⟩
  refine ⟨_, eqW w .add, ?_⟩
  split
  · rename_i e; cases of_decide_eq_true e; exact q _ (Same.refl _)
  rename_i n1
  refine ⟨_, eqW w .sub, ?_⟩
  split
  · rename_i e; cases of_decide_eq_true e; exact q _ (Same.refl _)
  rename_i n2
  refine ⟨_, eqW w .mul, ?_⟩
  split
  · rename_i e; cases of_decide_eq_true e; exact ⟨hm, q _ (Same.refl _)⟩
  rename_i n3
  refine ⟨_, eqW w .quo, ?_⟩
  split
  · rename_i e; cases of_decide_eq_true e; exact ⟨⟨hq rfl, hb⟩, q _ (Same.refl _)⟩
  rename_i n4
  refine ⟨zl 2 (by decide), fun p hp => ?_⟩
  have s1 := same_new hp (HO.tup [V.str (Wd.str .less), V.str (Wd.str .same)])
  have e1 : upd H p (HO.tup [V.str (Wd.str .less), V.str (Wd.str .same)]) p = _ := upd_same
  have hin : InOf K (V.str w.str) (V.ref p) (upd H p (HO.tup [V.str (Wd.str .less), V.str (Wd.str .same)])) (decide (w = .less ∨ w = .same)) :=
    .inl ⟨p, _, rfl, .inr (SqT.of e1), rfl, rfl, by cases w <;> decide +kernel⟩
  refine ⟨_, hin, ?_⟩
  split
  · rename_i e
    refine ⟨_, eqW w .less, ?_⟩
    split
    · rename_i e; cases of_decide_eq_true e
      have q : Q (.int (if a < b then 1 else 0)) _ := q _ s1
      split
      · rename_i c; rw [if_pos c] at q; exact q
      · rename_i c; rw [if_neg c] at q; exact q
    · rename_i e2
      have e : w = .same := (of_decide_eq_true e).resolve_left fun z => e2 (decide_eq_true z)
      cases e
      have q : Q (.int (if a = b then 1 else 0)) _ := q _ s1
      split
      · rename_i c; rw [if_pos c] at q; exact q
      · rename_i c; rw [if_neg c] at q; exact q
  · rename_i e
    refine ⟨zl 2 (by decide), fun p1 hp1 => ⟨[a, b], SqL.of upd_same, by simp, fun l ms hl hpm hpw => ?_⟩⟩
    have s2 := same_new hp1 (HO.lst [V.int a, V.int b])
    have s3 := same_new hl (HO.lst (ms.map V.int))
    obtain ⟨x, y, rfl⟩ : ∃ x y, ms = [x, y] := by
      have := hpm.length_eq
      match ms, this with
      | [x, y], _ => exact ⟨x, y, rfl⟩
    have hxy : x ≤ y := by
      have := List.pairwise_cons.mp hpw
      exact this.1 y (by simp)
    have hmem : (x = a ∧ y = b) ∨ (x = b ∧ y = a) := by
      have h1 : x ∈ [a, b] := hpm.mem_iff.mp (by simp)
      have h2 : y ∈ [a, b] := hpm.mem_iff.mp (by simp)
      have h3 : a ∈ [x, y] := hpm.mem_iff.mpr (by simp)
      have h4 : b ∈ [x, y] := hpm.mem_iff.mpr (by simp)
      simp only [List.mem_cons, List.not_mem_nil, or_false] at h1 h2 h3 h4
      omega
    refine ⟨_, eqW w .min, ?_⟩
    split
    · rename_i e2; cases of_decide_eq_true e2
      refine ⟨_, SqL.of upd_same, V.int x, rfl, ?_⟩
      have q : Q (.int (if b < a then b else a)) _ := q _ (s1.trans (s2.trans s3))
      have ex : x = if b < a then b else a := by split <;> omega
      rw [← ex] at q; exact q
    · rename_i e2
      have e5 : w = .max := by
        cases w <;> first | rfl | exact absurd rfl (by assumption)
      cases e5
      refine ⟨_, SqL.of upd_same, V.int y, rfl, ?_⟩
      have q : Q (.int (if b > a then b else a)) _ := q _ (s1.trans (s2.trans s3))
      have ex : y = if b > a then b else a := by split <;> omega
      rw [← ex] at q; exact q
def spHull (K : PySem.W.Frag) : Sp := fun vs H Q _ => ∃ (l : Addr) (ns : List Int), vs = [.ref l] ∧ SqL K H l (ns.map V.int) ∧ ∀ (r : V) (H' : Hp) (o : S), Same H H' → HullS ns o → Dt H' r (encS o) → Q r H'
theorem ok_law_hull (F : Fun K "_law_hull" "_law_hull" s_law_hull f fd) (b_min : mg "min" = none) (b_max : mg "max" = none) : FnOk P w K mg base CX0 1 f fd ["_law_worths"] (spHull K) := by
  refine F.ok sc_law_hull (fun vs H Q E h => ?_) (fun cdv A outer s H vs Q E hr h => ?_)
  · obtain ⟨l, ns, rfl, _⟩ := h
    rfl
  obtain ⟨l, ns, rfl, hS, q⟩ := h
  refine ⟨_, (pss_one (ps_ret (pe_ifExp (pt_cmpR (gNe hr.units) (pe_var (i := 0) rfl vis_law_hull__law_worths db__law_worths cd__law_worths) (pe_lst pa_nil) (nomark _)) (pe_tup (pa_c (pe_cB (call_minL rfl) gl_law_hull_min b_min bt_min (pa_c (pe_var (i := 0) rfl vis_law_hull__law_worths db__law_worths cd__law_worths) pa_nil) nn_min db_min) (pa_c (pe_cB (call_maxL rfl) gl_law_hull_max b_max bt_max (pa_c (pe_var (i := 0) rfl vis_law_hull__law_worths db__law_worths cd__law_worths) pa_nil) nn_max db_max) pa_nil))) pe_non))), ?_⟩
  walk_at "rd"
  refine ⟨Nat.zero_le _, fun p hp => ?_⟩
  have s1 := same_new hp (HO.lst [])
  have e1 : upd H p (HO.lst []) p = _ := upd_same
  generalize upd H p (HO.lst []) = U at s1 e1 ⊢
  refine ⟨_, .inr ⟨_, s1.seq hS, _, SqL.of e1, okInts ns, rfl, (eqL_nil _).symm⟩, ?_⟩
  split
  · rename_i hne
    have hl : 0 < ns.length := by
      cases ns with
      | nil => exact absurd hne (by simp)
      | cons x r => simp
    refine ⟨_, s1.seq hS, hl, fun lo h1 h2 => ⟨_, s1.seq hS, hl, fun hi h3 h4 => ⟨zl 2 (by decide), fun p2 hp2 => ?_⟩⟩⟩
    exact q _ _ (some (lo, hi)) (s1.trans (same_new hp2 _)) ⟨h1, h3, fun v hv => ⟨h2 v hv, h4 v hv⟩⟩ (dtS_mk upd_same)
  · rename_i hne
    have he : ns = [] := by
      cases ns with
      | nil => rfl
      | cons x r => exact absurd rfl hne
    exact q _ _ none s1 he .non
end
end SR


set_option Elab.async false
set_option linter.all false
set_option maxRecDepth 100000
set_option maxHeartbeats 0
namespace SR
open PySem L2
local macro_rules | `(tactic| walk_at "rd") => `(tactic| simp only [tSeq, tIfS, tTest, tOp, tVar, tC, tAsg, gName, gTup, gCons, gNil, tRet, tRetN, tDrop, tNext, tCB, tCons, tNil, tCall, tUn, rU, rI0, rI, tAnd, tOr, tNot, tB, tAndV, tOrV, tNotV, tIf, tIfT, tKGet, tChain, tDGet, tDGet1, sDPut, tDNewK, tDisp, tPairs, tCont, tSl, tNoPart, tPart, rSlT, tChain3, qSortS, qEqDL, qNeDL, tFor_enum, tFor_zip, tFor_rng2, tComp_seq, tTup, tLst, tBM,
  qEq, qNe, qIn, qNotIn, qIsN, qNotN, qIsB, qNotB, qLen, qInst, qEqD, qNeD, qMinL, qMaxL, qSortI, rIx, rIxL, rIxT, rIxS, rCat, rCatT2, rRep, rRepT, rLeS, rLtS, rAppend, rExtend, tNever, tBreak, tYes,
  tFor_tup, tFor_list, tFor_rng1, tComp_tup, tComp_list, tComp_str, L2.start, cxOf_K, cxOf_nox_K, cxComp_K, List.map_cons, List.map_nil, List.length_cons, List.length_nil, List.replicate_succ, List.replicate_zero, Nat.reduceAdd, Nat.reduceSub, Nat.zero_add, Nat.add_zero, Nat.sub_zero, Nat.sub_self, Nat.add_sub_cancel,
  List.getElem?_cons_zero, List.getElem?_cons_succ, List.set_cons_zero, List.set_cons_succ, List.cons_append, List.nil_append, List.append_nil, List.cons.injEq, Option.some.injEq, V.int.injEq, V.ref.injEq, V.str.injEq, V.bl.injEq, V.ty.injEq,
  reduceCtorEq, false_and, and_false, and_true, true_and, exists_false, exists_const, false_or, or_false, exists_eq_left, exists_eq_left', exists_eq_right, exists_eq_right', exists_and_left, decide_eq_true_eq, Bool.not_eq_true', Bool.decide_eq_true, exists_eq, true_or, or_true, Bool.false_eq_true, if_true, if_false, Bool.true_eq_false, Bool.not_true, Bool.not_false, decide_true, decide_false, List.isEmpty_cons, List.isEmpty_nil, Bool.true_and, Bool.false_and, bne_self_eq_false, beq_self_eq_true])
/-! ### shelves: what is left of stretches -/
def without (o : Int × Int) (v : Int) : S := if v = o.1 then bet (o.1 + 1) o.2 else if v = o.2 then bet o.1 (o.2 - 1) else some o
def bySame (o p : Int × Int) (so : Bool) : S := if so = true then meet (some o) (some p) else if p.1 ≠ p.2 then some o else without o p.1
def leftOne (w : Wd) (o p : Int × Int) (so : Bool) : S := if w = .same then bySame o p so else if so = true then bet o.1 (mn o.2 (p.2 - 1)) else bet (mx o.1 p.1) o.2
def leftOther (w : Wd) (o p : Int × Int) (so : Bool) : S := if w = .same then bySame o p so else if so = true then bet (mx o.1 (p.1 + 1)) o.2 else bet o.1 (mn o.2 p.2)
def leftName (s : S) (so : Bool) : S := match s with
  | none => none
  | some o => if so = true then without o 0 else meet (some o) (some (0, 0))
section
variable {P : Program} {w : World} {K : PySem.W.Frag} {mg : Str → Option Value} {base : Heap} {f : Addr} {fd : FuncData}
theorem dtS1 {H : Hp} {x : V} {o : Int × Int} (h : Dt H x (encS (some o))) : ∃ p, x = .ref p ∧ H p = some (.tup [.int o.1, .int o.2]) := by
  rcases dtS h with ⟨e, _⟩ | ⟨a, b, p, e, hx, hp⟩
  · cases e
  · cases e; exact ⟨p, hx, hp⟩
def spWithout : Sp := fun vs H Q _ => ∃ (x : V) (o : Int × Int) (v : Int), vs = [x, .int v] ∧ Dt H x (encS (some o)) ∧ ∀ (r : V) (H' : Hp), Same H H' → Dt H' r (encS (without o v)) → Q r H'
theorem ok_without (F : Fun K "without" "without" s_without f fd) (c_between : Callee P w K mg base "between" ["low", "high"] 1 spBetween) : FnOk P w K mg base CX0 2 f fd ["own", "worth"] spWithout := by
  refine F.ok sc_without (fun vs H Q E h => ?_) (fun cdv A outer s H vs Q E hr h => ?_)
  · obtain ⟨x, o, v, rfl, _⟩ := h
    rfl
  obtain ⟨x, o, v, rfl, hx, q⟩ := h
  obtain ⟨p, rfl, hp⟩ := dtS1 hx
  refine ⟨_, (pss_cons (ps_if (pt_cmpR op_eqI (pe_var (i := 1) rfl vis_without_worth db_worth cd_worth) (pe_ix ix_tup (pe_var (i := 0) rfl vis_without_own db_own cd_own) pe_int (fun _ _ => rfl)) (nomark _)) (pss_one (ps_ret (pe_cc c_between hr (by omega) (pa_c (pe_op op_add (pe_ix ix_tup (pe_var (i := 0) rfl vis_without_own db_own cd_own) pe_int (fun _ _ => rfl)) pe_int) (pa_c (pe_ix ix_tup (pe_var (i := 0) rfl vis_without_own db_own cd_own) pe_int (fun _ _ => rfl)) pa_nil)) gl_without_between db_between))) pss_nil)
  (pss_cons (ps_if (pt_cmpR op_eqI (pe_var (i := 1) rfl vis_without_worth db_worth cd_worth) (pe_ix ix_tup (pe_var (i := 0) rfl vis_without_own db_own cd_own) pe_int (fun _ _ => rfl)) (nomark _)) (pss_one (ps_ret (pe_cc c_between hr (by omega) (pa_c (pe_ix ix_tup (pe_var (i := 0) rfl vis_without_own db_own cd_own) pe_int (fun _ _ => rfl)) (pa_c (pe_op op_sub (pe_ix ix_tup (pe_var (i := 0) rfl vis_without_own db_own cd_own) pe_int (fun _ _ => rfl)) pe_int) pa_nil)) gl_without_between db_between))) pss_nil)
  (pss_one (ps_ret (pe_var (i := 0) rfl vis_without_own db_own cd_own))))), ?_⟩
  walk_at "rd"
  refine ⟨_, SqT.of hp, _, rfl, _, rfl, ?_⟩
  split
  · rename_i e
    refine ⟨_, SqT.of hp, _, rfl, _, rfl, _, SqT.of hp, _, rfl, _, _, rfl, fun r H' s1 dr => q r H' s1 ?_⟩
    unfold without
    rw [if_pos e]; exact dr
  · rename_i e
    refine ⟨_, SqT.of hp, _, rfl, _, rfl, ?_⟩
    split
    · rename_i e2
      refine ⟨_, SqT.of hp, _, rfl, _, SqT.of hp, _, rfl, _, rfl, _, _, rfl, fun r H' s1 dr => q r H' s1 ?_⟩
      unfold without
      rw [if_neg e, if_pos e2]; exact dr
    · rename_i e2
      refine q _ _ (Same.refl _) ?_
      unfold without
      rw [if_neg e, if_neg e2]; exact hx
def spSS (g : Int × Int → Int × Int → Bool → S) : Sp := fun vs H Q _ => ∃ (x y : V) (o p : Int × Int) (so : Bool), vs = [x, y, .bl so] ∧ Dt H x (encS (some o)) ∧ Dt H y (encS (some p)) ∧ ∀ (r : V) (H' : Hp), Same H H' → Dt H' r (encS (g o p so)) → Q r H'
theorem ok_left_by_same (F : Fun K "left_by_same" "left_by_same" s_left_by_same f fd) (c_met : Callee P w K mg base "met" ["one", "other"] 2 (spS2 meet)) (c_without : Callee P w K mg base "without" ["own", "worth"] 2 spWithout) : FnOk P w K mg base CX0 3 f fd ["own", "beside", "is_so"] (spSS bySame) := by
  refine F.ok sc_left_by_same (fun vs H Q E h => ?_) (fun cdv A outer s H vs Q E hr h => ?_)
  · obtain ⟨x, y, o, p, so, rfl, _⟩ := h
    rfl
  obtain ⟨x, y, o, p, so, rfl, hx, hy, q⟩ := h
  obtain ⟨py, rfl, hpy⟩ := dtS1 hy
  refine ⟨_, (pss_cons (ps_if (pt_val (pe_var (i := 2) rfl vis_left_by_same_is_so db_is_so cd_is_so)) (pss_one (ps_ret (pe_cc c_met hr (by omega) (pa_c (pe_var (i := 0) rfl vis_left_by_same_own db_own cd_own) (pa_c (pe_var (i := 1) rfl vis_left_by_same_beside db_beside cd_beside) pa_nil)) gl_left_by_same_met db_met))) pss_nil)
  (pss_cons (ps_if (pt_cmpR op_neI (pe_ix ix_tup (pe_var (i := 1) rfl vis_left_by_same_beside db_beside cd_beside) pe_int (fun _ _ => rfl)) (pe_ix ix_tup (pe_var (i := 1) rfl vis_left_by_same_beside db_beside cd_beside) pe_int (fun _ _ => rfl)) (nomark _)) (pss_one (ps_ret (pe_var (i := 0) rfl vis_left_by_same_own db_own cd_own))) pss_nil)
  (pss_one (ps_ret (pe_cc c_without hr (by omega) (pa_c (pe_var (i := 0) rfl vis_left_by_same_own db_own cd_own) (pa_c (pe_ix ix_tup (pe_var (i := 1) rfl vis_left_by_same_beside db_beside cd_beside) pe_int (fun _ _ => rfl)) pa_nil)) gl_left_by_same_without db_without))))), ?_⟩
  walk_at "rd"
  cases so with
  | true =>
    rw [if_pos rfl]
    exact ⟨_, _, _, _, rfl, hx, hy, fun r H' s1 dr => q r H' s1 dr⟩
  | false =>
    rw [if_neg (by simp)]
    refine ⟨_, SqT.of hpy, _, rfl, _, SqT.of hpy, _, rfl, _, rfl, _, rfl, ?_⟩
    by_cases e : p.1 = p.2
    · rw [if_neg (by simp [e])]
      refine ⟨_, SqT.of hpy, _, rfl, _, _, _, rfl, hx, fun r H' s1 dr => q r H' s1 ?_⟩
      unfold bySame
      rw [if_neg (by simp), if_neg (by simp [e])]; exact dr
    · rw [if_pos (by simp [e])]
      refine q _ _ (Same.refl _) ?_
      unfold bySame
      rw [if_neg (by simp), if_pos e]; exact hx
def spWS (g : Wd → Int × Int → Int × Int → Bool → S) : Sp := fun vs H Q _ => ∃ (w : Wd) (x y : V) (o p : Int × Int) (so : Bool), vs = [.str w.str, x, y, .bl so] ∧ Dt H x (encS (some o)) ∧ Dt H y (encS (some p)) ∧ ∀ (r : V) (H' : Hp), Same H H' → Dt H' r (encS (g w o p so)) → Q r H'
theorem ok_left_of_one (F : Fun K "left_of_one" "left_of_one" s_left_of_one f fd) (b_min : mg "min" = none) (b_max : mg "max" = none) (c_between : Callee P w K mg base "between" ["low", "high"] 1 spBetween) (c_left_by_same : Callee P w K mg base "left_by_same" ["own", "beside", "is_so"] 3 (spSS bySame)) : FnOk P w K mg base CX0 4 f fd ["word", "own", "other", "is_so"] (spWS leftOne) := by
  refine F.ok sc_left_of_one (fun vs H Q E h => ?_) (fun cdv A outer s H vs Q E hr h => ?_)
  · obtain ⟨w, x, y, o, p, so, rfl, _⟩ := h
    rfl
  obtain ⟨w, x, y, o, p, so, rfl, hx, hy, q⟩ := h
  obtain ⟨px, rfl, hpx⟩ := dtS1 hx
  obtain ⟨py, rfl, hpy⟩ := dtS1 hy
  refine ⟨_, (pss_cons (ps_if (pt_cmpR (gEq hr.units) (pe_var (i := 0) rfl vis_left_of_one_word db_word cd_word) pe_str (nomark _)) (pss_one (ps_ret (pe_cc c_left_by_same hr (by omega) (pa_c (pe_var (i := 1) rfl vis_left_of_one_own db_own cd_own) (pa_c (pe_var (i := 2) rfl vis_left_of_one_other db_other cd_other) (pa_c (pe_var (i := 3) rfl vis_left_of_one_is_so db_is_so cd_is_so) pa_nil))) gl_left_of_one_left_by_same db_left_by_same))) pss_nil)
  (pss_cons (ps_if (pt_val (pe_var (i := 3) rfl vis_left_of_one_is_so db_is_so cd_is_so)) (pss_one (ps_ret (pe_cc c_between hr (by omega) (pa_c (pe_ix ix_tup (pe_var (i := 1) rfl vis_left_of_one_own db_own cd_own) pe_int (fun _ _ => rfl)) (pa_c (pe_cB (call_min2 rfl) gl_left_of_one_min b_min bt_min (pa_c (pe_ix ix_tup (pe_var (i := 1) rfl vis_left_of_one_own db_own cd_own) pe_int (fun _ _ => rfl)) (pa_c (pe_op op_sub (pe_ix ix_tup (pe_var (i := 2) rfl vis_left_of_one_other db_other cd_other) pe_int (fun _ _ => rfl)) pe_int) pa_nil)) nn_min db_min) pa_nil)) gl_left_of_one_between db_between))) pss_nil)
  (pss_one (ps_ret (pe_cc c_between hr (by omega) (pa_c (pe_cB (call_max2 rfl) gl_left_of_one_max b_max bt_max (pa_c (pe_ix ix_tup (pe_var (i := 1) rfl vis_left_of_one_own db_own cd_own) pe_int (fun _ _ => rfl)) (pa_c (pe_ix ix_tup (pe_var (i := 2) rfl vis_left_of_one_other db_other cd_other) pe_int (fun _ _ => rfl)) pa_nil)) nn_max db_max) (pa_c (pe_ix ix_tup (pe_var (i := 1) rfl vis_left_of_one_own db_own cd_own) pe_int (fun _ _ => rfl)) pa_nil)) gl_left_of_one_between db_between))))), ?_⟩
  walk_at "rd"
  refine ⟨_, eqW w .same, ?_⟩
  split
  · rename_i e
    refine ⟨_, _, _, _, _, rfl, hx, hy, fun r H' s1 dr => q r H' s1 ?_⟩
    unfold leftOne
    rw [if_pos (of_decide_eq_true e)]; exact dr
  · rename_i e
    have e : ¬ w = .same := fun z => e (decide_eq_true z)
    cases so with
    | true =>
      rw [if_pos rfl]
      refine ⟨_, SqT.of hpx, _, rfl, _, SqT.of hpx, _, rfl, _, SqT.of hpy, _, rfl, _, rfl, _, _, ⟨rfl, rfl⟩, _, _, rfl, fun r H' s1 dr => q r H' s1 ?_⟩
      unfold leftOne
      rw [if_neg e, if_pos rfl]; exact dr
    | false =>
      rw [if_neg (by simp)]
      refine ⟨_, SqT.of hpx, _, rfl, _, SqT.of hpy, _, rfl, _, _, ⟨rfl, rfl⟩, _, SqT.of hpx, _, rfl, _, _, rfl, fun r H' s1 dr => q r H' s1 ?_⟩
      unfold leftOne
      rw [if_neg e, if_neg (by simp)]; exact dr
theorem ok_left_of_other (F : Fun K "left_of_other" "left_of_other" s_left_of_other f fd) (b_min : mg "min" = none) (b_max : mg "max" = none) (c_between : Callee P w K mg base "between" ["low", "high"] 1 spBetween) (c_left_by_same : Callee P w K mg base "left_by_same" ["own", "beside", "is_so"] 3 (spSS bySame)) : FnOk P w K mg base CX0 4 f fd ["word", "own", "one", "is_so"] (spWS leftOther) := by
  refine F.ok sc_left_of_other (fun vs H Q E h => ?_) (fun cdv A outer s H vs Q E hr h => ?_)
  · obtain ⟨w, x, y, o, p, so, rfl, _⟩ := h
    rfl
  obtain ⟨w, x, y, o, p, so, rfl, hx, hy, q⟩ := h
  obtain ⟨px, rfl, hpx⟩ := dtS1 hx
  obtain ⟨py, rfl, hpy⟩ := dtS1 hy
  refine ⟨_, (pss_cons (ps_if (pt_cmpR (gEq hr.units) (pe_var (i := 0) rfl vis_left_of_other_word db_word cd_word) pe_str (nomark _)) (pss_one (ps_ret (pe_cc c_left_by_same hr (by omega) (pa_c (pe_var (i := 1) rfl vis_left_of_other_own db_own cd_own) (pa_c (pe_var (i := 2) rfl vis_left_of_other_one db_one cd_one) (pa_c (pe_var (i := 3) rfl vis_left_of_other_is_so db_is_so cd_is_so) pa_nil))) gl_left_of_other_left_by_same db_left_by_same))) pss_nil)
  (pss_cons (ps_if (pt_val (pe_var (i := 3) rfl vis_left_of_other_is_so db_is_so cd_is_so)) (pss_one (ps_ret (pe_cc c_between hr (by omega) (pa_c (pe_cB (call_max2 rfl) gl_left_of_other_max b_max bt_max (pa_c (pe_ix ix_tup (pe_var (i := 1) rfl vis_left_of_other_own db_own cd_own) pe_int (fun _ _ => rfl)) (pa_c (pe_op op_add (pe_ix ix_tup (pe_var (i := 2) rfl vis_left_of_other_one db_one cd_one) pe_int (fun _ _ => rfl)) pe_int) pa_nil)) nn_max db_max) (pa_c (pe_ix ix_tup (pe_var (i := 1) rfl vis_left_of_other_own db_own cd_own) pe_int (fun _ _ => rfl)) pa_nil)) gl_left_of_other_between db_between))) pss_nil)
  (pss_one (ps_ret (pe_cc c_between hr (by omega) (pa_c (pe_ix ix_tup (pe_var (i := 1) rfl vis_left_of_other_own db_own cd_own) pe_int (fun _ _ => rfl)) (pa_c (pe_cB (call_min2 rfl) gl_left_of_other_min b_min bt_min (pa_c (pe_ix ix_tup (pe_var (i := 1) rfl vis_left_of_other_own db_own cd_own) pe_int (fun _ _ => rfl)) (pa_c (pe_ix ix_tup (pe_var (i := 2) rfl vis_left_of_other_one db_one cd_one) pe_int (fun _ _ => rfl)) pa_nil)) nn_min db_min) pa_nil)) gl_left_of_other_between db_between))))), ?_⟩
  walk_at "rd"
  refine ⟨_, eqW w .same, ?_⟩
  split
  · rename_i e
    refine ⟨_, _, _, _, _, rfl, hx, hy, fun r H' s1 dr => q r H' s1 ?_⟩
    unfold leftOther
    rw [if_pos (of_decide_eq_true e)]; exact dr
  · rename_i e
    have e : ¬ w = .same := fun z => e (decide_eq_true z)
    cases so with
    | true =>
      rw [if_pos rfl]
      refine ⟨_, SqT.of hpx, _, rfl, _, SqT.of hpy, _, rfl, _, rfl, _, _, ⟨rfl, rfl⟩, _, SqT.of hpx, _, rfl, _, _, rfl, fun r H' s1 dr => q r H' s1 ?_⟩
      unfold leftOther
      rw [if_neg e, if_pos rfl]; exact dr
    | false =>
      rw [if_neg (by simp)]
      refine ⟨_, SqT.of hpx, _, rfl, _, SqT.of hpx, _, rfl, _, SqT.of hpy, _, rfl, _, _, ⟨rfl, rfl⟩, _, _, rfl, fun r H' s1 dr => q r H' s1 ?_⟩
      unfold leftOther
      rw [if_neg e, if_neg (by simp)]; exact dr
def spLName : Sp := fun vs H Q _ => ∃ (x : V) (s : S) (so : Bool), vs = [x, .bl so] ∧ Dt H x (encS s) ∧ ∀ (r : V) (H' : Hp), Same H H' → Dt H' r (encS (leftName s so)) → Q r H'
theorem ok_left_of_name (F : Fun K "left_of_name" "left_of_name" s_left_of_name f fd) (c_met : Callee P w K mg base "met" ["one", "other"] 2 (spS2 meet)) (c_without : Callee P w K mg base "without" ["own", "worth"] 2 spWithout) : FnOk P w K mg base CX0 3 f fd ["own", "is_so"] spLName := by
  refine F.ok sc_left_of_name (fun vs H Q E h => ?_) (fun cdv A outer s H vs Q E hr h => ?_)
  · obtain ⟨x, s, so, rfl, _⟩ := h
    rfl
  obtain ⟨x, s, so, rfl, hx, q⟩ := h
  refine ⟨_, (pss_cons (ps_if (PW.pt (pw_or (pt_cmpR gIsN (pe_var (i := 0) rfl vis_left_of_name_own db_own cd_own) pe_non (nomark _)) (pw_or1 (pt_not (pt_val (pe_var (i := 1) rfl vis_left_of_name_is_so db_is_so cd_is_so)))))) (pss_one (ps_ret (pe_cc c_met hr (by omega) (pa_c (pe_var (i := 0) rfl vis_left_of_name_own db_own cd_own) (pa_c (pe_tup (pa_c pe_int (pa_c pe_int pa_nil))) pa_nil)) gl_left_of_name_met db_met))) pss_nil)
  (pss_one (ps_ret (pe_cc c_without hr (by omega) (pa_c (pe_var (i := 0) rfl vis_left_of_name_own db_own cd_own) (pa_c pe_int pa_nil)) gl_left_of_name_without db_without)))), ?_⟩
  rcases dtS hx with ⟨rfl, rfl⟩ | ⟨a, b, p, rfl, rfl, hp⟩ <;> cases so <;> walk_at "rd"
  · refine ⟨zl 2 (by decide), fun p hp => ?_⟩
    exact ⟨_, _, none, some (0, 0), rfl, .non, dtS_mk upd_same, fun r H' s1 dr => q r H' ((same_new hp _).trans s1) dr⟩
  · refine ⟨zl 2 (by decide), fun p hp => ?_⟩
    exact ⟨_, _, none, some (0, 0), rfl, .non, dtS_mk upd_same, fun r H' s1 dr => q r H' ((same_new hp _).trans s1) dr⟩
  · refine ⟨zl 2 (by decide), fun p2 hp2 => ?_⟩
    exact ⟨_, _, _, _, rfl, hx.kp (same_new hp2 _).kp, dtS_mk upd_same, fun r H' s1 dr => q r H' ((same_new hp2 _).trans s1) dr⟩
  · exact ⟨_, _, _, rfl, hx, fun r H' s1 dr => q r H' s1 dr⟩
end
end SR


set_option Elab.async false
set_option linter.all false
set_option maxRecDepth 100000
set_option maxHeartbeats 0
namespace SR
open PySem L2
local macro_rules | `(tactic| walk_at "rd") => `(tactic| simp only [tSeq, tIfS, tTest, tOp, tVar, tC, tAsg, gName, gTup, gCons, gNil, tRet, tRetN, tDrop, tNext, tCB, tCons, tNil, tCall, tUn, rU, rI0, rI, tAnd, tOr, tNot, tB, tAndV, tOrV, tNotV, tIf, tIfT, tKGet, tChain, tDGet, tDGet1, sDPut, tDNewK, tDisp, tPairs, tCont, tSl, tNoPart, tPart, rSlT, tChain3, qSortS, qEqDL, qNeDL, tFor_enum, tFor_zip, tFor_rng2, tComp_seq, tTup, tLst, tBM,
  qEq, qNe, qIn, qNotIn, qIsN, qNotN, qIsB, qNotB, qLen, qInst, qEqD, qNeD, qMinL, qMaxL, qSortI, rIx, rIxL, rIxT, rIxS, rCat, rCatT2, rRep, rRepT, rLeS, rLtS, rAppend, rExtend, tNever, tBreak, tYes,
  tFor_tup, tFor_list, tFor_rng1, tComp_tup, tComp_list, tComp_str, L2.start, cxOf_K, cxOf_nox_K, cxComp_K, List.map_cons, List.map_nil, List.length_cons, List.length_nil, List.replicate_succ, List.replicate_zero, Nat.reduceAdd, Nat.reduceSub, Nat.zero_add, Nat.add_zero, Nat.sub_zero, Nat.sub_self, Nat.add_sub_cancel,
  List.getElem?_cons_zero, List.getElem?_cons_succ, List.set_cons_zero, List.set_cons_succ, List.cons_append, List.nil_append, List.append_nil, List.cons.injEq, Option.some.injEq, V.int.injEq, V.ref.injEq, V.str.injEq, V.bl.injEq, V.ty.injEq,
  reduceCtorEq, false_and, and_false, and_true, true_and, exists_false, exists_const, false_or, or_false, exists_eq_left, exists_eq_left', exists_eq_right, exists_eq_right', exists_and_left, decide_eq_true_eq, Bool.not_eq_true', Bool.decide_eq_true, exists_eq, true_or, or_true, Bool.false_eq_true, if_true, if_false, Bool.true_eq_false, Bool.not_true, Bool.not_false, decide_true, decide_false, List.isEmpty_cons, List.isEmpty_nil, Bool.true_and, Bool.false_and, bne_self_eq_false, beq_self_eq_true])
/-! ### books -/
abbrev Bk := List (Str × Int × Int)
def BkR (H : Hp) (kvs : List (Key × V)) (bk : Bk) : Prop := Paired (fun (p : Key × V) (q : Str × Int × Int) => p.1 = .inr q.1 ∧ Dt H p.2 (encS (some q.2))) kvs bk
theorem BkR.kp {H H' : Hp} {kvs : List (Key × V)} {bk : Bk} (h : BkR H kvs bk) (k : Kp H H') : BkR H' kvs bk := Paired.mapP h fun _ _ z => ⟨z.1, z.2.kp k⟩
def look : Bk → Str → S
  | [], _ => none
  | q :: r, x => if q.1 = x then some q.2 else look r x
def bput (bk : Bk) (x : Str) (s : Int × Int) : Bk := if (bk.any fun q => decide (q.1 = x)) = true then bk.map (fun q => if q.1 = x then (q.1, s) else q) else bk ++ [(x, s)]
theorem BkR.look {H : Hp} {kvs : List (Key × V)} {bk : Bk} (h : BkR H kvs bk) (x : Str) : (look bk x = none ∧ valV kvs (.inr x) = none) ∨ ∃ s v, look bk x = some s ∧ valV kvs (.inr x) = some v ∧ Dt H v (encS (some s)) := by
  unfold BkR at h
  induction h with
  | nil => exact .inl ⟨rfl, rfl⟩
  | cons rr _ ih =>
    rename_i p q _ _ _
    obtain ⟨e, d⟩ := rr
    by_cases hx : q.1 = x
    · refine .inr ⟨q.2, p.2, ?_, valV_pos (by rw [e, hx]), d⟩
      unfold SR.look
      rw [if_pos hx]
    · rw [valV_neg (by rw [e]; intro z; exact hx (Sum.inr.inj z))]
      unfold SR.look
      rw [if_neg hx]
      exact ih
theorem BkR.any {H : Hp} {kvs : List (Key × V)} {bk : Bk} (h : BkR H kvs bk) (x : Str) : (kvs.any fun kv => decide (kv.1 = (Sum.inr x : Key))) = bk.any fun q => decide (q.1 = x) := by
  unfold BkR at h
  induction h with
  | nil => rfl
  | cons rr _ ih =>
    rename_i p q _ _ _
    rw [List.any_cons, List.any_cons, ih, rr.1, key_rr]
theorem BkR.put_map {H : Hp} {x : Str} {v : V} {s : Int × Int} (d : Dt H v (encS (some s))) {kvs : List (Key × V)} {bk : Bk} (h : BkR H kvs bk) : BkR H (kvs.map fun kv => if kv.1 = Sum.inr x then (kv.1, v) else kv) (bk.map fun q => if q.1 = x then (q.1, s) else q) := by
  unfold BkR at h ⊢
  induction h with
  | nil => exact .nil
  | cons rr _ ih =>
    rename_i p q _ _ _
    rw [List.map_cons, List.map_cons]
    refine .cons ?_ ih
    by_cases hx : q.1 = x
    · rw [if_pos hx, if_pos (show p.1 = Sum.inr x by rw [rr.1, hx])]
      exact ⟨rr.1, d⟩
    · rw [if_neg hx, if_neg (show ¬ p.1 = Sum.inr x by rw [rr.1]; intro z; exact hx (Sum.inr.inj z))]
      exact rr
theorem BkR.put {H : Hp} {kvs : List (Key × V)} {bk : Bk} (h : BkR H kvs bk) (x : Str) {v : V} {s : Int × Int} (d : Dt H v (encS (some s))) : BkR H (putK kvs (.inr x) v) (bput bk x s) := by
  unfold putK bput
  rw [h.any x]
  split
  · exact h.put_map d
  · exact Paired.snoc h ⟨rfl, d⟩
theorem BkR.length {H : Hp} {kvs : List (Key × V)} {bk : Bk} (h : BkR H kvs bk) : kvs.length = bk.length := Paired.length h
/-- a dict that is a book -/
def IsBk (H : Hp) (d : Addr) (bk : Bk) : Prop := ∃ kvs, H d = some (.dK kvs) ∧ BkR H kvs bk
theorem IsBk.same {H H' : Hp} {d : Addr} {bk : Bk} (h : IsBk H d bk) (s : Same H H') : IsBk H' d bk := by
  obtain ⟨kvs, e, r⟩ := h
  exact ⟨kvs, s _ _ e, r.kp s.kp⟩
def ResB (H : Hp) (r : V) (o : Option Bk) : Prop := match o with
  | none => r = .non
  | some bk => ∃ d, r = .ref d ∧ IsBk H d bk
theorem kp_dict {H : Hp} {p : Addr} {kvs kvs' : List (Key × V)} (h : H p = some (.dK kvs)) : Kp H (upd H p (.dK kvs')) :=
  ⟨fun b zs e => by rw [upd_ne (ne_of e h (by intro z; cases z))]; exact e, fun b zs e => ⟨zs, by rw [upd_ne (ne_of e h (by intro z; cases z))]; exact e⟩⟩
section
variable {P : Program} {w : World} {K : PySem.W.Frag} {mg : Str → Option Value} {base : Heap} {f : Addr} {fd : FuncData}
def spWithLeft : Sp := fun vs H Q _ => ∃ (d : Addr) (x : Str) (v : V) (bk : Bk) (s : S), vs = [.ref d, .str x, v] ∧ IsBk H d bk ∧ bk.length ≤ 100 ∧ Dt H v (encS s) ∧ ∀ (r : V) (H' : Hp), Same H H' → ResB H' r (s.map (bput bk x)) → Q r H'
theorem ok_with_left (F : Fun K "with_left" "with_left" s_with_left f fd) (b_dict : mg "dict" = none) : FnOk P w K mg base CX0 1 f fd ["book", "name", "stretch"] spWithLeft := by
  refine F.ok sc_with_left (fun vs H Q E h => ?_) (fun cdv A outer s H vs Q E hr h => ?_)
  · obtain ⟨d, x, v, bk, s, rfl, _⟩ := h
    rfl
  obtain ⟨d, x, v, bk, s, rfl, ⟨kvs, hd, rb⟩, hlen, hv, q⟩ := h
  refine ⟨_, (pss_cons (ps_if (pt_cmpR gIsN (pe_var (i := 2) rfl vis_with_left_stretch db_stretch cd_stretch) pe_non (nomark _)) (pss_one (ps_ret pe_non)) pss_nil)
  (pss_cons (ps_set (i := 3) sc_with_left.nd rfl loc_with_left_left (pe_cT call_dict_of gl_with_left_dict b_dict bt_dict (pa_c (pe_var (i := 0) rfl vis_with_left_book db_book cd_book) pa_nil) nn_dict db_dict) (swaps_plain rfl))
  (pss_cons (ps_dput hr.units1 (pe_var (i := 3) rfl vis_with_left_left db_left cd_left) (pe_var (i := 1) rfl vis_with_left_name db_name cd_name) (pe_var (i := 2) rfl vis_with_left_stretch db_stretch cd_stretch) (swaps_plain rfl))
  (pss_one (ps_ret (pe_var (i := 3) rfl vis_with_left_left db_left cd_left)))))), ?_⟩
  rcases dtS hv with ⟨rfl, rfl⟩ | ⟨a, b, p, rfl, rfl, hp⟩ <;> walk_at "rd"
  · exact q _ _ (Same.refl _) rfl
  · refine ⟨_, .inl hd, fun pd hpd => ?_⟩
    have s1 := same_new hpd (HO.dK kvs)
    have e1 : upd H pd (HO.dK kvs) pd = _ := upd_same
    have s2 : ∀ o, Same H (upd (upd H pd (HO.dK kvs)) pd o) := fun o => same_upd s1 hpd
    generalize upd H pd (HO.dK kvs) = U at s1 e1 s2 ⊢
    refine ⟨_, DPut.k (k := .inr x) e1 (by rw [rb.length]; exact small1000 (by omega)), ?_⟩
    refine q _ _ (s2 _) ⟨pd, rfl, _, upd_same, ?_⟩
    exact (rb.kp ((s1.kp).trans (kp_dict e1))).put x (hv.kp ((s1.kp).trans (kp_dict e1)))
/-- a number, or a name -/
def sideS (bk : Bk) : T → S
  | .num i => some (i, i)
  | .nm x => look bk x
  | .op _ _ _ => none
def isSide : T → Prop
  | .op _ _ _ => False
  | _ => True
def spFrom1 : Sp := fun vs H Q _ => ∃ (v : V) (t : T) (d : Addr) (bk : Bk), vs = [v, .ref d] ∧ Dt H v t.enc ∧ isSide t ∧ IsBk H d bk ∧ ∀ (r : V) (H' : Hp), Same H H' → Dt H' r (encS (sideS bk t)) → Q r H'
theorem ok_reckoned_from {rw : Addr} (F : Fun K "reckoned_from" "reckoned_from" s_reckoned_from f fd) (g_WIDE : GC mg "WIDE" (.ref rw)) (c_met : Callee P w K mg base "met" ["one", "other"] 2 (spS2 meet)) (c_stretch_of : Callee P w K mg base "stretch_of" ["word", "one", "other"] 4 spOf)
    (c_reckoned_from : Callee P w K mg base "reckoned_from" ["term", "book"] 0 (fun _ _ _ _ => False)) : FnOk P w K mg base CX0 5 f fd ["term", "book"] spFrom1 := by
  refine F.ok sc_reckoned_from (fun vs H Q E h => ?_) (fun cdv A outer s H vs Q E hr h => ?_)
  · obtain ⟨v, t, d, bk, rfl, _⟩ := h
    rfl
  obtain ⟨v, t, d, bk, rfl, hv, ht, ⟨kvs, hd, rb⟩, q⟩ := h
  refine ⟨_, (pss_cons (ps_if (pt_cmpR (gEq hr.units) (pe_ix ix_tup (pe_var (i := 0) rfl vis_reckoned_from_term db_term cd_term) pe_int (fun _ _ => rfl)) pe_str (nomark _)) (pss_one (ps_ret (pe_tup (pa_c (pe_ix ix_tup (pe_var (i := 0) rfl vis_reckoned_from_term db_term cd_term) pe_int (fun _ _ => rfl)) (pa_c (pe_ix ix_tup (pe_var (i := 0) rfl vis_reckoned_from_term db_term cd_term) pe_int (fun _ _ => rfl)) pa_nil))))) pss_nil)
  (pss_cons (ps_if (pt_cmpR (gEq hr.units) (pe_ix ix_tup (pe_var (i := 0) rfl vis_reckoned_from_term db_term cd_term) pe_int (fun _ _ => rfl)) pe_str (nomark _)) (pss_one (ps_ret (pe_dget1 hr.units1 (pe_var (i := 1) rfl vis_reckoned_from_book db_book cd_book) (pe_ix ix_tup (pe_var (i := 0) rfl vis_reckoned_from_term db_term cd_term) pe_int (fun _ _ => rfl)) ⟨rfl, rfl, rfl, rfl⟩))) pss_nil)
  (pss_one (ps_ret (pe_cc c_met hr (by omega) (pa_c (pe_cc c_stretch_of hr (by omega) (pa_c (pe_ix ix_tup (pe_var (i := 0) rfl vis_reckoned_from_term db_term cd_term) pe_int (fun _ _ => rfl)) (pa_c (pe_cc c_reckoned_from hr (by omega) (pa_c (pe_ix ix_tup (pe_var (i := 0) rfl vis_reckoned_from_term db_term cd_term) pe_int (fun _ _ => rfl)) (pa_c (pe_var (i := 1) rfl vis_reckoned_from_book db_book cd_book) pa_nil)) gl_reckoned_from_reckoned_from db_reckoned_from) (pa_c (pe_cc c_reckoned_from hr (by omega) (pa_c (pe_ix ix_tup (pe_var (i := 0) rfl vis_reckoned_from_term db_term cd_term) pe_int (fun _ _ => rfl)) (pa_c (pe_var (i := 1) rfl vis_reckoned_from_book db_book cd_book) pa_nil)) gl_reckoned_from_reckoned_from db_reckoned_from) pa_nil))) gl_reckoned_from_stretch_of db_stretch_of) (pa_c (pe_gc g_WIDE gl_reckoned_from_WIDE db_WIDE) pa_nil)) gl_reckoned_from_met db_met))))), ?_⟩
  match t, hv, ht with
  | .num i, hv, _ =>
    obtain ⟨pv, xs, rfl, hpv, da⟩ := hv.tupI
    rcases da with _ | ⟨d1, _ | ⟨d2, _ | _⟩⟩
    cases d1; cases d2
    walk_at "rd"
    refine ⟨_, SqT.of hpv, _, rfl, _, .inl ⟨rfl, rfl⟩, ?_⟩
    rw [if_pos (by decide +kernel)]
    exact ⟨_, SqT.of hpv, _, rfl, _, SqT.of hpv, _, rfl, zl 2 (by decide), fun p hp => q _ _ (same_new hp _) (dtS_mk upd_same)⟩
  | .nm x, hv, _ =>
    obtain ⟨pv, xs, rfl, hpv, da⟩ := hv.tupI
    rcases da with _ | ⟨d1, _ | ⟨d2, _ | _⟩⟩
    cases d1; cases d2
    walk_at "rd"
    refine ⟨_, SqT.of hpv, _, rfl, _, .inl ⟨rfl, rfl⟩, ?_⟩
    rw [if_neg (by decide +kernel)]
    refine ⟨_, SqT.of hpv, _, rfl, _, .inl ⟨rfl, rfl⟩, ?_⟩
    rw [if_pos (by decide +kernel)]
    refine ⟨.inl ⟨_, .inl hd⟩, _, SqT.of hpv, _, rfl, _, DGet.k (k := .inr x) hd, ?_⟩
    have q : ∀ (r : V) (H' : Hp), Same H H' → Dt H' r (encS (look bk x)) → Q r H' := q
    rcases rb.look x with ⟨e1, e2⟩ | ⟨sx, vx, e1, e2, dx⟩
    · rw [e2]
      rw [e1] at q
      exact q _ _ (Same.refl _) .non
    · rw [e2]
      rw [e1] at q
      exact q _ _ (Same.refl _) dx
end
end SR


set_option Elab.async false
set_option linter.all false
set_option maxRecDepth 100000
set_option maxHeartbeats 0
namespace SR
open PySem L2
local macro_rules | `(tactic| walk_at "rd") => `(tactic| simp only [tSeq, tIfS, tTest, tOp, tVar, tC, tAsg, gName, gTup, gCons, gNil, tRet, tRetN, tDrop, tNext, tCB, tCons, tNil, tCall, tUn, rU, rI0, rI, tAnd, tOr, tNot, tB, tAndV, tOrV, tNotV, tIf, tIfT, tKGet, tChain, tDGet, tDGet1, sDPut, tDNewK, tDisp, tPairs, tCont, tSl, tNoPart, tPart, rSlT, tChain3, qSortS, qEqDL, qNeDL, tFor_enum, tFor_zip, tFor_rng2, tComp_seq, tTup, tLst, tBM,
  qEq, qNe, qIn, qNotIn, qIsN, qNotN, qIsB, qNotB, qLen, qInst, qEqD, qNeD, qMinL, qMaxL, qSortI, rIx, rIxL, rIxT, rIxS, rCat, rCatT2, rRep, rRepT, rLeS, rLtS, rAppend, rExtend, tNever, tBreak, tYes,
  tFor_tup, tFor_list, tFor_rng1, tComp_tup, tComp_list, tComp_str, L2.start, cxOf_K, cxOf_nox_K, cxComp_K, List.map_cons, List.map_nil, List.length_cons, List.length_nil, List.replicate_succ, List.replicate_zero, Nat.reduceAdd, Nat.reduceSub, Nat.zero_add, Nat.add_zero, Nat.sub_zero, Nat.sub_self, Nat.add_sub_cancel,
  List.getElem?_cons_zero, List.getElem?_cons_succ, List.set_cons_zero, List.set_cons_succ, List.cons_append, List.nil_append, List.append_nil, List.cons.injEq, Option.some.injEq, V.int.injEq, V.ref.injEq, V.str.injEq, V.bl.injEq, V.ty.injEq,
  reduceCtorEq, false_and, and_false, and_true, true_and, exists_false, exists_const, false_or, or_false, exists_eq_left, exists_eq_left', exists_eq_right, exists_eq_right', exists_and_left, decide_eq_true_eq, Bool.not_eq_true', Bool.decide_eq_true, exists_eq, true_or, or_true, Bool.false_eq_true, if_true, if_false, Bool.true_eq_false, Bool.not_true, Bool.not_false, decide_true, decide_false, List.isEmpty_cons, List.isEmpty_nil, Bool.true_and, Bool.false_and, bne_self_eq_false, beq_self_eq_true])
/-! ### behind a question -/
theorem look_map (x y : Str) (s : Int × Int) : ∀ bk : Bk, look (bk.map fun q => if q.1 = x then (q.1, s) else q) y = if y = x then (look bk y).map (fun _ => s) else look bk y
  | [] => by simp [look]
  | q :: r => by
    rw [List.map_cons, look, look, look_map x y s r]
    by_cases h1 : q.1 = x
    · rw [if_pos h1]
      by_cases h2 : q.1 = y
      · rw [if_pos h2, if_pos h2, if_pos (by rw [← h2, h1])]; rfl
      · rw [if_neg h2, if_neg h2]
    · rw [if_neg h1]
      by_cases h2 : q.1 = y
      · rw [if_pos h2, if_pos h2, if_neg (by rw [← h2]; exact h1)]
      · rw [if_neg h2, if_neg h2]
theorem look_any (x : Str) : ∀ bk : Bk, (bk.any fun q => decide (q.1 = x)) = (look bk x).isSome
  | [] => rfl
  | q :: r => by
    rw [List.any_cons, look, look_any x r]
    by_cases h : q.1 = x
    · rw [if_pos h]; simp [h]
    · rw [if_neg h]; simp [h]
theorem look_snoc (x y : Str) (s : Int × Int) : ∀ bk : Bk, look bk x = none → look (bk ++ [(x, s)]) y = if y = x then some s else look bk y
  | [], _ => by
    rw [List.nil_append, look, look]
    by_cases h : x = y
    · rw [if_pos h, if_pos h.symm]
    · rw [if_neg h, if_neg (fun z => h z.symm)]; rfl
  | q :: r, hn => by
    rw [look] at hn
    by_cases h : q.1 = x
    · rw [if_pos h] at hn; cases hn
    · rw [if_neg h] at hn
      rw [List.cons_append, look, look, look_snoc x y s r hn]
      by_cases h2 : q.1 = y
      · rw [if_pos h2, if_pos h2, if_neg (by rw [← h2]; exact h)]
      · rw [if_neg h2, if_neg h2]
theorem look_bput (bk : Bk) (x y : Str) (s : Int × Int) : look (bput bk x s) y = if y = x then some s else look bk y := by
  unfold bput
  rw [look_any]
  by_cases h : (look bk x).isSome = true
  · rw [if_pos h, look_map]
    by_cases e : y = x
    · rw [if_pos e, if_pos e, e]
      obtain ⟨z, hz⟩ := Option.isSome_iff_exists.mp h
      rw [hz]; rfl
    · rw [if_neg e, if_neg e]
  · rw [if_neg h]
    exact look_snoc x y s bk (by simpa using h)
theorem bput_len (bk : Bk) (x : Str) (s : Int × Int) : (bput bk x s).length ≤ bk.length + 1 := by
  unfold bput
  split
  · rw [List.length_map]; omega
  · rw [List.length_append]; simp
def bq1 (w : Wd) (a : T) (one other : Int × Int) (bk : Bk) (so : Bool) : Option Bk := match a with
  | .nm x => (leftOne w one other so).map (bput bk x)
  | _ => some bk
def bq2 (w : Wd) (b : T) (one : Int × Int) (bk : Bk) (so : Bool) : Option Bk := match b with
  | .nm y => (match look bk y with | some own => (leftOther w own one so).map (bput bk y) | none => none)
  | _ => some bk
theorem bq2_nm {w : Wd} {y : Str} {one own : Int × Int} {bk : Bk} {so : Bool} (h : look bk y = some own) : bq2 w (.nm y) one bk so = (leftOther w own one so).map (bput bk y) := by
  show (match look bk y with | some own => (leftOther w own one so).map (bput bk y) | none => none) = _
  rw [h]
def bq (w : Wd) (a b : T) (bk : Bk) (so : Bool) : Option Bk := match sideS bk a, sideS bk b with
  | some one, some other => (match bq1 w a one other bk so with | some bk1 => bq2 w b one bk1 so | none => none)
  | _, _ => none
def bhd (t : T) (bk : Bk) (so : Bool) : Option Bk := match t with
  | .nm x => (leftName (look bk x) so).map (bput bk x)
  | .op w a b => bq w a b bk so
  | .num _ => some bk
section
variable {P : Program} {w : World} {K : PySem.W.Frag} {mg : Str → Option Value} {base : Heap} {f : Addr} {fd : FuncData}
theorem side_head {t : T} (h : isSide t) {H : Hp} {v : V} (hv : Dt H v t.enc) : ∃ p y, v = .ref p ∧ ((∃ x, t = .nm x ∧ y = .str x ∧ H p = some (.tup [.str "name", y])) ∨ (∃ i, t = .num i ∧ y = .int i ∧ H p = some (.tup [.str "num", y]))) := by
  match t, h, hv with
  | .num i, _, hv =>
    obtain ⟨pv, xs, rfl, hpv, da⟩ := hv.tupI
    rcases da with _ | ⟨d1, _ | ⟨d2, _ | _⟩⟩
    cases d1; cases d2
    exact ⟨pv, _, rfl, .inr ⟨i, rfl, rfl, hpv⟩⟩
  | .nm x, _, hv =>
    obtain ⟨pv, xs, rfl, hpv, da⟩ := hv.tupI
    rcases da with _ | ⟨d1, _ | ⟨d2, _ | _⟩⟩
    cases d1; cases d2
    exact ⟨pv, _, rfl, .inl ⟨x, rfl, rfl, hpv⟩⟩
def spBQ : Sp := fun vs H Q _ => ∃ (v : V) (w : Wd) (a b : T) (d : Addr) (bk : Bk) (so : Bool), vs = [v, .ref d, .bl so] ∧ Dt H v (T.op w a b).enc ∧ isSide a ∧ isSide b ∧ IsBk H d bk ∧ bk.length ≤ 90 ∧ ∀ (r : V) (H' : Hp), Same H H' → ResB H' r (bq w a b bk so) → Q r H'
theorem ok_behind_question (F : Fun K "behind_question" "behind_question" s_behind_question f fd) (b_dict : mg "dict" = none) (c_reckoned_from : Callee P w K mg base "reckoned_from" ["term", "book"] 5 spFrom1) (c_with_left : Callee P w K mg base "with_left" ["book", "name", "stretch"] 1 spWithLeft)
    (c_left_of_one : Callee P w K mg base "left_of_one" ["word", "own", "other", "is_so"] 4 (spWS leftOne)) (c_left_of_other : Callee P w K mg base "left_of_other" ["word", "own", "one", "is_so"] 4 (spWS leftOther)) : FnOk P w K mg base CX0 6 f fd ["term", "book", "is_so"] spBQ := by
  refine F.ok sc_behind_question (fun vs H Q E h => ?_) (fun cdv A outer s H vs Q E hr h => ?_)
  · obtain ⟨v, w, a, b, d, bk, so, rfl, _⟩ := h
    rfl
  obtain ⟨v, w, a, b, d, bk, so, rfl, hv, ha, hb, hbk, hlen, q⟩ := h
  obtain ⟨pv, xs, rfl, hpv, da⟩ := hv.tupI
  rcases da with _ | ⟨d1, _ | ⟨d2, _ | ⟨d3, _ | _⟩⟩⟩
  cases d1
  rename_i va vb
  refine ⟨_, (pss_cons (ps_set (i := 3) sc_behind_question.nd rfl loc_behind_question_one (pe_cc c_reckoned_from hr (by omega) (pa_c (pe_ix ix_tup (pe_var (i := 0) rfl vis_behind_question_term db_term cd_term) pe_int (fun _ _ => rfl)) (pa_c (pe_var (i := 1) rfl vis_behind_question_book db_book cd_book) pa_nil)) gl_behind_question_reckoned_from db_reckoned_from) (swaps_plain rfl))
  (pss_cons (ps_set (i := 4) sc_behind_question.nd rfl loc_behind_question_other (pe_cc c_reckoned_from hr (by omega) (pa_c (pe_ix ix_tup (pe_var (i := 0) rfl vis_behind_question_term db_term cd_term) pe_int (fun _ _ => rfl)) (pa_c (pe_var (i := 1) rfl vis_behind_question_book db_book cd_book) pa_nil)) gl_behind_question_reckoned_from db_reckoned_from) (swaps_plain rfl))
  (pss_cons (ps_if (PW.pt (pw_or (pt_cmpR gIsN (pe_var (i := 3) rfl vis_behind_question_one db_one cd_one) pe_non (nomark _)) (pw_or1 (pt_cmpR gIsN (pe_var (i := 4) rfl vis_behind_question_other db_other cd_other) pe_non (nomark _))))) (pss_one (ps_ret pe_non)) pss_nil)
  (pss_cons (ps_set (i := 5) sc_behind_question.nd rfl loc_behind_question_left (pe_cT call_dict_of gl_behind_question_dict b_dict bt_dict (pa_c (pe_var (i := 1) rfl vis_behind_question_book db_book cd_book) pa_nil) nn_dict db_dict) (swaps_plain rfl))
  (pss_cons (ps_if (pt_cmpR (gEq hr.units) (pe_ix ix_tup (pe_ix ix_tup (pe_var (i := 0) rfl vis_behind_question_term db_term cd_term) pe_int (fun _ _ => rfl)) pe_int (fun _ _ => rfl)) pe_str (nomark _)) (pss_one (ps_set (i := 5) sc_behind_question.nd rfl loc_behind_question_left (pe_cc c_with_left hr (by omega) (pa_c (pe_var (i := 5) rfl vis_behind_question_left db_left cd_left) (pa_c (pe_ix ix_tup (pe_ix ix_tup (pe_var (i := 0) rfl vis_behind_question_term db_term cd_term) pe_int (fun _ _ => rfl)) pe_int (fun _ _ => rfl)) (pa_c (pe_cc c_left_of_one hr (by omega) (pa_c (pe_ix ix_tup (pe_var (i := 0) rfl vis_behind_question_term db_term cd_term) pe_int (fun _ _ => rfl)) (pa_c (pe_var (i := 3) rfl vis_behind_question_one db_one cd_one) (pa_c (pe_var (i := 4) rfl vis_behind_question_other db_other cd_other) (pa_c (pe_var (i := 2) rfl vis_behind_question_is_so db_is_so cd_is_so) pa_nil)))) gl_behind_question_left_of_one db_left_of_one) pa_nil))) gl_behind_question_with_left db_with_left) (swaps_plain rfl))) pss_nil)
  (pss_cons (ps_if (PW.pt (pw_and (pt_cmpR gNotN (pe_var (i := 5) rfl vis_behind_question_left db_left cd_left) pe_non (nomark _)) (pw_and1 (pt_cmpR (gEq hr.units) (pe_ix ix_tup (pe_ix ix_tup (pe_var (i := 0) rfl vis_behind_question_term db_term cd_term) pe_int (fun _ _ => rfl)) pe_int (fun _ _ => rfl)) pe_str (nomark _))))) (pss_cons (ps_set (i := 6) sc_behind_question.nd rfl loc_behind_question_own (pe_dget hr.units1 (pe_var (i := 5) rfl vis_behind_question_left db_left cd_left) (pe_ix ix_tup (pe_ix ix_tup (pe_var (i := 0) rfl vis_behind_question_term db_term cd_term) pe_int (fun _ _ => rfl)) pe_int (fun _ _ => rfl)) (fun _ _ => rfl)) (swaps_plain rfl))
  (pss_one (ps_set (i := 5) sc_behind_question.nd rfl loc_behind_question_left (pe_cc c_with_left hr (by omega) (pa_c (pe_var (i := 5) rfl vis_behind_question_left db_left cd_left) (pa_c (pe_ix ix_tup (pe_ix ix_tup (pe_var (i := 0) rfl vis_behind_question_term db_term cd_term) pe_int (fun _ _ => rfl)) pe_int (fun _ _ => rfl)) (pa_c (pe_cc c_left_of_other hr (by omega) (pa_c (pe_ix ix_tup (pe_var (i := 0) rfl vis_behind_question_term db_term cd_term) pe_int (fun _ _ => rfl)) (pa_c (pe_var (i := 6) rfl vis_behind_question_own db_own cd_own) (pa_c (pe_var (i := 3) rfl vis_behind_question_one db_one cd_one) (pa_c (pe_var (i := 2) rfl vis_behind_question_is_so db_is_so cd_is_so) pa_nil)))) gl_behind_question_left_of_other db_left_of_other) pa_nil))) gl_behind_question_with_left db_with_left) (swaps_plain rfl)))) pss_nil)
  (pss_one (ps_ret (pe_var (i := 5) rfl vis_behind_question_left db_left cd_left))))))))), ?_⟩
  walk_at "rd"
  refine ⟨_, SqT.of hpv, _, rfl, va, a, d, bk, rfl, d2, ha, hbk, fun r1 H1 s1 dr1 => ?_⟩
  refine ⟨_, SqT.of (s1 _ _ hpv), _, rfl, vb, b, d, bk, rfl, d3.kp s1.kp, hb, hbk.same s1, fun r2 H2 s2 dr2 => ?_⟩
  have s02 := s1.trans s2
  have dr1 := dr1.kp s2.kp
  rcases dtS dr1 with ⟨e1, rfl⟩ | ⟨l1, h1, p1, e1, rfl, hp1⟩
  · walk_at "rd"
    refine q _ _ s02 ?_
    unfold bq
    rw [e1]; exact rfl
  rcases dtS dr2 with ⟨e2, rfl⟩ | ⟨l2, h2, p2, e2, rfl, hp2⟩
  · walk_at "rd"
    refine q _ _ s02 ?_
    unfold bq
    rw [e1, e2]; exact rfl
  walk_at "rd"
  obtain ⟨kvs, hd, rb⟩ := hbk.same s02
  refine ⟨kvs, .inl hd, fun pd hpd => ?_⟩
  have s3 := same_new hpd (HO.dK kvs)
  have bU : IsBk (upd H2 pd (HO.dK kvs)) pd bk := ⟨kvs, upd_same, rb.kp s3.kp⟩
  generalize upd H2 pd (HO.dK kvs) = U at s3 bU ⊢
  have s03 := s02.trans s3
  obtain ⟨pa, ya, rfl, hpa⟩ := side_head ha d2
  obtain ⟨pb, yb, rfl, hpb⟩ := side_head hb d3
  have hb1 : ∀ y, b = .nm y → (look bk y).isSome = true := fun y e => by
    have z : look bk y = some (l2, h2) := by rw [e] at e2; exact e2
    rw [z]; rfl
  refine ⟨_, SqT.of (s03 _ _ hpv), _, rfl, _, rfl, ?_⟩
  rcases hpa with ⟨x, rfl, rfl, hpa⟩ | ⟨i, rfl, rfl, hpa⟩
  · refine ⟨_, SqT.of (s03 _ _ hpa), _, rfl, _, .inl ⟨rfl, rfl⟩, ?_⟩
    rw [if_pos (by decide +kernel)]
    refine ⟨_, SqT.of (s03 _ _ hpv), _, rfl, _, rfl, _, SqT.of (s03 _ _ hpa), _, rfl, _, SqT.of (s03 _ _ hpv), _, rfl, ?_⟩
    refine ⟨w, _, _, (l1, h1), (l2, h2), so, rfl, (dtS_mk hp1).kp s3.kp, (dtS_mk hp2).kp s3.kp, fun r4 H4 s4 dr4 => ?_⟩
    refine ⟨pd, x, r4, bk, _, rfl, bU.same s4, by omega, dr4, fun r5 H5 s5 hr5 => ?_⟩
    cases hl1 : leftOne w (l1, h1) (l2, h2) so with
    | none =>
      rw [hl1] at hr5
      cases hr5
      rw [if_neg (by simp)]
      refine q _ _ (s03.trans (s4.trans s5)) ?_
      unfold bq
      rw [e1, e2]
      dsimp only [bq1]
      rw [hl1]; exact rfl
    | some sl =>
      rw [hl1] at hr5
      obtain ⟨dl, rfl, hdl⟩ := hr5
      walk_at "rd"
      have sx := s03.trans (s4.trans s5)
      have d1x := (dtS_mk hp1).kp (s3.trans (s4.trans s5)).kp
      have hq : bq w (.nm x) b bk so = bq2 w b (l1, h1) (bput bk x sl) so := by
        unfold bq
        rw [e1, e2]
        dsimp only [bq1]
        rw [hl1]; rfl
      have hlx : (bput bk x sl).length ≤ 95 := by have := bput_len bk x sl; omega
      have hlk : ∀ y, b = .nm y → (look (bput bk x sl) y).isSome = true := fun y e => by
        rw [look_bput]
        split
        · rfl
        · exact hb1 y e
      generalize bput bk x sl = bk1 at hdl hq hlx hlk
      refine ⟨_, SqT.of (sx _ _ hpv), _, rfl, _, rfl, ?_⟩
      rcases hpb with ⟨y, rfl, rfl, hpb⟩ | ⟨i, rfl, rfl, hpb⟩
      · refine ⟨_, SqT.of (sx _ _ hpb), _, rfl, _, .inl ⟨rfl, rfl⟩, ?_⟩
        rw [if_pos (by decide +kernel)]
        obtain ⟨kv1, hd1, rb1⟩ := id hdl
        rcases rb1.look y with ⟨z1, z2⟩ | ⟨own, vo, z1, z2, dvo⟩
        · have := hlk y rfl
          rw [z1] at this; cases this
        · have dg := DGet.k (k := .inr y) hd1
          rw [z2] at dg
          refine ⟨_, SqT.of (sx _ _ hpv), _, rfl, _, rfl, _, SqT.of (sx _ _ hpb), _, rfl, vo, dg, _, SqT.of (sx _ _ hpv), _, rfl, _, rfl, _, SqT.of (sx _ _ hpb), _, rfl, _, SqT.of (sx _ _ hpv), _, rfl, ?_⟩
          refine ⟨w, vo, _, own, (l1, h1), so, rfl, dvo, d1x, fun r6 H6 s6 dr6 => ?_⟩
          refine ⟨dl, y, r6, bk1, _, rfl, hdl.same s6, by omega, dr6, fun r7 H7 s7 hr7 => q r7 H7 (sx.trans (s6.trans s7)) ?_⟩
          rw [hq]
          rw [bq2_nm z1]; exact hr7
      · refine ⟨_, SqT.of (sx _ _ hpb), _, rfl, _, .inl ⟨rfl, rfl⟩, ?_⟩
        rw [if_neg (by decide +kernel)]
        exact q _ _ sx (by rw [hq]; exact ⟨dl, rfl, hdl⟩)
  · refine ⟨_, SqT.of (s03 _ _ hpa), _, rfl, _, .inl ⟨rfl, rfl⟩, ?_⟩
    rw [if_neg (by decide +kernel)]
    have d1x := (dtS_mk hp1).kp s3.kp
    have hq : bq w (.num i) b bk so = bq2 w b (l1, h1) bk so := by
      unfold bq
      rw [e1, e2]; rfl
    refine ⟨_, SqT.of (s03 _ _ hpv), _, rfl, _, rfl, ?_⟩
    rcases hpb with ⟨y, rfl, rfl, hpb⟩ | ⟨i2, rfl, rfl, hpb⟩
    · refine ⟨_, SqT.of (s03 _ _ hpb), _, rfl, _, .inl ⟨rfl, rfl⟩, ?_⟩
      rw [if_pos (by decide +kernel)]
      obtain ⟨kv1, hd1, rb1⟩ := id bU
      rcases rb1.look y with ⟨z1, z2⟩ | ⟨own, vo, z1, z2, dvo⟩
      · have := hb1 y rfl
        rw [z1] at this; cases this
      · have dg := DGet.k (k := .inr y) hd1
        rw [z2] at dg
        refine ⟨_, SqT.of (s03 _ _ hpv), _, rfl, _, rfl, _, SqT.of (s03 _ _ hpb), _, rfl, vo, dg, _, SqT.of (s03 _ _ hpv), _, rfl, _, rfl, _, SqT.of (s03 _ _ hpb), _, rfl, _, SqT.of (s03 _ _ hpv), _, rfl, ?_⟩
        refine ⟨w, vo, _, own, (l1, h1), so, rfl, dvo, d1x, fun r6 H6 s6 dr6 => ?_⟩
        refine ⟨pd, y, r6, bk, _, rfl, bU.same s6, by omega, dr6, fun r7 H7 s7 hr7 => q r7 H7 (s03.trans (s6.trans s7)) ?_⟩
        rw [hq]
        rw [bq2_nm z1]; exact hr7
    · refine ⟨_, SqT.of (s03 _ _ hpb), _, rfl, _, .inl ⟨rfl, rfl⟩, ?_⟩
      rw [if_neg (by decide +kernel)]
      exact q _ _ s03 (by rw [hq]; exact ⟨pd, rfl, bU⟩)
/-- a name, or a question of less or same of two sides -/
def isQ : T → Prop
  | .nm _ => True
  | .op w a b => (w = .less ∨ w = .same) ∧ isSide a ∧ isSide b
  | .num _ => False
def spBehind : Sp := fun vs H Q _ => ∃ (v : V) (t : T) (d : Addr) (bk : Bk) (so : Bool), vs = [v, .ref d, .bl so] ∧ Dt H v t.enc ∧ isQ t ∧ IsBk H d bk ∧ bk.length ≤ 90 ∧ ∀ (r : V) (H' : Hp), Same H H' → ResB H' r (bhd t bk so) → Q r H'
theorem ok_behind (F : Fun K "behind" "behind" s_behind f fd) (b_dict : mg "dict" = none) (c_with_left : Callee P w K mg base "with_left" ["book", "name", "stretch"] 1 spWithLeft) (c_left_of_name : Callee P w K mg base "left_of_name" ["own", "is_so"] 3 spLName)
    (c_behind_question : Callee P w K mg base "behind_question" ["term", "book", "is_so"] 6 spBQ) : FnOk P w K mg base CX0 7 f fd ["term", "book", "is_so"] spBehind := by
  refine F.ok sc_behind (fun vs H Q E h => ?_) (fun cdv A outer s H vs Q E hr h => ?_)
  · obtain ⟨v, t, d, bk, so, rfl, _⟩ := h
    rfl
  obtain ⟨v, t, d, bk, so, rfl, hv, ht, hbk, hlen, q⟩ := h
  refine ⟨_, (pss_cons (ps_if (pt_cmpR (gEq hr.units) (pe_ix ix_tup (pe_var (i := 0) rfl vis_behind_term db_term cd_term) pe_int (fun _ _ => rfl)) pe_str (nomark _)) (pss_one (ps_ret (pe_cc c_with_left hr (by omega) (pa_c (pe_var (i := 1) rfl vis_behind_book db_book cd_book) (pa_c (pe_ix ix_tup (pe_var (i := 0) rfl vis_behind_term db_term cd_term) pe_int (fun _ _ => rfl)) (pa_c (pe_cc c_left_of_name hr (by omega) (pa_c (pe_dget1 hr.units1 (pe_var (i := 1) rfl vis_behind_book db_book cd_book) (pe_ix ix_tup (pe_var (i := 0) rfl vis_behind_term db_term cd_term) pe_int (fun _ _ => rfl)) ⟨rfl, rfl, rfl, rfl⟩) (pa_c (pe_var (i := 2) rfl vis_behind_is_so db_is_so cd_is_so) pa_nil)) gl_behind_left_of_name db_left_of_name) pa_nil))) gl_behind_with_left db_with_left))) pss_nil)
  (pss_cons (ps_if (PW.pt (pw_or (pt_cmpR (gEq hr.units) (pe_ix ix_tup (pe_var (i := 0) rfl vis_behind_term db_term cd_term) pe_int (fun _ _ => rfl)) pe_str (nomark _)) (pw_or1 (pt_cmpR (gEq hr.units) (pe_ix ix_tup (pe_var (i := 0) rfl vis_behind_term db_term cd_term) pe_int (fun _ _ => rfl)) pe_str (nomark _))))) (pss_one (ps_ret (pe_cc c_behind_question hr (by omega) (pa_c (pe_var (i := 0) rfl vis_behind_term db_term cd_term) (pa_c (pe_var (i := 1) rfl vis_behind_book db_book cd_book) (pa_c (pe_var (i := 2) rfl vis_behind_is_so db_is_so cd_is_so) pa_nil))) gl_behind_behind_question db_behind_question))) pss_nil)
  (pss_one (ps_ret (pe_cT call_dict_of gl_behind_dict b_dict bt_dict (pa_c (pe_var (i := 1) rfl vis_behind_book db_book cd_book) pa_nil) nn_dict db_dict))))), ?_⟩
  match t, hv, ht with
  | .nm x, hv, _ =>
    obtain ⟨pv, xs, rfl, hpv, da⟩ := hv.tupI
    rcases da with _ | ⟨d1, _ | ⟨d2, _ | _⟩⟩
    cases d1; cases d2
    walk_at "rd"
    refine ⟨_, SqT.of hpv, _, rfl, _, .inl ⟨rfl, rfl⟩, ?_⟩
    rw [if_pos (by decide +kernel)]
    obtain ⟨kvs, hd, rb⟩ := id hbk
    refine ⟨_, SqT.of hpv, _, rfl, .inl ⟨_, .inl hd⟩, _, SqT.of hpv, _, rfl, _, DGet.k (k := .inr x) hd, ?_⟩
    rcases rb.look x with ⟨z1, z2⟩ | ⟨own, vo, z1, z2, dvo⟩
    · rw [z2]
      refine ⟨_, none, so, rfl, .non, fun r1 H1 s1 dr1 => ?_⟩
      refine ⟨d, x, r1, bk, _, rfl, hbk.same s1, by omega, dr1, fun r2 H2 s2 hr2 => q r2 H2 (s1.trans s2) ?_⟩
      show ResB H2 r2 (Option.map (bput bk x) (leftName (look bk x) so))
      rw [z1]; exact hr2
    · rw [z2]
      refine ⟨_, some own, so, rfl, dvo, fun r1 H1 s1 dr1 => ?_⟩
      refine ⟨d, x, r1, bk, _, rfl, hbk.same s1, by omega, dr1, fun r2 H2 s2 hr2 => q r2 H2 (s1.trans s2) ?_⟩
      show ResB H2 r2 (Option.map (bput bk x) (leftName (look bk x) so))
      rw [z1]; exact hr2
  | .op w a b, hv, ht =>
    obtain ⟨hw, ha, hb⟩ := ht
    obtain ⟨pv, xs, rfl, hpv, da⟩ := id hv.tupI
    rcases da with _ | ⟨d1, _ | ⟨d2, _ | ⟨d3, _ | _⟩⟩⟩
    cases d1
    walk_at "rd"
    have fin : spBQ [V.ref pv, V.ref d, V.bl so] H Q E0 := ⟨_, w, a, b, d, bk, so, rfl, hv, ha, hb, hbk, hlen, q⟩
    refine ⟨_, SqT.of hpv, _, rfl, _, .inl ⟨rfl, rfl⟩, ?_⟩
    rw [if_neg (by rcases hw with rfl | rfl <;> decide +kernel)]
    refine ⟨_, SqT.of hpv, _, rfl, _, eqW w .less, ?_⟩
    split
    · exact fin
    · rename_i e
      refine ⟨_, SqT.of hpv, _, rfl, _, eqW w .same, ?_⟩
      rw [if_pos (decide_eq_true (hw.resolve_left fun z => e (decide_eq_true z)))]
      exact fin
end
end SR


set_option Elab.async false
set_option linter.all false
set_option maxRecDepth 100000
set_option maxHeartbeats 0
namespace SR
open PySem L2
local macro_rules | `(tactic| walk_at "rd") => `(tactic| simp only [tSeq, tIfS, tTest, tOp, tVar, tC, tAsg, gName, gTup, gCons, gNil, tRet, tRetN, tDrop, tNext, tCB, tCons, tNil, tCall, tUn, rU, rI0, rI, tAnd, tOr, tNot, tB, tAndV, tOrV, tNotV, tIf, tIfT, tKGet, tChain, tDGet, tDGet1, sDPut, tDNewK, tDisp, tPairs, tCont, tSl, tNoPart, tPart, rSlT, tChain3, qSortS, qEqDL, qNeDL, tFor_enum, tFor_zip, tFor_rng2, tComp_seq, tTup, tLst, tBM,
  qEq, qNe, qIn, qNotIn, qIsN, qNotN, qIsB, qNotB, qLen, qInst, qEqD, qNeD, qMinL, qMaxL, qSortI, rIx, rIxL, rIxT, rIxS, rCat, rCatT2, rRep, rRepT, rLeS, rLtS, rAppend, rExtend, tNever, tBreak, tYes,
  tFor_tup, tFor_list, tFor_rng1, tComp_tup, tComp_list, tComp_str, L2.start, cxOf_K, cxOf_nox_K, cxComp_K, List.map_cons, List.map_nil, List.length_cons, List.length_nil, List.replicate_succ, List.replicate_zero, Nat.reduceAdd, Nat.reduceSub, Nat.zero_add, Nat.add_zero, Nat.sub_zero, Nat.sub_self, Nat.add_sub_cancel,
  List.getElem?_cons_zero, List.getElem?_cons_succ, List.set_cons_zero, List.set_cons_succ, List.cons_append, List.nil_append, List.append_nil, List.cons.injEq, Option.some.injEq, V.int.injEq, V.ref.injEq, V.str.injEq, V.bl.injEq, V.ty.injEq,
  reduceCtorEq, false_and, and_false, and_true, true_and, exists_false, exists_const, false_or, or_false, exists_eq_left, exists_eq_left', exists_eq_right, exists_eq_right', exists_and_left, decide_eq_true_eq, Bool.not_eq_true', Bool.decide_eq_true, exists_eq, true_or, or_true, Bool.false_eq_true, if_true, if_false, Bool.true_eq_false, Bool.not_true, Bool.not_false, decide_true, decide_false, List.isEmpty_cons, List.isEmpty_nil, Bool.true_and, Bool.false_and, bne_self_eq_false, beq_self_eq_true])
/-! ### what is left holds all that fits, and no more -/
def In2 (o : Int × Int) (x : Int) : Prop := o.1 ≤ x ∧ x ≤ o.2
def rel (w : Wd) (x y : Int) : Bool := decide (w.worth x y ≠ 0)
theorem rel_less (x y : Int) : rel .less x y = decide (x < y) := by
  unfold rel Wd.worth
  by_cases h : x < y <;> simp [h]
theorem rel_same (x y : Int) : rel .same x y = decide (x = y) := by
  unfold rel Wd.worth
  by_cases h : x = y <;> simp [h]
def LS (w : Wd) : Prop := w = .less ∨ w = .same
theorem bet_some {l h : Int} {r : Int × Int} (e : bet l h = some r) : l ≤ h ∧ r = (l, h) := by
  unfold bet at e
  split at e
  · cases e
  · cases e; exact ⟨by omega, rfl⟩
theorem bet_none {l h : Int} (e : bet l h = none) : h < l := by
  unfold bet at e
  split at e
  · assumption
  · cases e
theorem mn_is (i j : Int) : (mn i j = i ∧ i ≤ j) ∨ (mn i j = j ∧ j ≤ i) := by unfold mn; split <;> omega
theorem mx_is (i j : Int) : (mx i j = i ∧ j ≤ i) ∨ (mx i j = j ∧ i ≤ j) := by unfold mx; split <;> omega
theorem without_sound {o : Int × Int} {v x : Int} (hx : In2 o x) (hv : x ≠ v) : ∃ r, without o v = some r ∧ In2 r x := by
  obtain ⟨l, h⟩ := o
  obtain ⟨h1, h2⟩ := hx
  simp only at h1 h2
  unfold without
  split
  · rename_i e
    simp only at e
    cases q : bet (l + 1) h with
    | none => have := bet_none q; omega
    | some r => obtain ⟨_, rfl⟩ := bet_some q; exact ⟨_, rfl, by constructor <;> simp only <;> omega⟩
  · split
    · rename_i e
      simp only at e
      cases q : bet l (h - 1) with
      | none => have := bet_none q; omega
      | some r => obtain ⟨_, rfl⟩ := bet_some q; exact ⟨_, rfl, by constructor <;> simp only <;> omega⟩
    · exact ⟨_, rfl, h1, h2⟩
theorem without_exact {o r : Int × Int} {v : Int} (ho : o.1 ≤ o.2) (e : without o v = some r) : r.1 ≤ r.2 ∧ o.1 ≤ r.1 ∧ r.2 ≤ o.2 ∧ r.1 ≠ v ∧ r.2 ≠ v := by
  obtain ⟨l, h⟩ := o
  unfold without at e
  simp only at e ho ⊢
  split at e
  · obtain ⟨_, rfl⟩ := bet_some e
    simp only; omega
  · split at e
    · obtain ⟨_, rfl⟩ := bet_some e
      simp only; omega
    · cases e; simp only; omega
theorem bySame_sound {o p : Int × Int} {so : Bool} {x y : Int} (hx : In2 o x) (hy : In2 p y) (h : decide (x = y) = so) : ∃ r, bySame o p so = some r ∧ In2 r x := by
  obtain ⟨l, hh⟩ := o
  obtain ⟨l2, h2⟩ := p
  obtain ⟨a1, a2⟩ := hx
  obtain ⟨b1, b2⟩ := hy
  simp only at a1 a2 b1 b2
  unfold bySame
  cases so with
  | true =>
    have e := of_decide_eq_true h
    rw [if_pos rfl]
    show ∃ r, bet (mx l l2) (mn hh h2) = some r ∧ _
    have m1 := mx_is l l2
    have m2 := mn_is hh h2
    cases q : bet (mx l l2) (mn hh h2) with
    | none => have := bet_none q; omega
    | some r => obtain ⟨_, rfl⟩ := bet_some q; exact ⟨_, rfl, by constructor <;> simp only <;> omega⟩
  | false =>
    have e := of_decide_eq_false h
    rw [if_neg (by simp)]
    split
    · exact ⟨_, rfl, a1, a2⟩
    · rename_i n
      simp only [ne_eq, Decidable.not_not] at n
      exact without_sound ⟨a1, a2⟩ (by simp only; omega)
theorem bySame_exact {o p r : Int × Int} {so : Bool} (ho : o.1 ≤ o.2) (hp : p.1 ≤ p.2) (e : bySame o p so = some r) : r.1 ≤ r.2 ∧ o.1 ≤ r.1 ∧ r.2 ≤ o.2 ∧ (∃ y, In2 p y ∧ decide (r.1 = y) = so) ∧ ∃ y, In2 p y ∧ decide (r.2 = y) = so := by
  obtain ⟨l, hh⟩ := o
  obtain ⟨l2, h2⟩ := p
  simp only at ho hp
  unfold bySame at e
  cases so with
  | true =>
    rw [if_pos rfl] at e
    have e : bet (mx l l2) (mn hh h2) = some r := e
    obtain ⟨k, rfl⟩ := bet_some e
    have m1 := mx_is l l2
    have m2 := mn_is hh h2
    refine ⟨k, by simp only; omega, by simp only; omega, ⟨_, ⟨?_, ?_⟩, decide_eq_true rfl⟩, ⟨_, ⟨?_, ?_⟩, decide_eq_true rfl⟩⟩ <;> simp only <;> omega
  | false =>
    rw [if_neg (by simp)] at e
    split at e
    · rename_i n
      simp only [ne_eq] at n
      cases e
      refine ⟨ho, Int.le_refl _, Int.le_refl _, ?_, ?_⟩
      · by_cases z : l = l2
        · exact ⟨h2, ⟨hp, Int.le_refl _⟩, decide_eq_false (by simp only; omega)⟩
        · exact ⟨l2, ⟨Int.le_refl _, hp⟩, decide_eq_false (by simp only; omega)⟩
      · by_cases z : hh = l2
        · exact ⟨h2, ⟨hp, Int.le_refl _⟩, decide_eq_false (by simp only; omega)⟩
        · exact ⟨l2, ⟨Int.le_refl _, hp⟩, decide_eq_false (by simp only; omega)⟩
    · obtain ⟨k1, k2, k3, k4, k5⟩ := without_exact (o := (l, hh)) ho e
      exact ⟨k1, k2, k3, ⟨l2, ⟨Int.le_refl _, hp⟩, decide_eq_false k4⟩, ⟨l2, ⟨Int.le_refl _, hp⟩, decide_eq_false k5⟩⟩
theorem leftOne_sound {w : Wd} (hw : LS w) {o p : Int × Int} {so : Bool} {x y : Int} (hx : In2 o x) (hy : In2 p y) (h : rel w x y = so) : ∃ r, leftOne w o p so = some r ∧ In2 r x := by
  unfold leftOne
  rcases hw with rfl | rfl
  · rw [if_neg (by decide)]
    rw [rel_less] at h
    obtain ⟨l, hh⟩ := o
    obtain ⟨l2, h2⟩ := p
    obtain ⟨a1, a2⟩ := hx
    obtain ⟨b1, b2⟩ := hy
    simp only at a1 a2 b1 b2 ⊢
    cases so with
    | true =>
      have e := of_decide_eq_true h
      rw [if_pos rfl]
      have m2 := mn_is hh (h2 - 1)
      cases q : bet l (mn hh (h2 - 1)) with
      | none => have := bet_none q; omega
      | some r => obtain ⟨_, rfl⟩ := bet_some q; exact ⟨_, rfl, by constructor <;> simp only <;> omega⟩
    | false =>
      have e := of_decide_eq_false h
      rw [if_neg (by simp)]
      have m2 := mx_is l l2
      cases q : bet (mx l l2) hh with
      | none => have := bet_none q; omega
      | some r => obtain ⟨_, rfl⟩ := bet_some q; exact ⟨_, rfl, by constructor <;> simp only <;> omega⟩
  · rw [if_pos rfl]
    rw [rel_same] at h
    exact bySame_sound hx hy h
theorem leftOne_exact {w : Wd} (hw : LS w) {o p r : Int × Int} {so : Bool} (ho : o.1 ≤ o.2) (hp : p.1 ≤ p.2) (e : leftOne w o p so = some r) : r.1 ≤ r.2 ∧ o.1 ≤ r.1 ∧ r.2 ≤ o.2 ∧ (∃ y, In2 p y ∧ rel w r.1 y = so) ∧ ∃ y, In2 p y ∧ rel w r.2 y = so := by
  unfold leftOne at e
  rcases hw with rfl | rfl
  · rw [if_neg (by decide)] at e
    obtain ⟨l, hh⟩ := o
    obtain ⟨l2, h2⟩ := p
    simp only at ho hp e ⊢
    cases so with
    | true =>
      rw [if_pos rfl] at e
      obtain ⟨k, rfl⟩ := bet_some e
      have m2 := mn_is hh (h2 - 1)
      refine ⟨k, by simp only; omega, by simp only; omega, ⟨h2, ⟨hp, Int.le_refl _⟩, ?_⟩, ⟨h2, ⟨hp, Int.le_refl _⟩, ?_⟩⟩ <;> rw [rel_less] <;> exact decide_eq_true (by simp only; omega)
    | false =>
      rw [if_neg (by simp)] at e
      obtain ⟨k, rfl⟩ := bet_some e
      have m2 := mx_is l l2
      refine ⟨k, by simp only; omega, by simp only; omega, ⟨l2, ⟨Int.le_refl _, hp⟩, ?_⟩, ⟨l2, ⟨Int.le_refl _, hp⟩, ?_⟩⟩ <;> rw [rel_less] <;> exact decide_eq_false (by simp only; omega)
  · rw [if_pos rfl] at e
    simp only [rel_same]
    exact bySame_exact ho hp e
theorem leftOther_sound {w : Wd} (hw : LS w) {o p : Int × Int} {so : Bool} {x y : Int} (hy : In2 o y) (hx : In2 p x) (h : rel w x y = so) : ∃ r, leftOther w o p so = some r ∧ In2 r y := by
  unfold leftOther
  rcases hw with rfl | rfl
  · rw [if_neg (by decide)]
    rw [rel_less] at h
    obtain ⟨l, hh⟩ := o
    obtain ⟨l2, h2⟩ := p
    obtain ⟨a1, a2⟩ := hy
    obtain ⟨b1, b2⟩ := hx
    simp only at a1 a2 b1 b2 ⊢
    cases so with
    | true =>
      have e := of_decide_eq_true h
      rw [if_pos rfl]
      have m2 := mx_is l (l2 + 1)
      cases q : bet (mx l (l2 + 1)) hh with
      | none => have := bet_none q; omega
      | some r => obtain ⟨_, rfl⟩ := bet_some q; exact ⟨_, rfl, by constructor <;> simp only <;> omega⟩
    | false =>
      have e := of_decide_eq_false h
      rw [if_neg (by simp)]
      have m2 := mn_is hh h2
      cases q : bet l (mn hh h2) with
      | none => have := bet_none q; omega
      | some r => obtain ⟨_, rfl⟩ := bet_some q; exact ⟨_, rfl, by constructor <;> simp only <;> omega⟩
  · rw [if_pos rfl]
    rw [rel_same] at h
    refine bySame_sound hy hx ?_
    rw [← h]
    by_cases z : x = y
    · rw [decide_eq_true z, decide_eq_true z.symm]
    · rw [decide_eq_false z, decide_eq_false (fun k => z k.symm)]
theorem leftOther_exact {w : Wd} (hw : LS w) {o p r : Int × Int} {so : Bool} (ho : o.1 ≤ o.2) (hp : p.1 ≤ p.2) (e : leftOther w o p so = some r) : r.1 ≤ r.2 ∧ o.1 ≤ r.1 ∧ r.2 ≤ o.2 ∧ (∃ x, In2 p x ∧ rel w x r.1 = so) ∧ ∃ x, In2 p x ∧ rel w x r.2 = so := by
  unfold leftOther at e
  rcases hw with rfl | rfl
  · rw [if_neg (by decide)] at e
    obtain ⟨l, hh⟩ := o
    obtain ⟨l2, h2⟩ := p
    simp only at ho hp e ⊢
    cases so with
    | true =>
      rw [if_pos rfl] at e
      obtain ⟨k, rfl⟩ := bet_some e
      have m2 := mx_is l (l2 + 1)
      refine ⟨k, by simp only; omega, by simp only; omega, ⟨l2, ⟨Int.le_refl _, hp⟩, ?_⟩, ⟨l2, ⟨Int.le_refl _, hp⟩, ?_⟩⟩ <;> rw [rel_less] <;> exact decide_eq_true (by simp only; omega)
    | false =>
      rw [if_neg (by simp)] at e
      obtain ⟨k, rfl⟩ := bet_some e
      have m2 := mn_is hh h2
      refine ⟨k, by simp only; omega, by simp only; omega, ⟨h2, ⟨hp, Int.le_refl _⟩, ?_⟩, ⟨h2, ⟨hp, Int.le_refl _⟩, ?_⟩⟩ <;> rw [rel_less] <;> exact decide_eq_false (by simp only; omega)
  · rw [if_pos rfl] at e
    obtain ⟨k1, k2, k3, ⟨x, hx, k4⟩, ⟨y, hy, k5⟩⟩ := bySame_exact ho hp e
    have sw : ∀ a b : Int, decide (a = b) = decide (b = a) := fun a b => by
      by_cases z : a = b
      · rw [decide_eq_true z, decide_eq_true z.symm]
      · rw [decide_eq_false z, decide_eq_false (fun k => z k.symm)]
    exact ⟨k1, k2, k3, ⟨x, hx, by rw [rel_same, sw]; exact k4⟩, ⟨y, hy, by rw [rel_same, sw]; exact k5⟩⟩
theorem leftName_sound {o : Int × Int} {so : Bool} {x : Int} (hx : In2 o x) (h : decide (x ≠ 0) = so) : ∃ r, leftName (some o) so = some r ∧ In2 r x := by
  unfold leftName
  cases so with
  | true =>
    have e := of_decide_eq_true h
    simp only [if_true]
    exact without_sound hx e
  | false =>
    have e : x = 0 := by simpa using h
    have := bySame_sound (p := (0, 0)) (so := true) (y := 0) hx ⟨Int.le_refl _, Int.le_refl _⟩ (decide_eq_true e)
    exact this
theorem leftName_exact {o r : Int × Int} {so : Bool} (ho : o.1 ≤ o.2) (e : leftName (some o) so = some r) : r.1 ≤ r.2 ∧ o.1 ≤ r.1 ∧ r.2 ≤ o.2 ∧ decide (r.1 ≠ 0) = so ∧ decide (r.2 ≠ 0) = so := by
  unfold leftName at e
  cases so with
  | true =>
    simp only [if_true] at e
    obtain ⟨k1, k2, k3, k4, k5⟩ := without_exact ho e
    exact ⟨k1, k2, k3, decide_eq_true k4, decide_eq_true k5⟩
  | false =>
    have e : bySame o (0, 0) true = some r := e
    obtain ⟨k1, k2, k3, ⟨x, hx, k4⟩, ⟨y, hy, k5⟩⟩ := bySame_exact ho (Int.le_refl _) e
    have z1 := of_decide_eq_true k4
    have z2 := of_decide_eq_true k5
    obtain ⟨p1, p2⟩ := hx
    obtain ⟨p3, p4⟩ := hy
    simp only at p1 p2 p3 p4
    refine ⟨k1, k2, k3, ?_, ?_⟩
    · have : r.1 = 0 := by omega
      simp [this]
    · have : r.2 = 0 := by omega
      simp [this]
/-! ### what behind tells of the book of a, b, c -/
def bk3 (A B C : Int × Int) : Bk := [("a", A), ("b", B), ("c", C)]
theorem sab : ¬ (("a" : Str) = "b") := by decide +kernel
theorem sba : ¬ (("b" : Str) = "a") := by decide +kernel
theorem sac : ¬ (("a" : Str) = "c") := by decide +kernel
theorem sca : ¬ (("c" : Str) = "a") := by decide +kernel
theorem sbc : ¬ (("b" : Str) = "c") := by decide +kernel
theorem scb : ¬ (("c" : Str) = "b") := by decide +kernel
theorem lk_a (A B C : Int × Int) : look (bk3 A B C) "a" = some A := by unfold bk3 look; rw [if_pos rfl]
theorem lk_b (A B C : Int × Int) : look (bk3 A B C) "b" = some B := by unfold bk3 look; rw [if_neg sab]; unfold look; rw [if_pos rfl]
theorem lk_c (A B C : Int × Int) : look (bk3 A B C) "c" = some C := by unfold bk3 look; rw [if_neg sac]; unfold look; rw [if_neg sbc]; unfold look; rw [if_pos rfl]
theorem pt_a (A B C s : Int × Int) : bput (bk3 A B C) "a" s = bk3 s B C := by
  unfold bput
  rw [look_any, lk_a]
  simp only [Option.isSome_some, if_true, bk3, List.map_cons, List.map_nil, if_neg sba, if_neg sca]
theorem pt_b (A B C s : Int × Int) : bput (bk3 A B C) "b" s = bk3 A s C := by
  unfold bput
  rw [look_any, lk_b]
  simp only [Option.isSome_some, if_true, bk3, List.map_cons, List.map_nil, if_neg sab, if_neg scb]
def soW : T → Int → Int → Int
  | .num n, _, _ => n
  | .nm s, x, y => if s = "a" then x else y
  | .op w a b, x, y => w.worth (soW a x y) (soW b x y)
theorem so_a (x y : Int) : soW (.nm "a") x y = x := by unfold soW; rw [if_pos rfl]
theorem so_b (x y : Int) : soW (.nm "b") x y = y := by unfold soW; rw [if_neg sba]
def Fit (t : T) (so : Bool) (x y : Int) : Prop := decide (soW t x y ≠ 0) = so
def nms : T → List Str
  | .num _ => []
  | .nm x => [x]
  | .op _ a b => nms a ++ nms b
def Alone : T → Prop
  | .op _ a b => a ≠ b
  | _ => True
structure Sd (t : T) (so : Bool) (z : Str) (O O' : Int × Int) (fits : Int → Prop) (atn : Int → Prop) : Prop where
  le : O'.1 ≤ O'.2
  all : ∀ x, fits x → In2 O' x
  ends : z ∈ nms t → Alone t → atn O'.1 ∧ atn O'.2
  same : z ∉ nms t → O' = O
def Told (t : T) (A B C : Int × Int) (so : Bool) (bk' : Bk) : Prop := ∃ A' B', bk' = bk3 A' B' C ∧
  Sd t so "a" A A' (fun x => ∃ y, In2 A x ∧ In2 B y ∧ Fit t so x y) (fun x => ∃ y, In2 A x ∧ In2 B y ∧ Fit t so x y) ∧
  Sd t so "b" B B' (fun y => ∃ x, In2 A x ∧ In2 B y ∧ Fit t so x y) (fun y => ∃ x, In2 A x ∧ In2 B y ∧ Fit t so x y)
def ToldR (t : T) (A B C : Int × Int) (so : Bool) (o : Option Bk) : Prop := match o with
  | none => ∀ x y, In2 A x → In2 B y → ¬ Fit t so x y
  | some bk' => Told t A B C so bk'
theorem bq_eq {w : Wd} {a b : T} {bk : Bk} {so : Bool} {one other : Int × Int} (h1 : sideS bk a = some one) (h2 : sideS bk b = some other) : bq w a b bk so = (match bq1 w a one other bk so with | some bk1 => bq2 w b one bk1 so | none => none) := by
  unfold bq
  rw [h1, h2]
  all_goals rfl
theorem fit_op {w : Wd} {a b : T} {so : Bool} {x y : Int} (h : Fit (.op w a b) so x y) : rel w (soW a x y) (soW b x y) = so := h
section
variable {w : Wd} (hw : LS w) {A B C : Int × Int} (hA : A.1 ≤ A.2) (hB : B.1 ≤ B.2) (so : Bool)
include hw hA hB

theorem told_ab : ToldR (.op w (.nm "a") (.nm "b")) A B C so (bq w (.nm "a") (.nm "b") (bk3 A B C) so) := by
  rw [bq_eq (show sideS (bk3 A B C) (.nm "a") = some A from lk_a A B C) (show sideS (bk3 A B C) (.nm "b") = some B from lk_b A B C)]
  have hf : ∀ x y, Fit (.op w (.nm "a") (.nm "b")) so x y → rel w x y = so := fun x y h => by
    have h := fit_op h
    rw [so_a, so_b] at h
    exact h
  show ToldR (.op w (.nm "a") (.nm "b")) A B C so (match (leftOne w A B so).map (bput (bk3 A B C) "a") with | some bk1 => bq2 w (.nm "b") A bk1 so | none => none)
  have sound1 : ∀ x y, In2 A x → In2 B y → Fit (.op w (.nm "a") (.nm "b")) so x y → ∃ r, leftOne w A B so = some r ∧ In2 r x := fun x y hx hy h => leftOne_sound hw hx hy (hf x y h)
  cases e1 : leftOne w A B so with
  | none =>
    intro x y hx hy h
    obtain ⟨r, hr, _⟩ := sound1 x y hx hy h
    rw [e1] at hr; cases hr
  | some O1 =>
    have sound1 : ∀ x y, In2 A x → In2 B y → Fit (.op w (.nm "a") (.nm "b")) so x y → In2 O1 x := fun x y hx hy h => by
      obtain ⟨r, hr, hi⟩ := sound1 x y hx hy h
      rw [e1] at hr; cases hr; exact hi
    obtain ⟨k1, k2, k3, ⟨u, hu, k4⟩, ⟨v, hv, k5⟩⟩ := leftOne_exact hw hA hB e1
    show ToldR (.op w (.nm "a") (.nm "b")) A B C so (bq2 w (.nm "b") A (bput (bk3 A B C) "a" O1) so)
    rw [pt_a]
    rw [bq2_nm (own := B) (lk_b O1 B C)]
    have sound2 : ∀ x y, In2 A x → In2 B y → Fit (.op w (.nm "a") (.nm "b")) so x y → ∃ r, leftOther w B A so = some r ∧ In2 r y := fun x y hx hy h => leftOther_sound hw hy hx (hf x y h)
    cases e2 : leftOther w B A so with
    | none =>
      intro x y hx hy h
      obtain ⟨r, hr, _⟩ := sound2 x y hx hy h
      rw [e2] at hr; cases hr
    | some O2 =>
      have sound2 : ∀ x y, In2 A x → In2 B y → Fit (.op w (.nm "a") (.nm "b")) so x y → In2 O2 y := fun x y hx hy h => by
        obtain ⟨r, hr, hi⟩ := sound2 x y hx hy h
        rw [e2] at hr; cases hr; exact hi
      obtain ⟨j1, j2, j3, ⟨u', hu', j4⟩, ⟨v', hv', j5⟩⟩ := leftOther_exact hw hB hA e2
      show Told (.op w (.nm "a") (.nm "b")) A B C so (bput (bk3 O1 B C) "b" O2)
      rw [pt_b]
      refine ⟨O1, O2, rfl, ?_, ?_⟩
      · refine ⟨?_, ?_, ?_, ?_⟩
        · exact k1
        · rintro z ⟨z2, h1, h2, h3⟩; exact sound1 z z2 h1 h2 h3
        · intro _ _; exact ⟨⟨u, (show In2 A O1.1 from ⟨by omega, by omega⟩), hu, (show rel w (soW (.nm "a") O1.1 u) (soW (.nm "b") O1.1 u) = so by rw [so_a, so_b]; exact k4)⟩, ⟨v, (show In2 A O1.2 from ⟨by omega, by omega⟩), hv, (show rel w (soW (.nm "a") O1.2 v) (soW (.nm "b") O1.2 v) = so by rw [so_a, so_b]; exact k5)⟩⟩
        · intro hz; simp [nms] at hz
      · refine ⟨?_, ?_, ?_, ?_⟩
        · exact j1
        · rintro z ⟨z2, h1, h2, h3⟩; exact sound2 z2 z h1 h2 h3
        · intro _ _; exact ⟨⟨u', hu', (show In2 B O2.1 from ⟨by omega, by omega⟩), (show rel w (soW (.nm "a") u' O2.1) (soW (.nm "b") u' O2.1) = so by rw [so_a, so_b]; exact j4)⟩, ⟨v', hv', (show In2 B O2.2 from ⟨by omega, by omega⟩), (show rel w (soW (.nm "a") v' O2.2) (soW (.nm "b") v' O2.2) = so by rw [so_a, so_b]; exact j5)⟩⟩
        · intro hz; simp [nms] at hz
theorem told_ba : ToldR (.op w (.nm "b") (.nm "a")) A B C so (bq w (.nm "b") (.nm "a") (bk3 A B C) so) := by
  rw [bq_eq (show sideS (bk3 A B C) (.nm "b") = some B from lk_b A B C) (show sideS (bk3 A B C) (.nm "a") = some A from lk_a A B C)]
  have hf : ∀ x y, Fit (.op w (.nm "b") (.nm "a")) so x y → rel w y x = so := fun x y h => by
    have h := fit_op h
    rw [so_b, so_a] at h
    exact h
  show ToldR (.op w (.nm "b") (.nm "a")) A B C so (match (leftOne w B A so).map (bput (bk3 A B C) "b") with | some bk1 => bq2 w (.nm "a") B bk1 so | none => none)
  have sound1 : ∀ x y, In2 A x → In2 B y → Fit (.op w (.nm "b") (.nm "a")) so x y → ∃ r, leftOne w B A so = some r ∧ In2 r y := fun x y hx hy h => leftOne_sound hw hy hx (hf x y h)
  cases e1 : leftOne w B A so with
  | none =>
    intro x y hx hy h
    obtain ⟨r, hr, _⟩ := sound1 x y hx hy h
    rw [e1] at hr; cases hr
  | some O1 =>
    have sound1 : ∀ x y, In2 A x → In2 B y → Fit (.op w (.nm "b") (.nm "a")) so x y → In2 O1 y := fun x y hx hy h => by
      obtain ⟨r, hr, hi⟩ := sound1 x y hx hy h
      rw [e1] at hr; cases hr; exact hi
    obtain ⟨k1, k2, k3, ⟨u, hu, k4⟩, ⟨v, hv, k5⟩⟩ := leftOne_exact hw hB hA e1
    show ToldR (.op w (.nm "b") (.nm "a")) A B C so (bq2 w (.nm "a") B (bput (bk3 A B C) "b" O1) so)
    rw [pt_b]
    rw [bq2_nm (own := A) (lk_a A O1 C)]
    have sound2 : ∀ x y, In2 A x → In2 B y → Fit (.op w (.nm "b") (.nm "a")) so x y → ∃ r, leftOther w A B so = some r ∧ In2 r x := fun x y hx hy h => leftOther_sound hw hx hy (hf x y h)
    cases e2 : leftOther w A B so with
    | none =>
      intro x y hx hy h
      obtain ⟨r, hr, _⟩ := sound2 x y hx hy h
      rw [e2] at hr; cases hr
    | some O2 =>
      have sound2 : ∀ x y, In2 A x → In2 B y → Fit (.op w (.nm "b") (.nm "a")) so x y → In2 O2 x := fun x y hx hy h => by
        obtain ⟨r, hr, hi⟩ := sound2 x y hx hy h
        rw [e2] at hr; cases hr; exact hi
      obtain ⟨j1, j2, j3, ⟨u', hu', j4⟩, ⟨v', hv', j5⟩⟩ := leftOther_exact hw hA hB e2
      show Told (.op w (.nm "b") (.nm "a")) A B C so (bput (bk3 A O1 C) "a" O2)
      rw [pt_a]
      refine ⟨O2, O1, rfl, ?_, ?_⟩
      · refine ⟨?_, ?_, ?_, ?_⟩
        · exact j1
        · rintro z ⟨z2, h1, h2, h3⟩; exact sound2 z z2 h1 h2 h3
        · intro _ _; exact ⟨⟨u', (show In2 A O2.1 from ⟨by omega, by omega⟩), hu', (show rel w (soW (.nm "b") O2.1 u') (soW (.nm "a") O2.1 u') = so by rw [so_b, so_a]; exact j4)⟩, ⟨v', (show In2 A O2.2 from ⟨by omega, by omega⟩), hv', (show rel w (soW (.nm "b") O2.2 v') (soW (.nm "a") O2.2 v') = so by rw [so_b, so_a]; exact j5)⟩⟩
        · intro hz; simp [nms] at hz
      · refine ⟨?_, ?_, ?_, ?_⟩
        · exact k1
        · rintro z ⟨z2, h1, h2, h3⟩; exact sound1 z2 z h1 h2 h3
        · intro _ _; exact ⟨⟨u, hu, (show In2 B O1.1 from ⟨by omega, by omega⟩), (show rel w (soW (.nm "b") u O1.1) (soW (.nm "a") u O1.1) = so by rw [so_b, so_a]; exact k4)⟩, ⟨v, hv, (show In2 B O1.2 from ⟨by omega, by omega⟩), (show rel w (soW (.nm "b") v O1.2) (soW (.nm "a") v O1.2) = so by rw [so_b, so_a]; exact k5)⟩⟩
        · intro hz; simp [nms] at hz
theorem told_aa : ToldR (.op w (.nm "a") (.nm "a")) A B C so (bq w (.nm "a") (.nm "a") (bk3 A B C) so) := by
  rw [bq_eq (show sideS (bk3 A B C) (.nm "a") = some A from lk_a A B C) (show sideS (bk3 A B C) (.nm "a") = some A from lk_a A B C)]
  have hf : ∀ x y, Fit (.op w (.nm "a") (.nm "a")) so x y → rel w x x = so := fun x y h => by
    have h := fit_op h
    rw [so_a] at h
    exact h
  show ToldR (.op w (.nm "a") (.nm "a")) A B C so (match (leftOne w A A so).map (bput (bk3 A B C) "a") with | some bk1 => bq2 w (.nm "a") A bk1 so | none => none)
  have sound1 : ∀ x y, In2 A x → In2 B y → Fit (.op w (.nm "a") (.nm "a")) so x y → ∃ r, leftOne w A A so = some r ∧ In2 r x := fun x y hx hy h => leftOne_sound hw hx hx (hf x y h)
  cases e1 : leftOne w A A so with
  | none =>
    intro x y hx hy h
    obtain ⟨r, hr, _⟩ := sound1 x y hx hy h
    rw [e1] at hr; cases hr
  | some O1 =>
    have sound1 : ∀ x y, In2 A x → In2 B y → Fit (.op w (.nm "a") (.nm "a")) so x y → In2 O1 x := fun x y hx hy h => by
      obtain ⟨r, hr, hi⟩ := sound1 x y hx hy h
      rw [e1] at hr; cases hr; exact hi
    obtain ⟨k1, k2, k3, ⟨u, hu, k4⟩, ⟨v, hv, k5⟩⟩ := leftOne_exact hw hA hA e1
    show ToldR (.op w (.nm "a") (.nm "a")) A B C so (bq2 w (.nm "a") A (bput (bk3 A B C) "a" O1) so)
    rw [pt_a]
    rw [bq2_nm (own := O1) (lk_a O1 B C)]
    have sound2 : ∀ x y, In2 A x → In2 B y → Fit (.op w (.nm "a") (.nm "a")) so x y → ∃ r, leftOther w O1 A so = some r ∧ In2 r x := fun x y hx hy h => leftOther_sound hw (sound1 x y hx hy h) hx (hf x y h)
    cases e2 : leftOther w O1 A so with
    | none =>
      intro x y hx hy h
      obtain ⟨r, hr, _⟩ := sound2 x y hx hy h
      rw [e2] at hr; cases hr
    | some O2 =>
      have sound2 : ∀ x y, In2 A x → In2 B y → Fit (.op w (.nm "a") (.nm "a")) so x y → In2 O2 x := fun x y hx hy h => by
        obtain ⟨r, hr, hi⟩ := sound2 x y hx hy h
        rw [e2] at hr; cases hr; exact hi
      obtain ⟨j1, j2, j3, ⟨u', hu', j4⟩, ⟨v', hv', j5⟩⟩ := leftOther_exact hw k1 hA e2
      show Told (.op w (.nm "a") (.nm "a")) A B C so (bput (bk3 O1 B C) "a" O2)
      rw [pt_a]
      refine ⟨O2, B, rfl, ?_, ?_⟩
      · refine ⟨?_, ?_, ?_, ?_⟩
        · exact j1
        · rintro z ⟨z2, h1, h2, h3⟩; exact sound2 z z2 h1 h2 h3
        · intro _ ha; exact absurd rfl ha
        · intro hz; simp [nms] at hz
      · refine ⟨?_, ?_, ?_, ?_⟩
        · exact hB
        · rintro z ⟨z2, h1, h2, h3⟩; exact h2
        · intro hz; simp [nms, sab, sba] at hz
        · intro _; rfl
theorem told_bb : ToldR (.op w (.nm "b") (.nm "b")) A B C so (bq w (.nm "b") (.nm "b") (bk3 A B C) so) := by
  rw [bq_eq (show sideS (bk3 A B C) (.nm "b") = some B from lk_b A B C) (show sideS (bk3 A B C) (.nm "b") = some B from lk_b A B C)]
  have hf : ∀ x y, Fit (.op w (.nm "b") (.nm "b")) so x y → rel w y y = so := fun x y h => by
    have h := fit_op h
    rw [so_b] at h
    exact h
  show ToldR (.op w (.nm "b") (.nm "b")) A B C so (match (leftOne w B B so).map (bput (bk3 A B C) "b") with | some bk1 => bq2 w (.nm "b") B bk1 so | none => none)
  have sound1 : ∀ x y, In2 A x → In2 B y → Fit (.op w (.nm "b") (.nm "b")) so x y → ∃ r, leftOne w B B so = some r ∧ In2 r y := fun x y hx hy h => leftOne_sound hw hy hy (hf x y h)
  cases e1 : leftOne w B B so with
  | none =>
    intro x y hx hy h
    obtain ⟨r, hr, _⟩ := sound1 x y hx hy h
    rw [e1] at hr; cases hr
  | some O1 =>
    have sound1 : ∀ x y, In2 A x → In2 B y → Fit (.op w (.nm "b") (.nm "b")) so x y → In2 O1 y := fun x y hx hy h => by
      obtain ⟨r, hr, hi⟩ := sound1 x y hx hy h
      rw [e1] at hr; cases hr; exact hi
    obtain ⟨k1, k2, k3, ⟨u, hu, k4⟩, ⟨v, hv, k5⟩⟩ := leftOne_exact hw hB hB e1
    show ToldR (.op w (.nm "b") (.nm "b")) A B C so (bq2 w (.nm "b") B (bput (bk3 A B C) "b" O1) so)
    rw [pt_b]
    rw [bq2_nm (own := O1) (lk_b A O1 C)]
    have sound2 : ∀ x y, In2 A x → In2 B y → Fit (.op w (.nm "b") (.nm "b")) so x y → ∃ r, leftOther w O1 B so = some r ∧ In2 r y := fun x y hx hy h => leftOther_sound hw (sound1 x y hx hy h) hy (hf x y h)
    cases e2 : leftOther w O1 B so with
    | none =>
      intro x y hx hy h
      obtain ⟨r, hr, _⟩ := sound2 x y hx hy h
      rw [e2] at hr; cases hr
    | some O2 =>
      have sound2 : ∀ x y, In2 A x → In2 B y → Fit (.op w (.nm "b") (.nm "b")) so x y → In2 O2 y := fun x y hx hy h => by
        obtain ⟨r, hr, hi⟩ := sound2 x y hx hy h
        rw [e2] at hr; cases hr; exact hi
      obtain ⟨j1, j2, j3, ⟨u', hu', j4⟩, ⟨v', hv', j5⟩⟩ := leftOther_exact hw k1 hB e2
      show Told (.op w (.nm "b") (.nm "b")) A B C so (bput (bk3 A O1 C) "b" O2)
      rw [pt_b]
      refine ⟨A, O2, rfl, ?_, ?_⟩
      · refine ⟨?_, ?_, ?_, ?_⟩
        · exact hA
        · rintro z ⟨z2, h1, h2, h3⟩; exact h1
        · intro hz; simp [nms, sab, sba] at hz
        · intro _; rfl
      · refine ⟨?_, ?_, ?_, ?_⟩
        · exact j1
        · rintro z ⟨z2, h1, h2, h3⟩; exact sound2 z2 z h1 h2 h3
        · intro _ ha; exact absurd rfl ha
        · intro hz; simp [nms] at hz
theorem told_an (n : Int) : ToldR (.op w (.nm "a") (.num n)) A B C so (bq w (.nm "a") (.num n) (bk3 A B C) so) := by
  rw [bq_eq (show sideS (bk3 A B C) (.nm "a") = some A from lk_a A B C) (show sideS (bk3 A B C) (.num n) = some (n, n) from rfl)]
  have hf : ∀ x y, Fit (.op w (.nm "a") (.num n)) so x y → rel w x n = so := fun x y h => by
    have h := fit_op h
    rw [so_a] at h
    exact h
  show ToldR (.op w (.nm "a") (.num n)) A B C so (match (leftOne w A (n, n) so).map (bput (bk3 A B C) "a") with | some bk1 => bq2 w (.num n) A bk1 so | none => none)
  have sound1 : ∀ x y, In2 A x → In2 B y → Fit (.op w (.nm "a") (.num n)) so x y → ∃ r, leftOne w A (n, n) so = some r ∧ In2 r x := fun x y hx hy h => leftOne_sound hw hx ⟨Int.le_refl _, Int.le_refl _⟩ (hf x y h)
  cases e1 : leftOne w A (n, n) so with
  | none =>
    intro x y hx hy h
    obtain ⟨r, hr, _⟩ := sound1 x y hx hy h
    rw [e1] at hr; cases hr
  | some O1 =>
    have sound1 : ∀ x y, In2 A x → In2 B y → Fit (.op w (.nm "a") (.num n)) so x y → In2 O1 x := fun x y hx hy h => by
      obtain ⟨r, hr, hi⟩ := sound1 x y hx hy h
      rw [e1] at hr; cases hr; exact hi
    obtain ⟨k1, k2, k3, ⟨u, hu, k4⟩, ⟨v, hv, k5⟩⟩ := leftOne_exact hw hA (Int.le_refl n) e1
    rw [show u = n from Int.le_antisymm hu.2 hu.1] at k4
    rw [show v = n from Int.le_antisymm hv.2 hv.1] at k5
    show ToldR (.op w (.nm "a") (.num n)) A B C so (bq2 w (.num n) A (bput (bk3 A B C) "a" O1) so)
    rw [pt_a]
    show Told (.op w (.nm "a") (.num n)) A B C so (bk3 O1 B C)
    refine ⟨O1, B, rfl, ?_, ?_⟩
    · refine ⟨?_, ?_, ?_, ?_⟩
      · exact k1
      · rintro z ⟨z2, h1, h2, h3⟩; exact sound1 z z2 h1 h2 h3
      · intro _ _; exact ⟨⟨B.1, (show In2 A O1.1 from ⟨by omega, by omega⟩), ⟨Int.le_refl _, hB⟩, (show rel w (soW (.nm "a") O1.1 B.1) (soW (.num n) O1.1 B.1) = so by rw [so_a]; exact k4)⟩, ⟨B.1, (show In2 A O1.2 from ⟨by omega, by omega⟩), ⟨Int.le_refl _, hB⟩, (show rel w (soW (.nm "a") O1.2 B.1) (soW (.num n) O1.2 B.1) = so by rw [so_a]; exact k5)⟩⟩
      · intro hz; simp [nms] at hz
    · refine ⟨?_, ?_, ?_, ?_⟩
      · exact hB
      · rintro z ⟨z2, h1, h2, h3⟩; exact h2
      · intro hz; simp [nms, sab, sba] at hz
      · intro _; rfl
theorem told_bn (n : Int) : ToldR (.op w (.nm "b") (.num n)) A B C so (bq w (.nm "b") (.num n) (bk3 A B C) so) := by
  rw [bq_eq (show sideS (bk3 A B C) (.nm "b") = some B from lk_b A B C) (show sideS (bk3 A B C) (.num n) = some (n, n) from rfl)]
  have hf : ∀ x y, Fit (.op w (.nm "b") (.num n)) so x y → rel w y n = so := fun x y h => by
    have h := fit_op h
    rw [so_b] at h
    exact h
  show ToldR (.op w (.nm "b") (.num n)) A B C so (match (leftOne w B (n, n) so).map (bput (bk3 A B C) "b") with | some bk1 => bq2 w (.num n) B bk1 so | none => none)
  have sound1 : ∀ x y, In2 A x → In2 B y → Fit (.op w (.nm "b") (.num n)) so x y → ∃ r, leftOne w B (n, n) so = some r ∧ In2 r y := fun x y hx hy h => leftOne_sound hw hy ⟨Int.le_refl _, Int.le_refl _⟩ (hf x y h)
  cases e1 : leftOne w B (n, n) so with
  | none =>
    intro x y hx hy h
    obtain ⟨r, hr, _⟩ := sound1 x y hx hy h
    rw [e1] at hr; cases hr
  | some O1 =>
    have sound1 : ∀ x y, In2 A x → In2 B y → Fit (.op w (.nm "b") (.num n)) so x y → In2 O1 y := fun x y hx hy h => by
      obtain ⟨r, hr, hi⟩ := sound1 x y hx hy h
      rw [e1] at hr; cases hr; exact hi
    obtain ⟨k1, k2, k3, ⟨u, hu, k4⟩, ⟨v, hv, k5⟩⟩ := leftOne_exact hw hB (Int.le_refl n) e1
    rw [show u = n from Int.le_antisymm hu.2 hu.1] at k4
    rw [show v = n from Int.le_antisymm hv.2 hv.1] at k5
    show ToldR (.op w (.nm "b") (.num n)) A B C so (bq2 w (.num n) B (bput (bk3 A B C) "b" O1) so)
    rw [pt_b]
    show Told (.op w (.nm "b") (.num n)) A B C so (bk3 A O1 C)
    refine ⟨A, O1, rfl, ?_, ?_⟩
    · refine ⟨?_, ?_, ?_, ?_⟩
      · exact hA
      · rintro z ⟨z2, h1, h2, h3⟩; exact h1
      · intro hz; simp [nms, sab, sba] at hz
      · intro _; rfl
    · refine ⟨?_, ?_, ?_, ?_⟩
      · exact k1
      · rintro z ⟨z2, h1, h2, h3⟩; exact sound1 z2 z h1 h2 h3
      · intro _ _; exact ⟨⟨A.1, ⟨Int.le_refl _, hA⟩, (show In2 B O1.1 from ⟨by omega, by omega⟩), (show rel w (soW (.nm "b") A.1 O1.1) (soW (.num n) A.1 O1.1) = so by rw [so_b]; exact k4)⟩, ⟨A.1, ⟨Int.le_refl _, hA⟩, (show In2 B O1.2 from ⟨by omega, by omega⟩), (show rel w (soW (.nm "b") A.1 O1.2) (soW (.num n) A.1 O1.2) = so by rw [so_b]; exact k5)⟩⟩
      · intro hz; simp [nms] at hz
theorem told_na (n : Int) : ToldR (.op w (.num n) (.nm "a")) A B C so (bq w (.num n) (.nm "a") (bk3 A B C) so) := by
  rw [bq_eq (show sideS (bk3 A B C) (.num n) = some (n, n) from rfl) (show sideS (bk3 A B C) (.nm "a") = some A from lk_a A B C)]
  have hf : ∀ x y, Fit (.op w (.num n) (.nm "a")) so x y → rel w n x = so := fun x y h => by
    have h := fit_op h
    rw [so_a] at h
    exact h
  show ToldR (.op w (.num n) (.nm "a")) A B C so (bq2 w (.nm "a") (n, n) (bk3 A B C) so)
  rw [bq2_nm (own := A) (lk_a A B C)]
  have sound2 : ∀ x y, In2 A x → In2 B y → Fit (.op w (.num n) (.nm "a")) so x y → ∃ r, leftOther w A (n, n) so = some r ∧ In2 r x := fun x y hx hy h => leftOther_sound hw hx ⟨Int.le_refl _, Int.le_refl _⟩ (hf x y h)
  cases e2 : leftOther w A (n, n) so with
  | none =>
    intro x y hx hy h
    obtain ⟨r, hr, _⟩ := sound2 x y hx hy h
    rw [e2] at hr; cases hr
  | some O2 =>
    have sound2 : ∀ x y, In2 A x → In2 B y → Fit (.op w (.num n) (.nm "a")) so x y → In2 O2 x := fun x y hx hy h => by
      obtain ⟨r, hr, hi⟩ := sound2 x y hx hy h
      rw [e2] at hr; cases hr; exact hi
    obtain ⟨j1, j2, j3, ⟨u', hu', j4⟩, ⟨v', hv', j5⟩⟩ := leftOther_exact hw hA (Int.le_refl n) e2
    rw [show u' = n from Int.le_antisymm hu'.2 hu'.1] at j4
    rw [show v' = n from Int.le_antisymm hv'.2 hv'.1] at j5
    show Told (.op w (.num n) (.nm "a")) A B C so (bput (bk3 A B C) "a" O2)
    rw [pt_a]
    refine ⟨O2, B, rfl, ?_, ?_⟩
    · refine ⟨?_, ?_, ?_, ?_⟩
      · exact j1
      · rintro z ⟨z2, h1, h2, h3⟩; exact sound2 z z2 h1 h2 h3
      · intro _ _; exact ⟨⟨B.1, (show In2 A O2.1 from ⟨by omega, by omega⟩), ⟨Int.le_refl _, hB⟩, (show rel w (soW (.num n) O2.1 B.1) (soW (.nm "a") O2.1 B.1) = so by rw [so_a]; exact j4)⟩, ⟨B.1, (show In2 A O2.2 from ⟨by omega, by omega⟩), ⟨Int.le_refl _, hB⟩, (show rel w (soW (.num n) O2.2 B.1) (soW (.nm "a") O2.2 B.1) = so by rw [so_a]; exact j5)⟩⟩
      · intro hz; simp [nms] at hz
    · refine ⟨?_, ?_, ?_, ?_⟩
      · exact hB
      · rintro z ⟨z2, h1, h2, h3⟩; exact h2
      · intro hz; simp [nms, sab, sba] at hz
      · intro _; rfl
theorem told_nb (n : Int) : ToldR (.op w (.num n) (.nm "b")) A B C so (bq w (.num n) (.nm "b") (bk3 A B C) so) := by
  rw [bq_eq (show sideS (bk3 A B C) (.num n) = some (n, n) from rfl) (show sideS (bk3 A B C) (.nm "b") = some B from lk_b A B C)]
  have hf : ∀ x y, Fit (.op w (.num n) (.nm "b")) so x y → rel w n y = so := fun x y h => by
    have h := fit_op h
    rw [so_b] at h
    exact h
  show ToldR (.op w (.num n) (.nm "b")) A B C so (bq2 w (.nm "b") (n, n) (bk3 A B C) so)
  rw [bq2_nm (own := B) (lk_b A B C)]
  have sound2 : ∀ x y, In2 A x → In2 B y → Fit (.op w (.num n) (.nm "b")) so x y → ∃ r, leftOther w B (n, n) so = some r ∧ In2 r y := fun x y hx hy h => leftOther_sound hw hy ⟨Int.le_refl _, Int.le_refl _⟩ (hf x y h)
  cases e2 : leftOther w B (n, n) so with
  | none =>
    intro x y hx hy h
    obtain ⟨r, hr, _⟩ := sound2 x y hx hy h
    rw [e2] at hr; cases hr
  | some O2 =>
    have sound2 : ∀ x y, In2 A x → In2 B y → Fit (.op w (.num n) (.nm "b")) so x y → In2 O2 y := fun x y hx hy h => by
      obtain ⟨r, hr, hi⟩ := sound2 x y hx hy h
      rw [e2] at hr; cases hr; exact hi
    obtain ⟨j1, j2, j3, ⟨u', hu', j4⟩, ⟨v', hv', j5⟩⟩ := leftOther_exact hw hB (Int.le_refl n) e2
    rw [show u' = n from Int.le_antisymm hu'.2 hu'.1] at j4
    rw [show v' = n from Int.le_antisymm hv'.2 hv'.1] at j5
    show Told (.op w (.num n) (.nm "b")) A B C so (bput (bk3 A B C) "b" O2)
    rw [pt_b]
    refine ⟨A, O2, rfl, ?_, ?_⟩
    · refine ⟨?_, ?_, ?_, ?_⟩
      · exact hA
      · rintro z ⟨z2, h1, h2, h3⟩; exact h1
      · intro hz; simp [nms, sab, sba] at hz
      · intro _; rfl
    · refine ⟨?_, ?_, ?_, ?_⟩
      · exact j1
      · rintro z ⟨z2, h1, h2, h3⟩; exact sound2 z2 z h1 h2 h3
      · intro _ _; exact ⟨⟨A.1, ⟨Int.le_refl _, hA⟩, (show In2 B O2.1 from ⟨by omega, by omega⟩), (show rel w (soW (.num n) A.1 O2.1) (soW (.nm "b") A.1 O2.1) = so by rw [so_b]; exact j4)⟩, ⟨A.1, ⟨Int.le_refl _, hA⟩, (show In2 B O2.2 from ⟨by omega, by omega⟩), (show rel w (soW (.num n) A.1 O2.2) (soW (.nm "b") A.1 O2.2) = so by rw [so_b]; exact j5)⟩⟩
      · intro hz; simp [nms] at hz
theorem told_nm (n : Int) (m : Int) : ToldR (.op w (.num n) (.num m)) A B C so (bq w (.num n) (.num m) (bk3 A B C) so) := by
  rw [bq_eq (show sideS (bk3 A B C) (.num n) = some (n, n) from rfl) (show sideS (bk3 A B C) (.num m) = some (m, m) from rfl)]
  have hf : ∀ x y, Fit (.op w (.num n) (.num m)) so x y → rel w n m = so := fun x y h => by
    have h := fit_op h
    exact h
  show ToldR (.op w (.num n) (.num m)) A B C so (bq2 w (.num m) (n, n) (bk3 A B C) so)
  show Told (.op w (.num n) (.num m)) A B C so (bk3 A B C)
  refine ⟨A, B, rfl, ?_, ?_⟩
  · refine ⟨?_, ?_, ?_, ?_⟩
    · exact hA
    · rintro z ⟨z2, h1, h2, h3⟩; exact h1
    · intro hz; simp [nms, sab, sba] at hz
    · intro _; rfl
  · refine ⟨?_, ?_, ?_, ?_⟩
    · exact hB
    · rintro z ⟨z2, h1, h2, h3⟩; exact h2
    · intro hz; simp [nms, sab, sba] at hz
    · intro _; rfl
end
theorem told_name {A B C : Int × Int} (hA : A.1 ≤ A.2) (hB : B.1 ≤ B.2) (so : Bool) : ToldR (.nm "a") A B C so (bhd (.nm "a") (bk3 A B C) so) := by
  show ToldR (.nm "a") A B C so ((leftName (look (bk3 A B C) "a") so).map (bput (bk3 A B C) "a"))
  rw [lk_a]
  have hf : ∀ x y, Fit (.nm "a") so x y → decide (x ≠ 0) = so := fun x y h => by
    have h : decide (soW (.nm "a") x y ≠ 0) = so := h
    rw [so_a] at h
    exact h
  cases e1 : leftName (some A) so with
  | none =>
    intro x y hx hy h
    obtain ⟨r, hr, _⟩ := leftName_sound hx (hf x y h)
    rw [e1] at hr; cases hr
  | some O1 =>
    obtain ⟨k1, k2, k3, k4, k5⟩ := leftName_exact hA e1
    show Told (.nm "a") A B C so (bput (bk3 A B C) "a" O1)
    rw [pt_a]
    refine ⟨O1, B, rfl, ⟨k1, ?_, ?_, ?_⟩, ⟨hB, ?_, ?_, ?_⟩⟩
    · rintro z ⟨z2, h1, h2, h3⟩
      obtain ⟨r, hr, hi⟩ := leftName_sound h1 (hf z z2 h3)
      rw [e1] at hr; cases hr; exact hi
    · intro _ _
      exact ⟨⟨B.1, ⟨by omega, by omega⟩, ⟨Int.le_refl _, hB⟩, by unfold Fit; rw [so_a]; exact k4⟩, ⟨B.1, ⟨by omega, by omega⟩, ⟨Int.le_refl _, hB⟩, by unfold Fit; rw [so_a]; exact k5⟩⟩
    · intro hz; simp [nms] at hz
    · rintro z ⟨z2, h1, h2, h3⟩; exact h2
    · intro hz; simp [nms, sba] at hz
    · intro _; rfl
/-- a drawn question -/
def okSide (t : T) : Prop := t = .nm "a" ∨ t = .nm "b" ∨ ∃ n : Int, t = .num n ∧ -4 ≤ n ∧ n ≤ 4
def okQ (t : T) : Prop := t = .nm "a" ∨ ∃ w a b, t = .op w a b ∧ LS w ∧ okSide a ∧ okSide b
theorem told_all {t : T} (ht : okQ t) {A B C : Int × Int} (hA : A.1 ≤ A.2) (hB : B.1 ≤ B.2) (so : Bool) : ToldR t A B C so (bhd t (bk3 A B C) so) := by
  rcases ht with rfl | ⟨w, a, b, rfl, hw, ha, hb⟩
  · exact told_name hA hB so
  · show ToldR _ A B C so (bq w a b (bk3 A B C) so)
    rcases ha with rfl | rfl | ⟨n, rfl, _⟩ <;> rcases hb with rfl | rfl | ⟨m, rfl, _⟩
    · exact told_aa hw hA hB so
    · exact told_ab hw hA hB so
    · exact told_an hw hA hB so m
    · exact told_ba hw hA hB so
    · exact told_bb hw hA hB so
    · exact told_bn hw hA hB so m
    · exact told_na hw hA hB so n
    · exact told_nb hw hA hB so n
    · exact told_nm hw hA hB so n m
end SR


set_option Elab.async false
set_option linter.all false
set_option maxRecDepth 100000
set_option maxHeartbeats 0
namespace SR
open PySem L2
local macro_rules | `(tactic| walk_at "rd") => `(tactic| simp only [tSeq, tIfS, tTest, tOp, tVar, tC, tAsg, gName, gTup, gCons, gNil, tRet, tRetN, tDrop, tNext, tCB, tCons, tNil, tCall, tUn, rU, rI0, rI, tAnd, tOr, tNot, tB, tAndV, tOrV, tNotV, tIf, tIfT, tKGet, tChain, tDGet, tDGet1, sDPut, tDNewK, tDisp, tPairs, tCont, tSl, tNoPart, tPart, rSlT, tChain3, qSortS, qEqDL, qNeDL, tFor_enum, tFor_zip, tFor_rng2, tComp_seq, tTup, tLst, tBM,
  qEq, qNe, qIn, qNotIn, qIsN, qNotN, qIsB, qNotB, qLen, qInst, qEqD, qNeD, qMinL, qMaxL, qSortI, rIx, rIxL, rIxT, rIxS, rCat, rCatT2, rRep, rRepT, rLeS, rLtS, rAppend, rExtend, tNever, tBreak, tYes,
  tFor_tup, tFor_list, tFor_rng1, tComp_tup, tComp_list, tComp_str, L2.start, cxOf_K, cxOf_nox_K, cxComp_K, List.map_cons, List.map_nil, List.length_cons, List.length_nil, List.replicate_succ, List.replicate_zero, Nat.reduceAdd, Nat.reduceSub, Nat.zero_add, Nat.add_zero, Nat.sub_zero, Nat.sub_self, Nat.add_sub_cancel,
  List.getElem?_cons_zero, List.getElem?_cons_succ, List.set_cons_zero, List.set_cons_succ, List.cons_append, List.nil_append, List.append_nil, List.cons.injEq, Option.some.injEq, V.int.injEq, V.ref.injEq, V.str.injEq, V.bl.injEq, V.ty.injEq,
  reduceCtorEq, false_and, and_false, and_true, true_and, exists_false, exists_const, false_or, or_false, exists_eq_left, exists_eq_left', exists_eq_right, exists_eq_right', exists_and_left, decide_eq_true_eq, Bool.not_eq_true', Bool.decide_eq_true, exists_eq, true_or, or_true, Bool.false_eq_true, if_true, if_false, Bool.true_eq_false, Bool.not_true, Bool.not_false, decide_true, decide_false, List.isEmpty_cons, List.isEmpty_nil, Bool.true_and, Bool.false_and, bne_self_eq_false, beq_self_eq_true])
section
variable {P : Program} {w : World} {K : PySem.W.Frag} {mg : Str → Option Value} {base : Heap} {f : Addr} {fd : FuncData}
def spSide (K : PySem.W.Frag) : Sp := fun vs H Q _ => ∃ (a : Addr) (ns : List Int) (k : Int), vs = [.ref a, .int k] ∧ SqL K H a (ns.map V.int) ∧ 0 ≤ k ∧ ∀ (r : V) (H' : Hp) (t : T), Same H H' → Dt H' r t.enc → okSide t → Q r H'
theorem ok_law_side (F : Fun K "_law_side" "_law_side" s_law_side f fd) (c_law_pick : Callee P w K mg base "_law_pick" ["_law_script", "_law_k", "_law_many"] 2 (spPick K)) : FnOk P w K mg base CX0 3 f fd ["_law_script", "_law_at"] (spSide K) := by
  refine F.ok sc_law_side (fun vs H Q E h => ?_) (fun cdv A outer s H vs Q E hr h => ?_)
  · obtain ⟨a, ns, k, rfl, _⟩ := h
    rfl
  obtain ⟨a, ns, k, rfl, hS, h0, q⟩ := h
  refine ⟨_, (pss_cons (ps_if (pt_cmpR op_gt (pe_cc c_law_pick hr (by omega) (pa_c (pe_var (i := 0) rfl vis_law_side__law_script db__law_script cd__law_script) (pa_c (pe_var (i := 1) rfl vis_law_side__law_at db__law_at cd__law_at) (pa_c pe_int pa_nil))) gl_law_side__law_pick db__law_pick) pe_int (nomark _)) (pss_one (ps_ret (pe_tup (pa_c pe_str (pa_c (pe_ix ix_list (pe_lst (pa_c pe_str (pa_c pe_str pa_nil))) (pe_cc c_law_pick hr (by omega) (pa_c (pe_var (i := 0) rfl vis_law_side__law_script db__law_script cd__law_script) (pa_c (pe_op op_add (pe_var (i := 1) rfl vis_law_side__law_at db__law_at cd__law_at) pe_int) (pa_c pe_int pa_nil))) gl_law_side__law_pick db__law_pick) (fun _ _ => rfl)) pa_nil))))) pss_nil)
  (pss_one (ps_ret (pe_tup (pa_c pe_str (pa_c (pe_op op_sub (pe_cc c_law_pick hr (by omega) (pa_c (pe_var (i := 0) rfl vis_law_side__law_script db__law_script cd__law_script) (pa_c (pe_op op_add (pe_var (i := 1) rfl vis_law_side__law_at db__law_at cd__law_at) pe_int) (pa_c pe_int pa_nil))) gl_law_side__law_pick db__law_pick) pe_int) pa_nil)))))), ?_⟩
  walk_at "rd"
  refine ⟨a, ns, k, 3, rfl, hS, h0, by decide, fun i H1 i0 i1 s1 => ?_⟩
  walk_at "rd"
  split
  · refine ⟨zl 2 (by decide), fun p hp => ?_⟩
    have s2 := same_new hp (HO.lst [V.str "a", V.str "b"])
    have e2 : upd H1 p (HO.lst [V.str "a", V.str "b"]) p = _ := upd_same
    generalize upd H1 p (HO.lst [V.str "a", V.str "b"]) = U at s2 e2 ⊢
    refine ⟨a, ns, _, 2, rfl, (s1.trans s2).seq hS, by omega, by decide, fun j H3 j0 j1 s3 => ?_⟩
    obtain ⟨x, hx, e⟩ := atI_map (c := V.str) (ns := ["a", "b"]) (k := j) j0 j1
    refine ⟨_, _, rfl, SqL.of (s3 _ _ e2), _, e, zl 2 (by decide), fun p2 hp2 => ?_⟩
    refine q _ _ (.nm x) (s1.trans (s2.trans (s3.trans (same_new hp2 _)))) (.tup upd_same (.cons (.str _) (.cons (.str _) .nil))) ?_
    simp only [List.mem_cons, List.not_mem_nil, or_false] at hx
    rcases hx with rfl | rfl
    · exact .inl rfl
    · exact .inr (.inl rfl)
  · refine ⟨a, ns, _, 9, rfl, s1.seq hS, by omega, by decide, fun j H3 j0 j1 s3 => ?_⟩
    walk_at "rd"
    refine ⟨zl 2 (by decide), fun p2 hp2 => ?_⟩
    exact q _ _ (.num (j - 4)) (s1.trans (s3.trans (same_new hp2 _))) (.tup upd_same (.cons (.str _) (.cons (.int _) .nil))) (.inr (.inr ⟨_, rfl, by omega, by omega⟩))
/-- the book of two worths -/
def wb (x y : Int) : List (Key × V) := [(.inr "a", .int x), (.inr "b", .int y)]
theorem wb_a (x y : Int) : valV (wb x y) (.inr "a") = some (.int x) := valV_pos rfl
theorem wb_b (x y : Int) : valV (wb x y) (.inr "b") = some (.int y) := by
  unfold wb
  rw [valV_neg (by intro z; exact sab (Sum.inr.inj z))]
  exact valV_pos rfl
def spSo0 : Sp := fun vs H Q _ => ∃ (v : V) (t : T) (d : Addr) (x y : Int), vs = [v, .ref d] ∧ Dt H v t.enc ∧ okSide t ∧ H d = some (.dK (wb x y)) ∧ ∀ H', Same H H' → Q (.int (soW t x y)) H'
def spSo : Sp := fun vs H Q _ => ∃ (v : V) (t : T) (d : Addr) (x y : Int), vs = [v, .ref d] ∧ Dt H v t.enc ∧ okQ t ∧ -4 ≤ x ∧ x ≤ 8 ∧ -4 ≤ y ∧ y ≤ 8 ∧ H d = some (.dK (wb x y)) ∧ ∀ H', Same H H' → Q (.int (soW t x y)) H'
def spNo : Sp := fun _ _ _ _ => False
theorem ok_no {k : Nat} {ps : List Str} : FnOk P w K mg base CX0 k f fd ps spNo := ⟨fun _ _ _ _ h => h.elim, fun _ _ _ _ _ _ _ _ _ _ _ _ _ h => h.elim⟩
theorem in2 {H : Hp} {p : Addr} (x : Str) (e : H p = some (.tup [.str "num", .str "name"])) : InOf K (.str x) (.ref p) H ((["num", "name"] : List Str).contains x) := .inl ⟨p, _, rfl, .inr (SqT.of e), rfl, rfl, (inV_strs x ["num", "name"]).symm⟩
theorem so_side {X : Hp} {Q : VK} {H : Hp} {v : V} {t : T} {d : Addr} {x y : Int} (hv : Dt H v t.enc) (ht : okSide t) (hd : H d = some (.dK (wb x y))) : ∃ p z, v = .ref p ∧ ((t = .num (soW t x y) ∧ H p = some (.tup [.str "num", .int (soW t x y)])) ∨ (∃ n, t = .nm n ∧ H p = some (.tup [.str "name", .str n]) ∧ DGet H d (.str n) (some (.int (soW t x y))))) ∧ z = 0 := by
  rcases ht with rfl | rfl | ⟨n, rfl, _⟩
  · obtain ⟨pv, xs, rfl, hpv, da⟩ := hv.tupI
    rcases da with _ | ⟨d1, _ | ⟨d2, _ | _⟩⟩
    cases d1; cases d2
    refine ⟨pv, 0, rfl, .inr ⟨_, rfl, hpv, ?_⟩, rfl⟩
    have := DGet.k (k := .inr "a") hd
    rw [wb_a] at this
    rw [so_a]; exact this
  · obtain ⟨pv, xs, rfl, hpv, da⟩ := hv.tupI
    rcases da with _ | ⟨d1, _ | ⟨d2, _ | _⟩⟩
    cases d1; cases d2
    refine ⟨pv, 0, rfl, .inr ⟨_, rfl, hpv, ?_⟩, rfl⟩
    have := DGet.k (k := .inr "b") hd
    rw [wb_b] at this
    rw [so_b]; exact this
  · obtain ⟨pv, xs, rfl, hpv, da⟩ := hv.tupI
    rcases da with _ | ⟨d1, _ | ⟨d2, _ | _⟩⟩
    cases d1; cases d2
    exact ⟨pv, 0, rfl, .inl ⟨rfl, hpv⟩, rfl⟩
theorem ok_law_so0 (F : Fun K "_law_so" "_law_so" s_law_so f fd) (c_law_reckoned : Callee P w K mg base "_law_reckoned" ["_law_word", "_law_one", "_law_other"] 1 spRk) (c_law_so : Callee P w K mg base "_law_so" ["_law_expr", "_law_book"] 0 spNo) : FnOk P w K mg base CX0 2 f fd ["_law_expr", "_law_book"] spSo0 := by
  refine F.ok sc_law_so (fun vs H Q E h => ?_) (fun cdv A outer s H vs Q E hr h => ?_)
  · obtain ⟨v, t, d, x, y, rfl, _⟩ := h
    rfl
  obtain ⟨v, t, d, x, y, rfl, hv, ht, hd, q⟩ := h
  refine ⟨_, (pss_cons (ps_if (pt_cmpR (gIn hr.units) (pe_ix ix_tup (pe_var (i := 0) rfl vis_law_so__law_expr db__law_expr cd__law_expr) pe_int (fun _ _ => rfl)) (pe_tup (pa_c pe_str (pa_c pe_str pa_nil))) (by with_unfolding_all rfl)) (pss_one (ps_ret (pe_ifExp (pt_cmpR (gEq hr.units) (pe_ix ix_tup (pe_var (i := 0) rfl vis_law_so__law_expr db__law_expr cd__law_expr) pe_int (fun _ _ => rfl)) pe_str (nomark _)) (pe_ix ix_tup (pe_var (i := 0) rfl vis_law_so__law_expr db__law_expr cd__law_expr) pe_int (fun _ _ => rfl)) (pe_dget hr.units1 (pe_var (i := 1) rfl vis_law_so__law_book db__law_book cd__law_book) (pe_ix ix_tup (pe_var (i := 0) rfl vis_law_so__law_expr db__law_expr cd__law_expr) pe_int (fun _ _ => rfl)) (fun _ _ => rfl))))) pss_nil)
  (pss_one (ps_ret (pe_cc c_law_reckoned hr (by omega) (pa_c (pe_ix ix_tup (pe_var (i := 0) rfl vis_law_so__law_expr db__law_expr cd__law_expr) pe_int (fun _ _ => rfl)) (pa_c (pe_cc c_law_so hr (by omega) (pa_c (pe_ix ix_tup (pe_var (i := 0) rfl vis_law_so__law_expr db__law_expr cd__law_expr) pe_int (fun _ _ => rfl)) (pa_c (pe_var (i := 1) rfl vis_law_so__law_book db__law_book cd__law_book) pa_nil)) gl_law_so__law_so db__law_so) (pa_c (pe_cc c_law_so hr (by omega) (pa_c (pe_ix ix_tup (pe_var (i := 0) rfl vis_law_so__law_expr db__law_expr cd__law_expr) pe_int (fun _ _ => rfl)) (pa_c (pe_var (i := 1) rfl vis_law_so__law_book db__law_book cd__law_book) pa_nil)) gl_law_so__law_so db__law_so) pa_nil))) gl_law_so__law_reckoned db__law_reckoned)))), ?_⟩
  obtain ⟨p, z, rfl, hp, _⟩ := so_side (X := H) (Q := Q) hv ht hd
  walk_at "rd"
  have fin : ∀ (h : Str) (z : V), H p = some (.tup [.str h, z]) → (h = "num" ∧ z = .int (soW t x y)) ∨ (h = "name" ∧ ∃ n, z = .str n ∧ ∀ U, Same H U → DGet U d (.str n) (some (.int (soW t x y)))) → (∃ x, SqT K H p x ∧ ∃ x_1, atI x 0 = some x_1 ∧ x_1 = .str h) := fun h z e _ => ⟨_, SqT.of e, _, rfl, rfl⟩
  rcases hp with ⟨et, hp⟩ | ⟨n, et, hp, dg⟩
  · refine ⟨_, SqT.of hp, _, rfl, zl 2 (by decide), fun p1 hp1 => ?_⟩
    have s1 := same_new hp1 (HO.tup [V.str "num", V.str "name"])
    have e1 : upd H p1 (HO.tup [V.str "num", V.str "name"]) p1 = _ := upd_same
    generalize upd H p1 (HO.tup [V.str "num", V.str "name"]) = U at s1 e1 ⊢
    refine ⟨_, in2 "num" e1, ?_⟩
    rw [if_pos (by decide +kernel)]
    refine ⟨_, SqT.of (s1 _ _ hp), _, rfl, _, .inl ⟨rfl, rfl⟩, ?_⟩
    rw [if_pos (by decide +kernel)]
    exact ⟨_, SqT.of (s1 _ _ hp), _, rfl, q _ s1⟩
  · refine ⟨_, SqT.of hp, _, rfl, zl 2 (by decide), fun p1 hp1 => ?_⟩
    have s1 := same_new hp1 (HO.tup [V.str "num", V.str "name"])
    have e1 : upd H p1 (HO.tup [V.str "num", V.str "name"]) p1 = _ := upd_same
    generalize upd H p1 (HO.tup [V.str "num", V.str "name"]) = U at s1 e1 ⊢
    refine ⟨_, in2 "name" e1, ?_⟩
    rw [if_pos (by decide +kernel)]
    refine ⟨_, SqT.of (s1 _ _ hp), _, rfl, _, .inl ⟨rfl, rfl⟩, ?_⟩
    rw [if_neg (by decide +kernel)]
    refine ⟨_, SqT.of (s1 _ _ hp), _, rfl, _, ?_, q _ s1⟩
    obtain ⟨p', z', ep, hp', _⟩ := so_side (X := H) (Q := Q) (hv.kp s1.kp) ht (s1 _ _ hd)
    rcases hp' with ⟨et', _⟩ | ⟨n', et', _, dg'⟩
    · rw [et] at et'; cases et'
    · rw [et] at et'; cases et'
      rw [et] at dg' ⊢
      exact dg'
theorem so_bd {t : T} (ht : okSide t) {x y : Int} (h1 : -4 ≤ x) (h2 : x ≤ 8) (h3 : -4 ≤ y) (h4 : y ≤ 8) : -4 ≤ soW t x y ∧ soW t x y ≤ 8 := by
  rcases ht with rfl | rfl | ⟨n, rfl, _, _⟩
  · rw [so_a]; omega
  · rw [so_b]; omega
  · show -4 ≤ n ∧ n ≤ 8; omega
theorem ok_law_so (F : Fun K "_law_so" "_law_so" s_law_so f fd) (c_law_reckoned : Callee P w K mg base "_law_reckoned" ["_law_word", "_law_one", "_law_other"] 1 spRk) (c_law_so : Callee P w K mg base "_law_so" ["_law_expr", "_law_book"] 2 spSo0) : FnOk P w K mg base CX0 3 f fd ["_law_expr", "_law_book"] spSo := by
  refine F.ok sc_law_so (fun vs H Q E h => ?_) (fun cdv A outer s H vs Q E hr h => ?_)
  · obtain ⟨v, t, d, x, y, rfl, _⟩ := h
    rfl
  obtain ⟨v, t, d, x, y, rfl, hv, ht, b1, b2, b3, b4, hd, q⟩ := h
  refine ⟨_, (pss_cons (ps_if (pt_cmpR (gIn hr.units) (pe_ix ix_tup (pe_var (i := 0) rfl vis_law_so__law_expr db__law_expr cd__law_expr) pe_int (fun _ _ => rfl)) (pe_tup (pa_c pe_str (pa_c pe_str pa_nil))) (by with_unfolding_all rfl)) (pss_one (ps_ret (pe_ifExp (pt_cmpR (gEq hr.units) (pe_ix ix_tup (pe_var (i := 0) rfl vis_law_so__law_expr db__law_expr cd__law_expr) pe_int (fun _ _ => rfl)) pe_str (nomark _)) (pe_ix ix_tup (pe_var (i := 0) rfl vis_law_so__law_expr db__law_expr cd__law_expr) pe_int (fun _ _ => rfl)) (pe_dget hr.units1 (pe_var (i := 1) rfl vis_law_so__law_book db__law_book cd__law_book) (pe_ix ix_tup (pe_var (i := 0) rfl vis_law_so__law_expr db__law_expr cd__law_expr) pe_int (fun _ _ => rfl)) (fun _ _ => rfl))))) pss_nil)
  (pss_one (ps_ret (pe_cc c_law_reckoned hr (by omega) (pa_c (pe_ix ix_tup (pe_var (i := 0) rfl vis_law_so__law_expr db__law_expr cd__law_expr) pe_int (fun _ _ => rfl)) (pa_c (pe_cc c_law_so hr (by omega) (pa_c (pe_ix ix_tup (pe_var (i := 0) rfl vis_law_so__law_expr db__law_expr cd__law_expr) pe_int (fun _ _ => rfl)) (pa_c (pe_var (i := 1) rfl vis_law_so__law_book db__law_book cd__law_book) pa_nil)) gl_law_so__law_so db__law_so) (pa_c (pe_cc c_law_so hr (by omega) (pa_c (pe_ix ix_tup (pe_var (i := 0) rfl vis_law_so__law_expr db__law_expr cd__law_expr) pe_int (fun _ _ => rfl)) (pa_c (pe_var (i := 1) rfl vis_law_so__law_book db__law_book cd__law_book) pa_nil)) gl_law_so__law_so db__law_so) pa_nil))) gl_law_so__law_reckoned db__law_reckoned)))), ?_⟩
  rcases ht with rfl | ⟨w, a, b, rfl, hw, ha, hb⟩
  · obtain ⟨p, xs, rfl, hp, da⟩ := hv.tupI
    rcases da with _ | ⟨d1, _ | ⟨d2, _ | _⟩⟩
    cases d1; cases d2
    walk_at "rd"
    refine ⟨_, SqT.of hp, _, rfl, zl 2 (by decide), fun p1 hp1 => ?_⟩
    have s1 := same_new hp1 (HO.tup [V.str "num", V.str "name"])
    have e1 : upd H p1 (HO.tup [V.str "num", V.str "name"]) p1 = _ := upd_same
    generalize upd H p1 (HO.tup [V.str "num", V.str "name"]) = U at s1 e1 ⊢
    refine ⟨_, in2 "name" e1, ?_⟩
    rw [if_pos (by decide +kernel)]
    refine ⟨_, SqT.of (s1 _ _ hp), _, rfl, _, .inl ⟨rfl, rfl⟩, ?_⟩
    rw [if_neg (by decide +kernel)]
    have dg := DGet.k (k := .inr "a") (s1 _ _ hd)
    rw [wb_a] at dg
    refine ⟨_, SqT.of (s1 _ _ hp), _, rfl, _, dg, ?_⟩
    have := q _ s1
    rw [so_a] at this
    exact this
  · obtain ⟨p, xs, rfl, hp, da⟩ := hv.tupI
    rcases da with _ | ⟨d1, _ | ⟨d2, _ | ⟨d3, _ | _⟩⟩⟩
    cases d1
    walk_at "rd"
    refine ⟨_, SqT.of hp, _, rfl, zl 2 (by decide), fun p1 hp1 => ?_⟩
    have s1 := same_new hp1 (HO.tup [V.str "num", V.str "name"])
    have e1 : upd H p1 (HO.tup [V.str "num", V.str "name"]) p1 = _ := upd_same
    generalize upd H p1 (HO.tup [V.str "num", V.str "name"]) = U at s1 e1 ⊢
    refine ⟨_, in2 w.str e1, ?_⟩
    rw [if_neg (by rcases hw with rfl | rfl <;> decide +kernel)]
    refine ⟨_, SqT.of (s1 _ _ hp), _, rfl, _, SqT.of (s1 _ _ hp), _, rfl, ?_⟩
    refine ⟨_, a, d, x, y, rfl, d2.kp s1.kp, ha, s1 _ _ hd, fun H2 s2 => ?_⟩
    have s02 := s1.trans s2
    refine ⟨_, SqT.of (s02 _ _ hp), _, rfl, ?_⟩
    refine ⟨_, b, d, x, y, rfl, d3.kp s02.kp, hb, s02 _ _ hd, fun H3 s3 => ?_⟩
    have bb := so_bd hb b1 b2 b3 b4
    have hq : w = .quo → soW b x y ≠ 0 := fun e => by rcases hw with z | z <;> (rw [z] at e; cases e)
    exact ⟨w, _, _, rfl, hq, by omega, fun H4 s4 => q _ (s02.trans (s3.trans s4))⟩
end
end SR


set_option Elab.async false
set_option linter.all false
set_option maxRecDepth 100000
set_option maxHeartbeats 0
namespace SR
open PySem L2
local macro_rules | `(tactic| walk_at "rd") => `(tactic| simp only [tSeq, tIfS, tTest, tOp, tVar, tC, tAsg, gName, gTup, gCons, gNil, tRet, tRetN, tDrop, tNext, tCB, tCons, tNil, tCall, tUn, rU, rI0, rI, tAnd, tOr, tNot, tB, tAndV, tOrV, tNotV, tIf, tIfT, tKGet, tChain, tDGet, tDGet1, sDPut, tDNewK, tDisp, tPairs, tCont, tSl, tNoPart, tPart, rSlT, tChain3, qSortS, qEqDL, qNeDL, tFor_enum, tFor_zip, tFor_rng2, tComp_seq, tTup, tLst, tBM,
  qEq, qNe, qIn, qNotIn, qIsN, qNotN, qIsB, qNotB, qLen, qInst, qEqD, qNeD, qMinL, qMaxL, qSortI, rIx, rIxL, rIxT, rIxS, rCat, rCatT2, rRep, rRepT, rLeS, rLtS, rAppend, rExtend, tNever, tBreak, tYes,
  tFor_tup, tFor_list, tFor_rng1, tComp_tup, tComp_list, tComp_str, L2.start, cxOf_K, cxOf_nox_K, cxComp_K, List.map_cons, List.map_nil, List.length_cons, List.length_nil, List.replicate_succ, List.replicate_zero, Nat.reduceAdd, Nat.reduceSub, Nat.zero_add, Nat.add_zero, Nat.sub_zero, Nat.sub_self, Nat.add_sub_cancel,
  List.getElem?_cons_zero, List.getElem?_cons_succ, List.set_cons_zero, List.set_cons_succ, List.cons_append, List.nil_append, List.append_nil, List.cons.injEq, Option.some.injEq, V.int.injEq, V.ref.injEq, V.str.injEq, V.bl.injEq, V.ty.injEq,
  reduceCtorEq, false_and, and_false, and_true, true_and, exists_false, exists_const, false_or, or_false, exists_eq_left, exists_eq_left', exists_eq_right, exists_eq_right', exists_and_left, decide_eq_true_eq, Bool.not_eq_true', Bool.decide_eq_true, exists_eq, true_or, or_true, Bool.false_eq_true, if_true, if_false, Bool.true_eq_false, Bool.not_true, Bool.not_false, decide_true, decide_false, List.isEmpty_cons, List.isEmpty_nil, Bool.true_and, Bool.false_and, bne_self_eq_false, beq_self_eq_true])
section
variable {P : Program} {w : World} {K : PySem.W.Frag} {mg : Str → Option Value} {base : Heap} {f : Addr} {fd : FuncData}
def nm3 : List Str := ["a", "b", "c"]
def zp : List Str → List (Int × Int) → Bk
  | n :: ns, s :: l => (n, s) :: zp ns l
  | _, _ => []
def okR (s : Int × Int) : Prop := -4 ≤ s.1 ∧ s.1 ≤ s.2 ∧ s.2 ≤ 8
def E1 (H : Hp) (a d : Addr) (j : Nat) (σ : St) (Hc : Hp) : Prop := ∃ (x2 x3 x4 x5 x6 x7 x8 x9 x10 x11 x12 x13 x14 x15 : Option V) (l : List (Int × Int)), σ = [some (.ref a), some (.ref d), x2, x3, x4, x5, x6, x7, x8, x9, x10, x11, x12, x13, x14, x15] ∧ Same H Hc ∧ l.length = j ∧ (∀ s ∈ l, okR s) ∧ IsBk Hc d (zp nm3 l)
theorem zp_put {l : List (Int × Int)} (h : l.length < 3) (s : Int × Int) : ∃ n, nm3[l.length]? = some n ∧ bput (zp nm3 l) n s = zp nm3 (l ++ [s]) := by
  match l, h with
  | [], _ => exact ⟨"a", rfl, rfl⟩
  | [A], _ => exact ⟨"b", rfl, by
      unfold bput zp
      simp only [nm3, zp, List.any_cons, List.any_nil, decide_eq_false sab, Bool.or_self, Bool.false_eq_true, if_false]
      rfl⟩
  | [A, B], _ => exact ⟨"c", rfl, by
      unfold bput zp
      simp only [nm3, zp, List.any_cons, List.any_nil, decide_eq_false sac, decide_eq_false sbc, Bool.or_self, Bool.false_eq_true, if_false]
      rfl⟩
def lsw : List Wd := [.less, .same]
def S1 (H : Hp) (a d pe : Addr) (j : Nat) (σ : St) (Hc : Hp) : Prop := ∃ (x2 x3 x4 x6 x7 x8 x9 x10 x11 x12 x13 x14 x15 : Option V), σ = [some (.ref a), some (.ref d), x2, x3, x4, some (.ref pe), x6, x7, x8, x9, x10, x11, x12, x13, x14, x15] ∧ Same H Hc
theorem IsBk.get {H : Hp} {d : Addr} {bk : Bk} {x : Str} {s : Int × Int} (h : IsBk H d bk) (e : look bk x = some s) : ∃ p, DGet H d (.str x) (some (.ref p)) ∧ H p = some (.tup [.int s.1, .int s.2]) := by
  obtain ⟨kvs, hd, rb⟩ := h
  rcases rb.look x with ⟨z1, z2⟩ | ⟨s', v, z1, z2, dv⟩
  · rw [e] at z1; cases z1
  · rw [e] at z1; cases z1
    obtain ⟨p, rfl, hp⟩ := dtS1 dv
    have dg := DGet.k (k := .inr x) hd
    rw [z2] at dg
    exact ⟨p, dg, hp⟩
def pEnc (p : Int × Int) : Dm := .tup [.int p.1, .int p.2]
def inF (t : T) (so : Bool) (A B : Int × Int) (i : Nat) (x y : Int) : Prop := A.1 ≤ x ∧ x < A.1 + (i : Int) ∧ In2 B y ∧ Fit t so x y
def inG (t : T) (so : Bool) (A B : Int × Int) (i j : Nat) (x y : Int) : Prop := (A.1 ≤ x ∧ x < A.1 + (i : Int) ∧ In2 B y ∧ Fit t so x y) ∨ (x = A.1 + (i : Int) ∧ B.1 ≤ y ∧ y < B.1 + (j : Int) ∧ Fit t so x y)
theorem mem_zero {t : T} {so : Bool} {A B : Int × Int} (x y : Int) : (x, y) ∈ ([] : List (Int × Int)) ↔ inF t so A B 0 x y := ⟨fun h => (by cases h), fun h => (by have := h.1; have := h.2.1; omega)⟩
theorem mem_start {t : T} {so : Bool} {A B : Int × Int} {prs : List (Int × Int)} {i : Nat} (h : ∀ x y, (x, y) ∈ prs ↔ inF t so A B i x y) (x y : Int) : (x, y) ∈ prs ↔ inG t so A B i 0 x y := by
  rw [h x y]
  exact ⟨.inl, fun z => z.elim id fun z => by have := z.2.1; have := z.2.2.1; omega⟩
theorem mem_more {t : T} {so : Bool} {A B : Int × Int} {prs : List (Int × Int)} {i j : Nat} (h : ∀ x y, (x, y) ∈ prs ↔ inG t so A B i j x y) (hf : Fit t so (A.1 + (i : Int)) (B.1 + (j : Int))) (x y : Int) : (x, y) ∈ prs ++ [(A.1 + (i : Int), B.1 + (j : Int))] ↔ inG t so A B i (j + 1) x y := by
  rw [List.mem_append, h x y]
  constructor
  · rintro ((z | z) | z)
    · exact .inl z
    · exact .inr ⟨z.1, z.2.1, by have := z.2.2.1; omega, z.2.2.2⟩
    · obtain ⟨rfl, rfl⟩ : x = A.1 + (i : Int) ∧ y = B.1 + (j : Int) := by simpa using z
      exact .inr ⟨rfl, by omega, by omega, hf⟩
  · rintro (z | ⟨z1, z2, z3, z4⟩)
    · exact .inl (.inl z)
    · by_cases hy : y < B.1 + (j : Int)
      · exact .inl (.inr ⟨z1, z2, hy, z4⟩)
      · obtain rfl : y = B.1 + (j : Int) := by omega
        subst z1
        exact .inr (by simp)
theorem mem_stay {t : T} {so : Bool} {A B : Int × Int} {prs : List (Int × Int)} {i j : Nat} (h : ∀ x y, (x, y) ∈ prs ↔ inG t so A B i j x y) (hf : ¬ Fit t so (A.1 + (i : Int)) (B.1 + (j : Int))) (x y : Int) : (x, y) ∈ prs ↔ inG t so A B i (j + 1) x y := by
  rw [h x y]
  constructor
  · rintro (z | z)
    · exact .inl z
    · exact .inr ⟨z.1, z.2.1, by have := z.2.2.1; omega, z.2.2.2⟩
  · rintro (z | ⟨z1, z2, z3, z4⟩)
    · exact .inl z
    · by_cases hy : y < B.1 + (j : Int)
      · exact .inr ⟨z1, z2, hy, z4⟩
      · obtain rfl : y = B.1 + (j : Int) := by omega
        subst z1
        exact absurd z4 hf
theorem mem_row {t : T} {so : Bool} {A B : Int × Int} {prs : List (Int × Int)} {i : Nat} (hB : B.1 ≤ B.2) (h : ∀ x y, (x, y) ∈ prs ↔ inG t so A B i (B.2 + 1 - B.1).toNat x y) (x y : Int) : (x, y) ∈ prs ↔ inF t so A B (i + 1) x y := by
  rw [h x y]
  constructor
  · rintro (z | z)
    · exact ⟨z.1, by have := z.2.1; omega, z.2.2⟩
    · exact ⟨by have := z.1; omega, by have := z.1; omega, ⟨z.2.1, by have := z.2.2.1; omega⟩, z.2.2.2⟩
  · rintro ⟨z1, z2, z3, z4⟩
    by_cases hx : x < A.1 + (i : Int)
    · exact .inl ⟨z1, hx, z3, z4⟩
    · exact .inr ⟨by omega, z3.1, by have := z3.2; omega, z4⟩
theorem mem_whole {t : T} {so : Bool} {A B : Int × Int} {prs : List (Int × Int)} (hA : A.1 ≤ A.2) (h : ∀ x y, (x, y) ∈ prs ↔ inF t so A B (A.2 + 1 - A.1).toNat x y) (x y : Int) : (x, y) ∈ prs ↔ (In2 A x ∧ In2 B y ∧ Fit t so x y) := by
  rw [h x y]
  constructor
  · rintro ⟨z1, z2, z3, z4⟩
    exact ⟨⟨z1, by omega⟩, z3, z4⟩
  · rintro ⟨⟨z1, z2⟩, z3, z4⟩
    exact ⟨z1, by omega, z3, z4⟩
theorem eb_fit {t : T} {so : Bool} {x y : Int} : decide (V.bl (!decide (soW t x y = 0)) = V.bl so) = true ↔ Fit t so x y := by
  unfold Fit
  rw [decide_eq_true_eq, V.bl.injEq, decide_not]
theorem mem_one {as : List (Addr × Int × Int)} {prs : List (Int × Int)} (e : prs = as.map (·.2)) {R : Int → Int → Prop} (h : ∀ x y, (x, y) ∈ prs ↔ R x y) (x : Int) : x ∈ as.map (fun q => q.2.1) ↔ ∃ y, R x y := by
  subst e
  exact ⟨fun z => by
    obtain ⟨q, hq, rfl⟩ := List.mem_map.mp z
    exact ⟨q.2.2, (h _ _).mp (List.mem_map.mpr ⟨q, hq, rfl⟩)⟩, fun ⟨y, z⟩ => by
    obtain ⟨q, hq, e⟩ := List.mem_map.mp ((h x y).mpr z)
    exact List.mem_map.mpr ⟨q, hq, by rw [e]⟩⟩
theorem mem_two {as : List (Addr × Int × Int)} {prs : List (Int × Int)} (e : prs = as.map (·.2)) {R : Int → Int → Prop} (h : ∀ x y, (x, y) ∈ prs ↔ R x y) (y : Int) : y ∈ as.map (fun q => q.2.2) ↔ ∃ x, R x y := by
  subst e
  exact ⟨fun z => by
    obtain ⟨q, hq, rfl⟩ := List.mem_map.mp z
    exact ⟨q.2.1, (h _ _).mp (List.mem_map.mpr ⟨q, hq, rfl⟩)⟩, fun ⟨x, z⟩ => by
    obtain ⟨q, hq, e⟩ := List.mem_map.mp ((h x y).mpr z)
    exact List.mem_map.mpr ⟨q, hq, by rw [e]⟩⟩
def FA (H : Hp) (a d pe pf : Addr) (y2 y3 y4 : Option V) (so : Bool) (y10 y11 y12 y13 y14 y15 : Option V) (t : T) (A B : Int × Int) (i : Nat) (σ : St) (Hc : Hp) : Prop := ∃ (y8 y9 : Option V) (vs : List V) (prs : List (Int × Int)),
  σ = [some (.ref a), some (.ref d), y2, y3, y4, some (.ref pe), some (.bl so), some (.ref pf), y8, y9, y10, y11, y12, y13, y14, y15] ∧ Same H Hc ∧ Hc pf = some (.lst vs) ∧ DtA Hc vs (prs.map pEnc) ∧ prs.length ≤ 13 * i ∧ ∀ x y, (x, y) ∈ prs ↔ inF t so A B i x y
def GA (H : Hp) (a d pe pf : Addr) (y2 y3 y4 : Option V) (so : Bool) (x8 : Int) (y10 y11 y12 y13 y14 y15 : Option V) (t : T) (A B : Int × Int) (i : Nat) (j : Nat) (σ : St) (Hc : Hp) : Prop := ∃ (y9 : Option V) (vs : List V) (prs : List (Int × Int)),
  σ = [some (.ref a), some (.ref d), y2, y3, y4, some (.ref pe), some (.bl so), some (.ref pf), some (.int x8), y9, y10, y11, y12, y13, y14, y15] ∧ Same H Hc ∧ Hc pf = some (.lst vs) ∧ DtA Hc vs (prs.map pEnc) ∧ prs.length ≤ 13 * i + j ∧ ∀ x y, (x, y) ∈ prs ↔ inG t so A B i j x y
theorem merge_wb (x y : Int) : mergeK [] (wb x y) = wb x y := by
  unfold mergeK wb
  simp only [List.foldl_cons, List.foldl_nil]
  have e1 : putK ([] : List (Key × V)) (.inr "a") (.int x) = [(.inr "a", .int x)] := rfl
  rw [e1]
  unfold putK
  rw [if_neg]
  · rfl
  · simp only [List.any_cons, List.any_nil, Bool.or_false, decide_eq_true_eq]
    intro z; exact sab (Sum.inr.inj z)
theorem okQ_isQ {t : T} (h : okQ t) : isQ t := by
  rcases h with rfl | ⟨w, a, b, rfl, hw, ha, hb⟩
  · trivial
  · refine ⟨hw, ?_, ?_⟩
    · rcases ha with rfl | rfl | ⟨n, rfl, _⟩ <;> trivial
    · rcases hb with rfl | rfl | ⟨n, rfl, _⟩ <;> trivial
theorem shut2 (x : Str) (d : Dm) (hx : PyData.strOk x = true) (hd : d.shut = true) (h1 : d.dat.canLay0 = true) (h2 : d.dat.depth = 0) : (Dm.tup [.str x, d]).shut = true ∧ SeqAt.shaped (Dm.tup [.str x, d]).dat = true := by
  refine ⟨by simp [Dm.shut, shutA, hd, hx], ?_⟩
  simp [SeqAt.shaped, Dm.dat, datA, PyData.canLay0, PyData.canLayAll0, PyData.depth, PyData.depthAll, hx, h1, h2]
theorem side_shut {t : T} (h : okSide t) : t.enc.shut = true ∧ SeqAt.shaped t.enc.dat = true := by
  rcases h with rfl | rfl | ⟨n, rfl, _⟩
  · exact shut2 _ _ (by decide +kernel) (by simp only [Dm.shut]; decide +kernel) (by simp only [Dm.dat, PyData.canLay0]; decide +kernel) (by simp only [Dm.dat, PyData.depth])
  · exact shut2 _ _ (by decide +kernel) (by simp only [Dm.shut]; decide +kernel) (by simp only [Dm.dat, PyData.canLay0]; decide +kernel) (by simp only [Dm.dat, PyData.depth])
  · exact shut2 _ _ (by decide +kernel) (by simp [Dm.shut]) (by simp only [Dm.dat, PyData.canLay0]) (by simp only [Dm.dat, PyData.depth])
theorem eqSide {H : Hp} {x y : V} {ta tb : T} (h : Dt H x ta.enc) (k : Dt H y tb.enc) (ha : okSide ta) (hb : okSide tb) : EqD H x y (PyData.eqv ta.enc.dat tb.enc.dat) :=
  ⟨_, _, h, k, side_shut ha, side_shut hb, rfl⟩
theorem eqSide_refl {t : T} (h : okSide t) : PyData.eqv t.enc.dat t.enc.dat = true := by
  rcases h with rfl | rfl | ⟨n, rfl, _⟩ <;> simp [T.enc, Dm.dat, datA, PyData.eqv, PyData.eqvAll]
theorem q_head {t : T} (h : okQ t) {H : Hp} {pe : Addr} (d : Dt H (.ref pe) t.enc) : ∃ xs, H pe = some (.tup xs) ∧ ((xs = [.str "name", .str "a"] ∧ t = .nm "a") ∨ ∃ w ta tb va vb, t = .op w ta tb ∧ xs = [.str w.str, va, vb] ∧ LS w ∧ okSide ta ∧ okSide tb ∧ Dt H va ta.enc ∧ Dt H vb tb.enc) := by
  rcases h with rfl | ⟨w, a, b, rfl, hw, ha, hb⟩
  · obtain ⟨p, xs, e, hp, da⟩ := d.tupI
    cases e
    rcases da with _ | ⟨d1, _ | ⟨d2, _ | _⟩⟩
    cases d1; cases d2
    exact ⟨_, hp, .inl ⟨rfl, rfl⟩⟩
  · obtain ⟨p, xs, e, hp, da⟩ := d.tupI
    cases e
    rcases da with _ | ⟨d1, _ | ⟨d2, _ | ⟨d3, _ | _⟩⟩⟩
    cases d1
    exact ⟨_, hp, .inr ⟨w, a, b, _, _, rfl, rfl, hw, ha, hb, d2, d3⟩⟩
theorem BkR.keys {H : Hp} {kvs : List (Key × V)} {bk : Bk} (h : BkR H kvs bk) : (kvs.map fun kv => kV kv.1) = (bk.map fun q => q.1).map V.str := by
  induction h with
  | nil => rfl
  | cons a _ ih =>
    rw [List.map_cons, List.map_cons, List.map_cons, a.1, ih]
    rfl
theorem IsBk.keys {H : Hp} {d : Addr} {A B C : Int × Int} (h : IsBk H d (bk3 A B C)) : ∃ kvs, H d = some (.dK kvs) ∧ (kvs.map fun kv => kV kv.1) = nm3.map V.str := by
  obtain ⟨kvs, e, r⟩ := h
  exact ⟨kvs, e, r.keys⟩
/-! ### a comprehension over things that stay -/
def MInvG {α : Type} (H : Hp) (rest : St) (ns : List α) (p : α → Bool) (f : α → V) (i : Nat) (ys : List V) (σ' : St) (H' : Hp) : Prop := Same H H' ∧ (∃ t, σ' = t :: rest) ∧ ys = ((ns.take i).filter p).map f
theorem MInvG.step {α : Type} {H : Hp} {rest : St} {ns : List α} {c : α → V} {p : α → Bool} {f : α → V} {g : TG} {tt : TT} {te : TE}
    (hs : ∀ (n : α) (t : Option V) (H' : Hp) (R1 : V → St → Hp → Prop) (R0 : St → Hp → Prop), n ∈ ns → Same H H' → (p n = true → ∀ t H4, Same H H4 → R1 (f n) (t :: rest) H4) → (p n = false → ∀ t H3, Same H H3 → R0 (t :: rest) H3) →
      g (c n) (t :: rest) H' fun σ2 H2 => tt σ2 H2 fun b H3 => if b = true then te σ2 H3 (fun v H4 => R1 v σ2 H4) else R0 σ2 H3)
    (i : Nat) (ys : List V) (v : V) (σ' : St) (H' : Hp) (hxi : (ns.map c)[i]? = some v) (h : MInvG H rest ns p f i ys σ' H') :
    g v σ' H' fun σ2 H2 => tt σ2 H2 fun b H3 => if b = true then te σ2 H3 (fun v H4 => MInvG H rest ns p f (i + 1) (ys ++ [v]) σ2 H4) else MInvG H rest ns p f (i + 1) ys σ2 H3 := by
  obtain ⟨s, ⟨t, rfl⟩, rfl⟩ := h
  rw [List.getElem?_map] at hxi
  cases hr' : ns[i]? with
  | none => rw [hr'] at hxi; cases hxi
  | some x =>
    rw [hr'] at hxi
    have ev : c x = v := by simpa using hxi
    subst ev
    have et : ns.take (i + 1) = ns.take i ++ [x] := by rw [List.take_add_one, hr']; rfl
    refine hs x t H' (fun v σ2 H4 => MInvG H rest ns p f (i + 1) (((ns.take i).filter p).map f ++ [v]) σ2 H4) (fun σ2 H3 => MInvG H rest ns p f (i + 1) (((ns.take i).filter p).map f) σ2 H3) (List.mem_of_getElem? hr') s (fun e t H4 s4 => ⟨s4, ⟨t, rfl⟩, ?_⟩) (fun e t H3 s3 => ⟨s3, ⟨t, rfl⟩, ?_⟩)
    · rw [et, List.filter_append, List.map_append]
      simp [e]
    · rw [et, List.filter_append, List.map_append]
      simp [e]
theorem MInvG.len {α : Type} {H : Hp} {rest : St} {ns : List α} {p : α → Bool} {f : α → V} (i : Nat) (ys : List V) (σ' : St) (H' : Hp) (h : MInvG H rest ns p f i ys σ' H') : ys.length ≤ i := by
  obtain ⟨_, _, rfl⟩ := h
  rw [List.length_map]
  exact Nat.le_trans (List.length_filter_le _ _) (by rw [List.length_take]; omega)
theorem comp_gen {α : Type} {a : Addr} {ns : List α} {g : TG} {tt : TT} {te : TE} {H : Hp} {Q : VK} {t0 : Option V} {rest : St} (c : α → V) (p : α → Bool) (f : α → V) (hS : H a = some (.lst (ns.map c))) (hn : ns.length ≤ 1000)
    (hs : ∀ (n : α) (t : Option V) (H' : Hp) (R1 : V → St → Hp → Prop) (R0 : St → Hp → Prop), n ∈ ns → Same H H' → (p n = true → ∀ t H4, Same H H4 → R1 (f n) (t :: rest) H4) → (p n = false → ∀ t H3, Same H H3 → R0 (t :: rest) H3) →
      g (c n) (t :: rest) H' fun σ2 H2 => tt σ2 H2 fun b H3 => if b = true then te σ2 H3 (fun v H4 => R1 v σ2 H4) else R0 σ2 H3)
    (hd : ∀ (H' : Hp) (l : Addr), Same H H' → H' l = none → Q (.ref l) (upd H' l (.lst ((ns.filter p).map f)))) : CompW (Itl K a) g tt te Q (t0 :: rest) H := by
  refine comp_list (K := K) (a := a) (xs := ns.map c) (MInvG H rest ns p f) ⟨Same.refl _, ⟨_, rfl⟩, rfl⟩ (small1000 (by rw [List.length_map]; exact hn)) MInvG.len ?_ (MInvG.step hs) ?_
  · rintro i ys σ' H' _ ⟨s, _, _⟩
    exact SqL.of (s _ _ hS)
  · rintro ys σ' H' ⟨s, _, rfl⟩ l hl
    have := hd H' l s hl
    rw [List.length_map, List.take_length]
    exact this
theorem comp_genT {α : Type} {a : Addr} {ns : List α} {g : TG} {tt : TT} {te : TE} {H : Hp} {Q : VK} {t0 : Option V} {rest : St} (c : α → V) (p : α → Bool) (f : α → V) (hS : H a = some (.tup (ns.map c))) (hn : ns.length ≤ 1000)
    (hs : ∀ (n : α) (t : Option V) (H' : Hp) (R1 : V → St → Hp → Prop) (R0 : St → Hp → Prop), n ∈ ns → Same H H' → (p n = true → ∀ t H4, Same H H4 → R1 (f n) (t :: rest) H4) → (p n = false → ∀ t H3, Same H H3 → R0 (t :: rest) H3) →
      g (c n) (t :: rest) H' fun σ2 H2 => tt σ2 H2 fun b H3 => if b = true then te σ2 H3 (fun v H4 => R1 v σ2 H4) else R0 σ2 H3)
    (hd : ∀ (H' : Hp) (l : Addr), Same H H' → H' l = none → Q (.ref l) (upd H' l (.lst ((ns.filter p).map f)))) : CompW (Itt K a) g tt te Q (t0 :: rest) H := by
  refine comp_tup (K := K) (a := a) (xs := ns.map c) (MInvG H rest ns p f) ⟨Same.refl _, ⟨_, rfl⟩, rfl⟩ (small1000 (by rw [List.length_map]; exact hn)) MInvG.len ?_ (MInvG.step hs) ?_
  · rintro i ys σ' H' _ ⟨s, _, _⟩
    exact SqT.of (s _ _ hS)
  · rintro ys σ' H' ⟨s, _, rfl⟩ l hl
    have := hd H' l s hl
    rw [List.length_map, List.take_length]
    exact this
theorem pairs_of {H : Hp} : ∀ {vs : List V} {prs : List (Int × Int)}, DtA H vs (prs.map pEnc) → ∃ as : List (Addr × Int × Int), vs = as.map (fun q => V.ref q.1) ∧ prs = as.map (fun q => q.2) ∧ ∀ q ∈ as, H q.1 = some (.tup [.int q.2.1, .int q.2.2])
  | vs, [], h => by cases h; exact ⟨[], rfl, rfl, fun q hq => by cases hq⟩
  | vs, (x, y) :: prs, h => by
    rw [List.map_cons] at h
    rcases h with _ | ⟨d1, d2⟩
    obtain ⟨as, e1, e2, h3⟩ := pairs_of d2
    obtain ⟨p, xs, rfl, hp, da⟩ := Dt.tupI d1
    rcases da with _ | ⟨d1, _ | ⟨d2, _ | _⟩⟩
    cases d1; cases d2
    refine ⟨(p, x, y) :: as, by rw [e1]; rfl, by rw [e2]; rfl, fun q hq => ?_⟩
    rcases List.mem_cons.mp hq with rfl | hq
    · exact hp
    · exact h3 q hq
theorem sd_hull {t : T} {so : Bool} {z : Str} {O O' : Int × Int} {Pf : Int → Prop} {ns : List Int} {o : S} (sd : Sd t so z O O' Pf Pf) (hns : ∀ x, x ∈ ns ↔ Pf x) (h : HullS ns o) : (∀ q, o = some q → O'.1 ≤ q.1 ∧ q.1 ≤ q.2 ∧ q.2 ≤ O'.2) ∧ (z ∈ nms t → Alone t → o ≠ none → o = some O') := by
  match o, h with
  | none, h => exact ⟨fun q e => (by cases e), fun _ _ e => absurd rfl e⟩
  | some (lo, hi), h =>
    obtain ⟨m1, m2, m3⟩ : Hull ns lo hi := h
    have l1 := sd.all _ ((hns _).mp m1)
    have l2 := sd.all _ ((hns _).mp m2)
    have l3 := m3 _ m1
    have l4 := m3 _ m2
    unfold In2 at l1 l2
    refine ⟨fun q e => by cases e; exact ⟨l1.1, by simp only; omega, l2.2⟩, fun hz ha _ => ?_⟩
    obtain ⟨f1, f2⟩ := sd.ends hz ha
    have l5 := m3 _ ((hns _).mpr f1)
    have l6 := m3 _ ((hns _).mpr f2)
    obtain ⟨u, v⟩ := O'
    simp only at l1 l2 l5 l6
    rw [show lo = u by omega, show hi = v by omega]
def ZA (H : Hp) (a d pe pf dt ph : Addr) (y2 : Option V) (so : Bool) (y8 y9 : Option V) (al : Bool) (_ : Nat) (σ : St) (Hc : Hp) : Prop := ∃ z3 z4 z13 z14 z15, σ = [some (.ref a), some (.ref d), y2, z3, z4, some (.ref pe), some (.bl so), some (.ref pf), y8, y9, some (.ref dt), some (.bl al), some (.ref ph), z13, z14, z15] ∧ Same H Hc
def isN : T → Bool
  | .nm _ => true
  | _ => false
def nmV : T → V
  | .nm x => .str x
  | _ => .non
theorem okSide_isSide {t : T} (h : okSide t) : isSide t := by
  rcases h with rfl | rfl | ⟨n, rfl, _⟩ <;> trivial
theorem names_step {ns : List (V × T)} {H : Hp} (hns : ∀ n ∈ ns, okSide n.2 ∧ Dt H n.1 n.2.enc) (n : V × T) (t : Option V) (H' : Hp) (R1 : V → St → Hp → Prop) (R0 : St → Hp → Prop) (hn : n ∈ ns) (s' : Same H H') (r1 : isN n.2 = true → ∀ t H4, Same H H4 → R1 (nmV n.2) (t :: []) H4) (r0 : isN n.2 = false → ∀ t H3, Same H H3 → R0 (t :: []) H3) :
    (gName 0) n.1 (t :: []) H' fun σ2 H2 => (tTest (tOp (qEq K) (tOp (rIxT K) (tVar 0) (tC (V.int 0))) (tC (V.str (Str.ofString "name"))))) σ2 H2 fun b H3 => if b = true then (tOp (rIxT K) (tVar 0) (tC (V.int 1))) σ2 H3 (fun v H4 => R1 v σ2 H4) else R0 σ2 H3 := by
  obtain ⟨v, tt⟩ := n
  obtain ⟨ho, hd⟩ := hns _ hn
  simp only at ho hd r1 r0
  walk_at "rd"
  obtain ⟨p, y', e, h⟩ := side_head (okSide_isSide ho) (hd.kp s'.kp)
  subst e
  rcases h with ⟨x, rfl, rfl, hp⟩ | ⟨i, rfl, rfl, hp⟩
  · refine ⟨p, rfl, _, SqT.of hp, _, rfl, true, .inl ⟨rfl, rfl⟩, ?_⟩
    rw [if_pos rfl]
    exact ⟨p, rfl, _, SqT.of hp, _, rfl, r1 rfl _ _ s'⟩
  · refine ⟨p, rfl, _, SqT.of hp, _, rfl, false, .inl ⟨rfl, by decide +kernel⟩, ?_⟩
    rw [if_neg (by simp)]
    exact r0 rfl _ _ s'
theorem names_op {va vb : V} {ta tb : T} {w : Wd} (ha : okSide ta) (hb : okSide tb) : (([(va, ta), (vb, tb)] : List (V × T)).filter fun n => isN n.2).map (fun n => nmV n.2) = (nms (.op w ta tb)).map V.str := by
  rcases ha with rfl | rfl | ⟨n, rfl, _⟩ <;> rcases hb with rfl | rfl | ⟨m, rfl, _⟩ <;> rfl
theorem tail_of {H1 : Hp} {z : Str} {lz dt d pt pu : Addr} {y : V} {o : S} {O O' : Int × Int} {al : Bool} {t : T} {Zp QF : Prop} (e : H1 lz = some (.lst ((nms t).map V.str))) (dg1 : DGet H1 dt (.str z) (some (.ref pt))) (hp1 : H1 pt = some (.tup [.int O'.1, .int O'.2]))
    (dg2 : DGet H1 d (.str z) (some (.ref pu))) (hp2 : H1 pu = some (.tup [.int O.1, .int O.2])) (dy : Dt H1 y (encS o)) (hyn : decide (y = V.non) = decide (o = none)) (hal : al = true → Alone t) (hends : z ∈ nms t → Alone t → o ≠ none → o = some O') (hsame : z ∉ nms t → O' = O) (hZ : Zp) :
    if al = true then (if decide (y = V.non) = false then ∃ b, InOf K (.str z) (.ref lz) H1 b ∧ (if b = true then ∃ x4, DGet H1 dt (.str z) (some x4) ∧ ∃ b, EqD H1 x4 y b ∧ (if b = false then QF else
      ∃ b, NotInOf K (.str z) (.ref lz) H1 b ∧ if b = true then ∃ x5, DGet H1 dt (.str z) (some x5) ∧ ∃ x6, DGet H1 d (.str z) (some x6) ∧ ∃ b, EqD H1 x5 x6 b ∧ if b = false then QF else Zp else Zp) else
      ∃ b, NotInOf K (.str z) (.ref lz) H1 b ∧ if b = true then ∃ x5, DGet H1 dt (.str z) (some x5) ∧ ∃ x6, DGet H1 d (.str z) (some x6) ∧ ∃ b, EqD H1 x5 x6 b ∧ if b = false then QF else Zp else Zp) else
      ∃ b, NotInOf K (.str z) (.ref lz) H1 b ∧ if b = true then ∃ x5, DGet H1 dt (.str z) (some x5) ∧ ∃ x6, DGet H1 d (.str z) (some x6) ∧ ∃ b, EqD H1 x5 x6 b ∧ if b = false then QF else Zp else Zp) else
      ∃ b, NotInOf K (.str z) (.ref lz) H1 b ∧ if b = true then ∃ x5, DGet H1 dt (.str z) (some x5) ∧ ∃ x6, DGet H1 d (.str z) (some x6) ∧ ∃ b, EqD H1 x5 x6 b ∧ if b = false then QF else Zp else Zp := by
  have hflat : ((nms t).map V.str).all flatV = true := by simp [List.all_eq_true, flatV]
  have fin : ∃ b, NotInOf K (.str z) (.ref lz) H1 b ∧ if b = true then ∃ x5, DGet H1 dt (.str z) (some x5) ∧ ∃ x6, DGet H1 d (.str z) (some x6) ∧ ∃ b, EqD H1 x5 x6 b ∧ if b = false then QF else Zp else Zp := by
    refine ⟨_, .inl ⟨lz, _, rfl, .inl (SqL.of e), rfl, hflat, rfl⟩, ?_⟩
    rw [inV_strs]
    by_cases hz : z ∈ nms t
    · rw [if_neg (by simp [hz])]; exact hZ
    · rw [if_pos (by simp [hz])]
      refine ⟨_, dg1, _, dg2, _, eqS_of (dtS_mk hp1) (dtS_mk hp2), ?_⟩
      rw [if_neg (by rw [hsame hz]; simp)]
      exact hZ
  by_cases h1 : al = true
  · rw [if_pos h1]
    by_cases h2 : o = none
    · rw [if_neg (by rw [hyn, h2]; simp)]; exact fin
    · rw [if_pos (by rw [hyn]; simp [h2])]
      refine ⟨_, .inl ⟨lz, _, rfl, .inl (SqL.of e), rfl, hflat, rfl⟩, ?_⟩
      rw [inV_strs]
      by_cases hz : z ∈ nms t
      · rw [if_pos (by simp [hz])]
        refine ⟨_, dg1, _, eqS_of (dtS_mk hp1) dy, ?_⟩
        rw [if_neg (by rw [hends hz (hal h1) h2]; simp)]
        exact fin
      · rw [if_neg (by simp [hz])]; exact fin
  · rw [if_neg h1]; exact fin
theorem sort_abc {ms : List Str} (hp : ms.Perm nm3) (hs : PyProof.Rows.sortedS ms = true) : ms = nm3 := by
  have hl := hp.length_eq
  have hn : ms.Nodup := hp.nodup_iff.mpr (by decide +kernel)
  match ms, hl with
  | [x, y, z], _ =>
    have hx := hp.mem_iff.mp (show x ∈ [x, y, z] by simp)
    have hy := hp.mem_iff.mp (show y ∈ [x, y, z] by simp)
    have hz := hp.mem_iff.mp (show z ∈ [x, y, z] by simp)
    simp only [nm3, List.mem_cons, List.not_mem_nil, or_false] at hx hy hz
    clear hp
    rcases hx with rfl | rfl | rfl <;> rcases hy with rfl | rfl | rfl <;> rcases hz with rfl | rfl | rfl <;> first | rfl | (exfalso; revert hn; decide +kernel) | (exfalso; revert hs; decide +kernel)
def zBody (K : PySem.W.Frag) : TS := tSeq (tAsg (tDGet (tVar 10) (tVar 3)) (gTup K 2 (gCons (gName 4) (gCons (gName 14) gNil)))) (tSeq (tIfS (tAnd (tTest (tOp qNotN (tVar 13) (tC V.non))) (tNot (tChain3 (rI0 fun i j => V.bl (decide (i ≤ j))) (rI0 fun i j => V.bl (decide (i ≤ j))) (rI0 fun i j => V.bl (decide (i ≤ j))) (tVar 4) (tOp (rIxT K) (tVar 13) (tC (V.int 0))) (tOp (rIxT K) (tVar 13) (tC (V.int 1))) (tVar 14)))) (tRet (tC (V.bl false))) tNext) (tSeq (tAsg (tComp (iSeq K (tIf (tTest (tOp (qEq K) (tOp (rIxT K) (tVar 5) (tC (V.int 0))) (tC (V.str (Str.ofString "name"))))) (tLst (tCons (tVar 5) tNil)) (tSl (rSlT K) (tVar 5) (tPart (tC (V.int 1))) tNoPart))) (gName 0) (tTest (tOp (qEq K) (tOp (rIxT K) (tVar 0) (tC (V.int 0))) (tC (V.str (Str.ofString "name"))))) (tOp (rIxT K) (tVar 0) (tC (V.int 1))) [none]) (gName 15)) (tSeq (tIfS (tAnd (tB (tVar 11)) (tAnd (tTest (tOp qNotN (tVar 13) (tC V.non))) (tAnd (tTest (tOp (qIn K) (tVar 3) (tVar 15))) (tTest (tOp (qNeD K) (tDGet (tVar 10) (tVar 3)) (tVar 13)))))) (tRet (tC (V.bl false))) tNext) (tIfS (tAnd (tTest (tOp (qNotIn K) (tVar 3) (tVar 15))) (tTest (tOp (qNeD K) (tDGet (tVar 10) (tVar 3)) (tDGet (tVar 1) (tVar 3))))) (tRet (tC (V.bl false))) tNext))))
theorem z_step {D : Ends} {N B : St → Hp → Prop} {t : T} {a d pe pf dt ph Tz : Addr} {y2 y8 y9 z3 z4 z13 z14 z15 : Option V} {so al : Bool} {z : Str} {y : V} {Hn : Hp} {A B' C A2 B2 O O' : Int × Int} {o : S} (hQ : okQ t) (hbt : IsBk Hn dt (bk3 A2 B2 C)) (hbm : IsBk Hn d (bk3 A B' C)) (dy : Dt Hn y (encS o)) (dpo : Dt Hn (.ref pe) t.enc) (lk' : look (bk3 A2 B2 C) z = some O') (lk : look (bk3 A B' C) z = some O)
    (hle : ∀ q, o = some q → O'.1 ≤ q.1 ∧ q.1 ≤ q.2 ∧ q.2 ≤ O'.2) (hends : z ∈ nms t → Alone t → o ≠ none → o = some O') (hsame : z ∉ nms t → O' = O) (hal : al = true → Alone t) (hTz : Hn Tz = none)
    (hN : ∀ (z4' z14' z15' : Option V) (H' : Hp), Same Hn H' → N [some (.ref a), some (.ref d), y2, some (.str z), z4', some (.ref pe), some (.bl so), some (.ref pf), y8, y9, some (.ref dt), some (.bl al), some (.ref ph), some y, z14', z15'] H') :
    (gTup K 2 (gCons (gName 3) (gCons (gName 13) gNil))) (.ref Tz) [some (.ref a), some (.ref d), y2, z3, z4, some (.ref pe), some (.bl so), some (.ref pf), y8, y9, some (.ref dt), some (.bl al), some (.ref ph), z13, z14, z15] (upd Hn Tz (.tup [.str z, y])) fun σ2 H2 => zBody K { D with nx := N, ct := N, bk := B } σ2 H2 := by
  unfold zBody
  walk_at "rd"
  have uT := same_new hTz (HO.tup [V.str z, y])
  have eT : upd Hn Tz (HO.tup [V.str z, y]) Tz = _ := upd_same
  generalize upd Hn Tz (HO.tup [V.str z, y]) = Ho at uT eT ⊢
  have hbt := hbt.same uT
  have hbm := hbm.same uT
  have dy := dy.kp uT.kp
  have dpo := dpo.kp uT.kp
  obtain ⟨pt, dgt, hpt⟩ := hbt.get lk'
  obtain ⟨pu, dgu, hpu⟩ := hbm.get lk
  refine ⟨_, SqT.of eT, rfl, _, _, rfl, _, _, rfl, rfl, _, dgt, _, rfl, _, SqT.of hpt, rfl, _, _, rfl, _, _, rfl, rfl, ?_⟩
  have hyn : decide (y = V.non) = decide (o = none) := by
    rcases dtS dy with ⟨rfl, rfl⟩ | ⟨_, _, _, rfl, rfl, _⟩ <;> simp
  rcases o with _ | ⟨q1, q2⟩
  case' none =>
    rw [if_neg (by rw [hyn]; simp)]
  case' some =>
    rw [if_pos (by rw [hyn]; simp)]
    obtain ⟨py, ey, hpy⟩ := dtS1 dy
    obtain ⟨h1, h2, h3⟩ := hle _ rfl
    refine ⟨_, ey, _, SqT.of hpy, _, rfl, _, rfl, _, rfl, ?_⟩
    rw [if_pos h1]
    refine ⟨_, ey, _, SqT.of hpy, _, rfl, _, rfl, _, rfl, ?_⟩
    rw [if_pos h2]
    refine ⟨_, rfl, _, rfl, ?_⟩
    rw [if_neg (by simp only [decide_eq_false_iff_not, Int.not_le]; omega)]
  all_goals
    obtain ⟨xs', hpe', hq'⟩ := q_head hQ dpo
    rcases hq' with ⟨rfl, hnm'⟩ | ⟨wq', ta', tb', va', vb', hnm', rfl, hls', hsa', hsb', hda', hdb'⟩
    · refine ⟨_, SqT.of hpe', _, rfl, true, .inl ⟨rfl, rfl⟩, ?_⟩
      rw [if_pos rfl]
      refine ⟨zl 1 (by decide), fun ps hps => .inl ⟨⟨_, SqL.of upd_same⟩, ?_⟩⟩
      have w1 := same_new hps (HO.lst [V.ref pe])
      refine comp_gen (rest := []) (t0 := none) (ns := [((V.ref pe, T.nm "a") : V × T)]) (fun n => n.1) (fun n => isN n.2) (fun n => nmV n.2) upd_same (by simp) (names_step ?_) ?_
      · intro n hn
        obtain rfl : n = (V.ref pe, T.nm "a") := by simpa using hn
        exact ⟨.inl rfl, by rw [← hnm']; exact dpo.kp w1.kp⟩
      · intro Hp' lz sp hlz
        have w2 := w1.trans (sp.trans (same_new hlz (HO.lst (nms t |>.map V.str))))
        have el : upd Hp' lz (HO.lst (nms t |>.map V.str)) lz = _ := upd_same
        rw [show ((([((V.ref pe, T.nm "a") : V × T)]).filter fun n => isN n.2).map fun n => nmV n.2) = (nms t).map V.str by rw [hnm']; rfl]
        generalize upd Hp' lz (HO.lst (nms t |>.map V.str)) = Hq at w2 el ⊢
        obtain ⟨pt', dgt', hpt'⟩ := (hbt.same w2).get lk'
        obtain ⟨pu', dgu', hpu'⟩ := (hbm.same w2).get lk
        exact tail_of el dgt' hpt' dgu' hpu' (dy.kp w2.kp) hyn hal hends hsame (hN _ _ _ _ (uT.trans w2))
    · refine ⟨_, SqT.of hpe', _, rfl, false, .inl ⟨rfl, by rcases hls' with rfl | rfl <;> decide +kernel⟩, ?_⟩
      rw [if_neg (by simp)]
      refine ⟨_, SqT.of hpe', fun h => absurd h.1 (by show HT.sIx 3 0 (some 1) ≠ 0; decide), fun ps hps => .inr ⟨⟨_, SqT.of upd_same⟩, ?_⟩⟩
      have w1 := same_new hps (HO.tup [va', vb'])
      rw [show cutV [V.str wq'.str, va', vb'] (some 1) none = [va', vb'] from rfl]
      refine comp_genT (rest := []) (t0 := none) (ns := [((va', ta') : V × T), (vb', tb')]) (fun n => n.1) (fun n => isN n.2) (fun n => nmV n.2) upd_same (by simp) (names_step ?_) ?_
      · intro n hn
        simp only [List.mem_cons, List.not_mem_nil, or_false] at hn
        rcases hn with rfl | rfl
        · exact ⟨hsa', hda'.kp w1.kp⟩
        · exact ⟨hsb', hdb'.kp w1.kp⟩
      · intro Hp' lz sp hlz
        have w2 := w1.trans (sp.trans (same_new hlz (HO.lst (nms t |>.map V.str))))
        have el : upd Hp' lz (HO.lst (nms t |>.map V.str)) lz = _ := upd_same
        rw [show ((([((va', ta') : V × T), (vb', tb')]).filter fun n => isN n.2).map fun n => nmV n.2) = (nms t).map V.str by rw [hnm']; exact names_op hsa' hsb']
        generalize upd Hp' lz (HO.lst (nms t |>.map V.str)) = Hq at w2 el ⊢
        obtain ⟨pt', dgt', hpt'⟩ := (hbt.same w2).get lk'
        obtain ⟨pu', dgu', hpu'⟩ := (hbm.same w2).get lk
        exact tail_of el dgt' hpt' dgu' hpu' (dy.kp w2.kp) hyn hal hends hsame (hN _ _ _ _ (uT.trans w2))
theorem two_ways {Hy : Addr → Addr → Hp → T → Prop} {C : Addr → Addr → Hp → Prop} {G : Prop} (h1 : (∀ pe pp Hx t, Hy pe pp Hx t → C pe pp Hx) → G) (h2 : ∀ pe pp Hx t, Hy pe pp Hx t → C pe pp Hx) : G := h1 h2
theorem two_truths {Hy : Bool → Prop} {C : Bool → Prop} {G : Prop} (h1 : (∀ al, Hy al → C al) → G) (h2 : ∀ al, Hy al → C al) : G := h1 h2
def spOnce (K : PySem.W.Frag) : Sp := fun vs H Q _ => ∃ (a : Addr) (ns : List Int), vs = [.ref a] ∧ SqL K H a (ns.map V.int) ∧ ∀ (H' : Hp), Same H H' → Q (.bl true) H'
theorem ok_law_once (F : Fun K "_law_once" "_law_once" s_law_once f fd) (b_range : mg "range" = none) (b_list : mg "list" = none) (b_enumerate : mg "enumerate" = none) (b_zip : mg "zip" = none) (b_sorted : mg "sorted" = none) (c_law_pick : Callee P w K mg base "_law_pick" ["_law_script", "_law_k", "_law_many"] 2 (spPick K)) (c_law_hull : Callee P w K mg base "_law_hull" ["_law_worths"] 1 (spHull K))
    (c_law_side : Callee P w K mg base "_law_side" ["_law_script", "_law_at"] 3 (spSide K)) (c_law_so : Callee P w K mg base "_law_so" ["_law_expr", "_law_book"] 3 spSo) (c_behind : Callee P w K mg base "behind" ["term", "book", "is_so"] 7 spBehind) (c_reckoned_from : Callee P w K mg base "reckoned_from" ["term", "book"] 5 spFrom1) :
    FnOk P w K mg base CX0 8 f fd ["_law_script"] (spOnce K) := by
  refine F.ok sc_law_once (fun vs H Q E h => ?_) (fun cdv A outer s H vs Q E hr h => ?_)
  · obtain ⟨a, ns, rfl, _⟩ := h
    rfl
  obtain ⟨a, ns, rfl, hS, q⟩ := h
  refine ⟨_, (pss_cons (ps_set (i := 1) sc_law_once.nd rfl loc_law_once__law_book pe_dnewK (swaps_plain rfl))
  (pss_cons (ps_for PassesOwn.never rfl (pi_enum gl_law_once_enumerate b_enumerate (pa_c (pe_lst (pa_c pe_str (pa_c pe_str (pa_c pe_str pa_nil)))) pa_nil)) (pg_tup (n := 2) rfl (pgs_cons (pg_name (i := 2) sc_law_once.nd rfl loc_law_once__law_k) (pgs_cons (pg_name (i := 3) sc_law_once.nd rfl loc_law_once__law_name) pgs_nil)))
  (pss_cons (ps_set (i := 4) sc_law_once.nd rfl loc_law_once__law_low (pe_op op_sub (pe_cc c_law_pick hr (by omega) (pa_c (pe_var (i := 0) rfl vis_law_once__law_script db__law_script cd__law_script) (pa_c (pe_op op_mul pe_int (pe_var (i := 2) rfl vis_law_once__law_k db__law_k cd__law_k)) (pa_c pe_int pa_nil))) gl_law_once__law_pick db__law_pick) pe_int) (swaps_plain rfl))
  (pss_one (ps_dput hr.units1 (pe_var (i := 1) rfl vis_law_once__law_book db__law_book cd__law_book) (pe_var (i := 3) rfl vis_law_once__law_name db__law_name cd__law_name) (pe_tup (pa_c (pe_var (i := 4) rfl vis_law_once__law_low db__law_low cd__law_low) (pa_c (pe_op op_add (pe_var (i := 4) rfl vis_law_once__law_low db__law_low cd__law_low) (pe_cc c_law_pick hr (by omega) (pa_c (pe_var (i := 0) rfl vis_law_once__law_script db__law_script cd__law_script) (pa_c (pe_op op_add (pe_op op_mul pe_int (pe_var (i := 2) rfl vis_law_once__law_k db__law_k cd__law_k)) pe_int) (pa_c pe_int pa_nil))) gl_law_once__law_pick db__law_pick)) pa_nil))) (swaps_plain rfl)))))
  (pss_cons (ps_set (i := 5) sc_law_once.nd rfl loc_law_once__law_expr (pe_tup (pa_c (pe_ix ix_list (pe_lst (pa_c pe_str (pa_c pe_str pa_nil))) (pe_cc c_law_pick hr (by omega) (pa_c (pe_var (i := 0) rfl vis_law_once__law_script db__law_script cd__law_script) (pa_c pe_int (pa_c pe_int pa_nil))) gl_law_once__law_pick db__law_pick) (fun _ _ => rfl)) (pa_c (pe_cc c_law_side hr (by omega) (pa_c (pe_var (i := 0) rfl vis_law_once__law_script db__law_script cd__law_script) (pa_c pe_int pa_nil)) gl_law_once__law_side db__law_side) (pa_c (pe_cc c_law_side hr (by omega) (pa_c (pe_var (i := 0) rfl vis_law_once__law_script db__law_script cd__law_script) (pa_c pe_int pa_nil)) gl_law_once__law_side db__law_side) pa_nil)))) (swaps_plain rfl))
  (pss_cons (ps_if (pt_cmpR op_eqI (pe_cc c_law_pick hr (by omega) (pa_c (pe_var (i := 0) rfl vis_law_once__law_script db__law_script cd__law_script) (pa_c pe_int (pa_c pe_int pa_nil))) gl_law_once__law_pick db__law_pick) pe_int (nomark _)) (pss_one (ps_set (i := 5) sc_law_once.nd rfl loc_law_once__law_expr (pe_tup (pa_c pe_str (pa_c pe_str pa_nil))) (swaps_plain rfl))) pss_nil)
  (pss_cons (ps_for PassesOwn.never rfl (pi_tup (pe_tup (pa_c pe_bl (pa_c pe_bl pa_nil)))) (pg_name (i := 6) sc_law_once.nd rfl loc_law_once__law_is_so)
  (pss_cons (ps_set (i := 7) sc_law_once.nd rfl loc_law_once__law_fits (pe_lst pa_nil) (swaps_plain rfl))
  (pss_cons (ps_for PassesOwn.never rfl (pi_range2 gl_law_once_range b_range (pa_c (pe_ix ix_tup (pe_dget hr.units1 (pe_var (i := 1) rfl vis_law_once__law_book db__law_book cd__law_book) pe_str (fun _ _ => rfl)) pe_int (fun _ _ => rfl)) (pa_c (pe_op op_add (pe_ix ix_tup (pe_dget hr.units1 (pe_var (i := 1) rfl vis_law_once__law_book db__law_book cd__law_book) pe_str (fun _ _ => rfl)) pe_int (fun _ _ => rfl)) pe_int) pa_nil))) (pg_name (i := 8) sc_law_once.nd rfl loc_law_once__law_a)
  (pss_one (ps_for PassesOwn.never rfl (pi_range2 gl_law_once_range b_range (pa_c (pe_ix ix_tup (pe_dget hr.units1 (pe_var (i := 1) rfl vis_law_once__law_book db__law_book cd__law_book) pe_str (fun _ _ => rfl)) pe_int (fun _ _ => rfl)) (pa_c (pe_op op_add (pe_ix ix_tup (pe_dget hr.units1 (pe_var (i := 1) rfl vis_law_once__law_book db__law_book cd__law_book) pe_str (fun _ _ => rfl)) pe_int (fun _ _ => rfl)) pe_int) pa_nil))) (pg_name (i := 9) sc_law_once.nd rfl loc_law_once__law_b)
  (pss_one (ps_if (pt_cmpR (gEq hr.units) (pe_cmpR op_neI (pe_cc c_law_so hr (by omega) (pa_c (pe_var (i := 5) rfl vis_law_once__law_expr db__law_expr cd__law_expr) (pa_c (pe_disp (pps_cons pe_str (pe_var (i := 8) rfl vis_law_once__law_a db__law_a cd__law_a) (pps_cons pe_str (pe_var (i := 9) rfl vis_law_once__law_b db__law_b cd__law_b) pps_nil)) rfl rfl (by simp) (by decide)) pa_nil)) gl_law_once__law_so db__law_so) pe_int (nomark _)) (pe_var (i := 6) rfl vis_law_once__law_is_so db__law_is_so cd__law_is_so) (nomark _)) (pss_one (ps_expr (pe_bm PySem.F.plainAttrs_list PySem.F.slot_list_append PySem.F.type_list_append mt_append (pe_var (i := 7) rfl vis_law_once__law_fits db__law_fits cd__law_fits) (pa_c (pe_tup (pa_c (pe_var (i := 8) rfl vis_law_once__law_a db__law_a cd__law_a) (pa_c (pe_var (i := 9) rfl vis_law_once__law_b db__law_b cd__law_b) pa_nil))) pa_nil)) (swaps_plain rfl))) pss_nil)))))
  (pss_cons (ps_set (i := 10) sc_law_once.nd rfl loc_law_once__law_told (pe_cc c_behind hr (by omega) (pa_c (pe_var (i := 5) rfl vis_law_once__law_expr db__law_expr cd__law_expr) (pa_c (pe_var (i := 1) rfl vis_law_once__law_book db__law_book cd__law_book) (pa_c (pe_var (i := 6) rfl vis_law_once__law_is_so db__law_is_so cd__law_is_so) pa_nil))) gl_law_once_behind db_behind) (swaps_plain rfl))
  (pss_cons (ps_set (i := 11) sc_law_once.nd rfl loc_law_once__law_alone (pe_or (pe_cmpR (gEq hr.units) (pe_ix ix_tup (pe_var (i := 5) rfl vis_law_once__law_expr db__law_expr cd__law_expr) pe_int (fun _ _ => rfl)) pe_str (nomark _)) (pe_one (pe_cmpR (dNe hr.units) (pe_ix ix_tup (pe_var (i := 5) rfl vis_law_once__law_expr db__law_expr cd__law_expr) pe_int (fun _ _ => rfl)) (pe_ix ix_tup (pe_var (i := 5) rfl vis_law_once__law_expr db__law_expr cd__law_expr) pe_int (fun _ _ => rfl)) (nomark _)))) (swaps_plain rfl))
  (pss_cons (ps_if (pt_cmpR gIsN (pe_var (i := 10) rfl vis_law_once__law_told db__law_told cd__law_told) pe_non (nomark _)) (pss_cons (ps_if (pt_cmpR (dlNe hr.units) (pe_var (i := 7) rfl vis_law_once__law_fits db__law_fits cd__law_fits) (pe_lst pa_nil) (nomark _)) (pss_one (ps_ret pe_bl)) pss_nil)
  (pss_one ps_continue)) pss_nil)
  (pss_cons (ps_if (PW.pt (pw_or (pt_cmpR (gNe hr.units) (pe_cB call_sortedS gl_law_once_sorted b_sorted bt_sorted (pa_c (pe_cT (call_list_dict rfl) gl_law_once_list b_list bt_list (pa_c (pe_var (i := 10) rfl vis_law_once__law_told db__law_told cd__law_told) pa_nil) nn_list db_list) pa_nil) nn_sorted db_sorted) (pe_lst (pa_c pe_str (pa_c pe_str (pa_c pe_str pa_nil)))) (nomark _)) (pw_or1 (pt_cmpR (dNe hr.units) (pe_dget hr.units1 (pe_var (i := 10) rfl vis_law_once__law_told db__law_told cd__law_told) pe_str (fun _ _ => rfl)) (pe_dget hr.units1 (pe_var (i := 1) rfl vis_law_once__law_book db__law_book cd__law_book) pe_str (fun _ _ => rfl)) (nomark _))))) (pss_one (ps_ret pe_bl)) pss_nil)
  (pss_cons (ps_set (i := 12) sc_law_once.nd rfl loc_law_once__law_hulls (pe_lst (pa_c (pe_cc c_law_hull hr (by omega) (pa_c (pe_comp ["_law_pair"] [none] rfl (CompS.of (by rfl)) (pi_list (pe_var (i := 7) rfl vis_law_once__law_fits db__law_fits cd__law_fits)) (fun _ _ _ _ _ => (pg_name (i := 0) (show List.Nodup (["_law_pair"] : List Str) from by decide +kernel) rfl (Or.inl rfl))) (fun _ _ _ _ _ => pif_nil) (fun _ _ _ _ _ => (pe_ix (ixK (r := rIxT) (K := K) ix_tup rfl) (pe_var (i := 0) rfl (by first | exact Or.inl rfl | exact Or.inr (Or.inl rfl) | exact Or.inr (Or.inr rfl)) db__law_pair cd__law_pair) pe_int (fun _ _ => rfl)))) pa_nil) gl_law_once__law_hull db__law_hull) (pa_c (pe_cc c_law_hull hr (by omega) (pa_c (pe_comp ["_law_pair"] [none] rfl (CompS.of (by rfl)) (pi_list (pe_var (i := 7) rfl vis_law_once__law_fits db__law_fits cd__law_fits)) (fun _ _ _ _ _ => (pg_name (i := 0) (show List.Nodup (["_law_pair"] : List Str) from by decide +kernel) rfl (Or.inl rfl))) (fun _ _ _ _ _ => pif_nil) (fun _ _ _ _ _ => (pe_ix (ixK (r := rIxT) (K := K) ix_tup rfl) (pe_var (i := 0) rfl (by first | exact Or.inl rfl | exact Or.inr (Or.inl rfl) | exact Or.inr (Or.inr rfl)) db__law_pair cd__law_pair) pe_int (fun _ _ => rfl)))) pa_nil) gl_law_once__law_hull db__law_hull) pa_nil))) (swaps_plain rfl))
  (pss_one (ps_for PassesOwn.never rfl (pi_zip gl_law_once_zip b_zip (pa_c (pe_lst (pa_c pe_str (pa_c pe_str pa_nil))) (pa_c (pe_var (i := 12) rfl vis_law_once__law_hulls db__law_hulls cd__law_hulls) pa_nil))) (pg_tup (n := 2) rfl (pgs_cons (pg_name (i := 3) sc_law_once.nd rfl loc_law_once__law_name) (pgs_cons (pg_name (i := 13) sc_law_once.nd rfl loc_law_once__law_hull_here) pgs_nil)))
  (pss_cons (ps_asg (pe_dget hr.units1 (pe_var (i := 10) rfl vis_law_once__law_told db__law_told cd__law_told) (pe_var (i := 3) rfl vis_law_once__law_name db__law_name cd__law_name) (fun _ _ => rfl)) (pg_tup (n := 2) rfl (pgs_cons (pg_name (i := 4) sc_law_once.nd rfl loc_law_once__law_low) (pgs_cons (pg_name (i := 14) sc_law_once.nd rfl loc_law_once__law_high) pgs_nil))))
  (pss_cons (ps_if (PW.pt (pw_and (pt_cmpR gNotN (pe_var (i := 13) rfl vis_law_once__law_hull_here db__law_hull_here cd__law_hull_here) pe_non (nomark _)) (pw_and1 (pt_not (pt_chain3 op_le op_le op_le (pe_var (i := 4) rfl vis_law_once__law_low db__law_low cd__law_low) (pe_ix ix_tup (pe_var (i := 13) rfl vis_law_once__law_hull_here db__law_hull_here cd__law_hull_here) pe_int (fun _ _ => rfl)) (pe_ix ix_tup (pe_var (i := 13) rfl vis_law_once__law_hull_here db__law_hull_here cd__law_hull_here) pe_int (fun _ _ => rfl)) (pe_var (i := 14) rfl vis_law_once__law_high db__law_high cd__law_high)))))) (pss_one (ps_ret pe_bl)) pss_nil)
  (pss_cons (ps_setc (i := 15) ["_law_side_here"] [none] sc_law_once.nd rfl loc_law_once__law_names rfl (CompS.of (by rfl)) (pi_seq (pe_ifExp (pt_cmpR (gEq hr.units) (pe_ix ix_tup (pe_var (i := 5) rfl vis_law_once__law_expr db__law_expr cd__law_expr) pe_int (fun _ _ => rfl)) pe_str (nomark _)) (pe_lst (pa_c (pe_var (i := 5) rfl vis_law_once__law_expr db__law_expr cd__law_expr) pa_nil)) (pe_slice sl_tup (pe_var (i := 5) rfl vis_law_once__law_expr db__law_expr cd__law_expr) (po_some pe_int) po_none))) (fun _ _ _ _ _ => (pg_name (i := 0) (show List.Nodup (["_law_side_here"] : List Str) from by decide +kernel) rfl (Or.inl rfl))) (fun _ _ _ _ _ => (pif_one (pt_cmpR (opK (r := qEq) (K := K) (gEq hr.units) rfl) (pe_ix (ixK (r := rIxT) (K := K) ix_tup rfl) (pe_var (i := 0) rfl (by first | exact Or.inl rfl | exact Or.inr (Or.inl rfl) | exact Or.inr (Or.inr rfl)) db__law_side_here cd__law_side_here) pe_int (fun _ _ => rfl)) pe_str (nomark _)))) (fun _ _ _ _ _ => (pe_ix (ixK (r := rIxT) (K := K) ix_tup rfl) (pe_var (i := 0) rfl (by first | exact Or.inl rfl | exact Or.inr (Or.inl rfl) | exact Or.inr (Or.inr rfl)) db__law_side_here cd__law_side_here) pe_int (fun _ _ => rfl))))
  (pss_cons (ps_if (PW.pt (pw_and (pt_val (pe_var (i := 11) rfl vis_law_once__law_alone db__law_alone cd__law_alone)) (pw_and (pt_cmpR gNotN (pe_var (i := 13) rfl vis_law_once__law_hull_here db__law_hull_here cd__law_hull_here) pe_non (nomark _)) (pw_and (pt_cmpR (gIn hr.units) (pe_var (i := 3) rfl vis_law_once__law_name db__law_name cd__law_name) (pe_var (i := 15) rfl vis_law_once__law_names db__law_names cd__law_names) (by with_unfolding_all rfl)) (pw_and1 (pt_cmpR (dNe hr.units) (pe_dget hr.units1 (pe_var (i := 10) rfl vis_law_once__law_told db__law_told cd__law_told) (pe_var (i := 3) rfl vis_law_once__law_name db__law_name cd__law_name) (fun _ _ => rfl)) (pe_var (i := 13) rfl vis_law_once__law_hull_here db__law_hull_here cd__law_hull_here) (nomark _))))))) (pss_one (ps_ret pe_bl)) pss_nil)
  (pss_one (ps_if (PW.pt (pw_and (pt_cmpR (gNotIn hr.units) (pe_var (i := 3) rfl vis_law_once__law_name db__law_name cd__law_name) (pe_var (i := 15) rfl vis_law_once__law_names db__law_names cd__law_names) (by with_unfolding_all rfl)) (pw_and1 (pt_cmpR (dNe hr.units) (pe_dget hr.units1 (pe_var (i := 10) rfl vis_law_once__law_told db__law_told cd__law_told) (pe_var (i := 3) rfl vis_law_once__law_name db__law_name cd__law_name) (fun _ _ => rfl)) (pe_dget hr.units1 (pe_var (i := 1) rfl vis_law_once__law_book db__law_book cd__law_book) (pe_var (i := 3) rfl vis_law_once__law_name db__law_name cd__law_name) (fun _ _ => rfl)) (nomark _))))) (pss_one (ps_ret pe_bl)) pss_nil))))))))))))))))
  (pss_one (ps_ret (pe_and (pe_cmpR (dEq hr.units) (pe_cc c_reckoned_from hr (by omega) (pa_c (pe_tup (pa_c pe_str (pa_c pe_int pa_nil))) (pa_c (pe_var (i := 1) rfl vis_law_once__law_book db__law_book cd__law_book) pa_nil)) gl_law_once_reckoned_from db_reckoned_from) (pe_tup (pa_c pe_int (pa_c pe_int pa_nil))) (nomark _)) (pe_one (pe_cmpR (dEq hr.units) (pe_cc c_reckoned_from hr (by omega) (pa_c (pe_tup (pa_c pe_str (pa_c pe_str pa_nil))) (pa_c (pe_var (i := 1) rfl vis_law_once__law_book db__law_book cd__law_book) pa_nil)) gl_law_once_reckoned_from db_reckoned_from) (pe_dget hr.units1 (pe_var (i := 1) rfl vis_law_once__law_book db__law_book cd__law_book) pe_str (fun _ _ => rfl)) (nomark _))))))))))), ?_⟩
  walk_at "rd"
  intro d hd
  refine ⟨zl 3 (by decide), fun pn hpn => ?_⟩
  have s0 := same_new hd (HO.dK [])
  have s1 := same_new hpn (HO.lst (nm3.map V.str))
  have hdd : upd (upd H d (HO.dK [])) pn (HO.lst (nm3.map V.str)) d = some (.dK []) := s1 _ _ upd_same
  have hpp : upd (upd H d (HO.dK [])) pn (HO.lst (nm3.map V.str)) pn = some (HO.lst (nm3.map V.str)) := upd_same
  have s01 := s0.trans s1
  have s01' : Same (upd H pn (HO.lst (nm3.map V.str))) (upd (upd H d (HO.dK [])) pn (HO.lst (nm3.map V.str))) := fun b u e => by
    by_cases hb : b = pn
    · subst hb; rw [upd_same] at e ⊢; exact e
    · rw [upd_ne hb] at e ⊢
      exact s0 _ _ e
  have hdn : upd H pn (HO.lst (nm3.map V.str)) d = none := by
    rw [upd_ne (fun z => by rw [← z, upd_same] at hpn; cases hpn)]
    exact hd
  have sH : Same H (upd H pn (HO.lst (nm3.map V.str))) := same_new (by
    by_cases z : pn = d
    · rw [z]; exact hd
    · rw [upd_ne z] at hpn; exact hpn) _
  rw [show (HO.lst [V.str (Str.ofString "a"), V.str (Str.ofString "b"), V.str (Str.ofString "c")]) = HO.lst (nm3.map V.str) from rfl]
  generalize upd (upd H d (HO.dK [])) pn (HO.lst (nm3.map V.str)) = U at hdd hpp s01 s01' ⊢
  have hpp0 : upd H pn (HO.lst (nm3.map V.str)) pn = some (HO.lst (nm3.map V.str)) := upd_same
  generalize upd H pn (HO.lst (nm3.map V.str)) = H0 at s01' hdn sH hpp0
  refine ⟨⟨_, SqL.of hpp⟩, ?_⟩
  have hS0 := sH.seq hS
  refine for_enum (K := K) (a := pn) (xs := nm3.map V.str) (E1 H0 a d) ?start ?stays ?step ?done
  case start => exact ⟨_, _, _, _, _, _, _, _, _, _, _, _, _, _, [], rfl, s01', rfl, fun s hs => (by cases hs), ⟨[], hdd, .nil⟩⟩
  case stays =>
    rintro i σ Hc _ ⟨_, _, _, _, _, _, _, _, _, _, _, _, _, _, l, rfl, sc, _⟩
    exact SqL.of (sc _ _ hpp0)
  case step =>
    rintro i x σ Hc T hx ⟨x2, x3, x4, x5, x6, x7, x8, x9, x10, x11, x12, x13, x14, x15, l, rfl, sc, hl, hok, hbk⟩ hT
    have hi : i < 3 := by
      rw [List.getElem?_map] at hx
      by_cases z : i < 3
      · exact z
      · rw [List.getElem?_eq_none (by simp [nm3]; omega)] at hx; cases hx
    obtain ⟨nm, hnm, hput⟩ : ∃ n, nm3[i]? = some n ∧ ∀ s, bput (zp nm3 l) n s = zp nm3 (l ++ [s]) := by
      obtain ⟨n, h1, _⟩ := zp_put (l := l) (by omega) (0, 0)
      refine ⟨n, by rw [← hl]; exact h1, fun s => ?_⟩
      obtain ⟨n', h1', h2'⟩ := zp_put (l := l) (by omega) s
      rw [h1] at h1'; cases h1'; exact h2'
    rw [List.getElem?_map, hnm] at hx
    obtain rfl : V.str nm = x := by simpa using hx
    walk_at "rd"
    have u1 := same_new hT (HO.tup [V.int i, V.str nm])
    have eT : upd Hc T (HO.tup [V.int i, V.str nm]) T = _ := upd_same
    generalize upd Hc T (HO.tup [V.int i, V.str nm]) = U1 at u1 eT ⊢
    refine ⟨_, SqT.of eT, rfl, _, _, rfl, _, _, rfl, rfl, _, rfl, .inl ⟨by decide, by decide⟩, a, ns, _, 9, rfl, (sc.trans u1).seq hS0, by omega, by decide, fun n1 H1 g0 g1 t1 => ?_⟩
    refine ⟨_, rfl, _, rfl, .inl ⟨by decide, by decide⟩, a, ns, _, 5, rfl, (sc.trans (u1.trans t1)).seq hS0, by omega, by decide, fun n2 H2 g2 g3 t2 => ?_⟩
    refine ⟨_, rfl, zl 2 (by decide), fun pt hpt => ?_⟩
    have t3 := same_new hpt (HO.tup [V.int (n1 - 4), V.int (n1 - 4 + n2)])
    have e3 : upd H2 pt (HO.tup [V.int (n1 - 4), V.int (n1 - 4 + n2)]) pt = _ := upd_same
    generalize upd H2 pt (HO.tup [V.int (n1 - 4), V.int (n1 - 4 + n2)]) = U2 at t3 e3 ⊢
    have tt := u1.trans (t1.trans (t2.trans t3))
    obtain ⟨kvs, hd1, rb⟩ := hbk.same tt
    have hkl : kvs.length ≤ 3 := by
      rw [rb.length]
      match l, hl with
      | [], _ => simp [zp, nm3]
      | [_], _ => simp [zp, nm3]
      | [_, _], _ => simp [zp, nm3]
      | _ :: _ :: _ :: l', h => simp at h; omega
    refine ⟨_, DPut.k (k := .inr nm) hd1 (small1000 (by omega)), ?_⟩
    refine ⟨_, _, _, _, _, _, _, _, _, _, _, _, _, _, l ++ [(n1 - 4, n1 - 4 + n2)], rfl, same_upd (sc.trans tt) hdn, by rw [List.length_append, hl]; rfl, ?_, ?_⟩
    · intro s hs
      rcases List.mem_append.mp hs with z | z
      · exact hok s z
      · obtain rfl : s = (n1 - 4, n1 - 4 + n2) := by simpa using z
        exact ⟨by simp only; omega, by simp only; omega, by simp only; omega⟩
    · rw [← hput]
      exact ⟨_, upd_same, (rb.kp (kp_dict hd1)).put nm (dtS_mk ((kp_dict hd1).t _ _ e3))⟩
  case done =>
    rintro σ Hc ⟨x2, x3, x4, x5, x6, x7, x8, x9, x10, x11, x12, x13, x14, x15, l, rfl, sc, hl, hok, hbk⟩
    obtain ⟨A, B, C, rfl⟩ : ∃ A B C, l = [A, B, C] := by
      match l, hl with
      | [A, B, C], _ => exact ⟨A, B, C, rfl⟩
    have hA := hok A (by simp)
    have hB := hok B (by simp)
    have hC := hok C (by simp)
    have hbk : IsBk Hc d (bk3 A B C) := hbk
    have sc := sH.trans sc
    walk_at "rd"
    refine ⟨zl 2 (by decide), fun p hp => ?_⟩
    have u1 := same_new hp (HO.lst (lsw.map fun w => V.str w.str))
    have e1 : upd Hc p (HO.lst (lsw.map fun w => V.str w.str)) p = _ := upd_same
    rw [show (HO.lst [V.str (Str.ofString "less"), V.str (Str.ofString "same")]) = HO.lst (lsw.map fun w => V.str w.str) from rfl]
    generalize upd Hc p (HO.lst (lsw.map fun w => V.str w.str)) = U1 at u1 e1 ⊢
    refine ⟨a, ns, _, 2, rfl, (sc.trans u1).seq hS, by decide, by decide, fun n1 H1 g0 g1 t1 => ?_⟩
    obtain ⟨wd, hwd, ew⟩ := atI_map (c := fun w : Wd => V.str w.str) (ns := lsw) (k := n1) g0 g1
    have hls : LS wd := by
      simp only [lsw, List.mem_cons, List.not_mem_nil, or_false] at hwd
      exact hwd
    refine ⟨_, _, rfl, SqL.of (t1 _ _ e1), _, ew, ?_⟩
    have sd := sc.trans (u1.trans t1)
    refine ⟨a, ns, _, rfl, sd.seq hS, by decide, fun v1 H2 ta t2 da hsa => ?_⟩
    refine ⟨a, ns, _, rfl, (sd.trans t2).seq hS, by decide, fun v2 H3 tb t3 db hsb => ?_⟩
    refine ⟨zl 3 (by decide), fun p0 hp0 => ?_⟩
    have u4 := same_new hp0 (HO.tup [V.str wd.str, v1, v2])
    have dx : Dt (upd H3 p0 (HO.tup [V.str wd.str, v1, v2])) (.ref p0) (T.op wd ta tb).enc := .tup upd_same (.cons (.str _) (.cons (da.kp (t3.trans u4).kp) (.cons (db.kp u4.kp) .nil)))
    generalize upd H3 p0 (HO.tup [V.str wd.str, v1, v2]) = U4 at u4 dx ⊢
    have se := u1.trans (t1.trans (t2.trans (t3.trans u4)))
    refine ⟨a, ns, _, 4, rfl, (sc.trans se).seq hS, by decide, by decide, fun n5 H5 g5 g6 t5 => ⟨_, rfl, ?_⟩⟩
    have sf := se.trans t5
    have dx := dx.kp t5.kp
    have hQx : okQ (T.op wd ta tb) := .inr ⟨wd, ta, tb, rfl, hls, hsa, hsb⟩
    refine two_ways (Hy := fun pe pp Hx t => Dt Hx (.ref pe) t.enc ∧ Hx pp = some (HO.tup [V.bl true, V.bl false]) ∧ Same H5 Hx ∧ okQ t) (C := ?cc) ?kk ?_
    case kk =>
      intro key
      by_cases hz : n5 = 0
      · rw [if_pos hz]
        refine ⟨zl 2 (by decide), fun pe hpe => ⟨zl 2 (by decide), fun pp hpp => ?_⟩⟩
        have v1' := same_new hpe (HO.tup [V.str "name", V.str "a"])
        have v2' := same_new hpp (HO.tup [V.bl true, V.bl false])
        have dpe : Dt _ (.ref pe) (T.nm "a").enc := (Dt.tup (upd_same (H := H5) (a := pe) (o := HO.tup [V.str "name", V.str "a"])) (.cons (.str _) (.cons (.str _) .nil))).kp v2'.kp
        have epp : upd (upd H5 pe (HO.tup [V.str "name", V.str "a"])) pp (HO.tup [V.bl true, V.bl false]) pp = _ := upd_same
        have sx := v1'.trans v2'
        generalize upd (upd H5 pe (HO.tup [V.str "name", V.str "a"])) pp (HO.tup [V.bl true, V.bl false]) = Hx at dpe epp sx ⊢
        exact key pe pp Hx _ ⟨dpe, epp, sx, .inl rfl⟩
      · rw [if_neg hz]
        refine ⟨zl 2 (by decide), fun pp hpp => ?_⟩
        have v2' := same_new hpp (HO.tup [V.bl true, V.bl false])
        exact key p0 pp _ _ ⟨dx.kp v2'.kp, upd_same, v2', hQx⟩
    clear dx hQx
    rintro pe pp Hx t ⟨dpe, epp, sx, hQ⟩
    have sx := sf.trans sx
    have hbx := hbk.same sx
    refine ⟨⟨_, SqT.of epp⟩, ?_⟩
    refine for_tup (K := K) (a := pp) (xs := [V.bl true, V.bl false]) (S1 Hx a d pe) ?s1 ?s2 ?s3 ?s4
    case s1 => exact ⟨_, _, _, _, _, _, _, _, _, _, _, _, _, rfl, Same.refl _⟩
    case s2 =>
      rintro i σ Hd _ ⟨_, _, _, _, _, _, _, _, _, _, _, _, _, rfl, sy⟩
      exact SqT.of (sy _ _ epp)
    case s4 =>
      rintro σ Hd ⟨y2, y3, y4, y6, y7, y8, y9, y10, y11, y12, y13, y14, y15, rfl, sy⟩
      walk_at "rd"
      have hby := hbx.same sy
      refine ⟨zl 2 (by decide), fun q1 hq1 => ?_⟩
      have w1 := same_new hq1 (HO.tup [V.str "num", V.int 3])
      refine ⟨_, .num 3, d, bk3 A B C, rfl, .tup upd_same (.cons (.str _) (.cons (.int _) .nil)), trivial, hby.same w1, fun r1 He t1' dr1 => ?_⟩
      refine ⟨zl 2 (by decide), fun q2 hq2 => ?_⟩
      have w2 := same_new hq2 (HO.tup [V.int 3, V.int 3])
      refine ⟨_, eqS_of (dr1.kp w2.kp) (dtS_mk upd_same), ?_⟩
      rw [if_pos (decide_eq_true (show sideS (bk3 A B C) (T.num 3) = some (3, 3) from rfl))]
      refine ⟨zl 2 (by decide), fun q3 hq3 => ?_⟩
      have w3 := same_new hq3 (HO.tup [V.str "name", V.str "b"])
      refine ⟨_, .nm "b", d, bk3 A B C, rfl, .tup upd_same (.cons (.str _) (.cons (.str _) .nil)), trivial, hby.same (w1.trans (t1'.trans (w2.trans w3))), fun r2 Hf t2' dr2 => ?_⟩
      obtain ⟨pb, dg, hpb⟩ := (hby.same (w1.trans (t1'.trans (w2.trans (w3.trans t2'))))).get (lk_b A B C)
      refine ⟨_, dg, _, eqS_of dr2 (dtS_mk hpb), ?_⟩
      rw [decide_eq_true (show sideS (bk3 A B C) (.nm "b") = some (B.1, B.2) from lk_b A B C)]
      exact q _ (sc.trans (sx.trans (sy.trans (w1.trans (t1'.trans (w2.trans (w3.trans t2')))))))
    case s3 =>
      rintro i x σ Hd hx ⟨y2, y3, y4, y6, y7, y8, y9, y10, y11, y12, y13, y14, y15, rfl, sy⟩
      obtain ⟨so, rfl⟩ : ∃ so : Bool, V.bl so = x := by
        rcases i with _ | _ | i
        · exact ⟨true, by simpa using hx⟩
        · exact ⟨false, by simpa using hx⟩
        · simp at hx
      walk_at "rd"
      refine ⟨Nat.zero_le _, fun pf hpf => ?_⟩
      have hby := hbx.same sy
      have dpy := dpe.kp sy.kp
      have f1 := same_new hpf (HO.lst [])
      have ef : upd Hd pf (HO.lst []) pf = _ := upd_same
      generalize upd Hd pf (HO.lst []) = V1 at f1 ef ⊢
      obtain ⟨pa, dga, hpa⟩ := (hby.same f1).get (lk_a A B C)
      refine ⟨_, dga, _, rfl, _, SqT.of hpa, _, rfl, _, dga, _, rfl, _, SqT.of hpa, _, rfl, _, rfl, _, _, ⟨rfl, rfl⟩, ⟨?_, ?_, ?_, ?_⟩, ?_⟩
      · have := hA.1; omega
      · have := hA.2; omega
      · have := hA.1; have := hA.2; omega
      · have := hA.2; omega
      obtain ⟨hA1, hA2, hA3⟩ := hA
      obtain ⟨hB1, hB2, hB3⟩ := hB
      refine for_range (lo := A.1) (n := (A.2 + 1 - A.1).toNat) (FA Hd a d pe pf y2 y3 y4 so y10 y11 y12 y13 y14 y15 t A B) ?a1 ?a2 ?a3
      case a1 => exact ⟨_, _, [], [], rfl, f1, ef, .nil, by simp, mem_zero⟩
      case a2 =>
        rintro i1 σ He hi1 ⟨y8, y9, vs, prs, rfl, sz, hpfe, dvs, hlen, hmem⟩
        walk_at "rd"
        obtain ⟨pb, dgb, hpb⟩ := (hby.same sz).get (lk_b A B C)
        refine ⟨_, dgb, _, rfl, _, SqT.of hpb, _, rfl, _, dgb, _, rfl, _, SqT.of hpb, _, rfl, _, rfl, _, _, ⟨rfl, rfl⟩, ⟨by omega, by omega, by omega, by omega⟩, ?_⟩
        refine for_range (lo := B.1) (n := (B.2 + 1 - B.1).toNat) (GA Hd a d pe pf y2 y3 y4 so (A.1 + (i1 : Int)) y10 y11 y12 y13 y14 y15 t A B i1) ?b1 ?b2 ?b3
        case b1 => exact ⟨_, vs, prs, rfl, sz, hpfe, dvs, hlen, mem_start hmem⟩
        case b2 =>
          rintro j1 σ Hf hj1 ⟨y9, vs, prs, rfl, sz, hpfe, dvs, hlen, hmem⟩
          walk_at "rd"
          intro p hp
          refine ⟨upd_same, wb (A.1 + (i1 : Int)) (B.1 + (j1 : Int)), rfl, (show 2 ≤ 15 by decide), ?_⟩
          rw [merge_wb, upd_upd]
          have u1 := same_new hp (HO.dK (wb (A.1 + (i1 : Int)) (B.1 + (j1 : Int))))
          refine ⟨_, t, p, _, _, rfl, dpy.kp (sz.trans u1).kp, hQ, by omega, by omega, by omega, by omega, upd_same, fun Hg tg => ⟨_, rfl, _, .inl ⟨rfl, rfl⟩, ?_⟩⟩
          have sg := u1.trans tg
          by_cases hf : Fit t so (A.1 + (i1 : Int)) (B.1 + (j1 : Int))
          · rw [if_pos (eb_fit.mpr hf)]
            refine ⟨.inl ⟨rfl, _, SqL.of (sg _ _ hpfe)⟩, zl 2 (by decide), fun p2 hp2 => ?_⟩
            have u2 := same_new hp2 (HO.tup [V.int (A.1 + (i1 : Int)), V.int (B.1 + (j1 : Int))])
            have e2 := (sg.trans u2) _ _ hpfe
            refine ⟨_, e2, small1000 (by rw [dvs.length, List.length_map]; omega), ?_⟩
            refine ⟨_, _, prs ++ [(A.1 + (i1 : Int), B.1 + (j1 : Int))], rfl, same_upd (sz.trans (sg.trans u2)) hpf, upd_same, ?_, by rw [List.length_append]; simp only [List.length_cons, List.length_nil]; omega, mem_more hmem hf⟩
            rw [List.map_append]
            exact ((dvs.kp (sg.trans u2).kp).append (.cons (.tup upd_same (.cons (.int _) (.cons (.int _) .nil))) .nil)).kp (Kp.set e2)
          · rw [if_neg (fun z => hf (eb_fit.mp z))]
            exact ⟨_, vs, prs, rfl, sz.trans sg, sg _ _ hpfe, dvs.kp sg.kp, by omega, mem_stay hmem hf⟩
        case b3 =>
          rintro σ Hf ⟨y9, vs, prs, rfl, sz, hpfe, dvs, hlen, hmem⟩
          exact ⟨_, _, vs, prs, rfl, sz, hpfe, dvs, by omega, mem_row hB2 hmem⟩
      case a3 =>
        rintro σ He ⟨y8, y9, vs, prs, rfl, sz, hpfe, dvs, hlen, hmem⟩
        walk_at "rd"
        have hmem' := mem_whole hA2 hmem
        clear hmem
        have htold := told_all hQ hA2 hB2 so (C := C)
        refine ⟨_, t, d, bk3 A B C, so, rfl, dpy.kp sz.kp, okQ_isQ hQ, hby.same sz, by simp [bk3], fun r Hg tg res => ?_⟩
        have dpg := dpy.kp (sz.trans tg).kp
        have hbg := hby.same (sz.trans tg)
        have hpfg := tg _ _ hpfe
        have dvs := dvs.kp tg.kp
        have sg := sz.trans tg
        rcases q_head hQ dpg with ⟨xs, hpe, hq⟩
        refine two_truths (Hy := fun al => al = true → Alone t) (C := ?cc2) ?kk2 ?_
        case kk2 =>
          intro key
          rcases hq with ⟨rfl, hnm⟩ | ⟨wq, ta, tb, va, vb, hnm, rfl, hls, hsa, hsb, hda, hdb⟩
          case' inr =>
            refine ⟨_, SqT.of hpe, _, rfl, false, .inl ⟨rfl, by rcases hls with rfl | rfl <;> decide +kernel⟩, ?_⟩
            rw [if_neg (by simp)]
            refine ⟨_, SqT.of hpe, _, rfl, _, SqT.of hpe, _, rfl, _, eqSide hda hdb hsa hsb, ?_⟩
            have hal : (!PyData.eqv ta.enc.dat tb.enc.dat) = true → Alone t := fun z => by
              rw [hnm]
              intro e
              rw [e, eqSide_refl hsb] at z
              cases z
            generalize (!PyData.eqv ta.enc.dat tb.enc.dat) = al at hal ⊢
            exact key al hal
          case' inl =>
            refine ⟨_, SqT.of hpe, _, rfl, true, .inl ⟨rfl, rfl⟩, ?_⟩
            rw [if_pos rfl]
            exact key true fun _ => by rw [hnm]; trivial
        intro al hal
        generalize bhd t (bk3 A B C) so = o at res htold
        cases o with
        | none =>
          obtain rfl : r = .non := res
          rw [if_pos rfl]
          refine ⟨Nat.zero_le _, fun pz hpz => ?_⟩
          obtain rfl : prs = [] := by
            cases prs with
            | nil => rfl
            | cons q l =>
              have z := (hmem' q.1 q.2).mp (by simp)
              exact absurd z.2.2 (htold _ _ z.1 z.2.1)
          obtain rfl : vs = [] := by
            cases dvs; rfl
          have uz := same_new hpz (HO.lst [])
          refine ⟨true, ⟨_, _, [], [], [], [], rfl, rfl, SqL.of (uz _ _ hpfg), SqL.of upd_same, .nil, .nil, rfl, rfl, rfl, rfl, rfl⟩, ?_⟩
          rw [if_neg (by simp)]
          exact ⟨_, _, _, _, _, _, _, _, _, _, _, _, _, rfl, sy.trans (sg.trans uz)⟩
        | some bk' =>
          obtain ⟨dt, rfl, hbt⟩ := res
          obtain ⟨A', B', rfl, sA, sB⟩ := htold
          rw [if_neg (by simp)]
          obtain ⟨kvs, hdt, hkk⟩ := hbt.keys
          refine ⟨_, rfl, kvs, .inl hdt, fun l hl => ⟨nm3, SqL.of (by rw [upd_same, hkk]), by decide, fun l1 ms hl1 hpm hso => ?_⟩⟩
          obtain rfl := sort_abc hpm hso
          refine ⟨zl 3 (by decide), fun p3 hp3 => ?_⟩
          have v1 := same_new hl (HO.lst (kvs.map fun kv => kV kv.1))
          have v2 := same_new hl1 (HO.lst (nm3.map V.str))
          have v3 := same_new hp3 (HO.lst (nm3.map V.str))
          have e2 := v3 _ _ (upd_same (H := upd Hg l (HO.lst (kvs.map fun kv => kV kv.1))) (a := l1) (o := HO.lst (nm3.map V.str)))
          have e3 : upd (upd (upd Hg l (HO.lst (kvs.map fun kv => kV kv.1))) l1 (HO.lst (nm3.map V.str))) p3 (HO.lst (nm3.map V.str)) p3 = _ := upd_same
          rw [show (HO.lst [V.str (Str.ofString "a"), V.str (Str.ofString "b"), V.str (Str.ofString "c")]) = HO.lst (nm3.map V.str) from rfl]
          have v4 := v1.trans (v2.trans v3)
          generalize upd (upd (upd Hg l (HO.lst (kvs.map fun kv => kV kv.1))) l1 (HO.lst (nm3.map V.str))) p3 (HO.lst (nm3.map V.str)) = Hh at e2 e3 v4 ⊢
          refine ⟨true, .inr ⟨_, SqL.of e2, _, SqL.of e3, by decide +kernel, by decide +kernel, by decide +kernel⟩, ?_⟩
          rw [if_neg (by simp)]
          have hbt := hbt.same v4
          have hbh := hbg.same v4
          obtain ⟨pc, dgc, hpc⟩ := hbt.get (lk_c A' B' C)
          obtain ⟨pc', dgc', hpc'⟩ := hbh.get (lk_c A B C)
          refine ⟨_, rfl, _, dgc, _, dgc', _, eqS_of (dtS_mk hpc) (dtS_mk hpc'), ?_⟩
          rw [if_neg (by simp)]
          have hpfg := v4 _ _ hpfg
          have dvs := dvs.kp v4.kp
          have hpe := v4 _ _ hpe
          have sh := sg.trans v4
          obtain ⟨as, rfl, rfl, has⟩ := pairs_of dvs
          have hasl : as.length ≤ 1000 := by
            rw [List.length_map] at hlen
            omega
          have hyc := hby.same sh
          refine ⟨⟨_, SqL.of hpfg⟩, comp_gen (rest := []) (t0 := none) (fun q : Addr × Int × Int => V.ref q.1) (fun _ => true) (fun q => V.int q.2.1) hpfg hasl ?_ ?_⟩
          · intro n t' H' R1 R0 hn s' r1 _
            walk_at "rd"
            exact ⟨_, SqT.of (s' _ _ (has n hn)), _, rfl, r1 rfl _ _ s'⟩
          intro Hi l2 si hl2
          have j1 := same_new hl2 (HO.lst ((as.filter fun _ => true).map fun q : Addr × Int × Int => V.int q.2.1))
          refine ⟨_, as.map (fun q => q.2.1), rfl, SqL.of (by rw [upd_same, List.filter_eq_self.mpr (fun _ _ => rfl), List.map_map]; rfl), fun r1 Hj o1 tj hu1 dr1 => ?_⟩
          have sj := si.trans (j1.trans tj)
          have hpfj := sj _ _ hpfg
          refine ⟨⟨_, SqL.of hpfj⟩, comp_gen (rest := []) (t0 := none) (fun q : Addr × Int × Int => V.ref q.1) (fun _ => true) (fun q => V.int q.2.2) hpfj hasl ?_ ?_⟩
          · intro n t' H' R1 R0 hn s' r1 _
            walk_at "rd"
            exact ⟨_, SqT.of (s' _ _ (sj _ _ (has n hn))), _, rfl, r1 rfl _ _ s'⟩
          intro Hk l3 sk hl3
          have k1 := same_new hl3 (HO.lst ((as.filter fun _ => true).map fun q : Addr × Int × Int => V.int q.2.2))
          refine ⟨_, as.map (fun q => q.2.2), rfl, SqL.of (by rw [upd_same, List.filter_eq_self.mpr (fun _ _ => rfl), List.map_map]; rfl), fun r2 Hl o2 tl hu2 dr2 => ?_⟩
          have sl := sk.trans (k1.trans tl)
          refine ⟨zl 2 (by decide), fun ph hph => ⟨zl 2 (by decide), fun p4 hp4 => ?_⟩⟩
          have m1 := same_new hph (HO.lst [r1, r2])
          have m2 := same_new hp4 (HO.lst [V.str "a", V.str "b"])
          have e1 := m2 _ _ (upd_same (H := Hl) (a := ph) (o := HO.lst [r1, r2]))
          have e2 : upd (upd Hl ph (HO.lst [r1, r2])) p4 (HO.lst [V.str "a", V.str "b"]) p4 = _ := upd_same
          have m3 := m1.trans m2
          generalize upd (upd Hl ph (HO.lst [r1, r2])) p4 (HO.lst [V.str "a", V.str "b"]) = Hm at e1 e2 m3 ⊢
          have dr1 := dr1.kp (sl.trans m3).kp
          have dr2 := dr2.kp m3.kp
          have sm := sj.trans (sl.trans m3)
          have hA' := sd_hull sA (ns := as.map (fun q => q.2.1)) (mem_one rfl hmem') hu1
          have hB' := sd_hull sB (ns := as.map (fun q => q.2.2)) (mem_two rfl hmem') hu2
          refine ⟨_, _, ⟨rfl, rfl⟩, ⟨_, SqL.of e2⟩, ⟨_, SqL.of e1⟩, ?_⟩
          have hbt := hbt.same sm
          have hbm := hbh.same sm
          have hpe := sm _ _ hpe
          refine for_zip (K := K) (a := p4) (b := ph) (xs := [V.str "a", V.str "b"]) (ys := [r1, r2]) rfl (ZA Hm a d pe pf dt ph y2 so y8 y9 al) ?z1 ?z2 ?z3 ?z4
          case z1 => exact ⟨_, _, _, _, _, rfl, Same.refl _⟩
          case z2 =>
            rintro i3 σ Hn _ ⟨_, _, _, _, _, rfl, sn⟩
            exact ⟨SqL.of (sn _ _ e2), SqL.of (sn _ _ e1)⟩
          case z4 =>
            rintro σ Hn ⟨_, _, _, _, _, rfl, sn⟩
            exact ⟨_, _, _, _, _, _, _, _, _, _, _, _, _, rfl, sy.trans (sh.trans (sm.trans sn))⟩
          case z3 =>
            rintro i3 x y σ Hn Tz hx hy ⟨z3, z4, z13, z14, z15, rfl, sn⟩ hTz
            obtain ⟨z, O, O', o, rfl, lk', lk, dy, hle, hends, hsame⟩ : ∃ z O O' o, x = V.str z ∧ look (bk3 A' B' C) z = some O' ∧ look (bk3 A B C) z = some O ∧ Dt Hm y (encS o) ∧ (∀ q, o = some q → O'.1 ≤ q.1 ∧ q.1 ≤ q.2 ∧ q.2 ≤ O'.2) ∧ (z ∈ nms t → Alone t → o ≠ none → o = some O') ∧ (z ∉ nms t → O' = O) := by
              rcases i3 with _ | _ | i3
              · obtain rfl : V.str "a" = x := by simpa using hx
                obtain rfl : r1 = y := by simpa using hy
                exact ⟨"a", A, A', o1, rfl, lk_a _ _ _, lk_a _ _ _, dr1, hA'.1, hA'.2, sA.same⟩
              · obtain rfl : V.str "b" = x := by simpa using hx
                obtain rfl : r2 = y := by simpa using hy
                exact ⟨"b", B, B', o2, rfl, lk_b _ _ _, lk_b _ _ _, dr2, hB'.1, hB'.2, sB.same⟩
              · simp at hx
            exact z_step hQ (hbt.same sn) (hbm.same sn) (dy.kp sn.kp) (dpy.kp (sh.trans (sm.trans sn)).kp) lk' lk hle hends hsame hal hTz fun z4' z14' z15' H' s' => ⟨_, _, _, _, _, rfl, sn.trans s'⟩
end
end SR


set_option Elab.async false
set_option linter.all false
set_option maxRecDepth 100000
set_option maxHeartbeats 0
namespace SR
open PySem L2
local macro_rules | `(tactic| walk_at "rd") => `(tactic| simp only [tSeq, tIfS, tTest, tOp, tVar, tC, tAsg, gName, gTup, gCons, gNil, tRet, tRetN, tDrop, tNext, tCB, tCons, tNil, tCall, tUn, rU, rI0, rI, tAnd, tOr, tNot, tB, tAndV, tOrV, tNotV, tIf, tIfT, tKGet, tChain, tDGet, tDGet1, sDPut, tDNewK, tDisp, tPairs, tCont, tSl, tNoPart, tPart, rSlT, tChain3, qSortS, qEqDL, qNeDL, tFor_enum, tFor_zip, tFor_rng2, tComp_seq, tTup, tLst, tBM,
  qEq, qNe, qIn, qNotIn, qIsN, qNotN, qIsB, qNotB, qLen, qInst, qEqD, qNeD, qMinL, qMaxL, qSortI, rIx, rIxL, rIxT, rIxS, rCat, rCatT2, rRep, rRepT, rLeS, rLtS, rAppend, rExtend, tNever, tBreak, tYes,
  tFor_tup, tFor_list, tFor_rng1, tComp_tup, tComp_list, tComp_str, L2.start, cxOf_K, cxOf_nox_K, cxComp_K, List.map_cons, List.map_nil, List.length_cons, List.length_nil, List.replicate_succ, List.replicate_zero, Nat.reduceAdd, Nat.reduceSub, Nat.zero_add, Nat.add_zero, Nat.sub_zero, Nat.sub_self, Nat.add_sub_cancel,
  List.getElem?_cons_zero, List.getElem?_cons_succ, List.set_cons_zero, List.set_cons_succ, List.cons_append, List.nil_append, List.append_nil, List.cons.injEq, Option.some.injEq, V.int.injEq, V.ref.injEq, V.str.injEq, V.bl.injEq, V.ty.injEq,
  reduceCtorEq, false_and, and_false, and_true, true_and, exists_false, exists_const, false_or, or_false, exists_eq_left, exists_eq_left', exists_eq_right, exists_eq_right', exists_and_left, decide_eq_true_eq, Bool.not_eq_true', Bool.decide_eq_true, exists_eq, true_or, or_true, Bool.false_eq_true, if_true, if_false, Bool.true_eq_false, Bool.not_true, Bool.not_false, decide_true, decide_false, List.isEmpty_cons, List.isEmpty_nil, Bool.true_and, Bool.false_and, bne_self_eq_false, beq_self_eq_true])
section
variable {P : Program} {w : World} {K : PySem.W.Frag} {mg : Str → Option Value} {base : Heap} {f : Addr} {fd : FuncData}
def LI (H : Hp) (a : Addr) (j : Nat) (σ : St) (Hc : Hp) : Prop := ∃ x1 : Option V, σ = [some (.ref a), x1] ∧ Same H Hc
def spLaw (K : PySem.W.Frag) : Sp := fun vs H Q _ => ∃ (a : Addr) (ns : List Int), vs = [.ref a] ∧ SqL K H a (ns.map V.int) ∧ ns.length ≤ 63 ∧ ∀ H', Q (.bl true) H'
theorem ok_law (F : Fun K "law" "law" s_law f fd) (b_range : mg "range" = none) (c_law_once : Callee P w K mg base "_law_once" ["_law_script"] 8 (spOnce K)) : FnOk P w K mg base CX0 9 f fd ["_law_script"] (spLaw K) := by
  refine F.ok sc_law (fun vs H Q E h => ?_) (fun cdv A outer s H vs Q E hr h => ?_)
  · obtain ⟨a, ns, rfl, _⟩ := h
    rfl
  obtain ⟨a, ns, rfl, hS, h63, q⟩ := h
  refine ⟨_, (pss_cons (ps_for PassesOwn.never rfl (pi_range1 gl_law_range b_range (pa_c pe_int pa_nil)) (pg_name (i := 1) sc_law.nd rfl loc_law__law_turn)
  (pss_cons (ps_if (pt_not (pt_val (pe_cc c_law_once hr (by omega) (pa_c (pe_comp ["_law_cell_here", "_law_turn"] [none, some 1] rfl (CompS.of (by rfl)) (pi_list (pe_var (i := 0) rfl vis_law__law_script db__law_script cd__law_script)) (fun _ _ _ _ _ => (pg_name (i := 0) (show List.Nodup (["_law_cell_here", "_law_turn"] : List Str) from by decide +kernel) rfl (Or.inl rfl))) (fun _ _ _ _ _ => pif_nil) (fun _ _ _ _ _ => (pe_op op_add (pe_var (i := 0) rfl (by first | exact Or.inl rfl | exact Or.inr (Or.inl rfl) | exact Or.inr (Or.inr rfl)) db__law_cell_here cd__law_cell_here) (pe_op op_mul pe_int (pe_var (i := 1) rfl (by first | exact Or.inl rfl | exact Or.inr (Or.inl rfl) | exact Or.inr (Or.inr rfl)) db__law_turn cd__law_turn))))) pa_nil) gl_law__law_once db__law_once))) (pss_one (ps_ret pe_bl)) pss_nil)
  (pss_one (ps_if (pt_cmpR (gEq hr.units) (pe_var (i := 0) rfl vis_law__law_script db__law_script cd__law_script) (pe_lst pa_nil) (nomark _)) (pss_one ps_break) pss_nil))))
  (pss_one (ps_ret pe_bl))), ?_⟩
  walk_at "rd"
  refine ⟨by decide, by decide, ?_⟩
  refine for_range (lo := 0) (n := 8) (LI H a) ?start ?step ?done
  case start => exact ⟨_, rfl, Same.refl _⟩
  case done =>
    rintro σ Hc ⟨x1, rfl, sc⟩
    exact q _
  case step =>
    rintro j σ Hc hj ⟨x1, rfl, sc⟩
    walk_at "rd"
    refine ⟨⟨_, sc.seq hS⟩, ?_⟩
    refine comp_ints (t0 := none) (rest := [some (V.int (0 + (j : Int)))]) (fun _ => true) (fun y => y + 7919 * (0 + (j : Int))) (sc.seq hS) (by omega) ?_ ?_
    · intro y t H' R1 R0 hy s hp1 hp0
      walk_at "rd"
      exact ⟨.inl ⟨by decide, by decide⟩, hp1 rfl _ _ s⟩
    · intro Ha pl t1 hpl
      have t2 := same_new hpl (HO.lst (((ns.filter fun _ => true).map fun y => y + 7919 * (0 + (j : Int))).map V.int))
      refine ⟨pl, _, rfl, SqL.of upd_same, fun Hb t3 => ⟨_, rfl, ?_⟩⟩
      have t0 := sc.trans (t1.trans (t2.trans t3))
      walk_at "rd"
      refine ⟨Nat.zero_le _, fun p hp => ⟨_, eqNil ((t0.trans (same_new hp _)).seq hS) (okInts ns) (SqL.of upd_same), ?_⟩⟩
      split
      · exact q _
      · exact ⟨_, rfl, t0.trans (same_new hp _)⟩
end
end SR


set_option Elab.async false
set_option linter.all false
set_option maxRecDepth 100000
set_option maxHeartbeats 0
namespace SR
open PySem L2

theorem all_mk {l : PySem.W.OpenLaw} {w : World} {K : PySem.W.Frag} {h : Heap} {mg : Str → Option Value} {fa f0 f1 f2 f3 f4 f5 f6 f7 f8 f9 f10 f11 f12 f13 f14 f15 f16 f17 f18 f19 f20 f21 f22 f23 : Addr} (X : K.In h) (G : h.Ns mainGlobals mg) (hfa : mg "law" = some (.ref fa))
    {od0 an0 od1 an1 od2 an2 od3 an3 od4 an4 od5 an5 od6 an6 od7 an7 od8 an8 od9 an9 od10 an10 od11 an11 od12 an12 od13 an13 od14 an14 od15 an15 od16 an16 od17 an17 od18 an18 od19 an19 od20 an20 od21 an21 od22 an22 od23 an23 : Option Addr} {sl0 sl1 sl2 sl3 sl4 sl5 sl6 sl7 sl8 sl9 sl10 sl11 sl12 sl13 sl14 sl15 sl16 sl17 sl18 sl19 sl20 sl21 sl22 sl23 : Array (Option Value)} {oc0 kV0 dc0 pm0 cd0 ct0 oc1 kV1 dc1 pm1 cd1 ct1 oc2 kV2 dc2 pm2 cd2 ct2 oc3 kV3 dc3 pm3 cd3 ct3 oc4 kV4 dc4 pm4 cd4 ct4 oc5 kV5 dc5 pm5 cd5 ct5 oc6 kV6 dc6 pm6 cd6 ct6 oc7 kV7 dc7 pm7 cd7 ct7 oc8 kV8 dc8 pm8 cd8 ct8 oc9 kV9 dc9 pm9 cd9 ct9 oc10 kV10 dc10 pm10 cd10 ct10 oc11 kV11 dc11 pm11 cd11 ct11 oc12 kV12 dc12 pm12 cd12 ct12 oc13 kV13 dc13 pm13 cd13 ct13 oc14 kV14 dc14 pm14 cd14 ct14 oc15 kV15 dc15 pm15 cd15 ct15 oc16 kV16 dc16 pm16 cd16 ct16 oc17 kV17 dc17 pm17 cd17 ct17 oc18 kV18 dc18 pm18 cd18 ct18 oc19 kV19 dc19 pm19 cd19 ct19 oc20 kV20 dc20 pm20 cd20 ct20 oc21 kV21 dc21 pm21 cd21 ct21 oc22 kV22 dc22 pm22 cd22 ct22 oc23 kV23 dc23 pm23 cd23 ct23 : Value}
    {rw : Addr}
    (a0 : PySem.W.nsIn K mainGlobals "worth_of" = some (some (.ref f0))) (l0 : K.lookup f0 = some ⟨oc0, od0, .func (PySem.W.fnOf "worth_of" "worth_of" (defArgs s_worth_of) (defBody s_worth_of) (defScope s_worth_of) .none kV0 dc0 pm0 an0 cd0 ct0), sl0⟩) (c0 : PySem.W.codeIn K cd0 "worth_of" = true) (k0 : PySem.W.keepIn K (.ref f0) = true)
    (a1 : PySem.W.nsIn K mainGlobals "joined" = some (some (.ref f1))) (l1 : K.lookup f1 = some ⟨oc1, od1, .func (PySem.W.fnOf "joined" "joined" (defArgs s_joined) (defBody s_joined) (defScope s_joined) .none kV1 dc1 pm1 an1 cd1 ct1), sl1⟩) (c1 : PySem.W.codeIn K cd1 "joined" = true) (k1 : PySem.W.keepIn K (.ref f1) = true)
    (a2 : PySem.W.nsIn K mainGlobals "met" = some (some (.ref f2))) (l2 : K.lookup f2 = some ⟨oc2, od2, .func (PySem.W.fnOf "met" "met" (defArgs s_met) (defBody s_met) (defScope s_met) .none kV2 dc2 pm2 an2 cd2 ct2), sl2⟩) (c2 : PySem.W.codeIn K cd2 "met" = true) (k2 : PySem.W.keepIn K (.ref f2) = true)
    (a3 : PySem.W.nsIn K mainGlobals "between" = some (some (.ref f3))) (l3 : K.lookup f3 = some ⟨oc3, od3, .func (PySem.W.fnOf "between" "between" (defArgs s_between) (defBody s_between) (defScope s_between) .none kV3 dc3 pm3 an3 cd3 ct3), sl3⟩) (c3 : PySem.W.codeIn K cd3 "between" = true) (k3 : PySem.W.keepIn K (.ref f3) = true)
    (a4 : PySem.W.nsIn K mainGlobals "stretch_of" = some (some (.ref f4))) (l4 : K.lookup f4 = some ⟨oc4, od4, .func (PySem.W.fnOf "stretch_of" "stretch_of" (defArgs s_stretch_of) (defBody s_stretch_of) (defScope s_stretch_of) .none kV4 dc4 pm4 an4 cd4 ct4), sl4⟩) (c4 : PySem.W.codeIn K cd4 "stretch_of" = true) (k4 : PySem.W.keepIn K (.ref f4) = true)
    (a5 : PySem.W.nsIn K mainGlobals "stretch_of_same" = some (some (.ref f5))) (l5 : K.lookup f5 = some ⟨oc5, od5, .func (PySem.W.fnOf "stretch_of_same" "stretch_of_same" (defArgs s_stretch_of_same) (defBody s_stretch_of_same) (defScope s_stretch_of_same) .none kV5 dc5 pm5 an5 cd5 ct5), sl5⟩) (c5 : PySem.W.codeIn K cd5 "stretch_of_same" = true) (k5 : PySem.W.keepIn K (.ref f5) = true)
    (a6 : PySem.W.nsIn K mainGlobals "stretch_of_ends" = some (some (.ref f6))) (l6 : K.lookup f6 = some ⟨oc6, od6, .func (PySem.W.fnOf "stretch_of_ends" "stretch_of_ends" (defArgs s_stretch_of_ends) (defBody s_stretch_of_ends) (defScope s_stretch_of_ends) .none kV6 dc6 pm6 an6 cd6 ct6), sl6⟩) (c6 : PySem.W.codeIn K cd6 "stretch_of_ends" = true) (k6 : PySem.W.keepIn K (.ref f6) = true)
    (a7 : PySem.W.nsIn K mainGlobals "reckoned_from" = some (some (.ref f7))) (l7 : K.lookup f7 = some ⟨oc7, od7, .func (PySem.W.fnOf "reckoned_from" "reckoned_from" (defArgs s_reckoned_from) (defBody s_reckoned_from) (defScope s_reckoned_from) .none kV7 dc7 pm7 an7 cd7 ct7), sl7⟩) (c7 : PySem.W.codeIn K cd7 "reckoned_from" = true) (k7 : PySem.W.keepIn K (.ref f7) = true)
    (a8 : PySem.W.nsIn K mainGlobals "behind" = some (some (.ref f8))) (l8 : K.lookup f8 = some ⟨oc8, od8, .func (PySem.W.fnOf "behind" "behind" (defArgs s_behind) (defBody s_behind) (defScope s_behind) .none kV8 dc8 pm8 an8 cd8 ct8), sl8⟩) (c8 : PySem.W.codeIn K cd8 "behind" = true) (k8 : PySem.W.keepIn K (.ref f8) = true)
    (a9 : PySem.W.nsIn K mainGlobals "behind_question" = some (some (.ref f9))) (l9 : K.lookup f9 = some ⟨oc9, od9, .func (PySem.W.fnOf "behind_question" "behind_question" (defArgs s_behind_question) (defBody s_behind_question) (defScope s_behind_question) .none kV9 dc9 pm9 an9 cd9 ct9), sl9⟩) (c9 : PySem.W.codeIn K cd9 "behind_question" = true) (k9 : PySem.W.keepIn K (.ref f9) = true)
    (a10 : PySem.W.nsIn K mainGlobals "with_left" = some (some (.ref f10))) (l10 : K.lookup f10 = some ⟨oc10, od10, .func (PySem.W.fnOf "with_left" "with_left" (defArgs s_with_left) (defBody s_with_left) (defScope s_with_left) .none kV10 dc10 pm10 an10 cd10 ct10), sl10⟩) (c10 : PySem.W.codeIn K cd10 "with_left" = true) (k10 : PySem.W.keepIn K (.ref f10) = true)
    (a11 : PySem.W.nsIn K mainGlobals "left_of_one" = some (some (.ref f11))) (l11 : K.lookup f11 = some ⟨oc11, od11, .func (PySem.W.fnOf "left_of_one" "left_of_one" (defArgs s_left_of_one) (defBody s_left_of_one) (defScope s_left_of_one) .none kV11 dc11 pm11 an11 cd11 ct11), sl11⟩) (c11 : PySem.W.codeIn K cd11 "left_of_one" = true) (k11 : PySem.W.keepIn K (.ref f11) = true)
    (a12 : PySem.W.nsIn K mainGlobals "left_of_other" = some (some (.ref f12))) (l12 : K.lookup f12 = some ⟨oc12, od12, .func (PySem.W.fnOf "left_of_other" "left_of_other" (defArgs s_left_of_other) (defBody s_left_of_other) (defScope s_left_of_other) .none kV12 dc12 pm12 an12 cd12 ct12), sl12⟩) (c12 : PySem.W.codeIn K cd12 "left_of_other" = true) (k12 : PySem.W.keepIn K (.ref f12) = true)
    (a13 : PySem.W.nsIn K mainGlobals "left_of_name" = some (some (.ref f13))) (l13 : K.lookup f13 = some ⟨oc13, od13, .func (PySem.W.fnOf "left_of_name" "left_of_name" (defArgs s_left_of_name) (defBody s_left_of_name) (defScope s_left_of_name) .none kV13 dc13 pm13 an13 cd13 ct13), sl13⟩) (c13 : PySem.W.codeIn K cd13 "left_of_name" = true) (k13 : PySem.W.keepIn K (.ref f13) = true)
    (a14 : PySem.W.nsIn K mainGlobals "left_by_same" = some (some (.ref f14))) (l14 : K.lookup f14 = some ⟨oc14, od14, .func (PySem.W.fnOf "left_by_same" "left_by_same" (defArgs s_left_by_same) (defBody s_left_by_same) (defScope s_left_by_same) .none kV14 dc14 pm14 an14 cd14 ct14), sl14⟩) (c14 : PySem.W.codeIn K cd14 "left_by_same" = true) (k14 : PySem.W.keepIn K (.ref f14) = true)
    (a15 : PySem.W.nsIn K mainGlobals "without" = some (some (.ref f15))) (l15 : K.lookup f15 = some ⟨oc15, od15, .func (PySem.W.fnOf "without" "without" (defArgs s_without) (defBody s_without) (defScope s_without) .none kV15 dc15 pm15 an15 cd15 ct15), sl15⟩) (c15 : PySem.W.codeIn K cd15 "without" = true) (k15 : PySem.W.keepIn K (.ref f15) = true)
    (a16 : PySem.W.nsIn K mainGlobals "_law_cell" = some (some (.ref f16))) (l16 : K.lookup f16 = some ⟨oc16, od16, .func (PySem.W.fnOf "_law_cell" "_law_cell" (defArgs s_law_cell) (defBody s_law_cell) (defScope s_law_cell) .none kV16 dc16 pm16 an16 cd16 ct16), sl16⟩) (c16 : PySem.W.codeIn K cd16 "_law_cell" = true) (k16 : PySem.W.keepIn K (.ref f16) = true)
    (a17 : PySem.W.nsIn K mainGlobals "_law_pick" = some (some (.ref f17))) (l17 : K.lookup f17 = some ⟨oc17, od17, .func (PySem.W.fnOf "_law_pick" "_law_pick" (defArgs s_law_pick) (defBody s_law_pick) (defScope s_law_pick) .none kV17 dc17 pm17 an17 cd17 ct17), sl17⟩) (c17 : PySem.W.codeIn K cd17 "_law_pick" = true) (k17 : PySem.W.keepIn K (.ref f17) = true)
    (a18 : PySem.W.nsIn K mainGlobals "_law_reckoned" = some (some (.ref f18))) (l18 : K.lookup f18 = some ⟨oc18, od18, .func (PySem.W.fnOf "_law_reckoned" "_law_reckoned" (defArgs s_law_reckoned) (defBody s_law_reckoned) (defScope s_law_reckoned) .none kV18 dc18 pm18 an18 cd18 ct18), sl18⟩) (c18 : PySem.W.codeIn K cd18 "_law_reckoned" = true) (k18 : PySem.W.keepIn K (.ref f18) = true)
    (a19 : PySem.W.nsIn K mainGlobals "_law_side" = some (some (.ref f19))) (l19 : K.lookup f19 = some ⟨oc19, od19, .func (PySem.W.fnOf "_law_side" "_law_side" (defArgs s_law_side) (defBody s_law_side) (defScope s_law_side) .none kV19 dc19 pm19 an19 cd19 ct19), sl19⟩) (c19 : PySem.W.codeIn K cd19 "_law_side" = true) (k19 : PySem.W.keepIn K (.ref f19) = true)
    (a20 : PySem.W.nsIn K mainGlobals "_law_so" = some (some (.ref f20))) (l20 : K.lookup f20 = some ⟨oc20, od20, .func (PySem.W.fnOf "_law_so" "_law_so" (defArgs s_law_so) (defBody s_law_so) (defScope s_law_so) .none kV20 dc20 pm20 an20 cd20 ct20), sl20⟩) (c20 : PySem.W.codeIn K cd20 "_law_so" = true) (k20 : PySem.W.keepIn K (.ref f20) = true)
    (a21 : PySem.W.nsIn K mainGlobals "_law_hull" = some (some (.ref f21))) (l21 : K.lookup f21 = some ⟨oc21, od21, .func (PySem.W.fnOf "_law_hull" "_law_hull" (defArgs s_law_hull) (defBody s_law_hull) (defScope s_law_hull) .none kV21 dc21 pm21 an21 cd21 ct21), sl21⟩) (c21 : PySem.W.codeIn K cd21 "_law_hull" = true) (k21 : PySem.W.keepIn K (.ref f21) = true)
    (a22 : PySem.W.nsIn K mainGlobals "_law_once" = some (some (.ref f22))) (l22 : K.lookup f22 = some ⟨oc22, od22, .func (PySem.W.fnOf "_law_once" "_law_once" (defArgs s_law_once) (defBody s_law_once) (defScope s_law_once) .none kV22 dc22 pm22 an22 cd22 ct22), sl22⟩) (c22 : PySem.W.codeIn K cd22 "_law_once" = true) (k22 : PySem.W.keepIn K (.ref f22) = true)
    (a23 : PySem.W.nsIn K mainGlobals "law" = some (some (.ref f23))) (l23 : K.lookup f23 = some ⟨oc23, od23, .func (PySem.W.fnOf "law" "law" (defArgs s_law) (defBody s_law) (defScope s_law) .none kV23 dc23 pm23 an23 cd23 ct23), sl23⟩) (c23 : PySem.W.codeIn K cd23 "law" = true) (k23 : PySem.W.keepIn K (.ref f23) = true)
    (z_min : PySem.W.nsIn K mainGlobals "min" = some none)
    (z_max : PySem.W.nsIn K mainGlobals "max" = some none)
    (z_sorted : PySem.W.nsIn K mainGlobals "sorted" = some none)
    (z_range : PySem.W.nsIn K mainGlobals "range" = some none)
    (z_list : PySem.W.nsIn K mainGlobals "list" = some none)
    (z_len : PySem.W.nsIn K mainGlobals "len" = some none)
    (z_enumerate : PySem.W.nsIn K mainGlobals "enumerate" = some none)
    (z_zip : PySem.W.nsIn K mainGlobals "zip" = some none)
    (z_dict : PySem.W.nsIn K mainGlobals "dict" = some none)
    (ra : PySem.W.nsIn K mainGlobals "WIDE" = some (some (.ref rw)))
    : ∃ fd : FuncData, (∀ (s : Shared) (v : Value), BindsTo s fd ⟨[v], []⟩ [("_law_script", v)]) ∧ ∀ base : Heap, K.In base → base.Ns mainGlobals mg → FnOk l.prog w K mg base CX0 9 fa fd ["_law_script"] (spLaw K) := by
  have e := hfa.symm.trans (PySem.W.mg_of X G a23)
  cases e
  have F_worth_of := fun_mk (st := s_worth_of) l0 c0 k0
  have B_worth_of := F_worth_of.binds (ps := ["word", "one", "other"]) fun _ _ _ _ _ _ us hl => match us, hl with | [_, _, _], _ => rfl
  have d_worth_of : Df K mg "worth_of" s_worth_of ["word", "one", "other"] f0 _ := ⟨F_worth_of, PySem.W.mg_of X G a0, B_worth_of⟩
  have F_joined := fun_mk (st := s_joined) l1 c1 k1
  have B_joined := F_joined.binds (ps := ["one", "other"]) fun _ _ _ _ _ _ us hl => match us, hl with | [_, _], _ => rfl
  have d_joined : Df K mg "joined" s_joined ["one", "other"] f1 _ := ⟨F_joined, PySem.W.mg_of X G a1, B_joined⟩
  have F_met := fun_mk (st := s_met) l2 c2 k2
  have B_met := F_met.binds (ps := ["one", "other"]) fun _ _ _ _ _ _ us hl => match us, hl with | [_, _], _ => rfl
  have d_met : Df K mg "met" s_met ["one", "other"] f2 _ := ⟨F_met, PySem.W.mg_of X G a2, B_met⟩
  have F_between := fun_mk (st := s_between) l3 c3 k3
  have B_between := F_between.binds (ps := ["low", "high"]) fun _ _ _ _ _ _ us hl => match us, hl with | [_, _], _ => rfl
  have d_between : Df K mg "between" s_between ["low", "high"] f3 _ := ⟨F_between, PySem.W.mg_of X G a3, B_between⟩
  have F_stretch_of := fun_mk (st := s_stretch_of) l4 c4 k4
  have B_stretch_of := F_stretch_of.binds (ps := ["word", "one", "other"]) fun _ _ _ _ _ _ us hl => match us, hl with | [_, _, _], _ => rfl
  have d_stretch_of : Df K mg "stretch_of" s_stretch_of ["word", "one", "other"] f4 _ := ⟨F_stretch_of, PySem.W.mg_of X G a4, B_stretch_of⟩
  have F_stretch_of_same := fun_mk (st := s_stretch_of_same) l5 c5 k5
  have B_stretch_of_same := F_stretch_of_same.binds (ps := ["one", "other"]) fun _ _ _ _ _ _ us hl => match us, hl with | [_, _], _ => rfl
  have d_stretch_of_same : Df K mg "stretch_of_same" s_stretch_of_same ["one", "other"] f5 _ := ⟨F_stretch_of_same, PySem.W.mg_of X G a5, B_stretch_of_same⟩
  have F_stretch_of_ends := fun_mk (st := s_stretch_of_ends) l6 c6 k6
  have B_stretch_of_ends := F_stretch_of_ends.binds (ps := ["word", "one", "other"]) fun _ _ _ _ _ _ us hl => match us, hl with | [_, _, _], _ => rfl
  have d_stretch_of_ends : Df K mg "stretch_of_ends" s_stretch_of_ends ["word", "one", "other"] f6 _ := ⟨F_stretch_of_ends, PySem.W.mg_of X G a6, B_stretch_of_ends⟩
  have F_reckoned_from := fun_mk (st := s_reckoned_from) l7 c7 k7
  have B_reckoned_from := F_reckoned_from.binds (ps := ["term", "book"]) fun _ _ _ _ _ _ us hl => match us, hl with | [_, _], _ => rfl
  have d_reckoned_from : Df K mg "reckoned_from" s_reckoned_from ["term", "book"] f7 _ := ⟨F_reckoned_from, PySem.W.mg_of X G a7, B_reckoned_from⟩
  have F_behind := fun_mk (st := s_behind) l8 c8 k8
  have B_behind := F_behind.binds (ps := ["term", "book", "is_so"]) fun _ _ _ _ _ _ us hl => match us, hl with | [_, _, _], _ => rfl
  have d_behind : Df K mg "behind" s_behind ["term", "book", "is_so"] f8 _ := ⟨F_behind, PySem.W.mg_of X G a8, B_behind⟩
  have F_behind_question := fun_mk (st := s_behind_question) l9 c9 k9
  have B_behind_question := F_behind_question.binds (ps := ["term", "book", "is_so"]) fun _ _ _ _ _ _ us hl => match us, hl with | [_, _, _], _ => rfl
  have d_behind_question : Df K mg "behind_question" s_behind_question ["term", "book", "is_so"] f9 _ := ⟨F_behind_question, PySem.W.mg_of X G a9, B_behind_question⟩
  have F_with_left := fun_mk (st := s_with_left) l10 c10 k10
  have B_with_left := F_with_left.binds (ps := ["book", "name", "stretch"]) fun _ _ _ _ _ _ us hl => match us, hl with | [_, _, _], _ => rfl
  have d_with_left : Df K mg "with_left" s_with_left ["book", "name", "stretch"] f10 _ := ⟨F_with_left, PySem.W.mg_of X G a10, B_with_left⟩
  have F_left_of_one := fun_mk (st := s_left_of_one) l11 c11 k11
  have B_left_of_one := F_left_of_one.binds (ps := ["word", "own", "other", "is_so"]) fun _ _ _ _ _ _ us hl => match us, hl with | [_, _, _, _], _ => rfl
  have d_left_of_one : Df K mg "left_of_one" s_left_of_one ["word", "own", "other", "is_so"] f11 _ := ⟨F_left_of_one, PySem.W.mg_of X G a11, B_left_of_one⟩
  have F_left_of_other := fun_mk (st := s_left_of_other) l12 c12 k12
  have B_left_of_other := F_left_of_other.binds (ps := ["word", "own", "one", "is_so"]) fun _ _ _ _ _ _ us hl => match us, hl with | [_, _, _, _], _ => rfl
  have d_left_of_other : Df K mg "left_of_other" s_left_of_other ["word", "own", "one", "is_so"] f12 _ := ⟨F_left_of_other, PySem.W.mg_of X G a12, B_left_of_other⟩
  have F_left_of_name := fun_mk (st := s_left_of_name) l13 c13 k13
  have B_left_of_name := F_left_of_name.binds (ps := ["own", "is_so"]) fun _ _ _ _ _ _ us hl => match us, hl with | [_, _], _ => rfl
  have d_left_of_name : Df K mg "left_of_name" s_left_of_name ["own", "is_so"] f13 _ := ⟨F_left_of_name, PySem.W.mg_of X G a13, B_left_of_name⟩
  have F_left_by_same := fun_mk (st := s_left_by_same) l14 c14 k14
  have B_left_by_same := F_left_by_same.binds (ps := ["own", "beside", "is_so"]) fun _ _ _ _ _ _ us hl => match us, hl with | [_, _, _], _ => rfl
  have d_left_by_same : Df K mg "left_by_same" s_left_by_same ["own", "beside", "is_so"] f14 _ := ⟨F_left_by_same, PySem.W.mg_of X G a14, B_left_by_same⟩
  have F_without := fun_mk (st := s_without) l15 c15 k15
  have B_without := F_without.binds (ps := ["own", "worth"]) fun _ _ _ _ _ _ us hl => match us, hl with | [_, _], _ => rfl
  have d_without : Df K mg "without" s_without ["own", "worth"] f15 _ := ⟨F_without, PySem.W.mg_of X G a15, B_without⟩
  have F_law_cell := fun_mk (st := s_law_cell) l16 c16 k16
  have B_law_cell := F_law_cell.binds (ps := ["_law_script", "_law_k"]) fun _ _ _ _ _ _ us hl => match us, hl with | [_, _], _ => rfl
  have d_law_cell : Df K mg "_law_cell" s_law_cell ["_law_script", "_law_k"] f16 _ := ⟨F_law_cell, PySem.W.mg_of X G a16, B_law_cell⟩
  have F_law_pick := fun_mk (st := s_law_pick) l17 c17 k17
  have B_law_pick := F_law_pick.binds (ps := ["_law_script", "_law_k", "_law_many"]) fun _ _ _ _ _ _ us hl => match us, hl with | [_, _, _], _ => rfl
  have d_law_pick : Df K mg "_law_pick" s_law_pick ["_law_script", "_law_k", "_law_many"] f17 _ := ⟨F_law_pick, PySem.W.mg_of X G a17, B_law_pick⟩
  have F_law_reckoned := fun_mk (st := s_law_reckoned) l18 c18 k18
  have B_law_reckoned := F_law_reckoned.binds (ps := ["_law_word", "_law_one", "_law_other"]) fun _ _ _ _ _ _ us hl => match us, hl with | [_, _, _], _ => rfl
  have d_law_reckoned : Df K mg "_law_reckoned" s_law_reckoned ["_law_word", "_law_one", "_law_other"] f18 _ := ⟨F_law_reckoned, PySem.W.mg_of X G a18, B_law_reckoned⟩
  have F_law_side := fun_mk (st := s_law_side) l19 c19 k19
  have B_law_side := F_law_side.binds (ps := ["_law_script", "_law_at"]) fun _ _ _ _ _ _ us hl => match us, hl with | [_, _], _ => rfl
  have d_law_side : Df K mg "_law_side" s_law_side ["_law_script", "_law_at"] f19 _ := ⟨F_law_side, PySem.W.mg_of X G a19, B_law_side⟩
  have F_law_so := fun_mk (st := s_law_so) l20 c20 k20
  have B_law_so := F_law_so.binds (ps := ["_law_expr", "_law_book"]) fun _ _ _ _ _ _ us hl => match us, hl with | [_, _], _ => rfl
  have d_law_so : Df K mg "_law_so" s_law_so ["_law_expr", "_law_book"] f20 _ := ⟨F_law_so, PySem.W.mg_of X G a20, B_law_so⟩
  have F_law_hull := fun_mk (st := s_law_hull) l21 c21 k21
  have B_law_hull := F_law_hull.binds (ps := ["_law_worths"]) fun _ _ _ _ _ _ us hl => match us, hl with | [_], _ => rfl
  have d_law_hull : Df K mg "_law_hull" s_law_hull ["_law_worths"] f21 _ := ⟨F_law_hull, PySem.W.mg_of X G a21, B_law_hull⟩
  have F_law_once := fun_mk (st := s_law_once) l22 c22 k22
  have B_law_once := F_law_once.binds (ps := ["_law_script"]) fun _ _ _ _ _ _ us hl => match us, hl with | [_], _ => rfl
  have d_law_once : Df K mg "_law_once" s_law_once ["_law_script"] f22 _ := ⟨F_law_once, PySem.W.mg_of X G a22, B_law_once⟩
  have F_law := fun_mk (st := s_law) l23 c23 k23
  have b_min := PySem.W.mg_none_of X G z_min
  have b_max := PySem.W.mg_none_of X G z_max
  have b_sorted := PySem.W.mg_none_of X G z_sorted
  have b_range := PySem.W.mg_none_of X G z_range
  have b_list := PySem.W.mg_none_of X G z_list
  have b_len := PySem.W.mg_none_of X G z_len
  have b_enumerate := PySem.W.mg_none_of X G z_enumerate
  have b_zip := PySem.W.mg_none_of X G z_zip
  have b_dict := PySem.W.mg_none_of X G z_dict
  refine ⟨PySem.W.fnOf "law" "law" (defArgs s_law) (defBody s_law) (defScope s_law) .none kV23 dc23 pm23 an23 cd23 ct23, fun s v => .of_eq rfl, fun base _ _ => ?_⟩
  have c_worth_of := d_worth_of.callee (ok_worth_of (P := l.prog) (w := w) (base := base) F_worth_of b_min b_max)
  have c_between := d_between.callee (ok_between (P := l.prog) (w := w) (base := base) F_between)
  have c_joined := d_joined.callee (ok_joined (P := l.prog) (w := w) (base := base) F_joined b_min b_max)
  have c_met := d_met.callee (ok_met F_met b_min b_max c_between)
  have c_same := d_stretch_of_same.callee (ok_stretch_of_same F_stretch_of_same c_met)
  have c_ends := d_stretch_of_ends.callee (ok_stretch_of_ends F_stretch_of_ends b_min b_max c_worth_of)
  have c_of := d_stretch_of.callee (ok_stretch_of F_stretch_of b_min b_max c_between c_joined c_same c_ends)
  have c_cell := d_law_cell.callee (ok_cell (P := l.prog) (w := w) (base := base) F_law_cell b_len)
  have c_pick := d_law_pick.callee (ok_pick F_law_pick c_cell)
  have c_rk := d_law_reckoned.callee (ok_law_reckoned (P := l.prog) (w := w) (base := base) F_law_reckoned b_sorted)
  have c_hull := d_law_hull.callee (ok_law_hull (P := l.prog) (w := w) (base := base) F_law_hull b_min b_max)
  have c_without := d_without.callee (ok_without F_without c_between)
  have c_bysame := d_left_by_same.callee (ok_left_by_same F_left_by_same c_met c_without)
  have c_lone := d_left_of_one.callee (ok_left_of_one F_left_of_one b_min b_max c_between c_bysame)
  have c_lother := d_left_of_other.callee (ok_left_of_other F_left_of_other b_min b_max c_between c_bysame)
  have c_lname := d_left_of_name.callee (ok_left_of_name F_left_of_name c_met c_without)
  have c_with := d_with_left.callee (ok_with_left (P := l.prog) (w := w) (base := base) F_with_left b_dict)
  have g_WIDE : GC mg "WIDE" (.ref rw) := ⟨⟨_, PySem.W.mg_of X G ra, rfl⟩⟩
  have c_rf0 := d_reckoned_from.callee (k := 0) (ok_no (P := l.prog) (w := w) (base := base))
  have c_rf := d_reckoned_from.callee (ok_reckoned_from F_reckoned_from g_WIDE c_met c_of c_rf0)
  have c_bq := d_behind_question.callee (ok_behind_question F_behind_question b_dict c_rf c_with c_lone c_lother)
  have c_bh := d_behind.callee (ok_behind F_behind b_dict c_with c_lname c_bq)
  have c_side := d_law_side.callee (ok_law_side F_law_side c_pick)
  have c_so00 := d_law_so.callee (k := 0) (ok_no (P := l.prog) (w := w) (base := base))
  have c_so0 := d_law_so.callee (ok_law_so0 F_law_so c_rk c_so00)
  have c_so := d_law_so.callee (ok_law_so F_law_so c_rk c_so0)
  have c_once := d_law_once.callee (ok_law_once F_law_once b_range b_list b_enumerate b_zip b_sorted c_pick c_hull c_side c_so c_bh c_rf)
  exact ok_law F_law b_range c_once
theorem walk {l : PySem.W.OpenLaw} {q : Program} {loose : List Str} {XP : (Str → Option Value) → Heap → Prop} {YP : World → Heap → Prop} {d : DefRec} {K : Params → PySem.W.Frag} (hn : l.most = some 63) (hdf : d.params.defaults = [])
    (hY : ∀ (w : World) (h : Heap), YP w h → (K w.params).In h)
    (F : ∀ (w : World) (mg : Str → Option Value) (fa : Addr) (h : Heap), (K w.params).In h → h.Ns mainGlobals mg → mg d.name = some (.ref fa) →
      ∃ fd : FuncData, (∀ (s : Shared) (u : Value), BindsTo s fd ⟨[u], []⟩ [("_law_script", u)]) ∧ ∀ base : Heap, (K w.params).In base → base.Ns mainGlobals mg → FnOk l.prog w (K w.params) mg base CX0 9 fa fd ["_law_script"] (spLaw (K w.params))) :
    PySem.W.WalkO q loose XP YP l.row.toRowW d [] (fun f vs => PySem.call f vs) :=
  L2.walk_of (n := 63) (k := 9) (x := "_law_script") (CX := fun _ => CX0) (sp := fun w => spLaw (K w.params)) hn (by decide) hdf ⟨rfl, by decide, by decide⟩ hY F (fun _ _ a ns hl _ hS => ⟨a, ns, rfl, hS, hl, fun _ => rfl⟩) fun _ _ _ _ _ z => z
end SR
open PySem PySem.W PyProof.Rows
set_option maxRecDepth 100000 in
set_option maxHeartbeats 0 in
theorem PySem.Challenge.cw_smallrooms_k22_whole_behind_holds : PySem.Challenge.rw_smallrooms_k22_whole_behind.Holds := by
  w_on; o_law; k_head; (case hw => w_witness2)
  k_fill
  refine SR.walk (l := PySem.Challenge.rw_smallrooms_k22_whole_behind) rfl rfl (fun w h Y => PySem.W.kIn_of Y) ?F
  case F =>
    intro w mg fa h KX G hmg
    refine' SR.all_mk KX G hmg ?a0 ?l0 ?c0 ?k0 ?a1 ?l1 ?c1 ?k1 ?a2 ?l2 ?c2 ?k2 ?a3 ?l3 ?c3 ?k3 ?a4 ?l4 ?c4 ?k4 ?a5 ?l5 ?c5 ?k5 ?a6 ?l6 ?c6 ?k6 ?a7 ?l7 ?c7 ?k7 ?a8 ?l8 ?c8 ?k8 ?a9 ?l9 ?c9 ?k9 ?a10 ?l10 ?c10 ?k10 ?a11 ?l11 ?c11 ?k11 ?a12 ?l12 ?c12 ?k12 ?a13 ?l13 ?c13 ?k13 ?a14 ?l14 ?c14 ?k14 ?a15 ?l15 ?c15 ?k15 ?a16 ?l16 ?c16 ?k16 ?a17 ?l17 ?c17 ?k17 ?a18 ?l18 ?c18 ?k18 ?a19 ?l19 ?c19 ?k19 ?a20 ?l20 ?c20 ?k20 ?a21 ?l21 ?c21 ?k21 ?a22 ?l22 ?c22 ?k22 ?a23 ?l23 ?c23 ?k23 ?z_min ?z_max ?z_sorted ?z_range ?z_list ?z_len ?z_enumerate ?z_zip ?z_dict ?ra
    (case a0 => k_is); (case l0 => k_is); (case c0 => k_is); (case k0 => k_is)
    (case a1 => k_is); (case l1 => k_is); (case c1 => k_is); (case k1 => k_is)
    (case a2 => k_is); (case l2 => k_is); (case c2 => k_is); (case k2 => k_is)
    (case a3 => k_is); (case l3 => k_is); (case c3 => k_is); (case k3 => k_is)
    (case a4 => k_is); (case l4 => k_is); (case c4 => k_is); (case k4 => k_is)
    (case a5 => k_is); (case l5 => k_is); (case c5 => k_is); (case k5 => k_is)
    (case a6 => k_is); (case l6 => k_is); (case c6 => k_is); (case k6 => k_is)
    (case a7 => k_is); (case l7 => k_is); (case c7 => k_is); (case k7 => k_is)
    (case a8 => k_is); (case l8 => k_is); (case c8 => k_is); (case k8 => k_is)
    (case a9 => k_is); (case l9 => k_is); (case c9 => k_is); (case k9 => k_is)
    (case a10 => k_is); (case l10 => k_is); (case c10 => k_is); (case k10 => k_is)
    (case a11 => k_is); (case l11 => k_is); (case c11 => k_is); (case k11 => k_is)
    (case a12 => k_is); (case l12 => k_is); (case c12 => k_is); (case k12 => k_is)
    (case a13 => k_is); (case l13 => k_is); (case c13 => k_is); (case k13 => k_is)
    (case a14 => k_is); (case l14 => k_is); (case c14 => k_is); (case k14 => k_is)
    (case a15 => k_is); (case l15 => k_is); (case c15 => k_is); (case k15 => k_is)
    (case a16 => k_is); (case l16 => k_is); (case c16 => k_is); (case k16 => k_is)
    (case a17 => k_is); (case l17 => k_is); (case c17 => k_is); (case k17 => k_is)
    (case a18 => k_is); (case l18 => k_is); (case c18 => k_is); (case k18 => k_is)
    (case a19 => k_is); (case l19 => k_is); (case c19 => k_is); (case k19 => k_is)
    (case a20 => k_is); (case l20 => k_is); (case c20 => k_is); (case k20 => k_is)
    (case a21 => k_is); (case l21 => k_is); (case c21 => k_is); (case k21 => k_is)
    (case a22 => k_is); (case l22 => k_is); (case c22 => k_is); (case k22 => k_is)
    (case a23 => k_is); (case l23 => k_is); (case c23 => k_is); (case k23 => k_is)
    (case z_min => k_is); (case z_max => k_is); (case z_sorted => k_is); (case z_range => k_is)
    (case z_list => k_is); (case z_len => k_is); (case z_enumerate => k_is); (case z_zip => k_is)
    (case z_dict => k_is); (case ra => k_is)

