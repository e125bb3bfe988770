import PyProof.Rows.All
import Wide.All
import OpenK.AllK
import Wide.FinOn
import Lean
import PyProof.EqAt
import PyProof.EqKinds
import PyProof.TupleCall
import PySem.Challenge.RW_smallrooms_k01_programs
set_option Elab.async false
set_option linter.all false
set_option maxRecDepth 100000
set_option Elab.async false
set_option linter.all false
set_option maxRecDepth 100000
/-! THE HAND LAYER, for ints, bools, texts, own classes, LISTS and tuples (index, slices, in, append, pop ..), calls, loops. Paste it whole ahead of your own text; what your proof does not reach may be deleted. -/
namespace L2
open PySem PySem.Spec PyProof.Rows

/-- a key: an int or a str -/
abbrev Key := Sum Int Str
def keyIs : Key → Value → Bool
  | .inl k, v => Value.isInt k v
  | .inr x, v => Value.isStrOf x v
def keyH (w : World) : Key → Int
  | .inl k => hashInt k
  | .inr x => hashStr w x
theorem keyIs_shape : ∀ {k : Key} {v : Value}, keyIs k v = true → (∃ i t, k = Sum.inl i ∧ v = Value.int i t) ∨ (∃ x t, k = Sum.inr x ∧ v = Value.str x t)
  | .inl i, v, h => by
    obtain ⟨t, e⟩ := Value.isInt_shape (k := i) (v := v) h
    exact .inl ⟨i, t, rfl, e⟩
  | .inr x, v, h => by
    obtain ⟨t, e⟩ := Value.isStrOf_shape (x := x) (v := v) h
    exact .inr ⟨x, t, rfl, e⟩
theorem key_ll (a b : Int) : decide ((Sum.inl a : Key) = Sum.inl b) = (a == b) := by
  by_cases e : a = b
  · subst e; simp
  · have h : ¬ (Sum.inl a : Key) = Sum.inl b := fun q => e (Sum.inl.inj q)
    rw [decide_eq_false h]
    exact (beq_eq_false_iff_ne.mpr e).symm
theorem key_rr (a b : Str) : decide ((Sum.inr a : Key) = Sum.inr b) = decide (a = b) := by
  by_cases e : a = b
  · subst e; simp
  · have h : ¬ (Sum.inr a : Key) = Sum.inr b := fun q => e (Sum.inr.inj q)
    rw [decide_eq_false h, decide_eq_false e]
theorem key_lr (a : Int) (b : Str) : decide ((Sum.inl a : Key) = Sum.inr b) = false := decide_eq_false (fun q => nomatch q)
theorem key_rl (a : Str) (b : Int) : decide ((Sum.inr a : Key) = Sum.inl b) = false := decide_eq_false (fun q => nomatch q)

def mixKind (prog : Program) (w : World) : PySem.KeyKind prog w Key where
  is := keyIs
  hash := keyH w
  inj := fun v a b ha hb => by
    rcases keyIs_shape ha with ⟨i, t, rfl, rfl⟩ | ⟨x, t, rfl, rfl⟩
    · rcases keyIs_shape hb with ⟨j, u, rfl, e⟩ | ⟨y, u, rfl, e⟩
      · injection e with e1 _; rw [e1]
      · exact nomatch e
    · rcases keyIs_shape hb with ⟨j, u, rfl, e⟩ | ⟨y, u, rfl, e⟩
      · exact nomatch e
      · injection e with e1 _; rw [e1]
  byValue := fun k v h => by
    rcases keyIs_shape h with ⟨i, t, rfl, rfl⟩ | ⟨x, t, rfl, rfl⟩ <;> rfl
  pyHash := fun hv h => by
    rcases keyIs_shape hv with ⟨i, t, rfl, rfl⟩ | ⟨x, t, rfl, rfl⟩
    · exact wpAny_pyHash_int h
    · exact wpAny_pyHash_str h
  eqBool := fun hu hv h => by
    rcases keyIs_shape hu with ⟨i, t, rfl, rfl⟩ | ⟨x, t, rfl, rfl⟩
    · rcases keyIs_shape hv with ⟨j, u, rfl, rfl⟩ | ⟨y, u, rfl, rfl⟩
      · rw [key_ll] at h; exact wpAny_eqBool_int h
      · rw [key_lr] at h; exact SeqAt.EqAt.int_str i t y u _ _ _ _ h
    · rcases keyIs_shape hv with ⟨j, u, rfl, rfl⟩ | ⟨y, u, rfl, rfl⟩
      · rw [key_rl] at h; exact SeqAt.EqAt.str_int x t j u _ _ _ _ h
      · rw [key_rr] at h; exact wpAny_eqBool_str h
  «strs» := fun k x t v h => by
    rcases keyIs_shape h with ⟨i, u, rfl, e⟩ | ⟨y, u, rfl, e⟩
    · exact nomatch e
    · injection e with e1 _
      subst e1
      cases v <;> rfl

end L2

namespace L2
open PySem PySem.Spec PyProof.Rows

/-- a value, without the heap -/
inductive V where
  | non | bl (b : Bool) | int (i : Int) | str (x : Str) | byt (b : Array UInt8) | flt (b : UInt64) | ref (a : Addr) | ty (n : String)
  deriving DecidableEq

def RelV : V → Value → Prop
  | .non, u => u = Value.none
  | .bl b, u => u = Value.bool b
  | .int i, u => ∃ t, u = Value.int i t
  | .str x, u => ∃ t, u = Value.str x t
  | .byt b, u => ∃ t, u = Value.bytes b t
  | .flt b, u => ∃ t, u = Value.float b t
  | .ref a, u => u = Value.ref a
  | .ty n, u => u = Value.type n

abbrev Vals : List V → List Value → Prop := Paired RelV
theorem Vals.length {xs : List V} {us : List Value} (r : Vals xs us) : xs.length = us.length := Paired.length r
theorem Vals.get : ∀ {xs : List V} {us : List Value} {i : Nat} {x : V}, Vals xs us → xs[i]? = some x → ∃ u, us[i]? = some u ∧ RelV x u
  | _, _, _, _, .nil, e => by simp at e
  | _, _, 0, _, .cons r _, e => by simp at e; subst e; exact ⟨_, rfl, r⟩
  | _, _, i + 1, x, .cons _ t, e => by
    obtain ⟨u, h1, h2⟩ := Vals.get (i := i) (x := x) t (by simpa using e)
    exact ⟨u, by simpa using h1, h2⟩
theorem Vals.set {x : V} {u : Value} (r : RelV x u) : ∀ {xs : List V} {us : List Value} (i : Nat), Vals xs us → Vals (xs.set i x) (us.set i u)
  | _, _, _, .nil => .nil
  | _, _, 0, .cons _ t => .cons r t
  | _, _, i + 1, .cons q t => .cons q (Vals.set r i t)
theorem Vals.append : ∀ {xs ys : List V} {us ws : List Value}, Vals xs us → Vals ys ws → Vals (xs ++ ys) (us ++ ws)
  | _, _, _, _, .nil, s => s
  | _, _, _, _, .cons r t, s => .cons r (Vals.append t s)
theorem Vals.take : ∀ {xs : List V} {us : List Value} (n : Nat), Vals xs us → Vals (xs.take n) (us.take n)
  | _, _, 0, _ => .nil
  | _, _, _ + 1, .nil => .nil
  | _, _, n + 1, .cons r t => .cons r (Vals.take n t)
theorem Vals.drop : ∀ {xs : List V} {us : List Value} (n : Nat), Vals xs us → Vals (xs.drop n) (us.drop n)
  | _, _, 0, r => r
  | _, _, _ + 1, .nil => .nil
  | _, _, n + 1, .cons _ t => Vals.drop n t
def RelO : Option V → Option Value → Prop
  | some v, some u => RelV v u
  | none, none => True
  | _, _ => False
def KV {κ : Type} : List (κ × V) → List (κ × Value) → Prop := Paired fun (p : κ × V) (q : κ × Value) => p.1 = q.1 ∧ RelV p.2 q.2

/-- a key of a dict (00_mix): an int or a text -/
def kV : Key → V
  | .inl i => .int i
  | .inr x => .str x

/-- what stands at a tracked address -/
inductive HO where
  /-- a list -/
  | lst (xs : List V)
  /-- a tuple (never changes) -/
  | tup (xs : List V)
  /-- a dict whose keys are ints and texts; one whose keys are tuples of ints and texts (the empty one is both) -/
  | dK (kvs : List (Key × V)) | dT (kvs : List (List Key × V))
  /-- a set of ints: its members, its size -/
  | set (S : Int → Bool) (n : Nat)
  /-- an instance of the class at C, its dict at dx, its attributes -/
  | ins (C dx : Addr) (fs : List (Str × V))
  /-- the dict of the instance at x -/
  | own (x : Addr)
  /-- the dict of an exception -/
  | xd (fs : List (Str × V))
  /-- a bound method, f of x -/
  | met (f x : Addr)
  /-- a range object lo, lo + 1, .. below hi -/
  | rng (lo hi : Int)
  /-- a thing that is known to the object (the script; a dict while a loop walks it): read, never written while it is so -/
  | frz (o : Obj) (u : HO)
  /-- a code object's table -/
  | tbl (ps : Array Value)
  /-- any other thing, by what is true of its one object (a def of one's own: SetO a S n := HO.ext fun h => ..) -/
  | ext (φ : Heap → Prop)

abbrev Hp := Addr → Option HO
def upd (H : Hp) (a : Addr) (o : HO) : Hp := fun b => if b = a then some o else H b
theorem upd_same {H : Hp} {a : Addr} {o : HO} : upd H a o a = some o := by unfold upd; rw [if_pos rfl]
theorem upd_ne {H : Hp} {a b : Addr} {o : HO} (h : b ≠ a) : upd H a o b = H b := by unfold upd; rw [if_neg h]
/-- two objects of different content stand apart -/
theorem ne_of {H : Hp} {a b : Addr} {o u : HO} (h : H a = some o) (h' : H b = some u) (d : o ≠ u) : a ≠ b := by
  intro e; subst e; rw [h] at h'; exact d (Option.some.inj h')
theorem ne_of_none {H : Hp} {a b : Addr} {o : HO} (h : H a = some o) (h' : H b = none) : a ≠ b := by
  intro e; subst e; rw [h] at h'; cases h'

section
variable (P : Program) (w : World)
def ObjOk (H : Hp) (h : Heap) (a : Addr) : HO → Prop
  | .lst xs => xs.length ≤ sizeLine ∧ ∃ (its : List Value) (n : Nat), Vals xs its ∧ h.get? a = some { cls := .type "list", data := .seq its.toArray n }
  | .tup xs => xs.length ≤ sizeLine ∧ ∃ its : List Value, Vals xs its ∧ IsTup h a its.toArray
  | .dK kvs => kvs.length ≤ sizeLine ∧ (a == sysModules) = false ∧ ∃ vs, KV kvs vs ∧ h.DictOf (mixKind P w) a vs
  | .dT kvs => kvs.length ≤ sizeLine ∧ (a == sysModules) = false ∧ ∃ xs : List (List Key × Addr × Value),
      Paired (fun (p : List Key × V) (q : List Key × Addr × Value) => p.1 = q.1 ∧ H q.2.1 = some (.tup (p.1.map kV)) ∧ RelV p.2 q.2.2) kvs xs ∧
      ∃ o es ep, h.get? a = some o ∧ o.ExactDict ∧ o.data = .dict es ep ∧ es.toList = xs.map (entryOfKey (tupleKind (mixKind P w))) ∧ (xs.map (·.1)).Nodup
  | .set S n => h.SetOf (intKind P w) a S n
  | .ins C dx fs => H dx = some (.own a) ∧ fs.length ≤ 1000 ∧ dx ≠ a ∧ h.get? a = some (PySem.W.instObj C dx) ∧
      ∃ mA, h.Ns1 dx mA ∧ (∀ f, RelO (fs.lookup f) (mA f)) ∧ PySem.Within mA (fs.map (·.1))
  | .own _ => ∃ o, h.get? a = some o
  | .xd fs => ∃ mA, h.Ns1 a mA ∧ ∀ f, RelO (fs.lookup f) (mA f)
  | .rng lo hi => ∃ t u v, h.get? a = some { cls := .type "range", data := .fields #[.int lo t, .int hi u, .int 1 v] }
  | .frz o u => h.get? a = some o ∧ ObjOk H h a u
  | .tbl ps => h.get? a = some { cls := .none, data := .fields ps }
  | .met f x => h.get? a = some (PySem.W.methodObj (.ref f) (.ref x))
  | .ext φ => φ h ∧ (∃ o, h.get? a = some o) ∧ ∀ h1 h2 : Heap, φ h1 → (∀ o, h1.get? a = some o → h2.get? a = some o) → φ h2
/-- the abstract heap is held -/
def HOk (H : Hp) (h : Heap) : Prop := ∀ a o, H a = some o → ObjOk P w H h a o
end

section
variable {P : Program} {w : World} {H H' : Hp} {h h' : Heap} {a : Addr} {o : HO}
theorem ObjOk.lt (x : ObjOk P w H h a o) : a < h.objs.size := by
  cases o with
  | lst xs => obtain ⟨_, _, _, _, e⟩ := x; exact Heap.lt_size e
  | tup xs => obtain ⟨_, _, _, p⟩ := x; exact p.lt
  | dK kvs => obtain ⟨_, _, _, _, o, _, _, e, _⟩ := x; exact Heap.lt_size e
  | dT kvs => obtain ⟨_, _, _, _, o, _, _, e, _⟩ := x; exact Heap.lt_size e
  | set S n => obtain ⟨o, _, _, _, e, _⟩ := x; exact Heap.lt_size e
  | ins C dx fs => obtain ⟨_, _, _, e, _⟩ := x; exact Heap.lt_size e
  | own y => obtain ⟨_, e⟩ := x; exact Heap.lt_size e
  | xd fs => obtain ⟨_, ⟨_, _, _, e, _⟩, _⟩ := x; exact Heap.lt_size e
  | rng lo hi => obtain ⟨_, _, _, e⟩ := x; exact Heap.lt_size e
  | frz ob u => obtain ⟨e, _⟩ := x; exact Heap.lt_size e
  | tbl ps => exact Heap.lt_size (show h.get? a = some _ from x)
  | met f y => exact Heap.lt_size (show h.get? a = some _ from x)
  | ext φ => obtain ⟨_, ⟨_, e⟩, _⟩ := x; exact Heap.lt_size e
theorem Paired.mapP {α β : Type} {F G : α → β → Prop} : ∀ {l₁ : List α} {l₂ : List β}, Paired F l₁ l₂ → (∀ a b, F a b → G a b) → Paired G l₁ l₂
  | _, _, .nil, _ => .nil
  | _, _, .cons r t, f => .cons (f _ _ r) (Paired.mapP t f)
/-- what an object's description leans on: its own object, its own dict, the tuples -/
theorem ObjOk.stay (x : ObjOk P w H h a o) (k : ∀ b u, (b = a ∨ H b = some (.own a)) → h.get? b = some u → h'.get? b = some u)
    (ho : ∀ b, H b = some (.own a) → H' b = some (.own a)) (ht : ∀ b xs, H b = some (.tup xs) → H' b = some (.tup xs)) : ObjOk P w H' h' a o := by
  induction o with
  | lst xs => obtain ⟨z, its, n, r, e⟩ := x; exact ⟨z, its, n, r, k _ _ (.inl rfl) e⟩
  | tup xs => obtain ⟨z, its, r, ob, e, c⟩ := x; exact ⟨z, its, r, ob, k _ _ (.inl rfl) e, c⟩
  | dK kvs => obtain ⟨z, y, vs, r, ob, es, ep, e, c⟩ := x; exact ⟨z, y, vs, r, ob, es, ep, k _ _ (.inl rfl) e, c⟩
  | dT kvs =>
    obtain ⟨z, y, xs, r, ob, es, ep, e, c⟩ := x
    exact ⟨z, y, xs, Paired.mapP r fun p q z => ⟨z.1, ht _ _ z.2.1, z.2.2⟩, ob, es, ep, k _ _ (.inl rfl) e, c⟩
  | set S n => obtain ⟨ob, es, ep, t, e, c⟩ := x; exact ⟨ob, es, ep, t, k _ _ (.inl rfl) e, c⟩
  | ins C dx fs =>
    obtain ⟨d, z, ne, e, mA, ⟨od, es, ep, e2, c⟩, r⟩ := x
    exact ⟨ho _ d, z, ne, k _ _ (.inl rfl) e, mA, ⟨od, es, ep, k _ _ (.inr d) e2, c⟩, r⟩
  | own y => obtain ⟨ob, e⟩ := x; exact ⟨ob, k _ _ (.inl rfl) e⟩
  | xd fs => obtain ⟨mA, ⟨od, es, ep, e, c⟩, r⟩ := x; exact ⟨mA, ⟨od, es, ep, k _ _ (.inl rfl) e, c⟩, r⟩
  | rng lo hi => obtain ⟨t, u, v, e⟩ := x; exact ⟨t, u, v, k _ _ (.inl rfl) e⟩
  | frz ob u ih => obtain ⟨e, q⟩ := x; exact ⟨k _ _ (.inl rfl) e, ih q⟩
  | tbl ps =>
    have e : h.get? a = some { cls := .none, data := .fields ps } := x
    show h'.get? a = some { cls := .none, data := .fields ps }
    exact k a _ (.inl rfl) e
  | met f y =>
    have e : h.get? a = some (PySem.W.methodObj (.ref f) (.ref y)) := x
    show h'.get? a = some (PySem.W.methodObj (.ref f) (.ref y))
    exact k a _ (.inl rfl) e
  | ext φ => obtain ⟨p, ⟨o, e⟩, st⟩ := x; exact ⟨st _ _ p fun o q => k _ _ (.inl rfl) q, ⟨o, k _ _ (.inl rfl) e⟩, st⟩
theorem HOk.lt (x : HOk P w H h) (e : H a = some o) : a < h.objs.size := (x a o e).lt
theorem HOk.fresh (x : HOk P w H h) (e : h.objs.size ≤ a) : H a = none := by
  cases q : H a with
  | none => rfl
  | some u => exact absurd (Nat.lt_of_lt_of_le (x.lt q) e) (Nat.lt_irrefl _)
/-- every object of the heap is kept -/
theorem HOk.kept (x : HOk P w H h) (k : ∀ b u, h.get? b = some u → h'.get? b = some u) : HOk P w H h' := fun a o e =>
  (x a o e).stay (fun b u _ q => k b u q) (fun _ q => q) fun _ _ q => q
/-- a new object is laid and tracked -/
theorem HOk.laid (x : HOk P w H h) (k : ∀ b u, h.get? b = some u → h'.get? b = some u) (hp : h.objs.size ≤ a) (new : ObjOk P w (upd H a o) h' a o) : HOk P w (upd H a o) h' := fun b u e => by
  have hn := x.fresh hp
  by_cases hb : b = a
  · subst hb; rw [upd_same] at e; cases e; exact new
  · rw [upd_ne hb] at e
    exact (x b u e).stay (fun c v _ q => k c v q) (fun c q => by rw [upd_ne (ne_of_none q hn)]; exact q) fun c xs q => by rw [upd_ne (ne_of_none q hn)]; exact q
end

/-- what may be read as u: it is u, or a known u -/
def Rd (H : Hp) (a : Addr) (u : HO) : Prop := H a = some u ∨ ∃ o, H a = some (.frz o u)
theorem Rd.of {H : Hp} {a : Addr} {u : HO} (h : H a = some u) : Rd H a u := .inl h
theorem Rd.ok {P : Program} {w : World} {H : Hp} {h : Heap} {a : Addr} {u : HO} (r : Rd H a u) (x : HOk P w H h) : ObjOk P w H h a u := by
  rcases r with r | ⟨o, r⟩
  · exact x a u r
  · obtain ⟨_, q⟩ := x a _ r
    exact q
/-- what may be written -/
def Mut : Option HO → Prop
  | some (.lst _) => True
  | some (.dK _) => True
  | some (.dT _) => True
  | some (.set _ _) => True
  | some (.ins _ _ _) => True
  | some (.ext _) => True
  | _ => False
section
variable {P : Program} {w : World} {H : Hp} {h h' : Heap} {x e : Addr} {o' : HO}
/-- the object at e is changed: x itself, or the dict of the instance x -/
theorem HOk.write (ok : HOk P w H h) (mu : Mut (H x)) (he : e = x ∨ H e = some (.own x)) (k : ∀ b u, b ≠ e → h.get? b = some u → h'.get? b = some u) (heo : ∃ u, h'.get? e = some u)
    (new : ObjOk P w (upd H x o') h' x o') : HOk P w (upd H x o') h' := fun b u q => by
  have nown : ∀ c y, H c = some (.own y) → c ≠ x := fun c y r z => by subst z; rw [r] at mu; exact mu
  have ntup : ∀ c xs, H c = some (.tup xs) → c ≠ x := fun c xs r z => by subst z; rw [r] at mu; exact mu
  by_cases hb : b = x
  · subst hb; rw [upd_same] at q; cases q; exact new
  · rw [upd_ne hb] at q
    by_cases hbe : b = e
    · have q' : H b = some (.own x) := by
        rcases he with z | z
        · exact absurd (hbe.trans z) hb
        · rw [hbe]; exact z
      rw [q] at q'; cases q'
      obtain ⟨v, hv⟩ := heo
      exact ⟨v, by rw [hbe]; exact hv⟩
    · refine (ok b u q).stay (fun c v hc r => k c v ?_ r) (fun c r => by rw [upd_ne (nown c b r)]; exact r) fun c xs r => by rw [upd_ne (ntup c xs r)]; exact r
      rcases hc with rfl | hc
      · exact hbe
      · rintro rfl
        rcases he with z | z
        · exact nown c b hc z
        · rw [hc] at z; cases z; exact hb rfl
end

/-! ### kept unless tracked; of the frames at fs (the callers') the slots may change (an exception that passes writes there); of the records at ex (iterators) nothing is said -/
structure Un (fs ex : List Addr) (H H' : Hp) (h h' : Heap) : Prop where
  keep : ∀ b o, h.get? b = some o → H b = none → b ∉ fs → b ∉ ex → h'.get? b = some o
  slot : ∀ b o, h.get? b = some o → H b = none → b ∈ fs → b ∉ ex → ∃ sl, h'.get? b = some { o with slots := sl }
  free : ∀ b o, h.get? b = some o → H b = none → b ∉ ex → H' b = none
  there : ∀ b o, h.get? b = some o → b ∉ ex → ∃ o', h'.get? b = some o'
  tups : ∀ b xs, H b = some (.tup xs) → H' b = some (.tup xs)
  frzs : ∀ b o u, H b = some (.frz o u) → H' b = some (.frz o u)
  tbls : ∀ b ps, H b = some (.tbl ps) → ∃ more, H' b = some (.tbl (ps ++ more))
section
variable {fs fs' ex ex' : List Addr} {H H1 H2 : Hp} {h h1 h2 h' : Heap} {a x e : Addr} {o : HO}
theorem Un.any (u : Un fs ex H H1 h h1) {b : Addr} {ob : Obj} (q : h.get? b = some ob) (n : H b = none) (hx : b ∉ ex) : ∃ sl, h1.get? b = some { ob with slots := sl } := by
  by_cases hb : b ∈ fs
  · exact u.slot b ob q n hb hx
  · exact ⟨ob.slots, u.keep b ob q n hb hx⟩
theorem Un.trans (a : Un fs ex H H1 h h1) (b : Un fs ex H1 H2 h1 h2) : Un fs ex H H2 h h2 where
  keep := fun c ob q n hc hx => b.keep c ob (a.keep c ob q n hc hx) (a.free c ob q n hx) hc hx
  slot := fun c ob q n hc hx => by
    obtain ⟨sl, e1⟩ := a.slot c ob q n hc hx
    obtain ⟨sl', e2⟩ := b.slot c _ e1 (a.free c ob q n hx) hc hx
    exact ⟨sl', e2⟩
  free := fun c ob q n hx => by
    obtain ⟨o', e1⟩ := a.there c ob q hx
    exact b.free c o' e1 (a.free c ob q n hx) hx
  there := fun c ob q hx => by
    obtain ⟨o', e1⟩ := a.there c ob q hx
    exact b.there c o' e1 hx
  tups := fun c xs q => b.tups c xs (a.tups c xs q)
  frzs := fun c ob xs q => b.frzs c ob xs (a.frzs c ob xs q)
  tbls := fun c ps q => by
    obtain ⟨m1, e1⟩ := a.tbls c ps q
    obtain ⟨m2, e2⟩ := b.tbls c _ e1
    exact ⟨m1 ++ m2, by rw [e2, Array.append_assoc]⟩
theorem Un.kept (k : ∀ b u, h.get? b = some u → h'.get? b = some u) : Un fs ex H H h h' :=
  ⟨fun b ob q _ _ _ => k b ob q, fun b ob q _ _ _ => ⟨ob.slots, k b ob q⟩, fun _ _ _ n _ => n, fun b ob q _ => ⟨ob, k b ob q⟩, fun _ _ q => q, fun _ _ _ q => q, fun _ ps q => ⟨#[], by rw [q]; simp⟩⟩
theorem Un.refl : Un fs ex H H h h := Un.kept fun _ _ q => q
theorem Un.laid (k : ∀ b u, h.get? b = some u → h'.get? b = some u) (hp : h.objs.size ≤ a) (hn : H a = none) : Un fs ex H (upd H a o) h h' where
  keep := fun b u q _ _ _ => k b u q
  slot := fun b u q _ _ _ => ⟨u.slots, k b u q⟩
  free := fun b u q n _ => by rw [upd_ne (Nat.ne_of_lt (Nat.lt_of_lt_of_le (Heap.lt_size q) hp))]; exact n
  there := fun b u q _ => ⟨u, k b u q⟩
  tups := fun b xs q => by rw [upd_ne (ne_of_none q hn)]; exact q
  frzs := fun b u xs q => by rw [upd_ne (ne_of_none q hn)]; exact q
  tbls := fun b ps q => ⟨#[], by rw [upd_ne (ne_of_none q hn), q]; simp⟩
theorem Un.write (mu : Mut (H x)) (he : e = x ∨ H e = some (.own x)) (k : ∀ b u, b ≠ e → h.get? b = some u → h'.get? b = some u) (heo : ∃ u, h'.get? e = some u) : Un fs ex H (upd H x o) h h' := by
  have hx : ∀ b, H b = none → b ≠ x := fun b n z => by subst z; rw [n] at mu; exact mu
  have hb : ∀ b, H b = none → b ≠ e := fun b n z => by
    subst z
    rcases he with r | r
    · exact hx b n r
    · rw [n] at r; cases r
  have hm : ∀ b u, H b = some u → ¬ Mut (some u) → b ≠ x := fun b u q nm z => by subst z; rw [q] at mu; exact nm mu
  refine ⟨fun b u q n _ _ => k b u (hb b n) q, fun b u q n _ _ => ⟨u.slots, k b u (hb b n) q⟩, fun b u q n _ => by rw [upd_ne (hx b n)]; exact n, fun b u q _ => ?_,
    fun b xs q => by rw [upd_ne (hm b _ q fun z => z)]; exact q, fun b u xs q => by rw [upd_ne (hm b _ q fun z => z)]; exact q, fun b ps q => ⟨#[], by rw [upd_ne (hm b _ q fun z => z), q]; simp⟩⟩
  by_cases hbe : b = e
  · subst hbe; exact heo
  · exact ⟨u, k b u hbe q⟩
theorem Un.mono (u : Un fs ex H H1 h h1) (hs : ∀ b ∈ fs, b ∈ fs') (hx : ∀ b ∈ ex, b ∈ ex') : Un fs' ex' H H1 h h1 :=
  ⟨fun b ob q n hb he => u.keep b ob q n (fun z => hb (hs b z)) fun z => he (hx b z), fun _ _ q n _ he => u.any q n fun z => he (hx _ z), fun b ob q n he => u.free b ob q n fun z => he (hx b z), fun b ob q he => u.there b ob q fun z => he (hx b z), u.tups, u.frzs, u.tbls⟩
end

/-! ### the heap without what is tracked -/
def trk (h : Heap) (H : Hp) : List Addr := (List.range h.objs.size).filter fun a => (H a).isSome
def hidT (h : Heap) (H : Hp) : Heap := PySem.W.hideAll h (trk h H)
theorem hidT_size (h : Heap) (H : Hp) : (hidT h H).objs.size = h.objs.size := PySem.W.hideAll_size _ _
theorem hidT_get {h : Heap} {H : Hp} {b : Addr} {o : Obj} (e : h.get? b = some o) (n : H b = none) : (hidT h H).get? b = some o :=
  PySem.W.hideAll_get _ e fun hm => by
    have q : (H b).isSome = true := (List.mem_filter.mp hm).2
    rw [n] at q; simp at q
theorem of_hidT {h : Heap} {H : Hp} {b : Addr} {o : Obj} (e : (hidT h H).get? b = some o) : h.get? b = some o ∧ H b = none := by
  have e' : h.get? b = some o := PySem.W.of_hideAll (trk h H) e
  refine ⟨e', ?_⟩
  cases q : H b with
  | none => rfl
  | some x =>
    have hm : b ∈ trk h H := List.mem_filter.mpr ⟨List.mem_range.mpr (Heap.lt_size e'), by simp [q]⟩
    have z : (hidT h H).get? b = none := PySem.W.hideAll_none (trk h H) hm
    rw [z] at e; cases e

/-! ### OpenK's ledger, filled with every new object but one -/
def allNews (g h : Heap) (L : Addr) : List (Addr × Obj) := (List.range h.objs.size).filterMap fun a => if a = L ∨ (g.get? a).isSome = true then none else (h.get? a).map fun o => (a, o)
def rest (g h : Heap) (L d : Addr) : List (Addr × Obj) := (allNews g h L).filter fun p => decide (p.1 ≠ d)
end L2

namespace L2
open PySem PySem.Spec PyProof.Rows

/-- the module's facts, over the base: the heap at the law's entry without what is tracked there -/
structure Mod (K : PySem.W.Frag) (mg : Str → Option Value) (base : Heap) : Prop where
  kin : K.In base
  glob : base.Ns mainGlobals mg
  blt : ∃ mb, base.Ns builtinsNs mb ∧ ∀ x : Str, x ≠ "__name__" → mb x = bootBuiltins x
  nolimit : base.NoLimit

/-- the context: a def's body (or a comprehension's block) running. base: fixed through the whole law; s₀, H₀: the entry; outer: the frames whose slots others may change (a def's callers); stack: all frames that run;
   ex: iterators that were made ahead of the entry and are walked here (a comprehension's); fn: the names whose cells were made at the entry (a def: all; a comprehension's block: its own); calm: not within an except suite; pn: pins that every state bears; xe: what is wanted of an exception that leaves the code -/
structure Cx where
  prog : Program
  w : World
  K : PySem.W.Frag
  mg : Str → Option Value
  base : Heap
  A : Around
  N : List Str
  s₀ : Shared
  H₀ : Hp
  env : Env
  outer : List Env
  stack : List Env
  ex : List Addr
  fn : Str → Bool
  calm : Bool
  pn : List (Addr × Obj)
  xe : Value → Shared → Prop
/-- the callers' frames -/
def frs (l : List Env) : List Addr := l.filterMap (·.frame)
abbrev Cx.fs (X : Cx) : List Addr := frs X.outer

def Vis (sc : Scope) (x : Str) : Prop := sc.names.lookup x = some .local ∨ sc.names.lookup x = some .cell ∨ sc.names.lookup x = some .free
def Loc (sc : Scope) (x : Str) : Prop := sc.names.lookup x = some .local ∨ sc.names.lookup x = some .cell
def Look (env : Env) (h : Heap) (m : Str → Option Value) (x : Str) (u : Value) : Prop :=
  (env.kindOf x = some .local ∧ m x = some u) ∨ ((env.kindOf x = some .cell ∨ env.kindOf x = some .free) ∧ ∃ c, env.cells.lookup x = some c ∧ h.IsCell c (some u))

structure Cx.Ok (X : Cx) : Prop where
  mod : Mod X.K X.mg X.base
  kind : X.env.scope.kind = .function
  glob : X.env.globals = mainGlobals
  blt : X.env.builtins = builtinsNs
  above : X.s₀.heap.objs.size ≤ X.env.locals
  inj : ∀ x y c, X.env.cells.lookup x = some c → X.env.cells.lookup y = some c → x = y
  has : ∀ x, (X.env.kindOf x = some .cell ∨ X.env.kindOf x = some .free) → ∃ c, X.env.cells.lookup x = some c
  cab : ∀ x c, X.fn x = true → X.env.cells.lookup x = some c → X.s₀.heap.objs.size ≤ c
  hd : X.calm = true → X.A.handled = none
  frames : X.A.frames = some X.stack
  stk : X.stack = X.outer ∨ (X.stack = X.env :: X.outer ∧ X.env.frame = some X.env.locals)
  exf : ∀ b ∈ X.ex, b ≠ X.env.locals ∧ ∀ x c, X.env.cells.lookup x = some c → c ≠ b
  bs : ∀ b o, X.base.get? b = some o → X.s₀.heap.get? b = some o ∧ X.H₀ b = none
  bsz : X.base.objs.size ≤ X.s₀.heap.objs.size
  noex : ∀ b o, X.base.get? b = some o → b ∉ X.ex
  exfs : ∀ b ∈ X.ex, b ∉ X.fs
  funs : X.s₀.heap.FunFrames X.base X.outer
  frf : ∀ b ∈ X.fs, X.H₀ b = none

structure Inv (X : Cx) (pins : List (Addr × Obj)) (σ : List (Option V)) (H : Hp) (s : Shared) : Prop where
  ok : X.Ok
  os : s.os = X.s₀.os
  bare : AllBare s.gens
  base : Un X.fs X.ex X.H₀ H X.s₀.heap s.heap
  loc : ∃ m, s.heap.Ns X.env.locals m ∧ ∀ (i : Nat) (x : Str) (v : V), X.N[i]? = some x → σ[i]? = some (some v) → Vis X.env.scope x → ∃ u, RelV v u ∧ Look X.env s.heap m x u
  cell : ∀ x c, X.env.cells.lookup x = some c → ∃ v, s.heap.IsCell c v
  free : H X.env.locals = none
  freeC : ∀ x c, X.env.cells.lookup x = some c → H c = none
  pin : ∀ p ∈ X.pn ++ pins, s.heap.get? p.1 = some p.2 ∧ H p.1 = none ∧ p.1 ≠ X.env.locals ∧ p.1 ∉ X.fs ∧ ∀ v, p.2.data ≠ .cell v
  hok : HOk X.prog X.w H s.heap
  len : σ.length = X.N.length

section
variable {X : Cx} {pins : List (Addr × Obj)} {σ : List (Option V)} {H H' : Hp} {s : Shared} {h' : Heap}

theorem Cx.Ok.nofr (ok : X.Ok) {b : Addr} {o : Obj} (e : X.base.get? b = some o) : b ∉ X.fs := fun hb => by
  have := (ok.funs.mem hb).1
  rw [e] at this; cases this
theorem Inv.bs (I : Inv X pins σ H s) : ∀ b o, X.base.get? b = some o → s.heap.get? b = some o ∧ H b = none := fun b o e =>
  ⟨I.base.keep b o (I.ok.bs b o e).1 (I.ok.bs b o e).2 (I.ok.nofr e) (I.ok.noex b o e), I.base.free b o (I.ok.bs b o e).1 (I.ok.bs b o e).2 (I.ok.noex b o e)⟩
theorem Inv.bk (I : Inv X pins σ H s) : ∀ b o, X.base.get? b = some o → s.heap.get? b = some o := fun b o e => (I.bs b o e).1
theorem Inv.mod (I : Inv X pins σ H s) : Mod X.K X.mg X.base := I.ok.mod
theorem Inv.kIn (I : Inv X pins σ H s) : X.K.In s.heap := I.ok.mod.kin.keeps I.bk
theorem Inv.nolimit (I : Inv X pins σ H s) : s.heap.NoLimit := I.ok.mod.nolimit.keeps I.bk
/-- the frame over the base: for OpenK's rules (K.In X.base is I.mod.kin) -/
theorem Inv.fr (I : Inv X pins σ H s) : ∃ m, Fr X.base X.env.locals s.heap m :=
  let ⟨m, hn, _⟩ := I.loc
  ⟨m, hn, I.bk, Nat.le_trans I.ok.bsz I.ok.above⟩
theorem Inv.lt (I : Inv X pins σ H s) : X.env.locals < s.heap.objs.size := let ⟨_, hn, _⟩ := I.loc; hn.lt
theorem Inv.sz (I : Inv X pins σ H s) : X.s₀.heap.objs.size ≤ s.heap.objs.size := Nat.le_trans I.ok.above (Nat.le_of_lt I.lt)
theorem Inv.nofs (I : Inv X pins σ H s) {a : Addr} (h : s.heap.objs.size ≤ a) : a ∉ X.fs := fun hb => by
  obtain ⟨_, o, ho, _⟩ := I.ok.funs.mem hb
  exact absurd (Nat.lt_of_lt_of_le (Heap.lt_size ho) (Nat.le_trans I.sz h)) (Nat.lt_irrefl _)
theorem Inv.cne (I : Inv X pins σ H s) : ∀ x c, X.env.cells.lookup x = some c → c ≠ X.env.locals := fun x c e z => by
  obtain ⟨v, o, ho, hd⟩ := I.cell x c e
  obtain ⟨m, ⟨o', es, ep, ho', hd', _⟩, _⟩ := I.loc
  rw [z, ho'] at ho; cases ho; rw [hd'] at hd; cases hd
theorem Inv.funs (I : Inv X pins σ H s) : s.heap.FunFrames X.base X.outer := by
  have all : ∀ (l : List Env), (∀ b ∈ frs l, b ∈ X.fs) → X.s₀.heap.FunFrames X.base l → s.heap.FunFrames X.base l := by
    intro l
    induction l with
    | nil => intro _ _; trivial
    | cons env r ih =>
      intro hs hl
      obtain ⟨hk, ⟨L, o, hf, hn, ho, hd⟩, hr⟩ := hl
      have hL : L ∈ X.fs := hs L (by unfold frs; rw [List.filterMap_cons, hf]; exact List.mem_cons_self)
      obtain ⟨sl, e⟩ := I.base.slot L o ho (I.ok.frf L hL) hL fun z => I.ok.exfs L z hL
      exact ⟨hk, ⟨L, _, hf, hn, e, hd⟩, ih (fun b hb => hs b (by unfold frs; rw [List.filterMap_cons, hf]; exact List.mem_cons_of_mem _ hb)) hr⟩
  exact all X.outer (fun _ hb => hb) I.ok.funs

/-- the frames that run, for a call -/
theorem Inv.stack (I : Inv X pins σ H s) : s.heap.FunFrames X.base X.stack := by
  rcases I.ok.stk with e | ⟨e, hf⟩
  · rw [e]; exact I.funs
  · rw [e]
    obtain ⟨m, hn, _⟩ := I.loc
    refine .cons (by rw [I.ok.kind]; decide) hf hn ?_ I.funs
    exact Heap.get?_none_of_le (Nat.le_trans I.ok.bsz I.ok.above)
theorem Inv.stkSub (I : Inv X pins σ H s) : ∀ b ∈ frs X.stack, b ∈ X.env.locals :: X.fs := fun b hb => by
  rcases I.ok.stk with e | ⟨e, hf⟩
  · rw [e] at hb; exact List.mem_cons_of_mem _ hb
  · rw [e] at hb
    unfold frs at hb
    rw [List.filterMap_cons, hf] at hb
    exact hb
theorem Inv.stkFree (I : Inv X pins σ H s) : ∀ b ∈ frs X.stack, H b = none := fun b hb => by
  rcases List.mem_cons.mp (I.stkSub b hb) with e | hb
  · rw [e]; exact I.free
  · obtain ⟨_, o, ho, _⟩ := I.ok.funs.mem hb
    exact I.base.free b o ho (I.ok.frf b hb) fun z => I.ok.exfs b z hb

/-- THE STEP: the untracked objects but the frame and the records at ch are kept (the callers' frames up to slots), the frame's map is kept, the new abstract heap is held -/
theorem Inv.step {g' : Array GenState} {t' : Nat} {d' : Drawn} {ch : List Addr} (I : Inv X pins σ H s)
    (hch : ∀ b ∈ ch, (b ∈ X.ex ∨ X.s₀.heap.objs.size ≤ b) ∧ b ≠ X.env.locals ∧ (∀ x c, X.env.cells.lookup x = some c → c ≠ b) ∧ ∀ p ∈ X.pn ++ pins, p.1 ≠ b)
    (keep : ∀ b o, b ≠ X.env.locals → b ∉ X.fs → b ∉ ch → s.heap.get? b = some o → H b = none → h'.get? b = some o)
    (slot : ∀ b o, b ≠ X.env.locals → b ∈ X.fs → b ∉ ch → s.heap.get? b = some o → H b = none → ∃ sl, h'.get? b = some { o with slots := sl }) (free : ∀ b o, b ∉ ch → s.heap.get? b = some o → H b = none → H' b = none)
    (there : ∀ b o, b ∉ ch → s.heap.get? b = some o → ∃ o', h'.get? b = some o')
    (tups : ∀ b xs, H b = some (.tup xs) → H' b = some (.tup xs)) (frzs : ∀ b o u, H b = some (.frz o u) → H' b = some (.frz o u)) (tbls : ∀ b ps, H b = some (.tbl ps) → ∃ more, H' b = some (.tbl (ps ++ more)))
    (ns : ∀ m, s.heap.Ns X.env.locals m → h'.Ns X.env.locals m) (hok : HOk X.prog X.w H' h') (hg : AllBare g') :
    Inv X pins σ H' { s with heap := h', gens := g', drawn := d', toks := t' } := by
  have neL : ∀ b o, X.s₀.heap.get? b = some o → b ≠ X.env.locals := fun b o e => Nat.ne_of_lt (Nat.lt_of_lt_of_le (Heap.lt_size e) I.ok.above)
  have neC : ∀ b o, X.s₀.heap.get? b = some o → b ∉ X.ex → b ∉ ch := fun b o e hx hb => by
    rcases (hch b hb).1 with z | z
    · exact hx z
    · exact absurd (Nat.lt_of_lt_of_le (Heap.lt_size e) z) (Nat.lt_irrefl _)
  have cellK : ∀ x c, X.env.cells.lookup x = some c → ∀ v, s.heap.IsCell c v → h'.IsCell c v := fun x c e v ⟨o, ho, hd⟩ => by
    have nch : c ∉ ch := fun z => (hch c z).2.2.1 x c e rfl
    by_cases hc : c ∈ X.fs
    · obtain ⟨sl, q⟩ := slot c o (I.cne x c e) hc nch ho (I.freeC x c e)
      exact ⟨_, q, hd⟩
    · exact ⟨o, keep c o (I.cne x c e) hc nch ho (I.freeC x c e), hd⟩
  refine ⟨I.ok, I.os, hg, ⟨fun b o e n hb hx => ?_, fun b o e n hb hx => ?_, fun b o e n hx => ?_, fun b o e hx => ?_, fun b xs e => tups b xs (I.base.tups b xs e), fun b o xs e => frzs b o xs (I.base.frzs b o xs e), fun b ps e => ?_⟩, ?_, fun x c e => ?_, ?_, fun x c e => ?_, fun p hp => ?_, hok, I.len⟩
  · exact keep b o (neL b o e) hb (neC b o e hx) (I.base.keep b o e n hb hx) (I.base.free b o e n hx)
  · obtain ⟨sl, e1⟩ := I.base.slot b o e n hb hx
    obtain ⟨sl', e2⟩ := slot b _ (neL b o e) hb (neC b o e hx) e1 (I.base.free b o e n hx)
    exact ⟨sl', e2⟩
  · obtain ⟨o', e1⟩ := I.base.there b o e hx
    exact free b o' (neC b o e hx) e1 (I.base.free b o e n hx)
  · obtain ⟨o', e1⟩ := I.base.there b o e hx
    exact there b o' (neC b o e hx) e1
  · obtain ⟨m1, e1⟩ := I.base.tbls b ps e
    obtain ⟨m2, e2⟩ := tbls b _ e1
    exact ⟨m1 ++ m2, by rw [e2, Array.append_assoc]⟩
  · obtain ⟨m, hn, hl⟩ := I.loc
    refine ⟨m, ns m hn, fun i x v e1 e2 e3 => ?_⟩
    obtain ⟨u, r, l⟩ := hl i x v e1 e2 e3
    refine ⟨u, r, ?_⟩
    rcases l with l | ⟨k, c, e, z⟩
    · exact .inl l
    · exact .inr ⟨k, c, e, cellK x c e _ z⟩
  · obtain ⟨v, z⟩ := I.cell x c e
    exact ⟨v, cellK x c e v z⟩
  · obtain ⟨m, ⟨o, _, _, ho, _⟩, _⟩ := I.loc
    exact free _ o (fun z => (hch _ z).2.1 rfl) ho I.free
  · obtain ⟨v, o, ho, hd⟩ := I.cell x c e
    exact free c o (fun z => (hch c z).2.2.1 x c e rfl) ho (I.freeC x c e)
  · obtain ⟨e, n, ne, nf, d⟩ := I.pin p hp
    have nch : p.1 ∉ ch := fun z => (hch p.1 z).2.2.2 p hp rfl
    exact ⟨keep p.1 p.2 ne nf nch e n, free p.1 p.2 nch e n, ne, nf, d⟩
/-- .. where the frame's own object is kept too -/
theorem Inv.un {t' : Nat} (I : Inv X pins σ H s) (u : Un X.fs [] H H' s.heap h') (hok : HOk X.prog X.w H' h') : Inv X pins σ H' { s with heap := h', toks := t' } := by
  obtain ⟨m, ⟨o, es, ep, ho, r⟩, _⟩ := id I.loc
  obtain ⟨sl, hL⟩ := u.any ho I.free (by simp)
  exact I.step (g' := s.gens) (d' := s.drawn) (ch := []) (fun _ z => nomatch z) (fun b o _ hb _ e n => u.keep b o e n hb (by simp)) (fun b o _ hb _ e n => u.slot b o e n hb (by simp)) (fun b o _ e n => u.free b o e n (by simp)) (fun b o _ e => u.there b o e (by simp)) u.tups u.frzs u.tbls (fun m' hm => by
    obtain ⟨o', es', ep', ho', r'⟩ := hm
    rw [ho] at ho'; cases ho'
    exact ⟨_, es', ep', hL, r'⟩) hok I.bare
/-- behind a call (or a comprehension's block): the slots of this frame may have changed too, the records at ch may have turned -/
theorem Inv.call {g' : Array GenState} {t' : Nat} {d' : Drawn} {ch : List Addr} (I : Inv X pins σ H s) (u : Un (frs X.stack) ch H H' s.heap h') (hok : HOk X.prog X.w H' h') (hg : AllBare g')
    (hch : ∀ b ∈ ch, (b ∈ X.ex ∨ X.s₀.heap.objs.size ≤ b) ∧ b ≠ X.env.locals ∧ (∀ x c, X.env.cells.lookup x = some c → c ≠ b) ∧ ∀ p ∈ X.pn ++ pins, p.1 ≠ b) :
    Inv X pins σ H' { s with heap := h', gens := g', drawn := d', toks := t' } := by
  obtain ⟨m, ⟨o, es, ep, ho, r⟩, _⟩ := id I.loc
  obtain ⟨sl, hL⟩ := u.any ho I.free fun z => (hch _ z).2.1 rfl
  exact I.step (ch := ch) hch (fun b o hL hb hc e n => u.keep b o e n (fun z => (List.mem_cons.mp (I.stkSub b z)).elim hL hb) hc) (fun b o _ _ hc e n => u.any e n hc) (fun b o hc e n => u.free b o e n hc) (fun b o hc e => u.there b o e hc) u.tups u.frzs u.tbls (fun m' hm => by
    obtain ⟨o', es', ep', ho', r'⟩ := hm
    rw [ho] at ho'; cases ho'
    exact ⟨_, es', ep', hL, r'⟩) hok hg
/-- an untracked record of ours (an iterator) has turned -/
theorem Inv.turned {t' : Nat} {it : Addr} (I : Inv X pins σ H s) (k : ∀ b o, b ≠ it → s.heap.get? b = some o → h'.get? b = some o) (hn : H it = none) (hL : it ≠ X.env.locals)
    (h1 : it ∈ X.ex ∨ X.s₀.heap.objs.size ≤ it) (h2 : ∀ x c, X.env.cells.lookup x = some c → c ≠ it) (h3 : ∀ p ∈ X.pn ++ pins, p.1 ≠ it) : Inv X pins σ H { s with heap := h', toks := t' } := by
  have nit : ∀ b u, H b = some u → b ≠ it := fun b u e z => by rw [z, hn] at e; cases e
  refine I.step (g' := s.gens) (d' := s.drawn) (ch := [it]) (fun b hb => ?_) (fun b o _ _ hc e _ => k b o (fun z => hc (by simp [z])) e) (fun b o _ _ hc e _ => ⟨o.slots, k b o (fun z => hc (by simp [z])) e⟩) (fun _ _ _ _ n => n)
    (fun b o hc e => ⟨o, k b o (fun z => hc (by simp [z])) e⟩) (fun _ _ e => e) (fun _ _ _ e => e) (fun b ps e => ⟨#[], by rw [e]; simp⟩) (fun m hm => ?_) (fun b u e => ?_) I.bare
  · have e : b = it := by simpa using hb
    subst e
    exact ⟨h1, hL, h2, h3⟩
  · obtain ⟨o, es, ep, ho, r⟩ := hm
    exact ⟨o, es, ep, k _ o (Ne.symm hL) ho, r⟩
  · refine (I.hok b u e).stay (fun c v hc q => k c v ?_ q) (fun _ q => q) fun _ _ q => q
    rcases hc with z | z
    · rw [z]; exact nit b u e
    · exact nit c _ z
theorem Inv.tok (I : Inv X pins σ H s) (t : Nat) : Inv X pins σ H { s with toks := t } := I.un (h' := s.heap) (t' := t) Un.refl I.hok
/-- all objects kept -/
theorem Inv.kept {t' : Nat} (I : Inv X pins σ H s) (k : ∀ b u, s.heap.get? b = some u → h'.get? b = some u) : Inv X pins σ H { s with heap := h', toks := t' } := I.un (Un.kept k) (I.hok.kept k)
/-- a new object laid and tracked -/
theorem Inv.laid {a : Addr} {o : HO} {t' : Nat} (I : Inv X pins σ H s) (k : ∀ b u, s.heap.get? b = some u → h'.get? b = some u) (hp : s.heap.objs.size ≤ a) (new : ObjOk X.prog X.w (upd H a o) h' a o) :
    Inv X pins σ (upd H a o) { s with heap := h', toks := t' } := I.un (Un.laid k hp (I.hok.fresh hp)) (I.hok.laid k hp new)
/-- an object written -/
theorem Inv.write {x e : Addr} {o : HO} {t' : Nat} (I : Inv X pins σ H s) (mu : Mut (H x)) (he : e = x ∨ H e = some (.own x)) (k : ∀ b u, b ≠ e → s.heap.get? b = some u → h'.get? b = some u) (heo : ∃ u, h'.get? e = some u)
    (new : ObjOk X.prog X.w (upd H x o) h' x o) : Inv X pins σ (upd H x o) { s with heap := h', toks := t' } := I.un (Un.write mu he k heo) (I.hok.write mu he k heo new)
/-- forgetting slots, pins -/
theorem Inv.weak {σ' : List (Option V)} (I : Inv X pins σ H s) (hl : σ'.length = σ.length) (w : ∀ (i : Nat) v, σ'[i]? = some (some v) → σ[i]? = some (some v)) : Inv X pins σ' H s :=
  ⟨I.ok, I.os, I.bare, I.base, let ⟨m, hn, hl'⟩ := I.loc; ⟨m, hn, fun i x v e1 e2 e3 => hl' i x v e1 (w i v e2) e3⟩, I.cell, I.free, I.freeC, I.pin, I.hok, hl.trans I.len⟩
theorem Inv.pins_of {pins' : List (Addr × Obj)} (I : Inv X pins σ H s) (h : ∀ p ∈ pins', s.heap.get? p.1 = some p.2 ∧ H p.1 = none ∧ p.1 ≠ X.env.locals ∧ p.1 ∉ X.fs ∧ ∀ v, p.2.data ≠ .cell v) : Inv X pins' σ H s :=
  ⟨I.ok, I.os, I.bare, I.base, I.loc, I.cell, I.free, I.freeC, fun p hp => (List.mem_append.mp hp).elim (fun z => I.pin p (List.mem_append_left _ z)) (h p), I.hok, I.len⟩

theorem nodup_ix {N : List Str} (hN : N.Nodup) {i j : Nat} {x : Str} (a : N[i]? = some x) (b : N[j]? = some x) : i = j := by
  obtain ⟨h1, e1⟩ := List.getElem?_eq_some_iff.mp a
  obtain ⟨h2, e2⟩ := List.getElem?_eq_some_iff.mp b
  exact (List.getElem_inj hN).mp (e1.trans e2.symm)

/-- a name is stored; what changed -/
theorem store_ok2 {M : Model} {A : Around} {E : Value → Shared → Prop} {i : Nat} {x : Str} {v : V} {u : Value} {Q : Unit → Shared → Prop} (I : Inv X pins σ H s) (hN : X.N.Nodup) (hi : X.N[i]? = some x) (hx : Loc X.env.scope x) (r : RelV v u)
    (h : ∀ s', Inv X pins (σ.set i (some v)) H s' → (∃ a, Heap.SameBut a s.heap s'.heap ∧ (a = X.env.locals ∨ X.env.cells.lookup x = some a)) → Q () s') (hf : X.fn x = true ∨ X.env.scope.names.lookup x = some .local := by first | exact .inl rfl | exact .inr rfl | assumption) : wpAny M A (storeName X.env x u) Q E s := by
  obtain ⟨m, hn, hl⟩ := id I.loc
  have hcls : (X.env.scope.kind == .class || (X.env.scope.kind == .module && X.env.locals != X.env.globals)) = false := by rw [I.ok.kind]; rfl
  have hiσ : i < σ.length := by rw [I.len]; exact (List.getElem?_eq_some_iff.mp hi).1
  have cne := I.cne
  have tracked : ∀ {a : Addr} {h' : Heap}, (∃ o, s.heap.get? a = some o ∧ H a = none) → Heap.SameBut a s.heap h' → HOk X.prog X.w H h' := fun {a h'} ha hs b ob e => by
    obtain ⟨_, _, hfree⟩ := ha
    refine (I.hok b ob e).stay (fun c w' hc q => (hs.2 c ?_).trans q) (fun _ q => q) fun _ _ q => q
    rintro rfl
    rcases hc with rfl | hc
    · rw [hfree] at e; cases e
    · rw [hfree] at hc; cases hc
  rcases hx with hk | hk
  · refine wpAny_storeName_local hk hn (fun h' hn' hs => ?_) hcls
    obtain ⟨oL, _, _, hoL, _⟩ := id hn
    refine h _ ⟨I.ok, I.os, I.bare, ⟨fun b o e n hb hx => ?_, fun b o e n hb hx => ?_, I.base.free, fun b o e hx => ?_, I.base.tups, I.base.frzs, I.base.tbls⟩, ⟨_, hn', fun j y v' e1 e2 e3 => ?_⟩, fun y c e => ?_, I.free, I.freeC, fun p hp => ?_, tracked ⟨oL, hoL, I.free⟩ hs, by simpa using I.len⟩ ⟨_, hs, .inl rfl⟩
    · exact (hs.2 b (Nat.ne_of_lt (Nat.lt_of_lt_of_le (Heap.lt_size e) I.ok.above))).trans (I.base.keep b o e n hb hx)
    · obtain ⟨sl, e1⟩ := I.base.slot b o e n hb hx
      exact ⟨sl, (hs.2 b (Nat.ne_of_lt (Nat.lt_of_lt_of_le (Heap.lt_size e) I.ok.above))).trans e1⟩
    · obtain ⟨o', e1⟩ := I.base.there b o e hx
      exact ⟨o', (hs.2 b (Nat.ne_of_lt (Nat.lt_of_lt_of_le (Heap.lt_size e) I.ok.above))).trans e1⟩
    · by_cases hj : j = i
      · subst hj
        rw [hi] at e1; cases e1
        rw [List.getElem?_set_self hiσ] at e2
        cases e2
        exact ⟨u, r, .inl ⟨hk, by simp⟩⟩
      · rw [List.getElem?_set_ne (Ne.symm hj)] at e2
        obtain ⟨u', r', q⟩ := hl j y v' e1 e2 e3
        refine ⟨u', r', ?_⟩
        rcases q with ⟨k, e⟩ | ⟨k, c, e, z⟩
        · refine .inl ⟨k, ?_⟩
          have : y ≠ x := fun e => hj (nodup_ix hN e1 (e ▸ hi))
          simp [this, e]
        · exact .inr ⟨k, c, e, z.sameBut hs (cne y c e)⟩
    · obtain ⟨w', z⟩ := I.cell y c e
      exact ⟨w', z.sameBut hs (cne y c e)⟩
    · obtain ⟨e, n, ne, nf, d⟩ := I.pin p hp
      exact ⟨(hs.2 p.1 ne).trans e, n, ne, nf, d⟩
  · have hfn : X.fn x = true := by
      rcases hf with z | z
      · exact z
      · rw [z] at hk; cases hk
    obtain ⟨c, hc⟩ := I.ok.has x (.inl hk)
    obtain ⟨w', z⟩ := I.cell x c hc
    refine wpAny_storeName_cell I.ok.kind hk hc z (fun h' hc' hs => ?_)
    obtain ⟨oc, hoc, hocd⟩ := id z
    refine h { s with heap := h' } ⟨I.ok, I.os, I.bare, ⟨fun b o e n hb hx => ?_, fun b o e n hb hx => ?_, I.base.free, fun b o e hx => ?_, I.base.tups, I.base.frzs, I.base.tbls⟩, ⟨m, hn.sameBut hs (Ne.symm (cne x c hc)), fun j y v' e1 e2 e3 => ?_⟩, fun y c' e => ?_, I.free, I.freeC, fun p hp => ?_, tracked ⟨oc, hoc, I.freeC x c hc⟩ hs, by simpa using I.len⟩ ⟨c, hs, .inr hc⟩
    · exact (hs.2 b (Nat.ne_of_lt (Nat.lt_of_lt_of_le (Heap.lt_size e) (I.ok.cab x c hfn hc)))).trans (I.base.keep b o e n hb hx)
    · obtain ⟨sl, e1⟩ := I.base.slot b o e n hb hx
      exact ⟨sl, (hs.2 b (Nat.ne_of_lt (Nat.lt_of_lt_of_le (Heap.lt_size e) (I.ok.cab x c hfn hc)))).trans e1⟩
    · obtain ⟨o', e1⟩ := I.base.there b o e hx
      exact ⟨o', (hs.2 b (Nat.ne_of_lt (Nat.lt_of_lt_of_le (Heap.lt_size e) (I.ok.cab x c hfn hc)))).trans e1⟩
    · by_cases hj : j = i
      · subst hj
        rw [hi] at e1; cases e1
        rw [List.getElem?_set_self hiσ] at e2
        cases e2
        exact ⟨u, r, .inr ⟨.inl hk, c, hc, hc'⟩⟩
      · rw [List.getElem?_set_ne (Ne.symm hj)] at e2
        obtain ⟨u', r', q⟩ := hl j y v' e1 e2 e3
        refine ⟨u', r', ?_⟩
        rcases q with q | ⟨k, c', e, z'⟩
        · exact .inl q
        · refine .inr ⟨k, c', e, z'.sameBut hs ?_⟩
          rintro rfl
          exact hj (nodup_ix hN e1 (I.ok.inj _ _ _ e hc ▸ hi))
    · by_cases hcc : c' = c
      · subst hcc; exact ⟨_, hc'⟩
      · obtain ⟨w2, z2⟩ := I.cell y c' e
        exact ⟨w2, z2.sameBut hs hcc⟩
    · obtain ⟨e, n, ne, nf, d⟩ := I.pin p hp
      refine ⟨(hs.2 p.1 ?_).trans e, n, ne, nf, d⟩
      intro q
      rw [q, hoc] at e
      have q' : oc = p.2 := Option.some.inj e
      exact d w' (by rw [← q']; exact hocd)
theorem store_ok {M : Model} {A : Around} {E : Value → Shared → Prop} {i : Nat} {x : Str} {v : V} {u : Value} {Q : Unit → Shared → Prop} (I : Inv X pins σ H s) (hN : X.N.Nodup) (hi : X.N[i]? = some x) (hx : Loc X.env.scope x) (r : RelV v u)
    (h : ∀ s', Inv X pins (σ.set i (some v)) H s' → Q () s') (hf : X.fn x = true ∨ X.env.scope.names.lookup x = some .local := by first | exact .inl rfl | exact .inr rfl | assumption) : wpAny M A (storeName X.env x u) Q E s :=
  store_ok2 I hN hi hx r (fun s' I' _ => h s' I') hf
/-- behind a call or a block, the state as it is -/
theorem Inv.call' {s' : Shared} {ch : List Addr} (I : Inv X pins σ H s) (ho : s'.os = s.os) (u : Un (frs X.stack) ch H H' s.heap s'.heap) (hok : HOk X.prog X.w H' s'.heap) (hg : AllBare s'.gens)
    (hch : ∀ b ∈ ch, (b ∈ X.ex ∨ X.s₀.heap.objs.size ≤ b) ∧ b ≠ X.env.locals ∧ (∀ x c, X.env.cells.lookup x = some c → c ≠ b) ∧ ∀ p ∈ X.pn ++ pins, p.1 ≠ b) : Inv X pins σ H' s' := by
  obtain ⟨h', g', d', t', o'⟩ := s'
  have e : o' = s.os := ho
  subst e
  exact I.call (g' := g') (t' := t') (d' := d') u hok hg hch
end

/-! ### the judgements -/
/-- an exception: its class, its own dict's address (where it has one), the abstract heap behind it -/
abbrev XK := Value → Option Addr → Hp → Prop
abbrev St := List (Option V)
abbrev VK := V → Hp → Prop
/-- an expression's reading; a test's; an argument list's -/
abbrev TE := St → Hp → VK → Prop
abbrev TT := St → Hp → (Bool → Hp → Prop) → Prop
abbrev TA := St → Hp → (List V → Hp → Prop) → Prop
/-- what is wanted behind a statement -/
structure Ends where
  nx : St → Hp → Prop
  rt : VK
  bk : St → Hp → Prop := fun _ _ => False
  ct : St → Hp → Prop := fun _ _ => False
abbrev TS := Ends → St → Hp → Prop

def EP (X : Cx) (pins : List (Addr × Obj)) (σ : St) (Q : VK) (u : Value) (s' : Shared) : Prop := ∃ v H', Inv X pins σ H' s' ∧ RelV v u ∧ Q v H'
def TP (X : Cx) (pins : List (Addr × Obj)) (σ : St) (Q : Bool → Hp → Prop) (b : Bool) (s' : Shared) : Prop := ∃ H', Inv X pins σ H' s' ∧ Q b H'
def AP (X : Cx) (pins : List (Addr × Obj)) (σ : St) (Q : List V → Hp → Prop) (us : List Value) (s' : Shared) : Prop := ∃ vs H', Inv X pins σ H' s' ∧ Vals vs us ∧ Q vs H'
def SP (X : Cx) (pins : List (Addr × Obj)) (D : Ends) (f : Flow) (s' : Shared) : Prop :=
  match f with
  | .next => ∃ σ' H', Inv X pins σ' H' s' ∧ D.nx σ' H'
  | .brk => ∃ σ' H', Inv X pins σ' H' s' ∧ D.bk σ' H'
  | .cont => ∃ σ' H', Inv X pins σ' H' s' ∧ D.ct σ' H'
  | .ret u => ∃ v σ' H', Inv X pins σ' H' s' ∧ RelV v u ∧ D.rt v H'

def PE (X : Cx) (e : Expr) (t : TE) : Prop :=
  ∀ (pins : List (Addr × Obj)) (s : Shared) (σ : St) (H : Hp) (Q : VK), Inv X pins σ H s → t σ H Q → wpAny (model X.prog X.w) X.A (eval e X.env) (EP X pins σ Q) X.xe s
def PT (X : Cx) (e : Expr) (t : TT) : Prop :=
  ∀ (pins : List (Addr × Obj)) (s : Shared) (σ : St) (H : Hp) (Q : Bool → Hp → Prop), Inv X pins σ H s → t σ H Q → wpAny (model X.prog X.w) X.A (isTrue e X.env (eval e X.env)) (TP X pins σ Q) X.xe s
/-- a test whatever its 'whole' is (and, or) -/
def PW (X : Cx) (e : Expr) (t : TT) : Prop :=
  ∀ (whole : Sem Value) (pins : List (Addr × Obj)) (s : Shared) (σ : St) (H : Hp) (Q : Bool → Hp → Prop), Inv X pins σ H s → t σ H Q → wpAny (model X.prog X.w) X.A (isTrue e X.env whole) (TP X pins σ Q) X.xe s
theorem PW.pt {X : Cx} {e : Expr} {t : TT} (h : PW X e t) : PT X e t := h _
/-- an argument list (no star), from the left -/
def PA (X : Cx) (es : List Expr) (t : TA) : Prop :=
  ∀ (pos : Pos) (pins : List (Addr × Obj)) (s : Shared) (σ : St) (H : Hp) (Q : List V → Hp → Prop), Inv X pins σ H s → t σ H Q → wpAny (model X.prog X.w) X.A (spliced (backTo pos (starEach es X.env))) (AP X pins σ Q) X.xe s
def PS (X : Cx) (st : Stmt) (t : TS) : Prop :=
  ∀ (pins : List (Addr × Obj)) (s : Shared) (σ : St) (H : Hp) (D : Ends), Inv X pins σ H s → t D σ H → wpAny (model X.prog X.w) X.A (exec st X.env) (SP X pins D) X.xe s
def PSs (X : Cx) (st : List Stmt) (t : TS) : Prop :=
  ∀ (pins : List (Addr × Obj)) (s : Shared) (σ : St) (H : Hp) (D : Ends), Inv X pins σ H s → t D σ H → wpAny (model X.prog X.w) X.A (execs st X.env) (SP X pins D) X.xe s
/-- weaken the end -/
theorem thn {α : Type} {t : Sem α} {Q Q' : α → Shared → Prop} {M : Model} {A : Around} {E : Value → Shared → Prop} {s : Shared} (h : wpAny M A t Q E s) (hQ : ∀ a s, Q a s → Q' a s) : wpAny M A t Q' E s := wpAny_mono h hQ fun _ _ x => x
end L2

namespace L2
open PySem PySem.Spec PyProof.Rows
section
variable {X : Cx}

/-! ### names and constants -/
def tVar (i : Nat) : TE := fun σ H Q => ∃ v, σ[i]? = some (some v) ∧ Q v H
def tC (v : V) : TE := fun _ H Q => Q v H
theorem pe_var {i : Nat} {x : Str} {pos : Pos} (hN : X.N[i]? = some x) (hv : Vis X.env.scope x) (hd : (x == ("__debug__" : Str)) = false := by decide) (hcd : (x == ("__classdict__" : Str)) = false := by decide) : PE X (.Name x pos) (tVar i) := by
  intro pins s σ H Q I h
  obtain ⟨v, e, h⟩ := h
  obtain ⟨m, hn, hl⟩ := I.loc
  obtain ⟨u, r, l⟩ := hl i x v hN e hv
  have fin : EP X pins σ Q u s := ⟨v, H, I, r, h⟩
  rcases l with ⟨hk, hm⟩ | ⟨hk, c, hc, hcell⟩
  · exact wpAny_Name (wpAny_loadName_local I.ok.kind hk hn hm fin) hd
  · rcases hk with hk | hk
    · exact wpAny_Name (wpAny_loadName_cell I.ok.kind hk hc hcell fin) hd
    · exact wpAny_Name (wpAny_loadName_free I.ok.kind hk hc hcell fin hcd) hd
theorem pe_int {i j pos} : PE X (.Constant (.int i) j pos) (tC (.int i)) := fun _ _ _ H _ I h => wpAny_Constant_int ⟨.int i, H, I.tok _, ⟨_, rfl⟩, h⟩
theorem pe_bl {b j pos} : PE X (.Constant (.bool b) j pos) (tC (.bl b)) := fun _ _ _ H _ I h => Constant_bool ⟨.bl b, H, I, rfl, h⟩
theorem pe_non {j pos} : PE X (.Constant .none j pos) (tC .non) := fun _ _ _ H _ I h => Constant_none ⟨.non, H, I, rfl, h⟩
theorem pe_str {x j pos} : PE X (.Constant (.str x) j pos) (tC (.str x)) := fun _ _ _ H _ I h => Calls.Constant_str ⟨.str x, H, I.tok _, ⟨_, rfl⟩, h⟩

/-- a global name of the def -/
def Gl (X : Cx) (x : Str) : Prop := X.env.kindOf x = some .globalImplicit
theorem ld_glob {E : Value → Shared → Prop} {pins : List (Addr × Obj)} {s : Shared} {σ : St} {H : Hp} {x : Str} {u : Value} {pos : Pos} {Q : Value → Shared → Prop} (I : Inv X pins σ H s) (hg : Gl X x) (hm : X.mg x = some u) (h : Q u s)
    (hd : (x == ("__debug__" : Str)) = false := by decide) : wpAny (model X.prog X.w) X.A (eval (.Name x pos) X.env) Q E s :=
  Calls.Name_function_global I.ok.kind hg (Calls.loadGlobal_global (by rw [I.ok.glob]; exact I.mod.glob.keeps I.bk) hm h) hd
theorem ld_blt {E : Value → Shared → Prop} {pins : List (Addr × Obj)} {s : Shared} {σ : St} {H : Hp} {x : Str} {u : Value} {pos : Pos} {Q : Value → Shared → Prop} (I : Inv X pins σ H s) (hg : Gl X x) (hm : X.mg x = none) (hv : bootBuiltins x = some u) (h : Q u s)
    (hn : x ≠ "__name__" := by decide) (hd : (x == ("__debug__" : Str)) = false := by decide) : wpAny (model X.prog X.w) X.A (eval (.Name x pos) X.env) Q E s := by
  obtain ⟨mb, h1, h2⟩ := I.mod.blt
  exact Calls.Name_function_global I.ok.kind hg (Calls.loadGlobal_builtin (by rw [I.ok.glob]; exact I.mod.glob.keeps I.bk) hm (by rw [I.ok.blt]; exact h1.keeps I.bk) ((h2 x hn).trans hv) h) hd
/-- a module's constant, a class, a function, as a value -/
theorem pe_glob {x : Str} {v : V} {u : Value} {pos : Pos} (hg : Gl X x) (hm : X.mg x = some u) (r : RelV v u) (hd : (x == ("__debug__" : Str)) = false := by decide) : PE X (.Name x pos) (tC v) :=
  fun _ _ _ H _ I h => ld_glob I hg hm ⟨v, H, I, r, h⟩ hd
theorem pe_bltn {x : Str} {v : V} {u : Value} {pos : Pos} (hg : Gl X x) (hm : X.mg x = none) (hv : bootBuiltins x = some u) (r : RelV v u) (hn : x ≠ "__name__" := by decide) (hd : (x == ("__debug__" : Str)) = false := by decide) : PE X (.Name x pos) (tC v) :=
  fun _ _ _ H _ I h => ld_blt I hg hm hv ⟨v, H, I, r, h⟩ hn hd

/-! ### arithmetic -/
variable {a b : Expr} {ta tb : TE} {pos : Pos}
/-! ### comparisons -/
/-- a comparison as a value, as a test -/
def tB (t : TE) : TT := fun σ H Q => t σ H fun x H1 => ∃ c, x = .bl c ∧ Q c H1
/-- an expression whose value is a bool, as a test -/
theorem pt_val {e : Expr} {t : TE} (h : PE X e t) (he : ∀ whole, isTrue e X.env whole = (do let v ← whole; standAt e.pos; holding [v] (truthy v)) := by intro _; rfl) : PT X e (tB t) := by
  intro pins s σ H Q I hw
  refine isTrue_plain (thn (h pins s σ H _ I hw) fun v s1 ⟨x, H1, I1, r1, q1⟩ => ?_) (he _)
  obtain ⟨d, rfl, q⟩ := q1
  cases r1
  exact wpAny_truthy_bool ⟨H1, I1, q⟩

/-! ### and, or, not -/
variable {tA tB' : TT} {rest : List Expr}
def tAnd (t u : TT) : TT := fun σ H Q => t σ H fun c H1 => if c = true then u σ H1 Q else Q false H1
def tOr (t u : TT) : TT := fun σ H Q => t σ H fun c H1 => if c = true then Q true H1 else u σ H1 Q
def tNot (t : TT) : TT := fun σ H Q => t σ H fun c H1 => Q (!c) H1
theorem pw_and1 (ha : PT X a tA) : PW X (.BoolOp .And [a] pos) tA := by
  intro wh pins s σ H Q I h
  refine isTrue_and (thn (ha pins s σ H Q I h) fun c s1 e => ?_)
  cases c with
  | true => exact isTrue_and_nil e
  | false => exact e
theorem pw_or1 (ha : PT X a tA) : PW X (.BoolOp .Or [a] pos) tA := by
  intro wh pins s σ H Q I h
  refine isTrue_or (thn (ha pins s σ H Q I h) fun c s1 e => ?_)
  cases c with
  | false => exact isTrue_or_nil e
  | true => exact e
theorem pw_and (ha : PT X a tA) (hb : PW X (.BoolOp .And (b :: rest) pos) tB') : PW X (.BoolOp .And (a :: b :: rest) pos) (tAnd tA tB') := by
  intro wh pins s σ H Q I h
  refine isTrue_and (thn (ha pins s σ H _ I h) fun c s1 ⟨H1, I1, q1⟩ => ?_)
  cases c with
  | true => exact hb wh pins s1 σ H1 Q I1 q1
  | false => exact ⟨H1, I1, q1⟩
theorem pw_or (ha : PT X a tA) (hb : PW X (.BoolOp .Or (b :: rest) pos) tB') : PW X (.BoolOp .Or (a :: b :: rest) pos) (tOr tA tB') := by
  intro wh pins s σ H Q I h
  refine isTrue_or (thn (ha pins s σ H _ I h) fun c s1 ⟨H1, I1, q1⟩ => ?_)
  cases c with
  | true => exact ⟨H1, I1, q1⟩
  | false => exact hb wh pins s1 σ H1 Q I1 q1
theorem pt_not (ha : PT X a tA) : PT X (.UnaryOp .Not a pos) (tNot tA) := by
  intro pins s σ H Q I h
  exact isTrue_not (ha pins s σ H (fun c H1 => Q (!c) H1) I h)
/-- .. as values (bools) -/
def tAndV (ta tb : TE) : TE := fun σ H Q => ta σ H fun x H1 => ∃ c, x = .bl c ∧ if c = true then tb σ H1 Q else Q (.bl false) H1
def tOrV (ta tb : TE) : TE := fun σ H Q => ta σ H fun x H1 => ∃ c, x = .bl c ∧ if c = true then Q (.bl true) H1 else tb σ H1 Q
def tNotV (ta : TE) : TE := fun σ H Q => ta σ H fun x H1 => ∃ c, x = .bl c ∧ Q (.bl (!c)) H1
theorem pe_one {op} {t : TE} (h : PE X a t) : PE X (.BoolOp op [a] pos) t := fun pins s σ H Q I hw => BoolOp_one (h pins s σ H Q I hw)
theorem pe_and (ha : PE X a ta) (hb : PE X (.BoolOp .And (b :: rest) pos) tb) : PE X (.BoolOp .And (a :: b :: rest) pos) (tAndV ta tb) := by
  intro pins s σ H Q I h
  refine BoolOp_and (thn (ha pins s σ H _ I h) fun v s1 ⟨x, H1, I1, r1, q1⟩ => ?_)
  obtain ⟨c, rfl, q1⟩ := q1
  cases r1
  refine wpAny_truthy_bool ?_
  cases c with
  | true => exact hb pins s1 σ H1 Q I1 q1
  | false => exact ⟨.bl false, H1, I1, rfl, q1⟩
theorem pe_not (ha : PE X a ta) : PE X (.UnaryOp .Not a pos) (tNotV ta) := by
  intro pins s σ H Q I h
  refine UnaryOp_ (thn (ha pins s σ H _ I h) fun v s1 ⟨x, H1, I1, r1, q1⟩ => ?_)
  obtain ⟨c, rfl, q1⟩ := q1
  cases r1
  exact not_of (wpAny_truthy_bool ⟨.bl (!c), H1, I1, rfl, q1⟩)
/-- a if t else b -/
def tIf (t : TT) (ta tb : TE) : TE := fun σ H Q => t σ H fun c H1 => if c = true then ta σ H1 Q else tb σ H1 Q
theorem pe_ifExp {c : Expr} (hc : PT X c tA) (ha : PE X a ta) (hb : PE X b tb) : PE X (.IfExp c a b pos) (tIf tA ta tb) := by
  intro pins s σ H Q I h
  refine wpAny_IfExp (thn (hc pins s σ H _ I h) fun d s1 ⟨H1, I1, q1⟩ => ?_)
  cases d with
  | true => exact ha pins s1 σ H1 Q I1 q1
  | false => exact hb pins s1 σ H1 Q I1 q1
end
end L2

namespace L2
open PySem PySem.Spec PyProof.Rows

/-! ### a list, a tuple that is read: tracked, frozen, or an object of the module -/
def SqL (K : PySem.W.Frag) (H : Hp) (a : Addr) (xs : List V) : Prop :=
  Rd H a (.lst xs) ∨
    ∃ (o : Obj) (its : Array Value) (n : Nat), K.lookup a = some o ∧ o.cls = .type "list" ∧ o.dict = none ∧ o.data = .seq its n ∧ its.size ≤ sizeLine ∧ Vals xs its.toList
def SqT (K : PySem.W.Frag) (H : Hp) (a : Addr) (xs : List V) : Prop :=
  Rd H a (.tup xs) ∨
    ∃ (o : Obj) (its : Array Value) (n : Nat), K.lookup a = some o ∧ o.cls = .type "tuple" ∧ o.data = .seq its n ∧ its.size ≤ sizeLine ∧ Vals xs its.toList
def absV : Value → Option V
  | .none => some .non
  | .bool b => some (.bl b)
  | .int i _ => some (.int i)
  | .str x _ => some (.str x)
  | .bytes b _ => some (.byt b)
  | .float b _ => some (.flt b)
  | .ref a => some (.ref a)
  | .type n => some (.ty n)
  | _ => none
theorem RelV.abs {x : V} {u : Value} (r : RelV x u) : absV u = some x := by
  cases x with
  | non => cases r; rfl
  | bl _ => cases r; rfl
  | int _ => obtain ⟨t, rfl⟩ := r; rfl
  | str _ => obtain ⟨t, rfl⟩ := r; rfl
  | byt _ => obtain ⟨t, rfl⟩ := r; rfl
  | flt _ => obtain ⟨t, rfl⟩ := r; rfl
  | ref _ => cases r; rfl
  | ty _ => cases r; rfl
theorem RelV.inj {x y : V} {u : Value} (r : RelV x u) (q : RelV y u) : x = y := Option.some.inj (r.abs.symm.trans q.abs)
theorem Vals.inj : ∀ {xs ys : List V} {us : List Value}, Vals xs us → Vals ys us → xs = ys
  | _, _, _, .nil, .nil => rfl
  | _, _, _, .cons r t, .cons r' t' => by rw [r.inj r', Vals.inj t t']
section
variable {X : Cx} {pins : List (Addr × Obj)} {σ : St} {H : Hp} {s : Shared} {a : Addr} {xs ys : List V}
theorem SqL.of {K : PySem.W.Frag} (h : H a = some (.lst xs)) : SqL K H a xs := .inl (.inl h)
theorem SqT.of {K : PySem.W.Frag} (h : H a = some (.tup xs)) : SqT K H a xs := .inl (.inl h)
theorem Inv.list (I : Inv X pins σ H s) (h : SqL X.K H a xs) : ∃ its : List Value, Vals xs its ∧ PlainL s.heap a its.toArray ∧ xs.length ≤ sizeLine := by
  rcases h with h | ⟨o, its, n, hk, hc, hd, hs, hz, r⟩
  · obtain ⟨z, its, n, r, e⟩ := h.ok I.hok
    exact ⟨its, r, ⟨_, n, e, rfl, rfl, rfl⟩, z⟩
  · refine ⟨its.toList, r, ⟨o, n, I.kIn a o hk, hc, hd, by simpa using hs⟩, ?_⟩
    have e := r.length
    simp only [Array.length_toList] at e
    omega
theorem Inv.tuple (I : Inv X pins σ H s) (h : SqT X.K H a xs) : ∃ its : List Value, Vals xs its ∧ IsTup s.heap a its.toArray ∧ xs.length ≤ sizeLine := by
  rcases h with h | ⟨o, its, n, hk, hc, hs, hz, r⟩
  · obtain ⟨z, its, r, p⟩ := h.ok I.hok
    exact ⟨its, r, p, z⟩
  · refine ⟨its.toList, r, ⟨o, I.kIn a o hk, hc, n, by simpa using hs⟩, ?_⟩
    have e := r.length
    simp only [Array.length_toList] at e
    omega
theorem Inv.list_inj (I : Inv X pins σ H s) (h : SqL X.K H a xs) (h' : SqL X.K H a ys) : xs = ys := by
  obtain ⟨its, r, ⟨o, n, e, _, _, d⟩, _⟩ := I.list h
  obtain ⟨its', r', ⟨o', n', e', _, _, d'⟩, _⟩ := I.list h'
  rw [e] at e'; cases e'
  rw [d] at d'
  injection d' with d1 _
  have : its = its' := by simpa using congrArg Array.toList d1
  subst this
  exact r.inj r'
theorem Inv.tuple_inj (I : Inv X pins σ H s) (h : SqT X.K H a xs) (h' : SqT X.K H a ys) : xs = ys := by
  obtain ⟨its, r, ⟨o, e, _, n, d⟩, _⟩ := I.tuple h
  obtain ⟨its', r', ⟨o', e', _, n', d'⟩, _⟩ := I.tuple h'
  rw [e] at e'; cases e'
  rw [d] at d'
  injection d' with d1 _
  have : its = its' := by simpa using congrArg Array.toList d1
  subst this
  exact r.inj r'
end

/-! ### another wish about exceptions -/
abbrev Cx.wish (X : Cx) (E : Value → Shared → Prop) : Cx := { X with xe := E }
/-- no exception leaves -/
abbrev Cx.nox (X : Cx) : Cx := X.wish fun _ _ => False
theorem Cx.Ok.wish {X : Cx} (ok : X.Ok) (E : Value → Shared → Prop) : (X.wish E).Ok :=
  ⟨ok.mod, ok.kind, ok.glob, ok.blt, ok.above, ok.inj, ok.has, ok.cab, ok.hd, ok.frames, ok.stk, ok.exf, ok.bs, ok.bsz, ok.noex, ok.exfs, ok.funs, ok.frf⟩
theorem Cx.Ok.unwish {X : Cx} {E : Value → Shared → Prop} (ok : (X.wish E).Ok) : X.Ok :=
  ⟨ok.mod, ok.kind, ok.glob, ok.blt, ok.above, ok.inj, ok.has, ok.cab, ok.hd, ok.frames, ok.stk, ok.exf, ok.bs, ok.bsz, ok.noex, ok.exfs, ok.funs, ok.frf⟩
section
variable {X : Cx} {pins : List (Addr × Obj)} {σ : St} {H : Hp} {s : Shared} {E : Value → Shared → Prop}
theorem Inv.wish (I : Inv X pins σ H s) (E : Value → Shared → Prop) : Inv (X.wish E) pins σ H s := ⟨I.ok.wish E, I.os, I.bare, I.base, I.loc, I.cell, I.free, I.freeC, I.pin, I.hok, I.len⟩
theorem Inv.unwish (I : Inv (X.wish E) pins σ H s) : Inv X pins σ H s := ⟨I.ok.unwish, I.os, I.bare, I.base, I.loc, I.cell, I.free, I.freeC, I.pin, I.hok, I.len⟩
theorem SP.unwish {D : Ends} {f : Flow} {s' : Shared} (h : SP (X.wish E) pins D f s') : SP X pins D f s' := by
  cases f with
  | next => obtain ⟨σ', H', I, q⟩ := h; exact ⟨σ', H', I.unwish, q⟩
  | brk => obtain ⟨σ', H', I, q⟩ := h; exact ⟨σ', H', I.unwish, q⟩
  | cont => obtain ⟨σ', H', I, q⟩ := h; exact ⟨σ', H', I.unwish, q⟩
  | ret u => obtain ⟨v, σ', H', I, r, q⟩ := h; exact ⟨v, σ', H', I.unwish, r, q⟩
theorem PE.nox {e : Expr} {t : TE} (h : PE X.nox e t) : PE X e t := fun pins s σ H Q I hw =>
  wpAny_mono (h pins s σ H Q (I.wish _) hw) (fun _ _ ⟨v, H', I', r, q⟩ => ⟨v, H', I'.unwish, r, q⟩) fun _ _ z => False.elim z
theorem PT.nox {e : Expr} {t : TT} (h : PT X.nox e t) : PT X e t := fun pins s σ H Q I hw =>
  wpAny_mono (h pins s σ H Q (I.wish _) hw) (fun _ _ ⟨H', I', q⟩ => ⟨H', I'.unwish, q⟩) fun _ _ z => False.elim z
theorem PSs.nox {st : List Stmt} {t : TS} (h : PSs X.nox st t) : PSs X st t := fun pins s σ H D I hw =>
  wpAny_mono (h pins s σ H D (I.wish _) hw) (fun _ _ q => q.unwish) fun _ _ z => False.elim z
end

/-! ### blocks and small statements -/
section
variable {X : Cx} {st : Stmt} {rest : List Stmt} {t u : TS} {e : Expr} {te : TE} {pos : Pos}
def tNext : TS := fun D σ H => D.nx σ H
def tSeq (t u : TS) : TS := fun D σ H => t { D with nx := u D } σ H
theorem pss_nil : PSs X [] tNext := fun _ _ σ H _ I h => wpAny_execs_nil ⟨σ, H, I, h⟩
theorem pss_cons (h1 : PS X st t) (h2 : PSs X rest u) : PSs X (st :: rest) (tSeq t u) := by
  intro pins s σ H D I h
  refine wpAny_execs_cons (thn (h1 pins s σ H { D with nx := u D } I h) fun f s1 q => ?_)
  cases f with
  | next =>
    obtain ⟨σ', H', I', q⟩ := q
    exact h2 pins s1 σ' H' D I' q
  | ret v => exact q
  | brk => exact q
  | cont => exact q
theorem pss_one (h1 : PS X st t) : PSs X [st] t := by
  intro pins s σ H D I h
  refine wpAny_execs_cons (thn (h1 pins s σ H D I h) fun f s1 q => ?_)
  cases f with
  | next => exact wpAny_execs_nil q
  | ret v => exact q
  | brk => exact q
  | cont => exact q
def tBreak : TS := fun D σ H => D.bk σ H
def tCont : TS := fun D σ H => D.ct σ H
theorem ps_break : PS X (.Break pos) tBreak := fun _ _ σ H _ I h => wpAny_Break ⟨σ, H, I, h⟩
/-- in a def's body nothing is shown -/
theorem Inv.quiet {pins : List (Addr × Obj)} {σ : St} {H : Hp} {s : Shared} (I : Inv X pins σ H s) : interactive X.env = false := by simp [interactive, I.ok.kind]
/-- an expression whose value is dropped -/
def tDrop (te : TE) : TS := fun D σ H => te σ H fun _ H1 => D.nx σ H1
theorem ps_expr (he : PE X e te) (hs : swapsWith e none pos.line X.env = pure false := by rfl) : PS X (.Expr e pos) (tDrop te) := by
  intro pins s σ H D I h
  exact wpAny_Expr_any (thn (he pins s σ H _ I h) fun v s1 ⟨x, H1, I1, r1, q1⟩ => ⟨σ, H1, I1, q1⟩) I.quiet hs
def tRet (te : TE) : TS := fun D σ H => te σ H D.rt
theorem ps_ret (he : PE X e te) : PS X (.Return (some e) pos) (tRet te) := by
  intro pins s σ H D I h
  exact wpAny_Return_some (thn (he pins s σ H _ I h) fun v s1 ⟨x, H1, I1, r1, q1⟩ => ⟨x, σ, H1, I1, r1, q1⟩)
def tRetN : TS := fun D _ H => D.rt .non H
def tIfS (c : TT) (t u : TS) : TS := fun D σ H => c σ H fun b H1 => if b = true then t D σ H1 else u D σ H1
theorem ps_if {c : Expr} {a b : List Stmt} {tc : TT} (hc : PT X c tc) (ha : PSs X a t) (hb : PSs X b u) : PS X (.If c a b pos) (tIfS tc t u) := by
  intro pins s σ H D I h
  refine wpAny_If (thn (hc pins s σ H _ I h) fun d s1 ⟨H1, I1, q1⟩ => ?_)
  cases d with
  | true => exact ha pins s1 σ H1 D I1 q1
  | false => exact hb pins s1 σ H1 D I1 q1
/-- code that the proof never comes to -/
def tNever : TS := fun _ _ _ => False
end

/-! ### targets -/
abbrev TG := V → St → Hp → (St → Hp → Prop) → Prop
abbrev TGs := List V → St → Hp → (St → Hp → Prop) → Prop
def PG (X : Cx) (target : Expr) (t : TG) : Prop :=
  ∀ (pins : List (Addr × Obj)) (s : Shared) (σ : St) (H : Hp) (v : V) (u : Value) (Q : St → Hp → Prop), Inv X pins σ H s → RelV v u → t v σ H Q →
    wpAny (model X.prog X.w) X.A (assign target X.env u) (fun _ s' => ∃ σ' H', Inv X pins σ' H' s' ∧ Q σ' H') X.xe s
/-- several targets, one after another -/
def PGs (X : Cx) (ts : List Expr) (t : TGs) : Prop :=
  ∀ (pins : List (Addr × Obj)) (s : Shared) (σ : St) (H : Hp) (vs : List V) (us : List Value) (Q : St → Hp → Prop), Inv X pins σ H s → Vals vs us → t vs σ H Q →
    wpAny (model X.prog X.w) X.A (assignInOrder ((assignEach ts X.env).map (·.2)) us) (fun _ s' => ∃ σ' H', Inv X pins σ' H' s' ∧ Q σ' H') X.xe s
section
variable {X : Cx} {pos : Pos}
def gName (i : Nat) : TG := fun v σ H Q => Q (σ.set i (some v)) H
theorem pg_name {i : Nat} {x : Str} (hN : X.N.Nodup) (hi : X.N[i]? = some x) (hx : Loc X.env.scope x) (hf : X.fn x = true ∨ X.env.scope.names.lookup x = some .local := by first | exact .inl rfl | exact .inr rfl | assumption) : PG X (.Name x pos) (gName i) := by
  intro pins s σ H v u Q I r h
  exact wpAny_assign_Name (store_ok I hN hi hx r (fun s' I' => ⟨_, H, I', h⟩) hf)
def gNil : TGs := fun vs σ H Q => vs = [] ∧ Q σ H
def gCons (t : TG) (u : TGs) : TGs := fun vs σ H Q => ∃ v r, vs = v :: r ∧ t v σ H fun σ' H' => u r σ' H' Q
theorem pgs_nil : PGs X [] gNil := by
  intro pins s σ H vs us Q I r h
  obtain ⟨e, h⟩ := h
  subst e
  cases r
  exact assignInOrder_nil ⟨σ, H, I, h⟩
theorem pgs_cons {e : Expr} {es : List Expr} {t : TG} {u : TGs} (h1 : PG X e t) (h2 : PGs X es u)
    (hs : (assignEach (e :: es) X.env).map (·.2) = assign e X.env :: (assignEach es X.env).map (·.2) := by rfl) : PGs X (e :: es) (gCons t u) := by
  intro pins s σ H vs us Q I r h
  obtain ⟨v, vr, e1, h⟩ := h
  subst e1
  cases r with
  | cons r rr =>
    rw [hs]
    refine assignInOrder_cons (thn (h1 pins s σ H _ _ _ I r h) fun _ s1 ⟨σ1, H1, I1, q1⟩ => ?_)
    exact h2 pins s1 σ1 H1 _ _ Q I1 rr q1
/-- (a, b, ..) = a tuple of that length -/
def gTup (K : PySem.W.Frag) (n : Nat) (t : TGs) : TG := fun v σ H Q => ∃ a xs, v = .ref a ∧ SqT K H a xs ∧ xs.length = n ∧ t xs σ H Q
theorem pg_tup {es : List Expr} {k : Nat} {t : TGs} {n : Nat} (hc : X.calm = true) (h : PGs X es t)
    (hn : (assignEach es X.env).length = n := by rfl) (hst : (assignEach es X.env).findIdx? (·.1) = none := by rfl) : PG X (.Tuple es k pos) (gTup X.K n t) := by
  intro pins s σ H v u Q I r hw
  obtain ⟨a, xs, e1, hq, hl, hw⟩ := hw
  subst e1
  cases r
  obtain ⟨its, rv, ht, hz⟩ := I.tuple hq
  refine assign_Tuple_tuple (I.ok.hd hc) ht (by simp [hn, ← hl, rv.length]) hst fun h' hx => ?_
  have I1 : Inv X pins σ H { s with heap := h' } := I.kept (t' := s.toks) fun b o e => hx b o (Nat.ne_of_lt (Heap.lt_size e)) e
  exact h pins _ σ H xs _ Q I1 (by simpa using rv) hw
/-- target = value -/
def tAsg (te : TE) (g : TG) : TS := fun D σ H => te σ H fun x H1 => g x σ H1 D.nx
theorem ps_asg {tg e : Expr} {te : TE} {g : TG} (he : PE X e te) (hg : PG X tg g) (hs : swapsWithSole [tg] e pos.line X.env = pure false := by rfl) (hw : swappedStores [tg] e X.env = pure none := by rfl)
    (h1 : (assignEach [tg] X.env).map (·.2) = [assign tg X.env] := by rfl) : PS X (.Assign [tg] e pos) (tAsg te g) := by
  intro pins s σ H D I h
  refine wpAny_Assign_stores (thn (he pins s σ H _ I h) fun v s1 ⟨x, H1, I1, r1, q1⟩ => ?_) hs hw
  rw [h1]
  exact thn (hg pins s1 σ H1 x v _ I1 r1 q1) fun _ s2 q => q
/-- name = value -/
theorem ps_set {i : Nat} {x : Str} {e : Expr} {te : TE} {pos' : Pos} (hN : X.N.Nodup) (hi : X.N[i]? = some x) (hx : Loc X.env.scope x) (he : PE X e te) (hs : swapsWith e (some (.Name x pos')) pos.line X.env = pure false := by rfl) (hf : X.fn x = true ∨ X.env.scope.names.lookup x = some .local := by first | exact .inl rfl | exact .inr rfl | assumption) :
    PS X (.Assign [.Name x pos'] e pos) (tAsg te (gName i)) := by
  intro pins s σ H D I h
  refine wpAny_Assign_Name (thn (he pins s σ H _ I h) fun v s1 ⟨y, H1, I1, r1, q1⟩ => ?_) hs
  exact store_ok I1 hN hi hx r1 (fun s2 I2 => ⟨_, H1, I2, q1⟩) hf
end

/-! ### while -/
section
variable {X : Cx} {pos : Pos}
end

/-! ### what a loop or a comprehension walks -/
/-- at turn i: it yields x (the heap may grow), or it stops -/
structure It where
  go : Nat → Hp → Prop
  yld : Nat → Hp → V → Hp → Prop
  stop : Nat → Hp → Prop
/-- the iterator's own objects may turn: they are not the frame's, not pinned, younger than the entry (or a comprehension's own) -/
def FpOk (X : Cx) (pins : List (Addr × Obj)) (H : Hp) (b : Addr) : Prop :=
  H b = none ∧ b ≠ X.env.locals ∧ b ∉ X.fs ∧ (b ∈ X.ex ∨ X.s₀.heap.objs.size ≤ b) ∧ (∀ x c, X.env.cells.lookup x = some c → c ≠ b) ∧ ∀ p ∈ X.pn ++ pins, p.1 ≠ b
theorem Inv.fpOk {X : Cx} {pins : List (Addr × Obj)} {σ : St} {H H' : Hp} {s : Shared} {b : Addr} (I : Inv X pins σ H s) (hb : s.heap.objs.size ≤ b) (hn : H' b = none) : FpOk X pins H' b := by
  refine ⟨hn, Nat.ne_of_gt (Nat.lt_of_lt_of_le I.lt hb), I.nofs hb, .inr (Nat.le_trans I.sz hb), fun x c e z => ?_, fun p hp z => ?_⟩
  · obtain ⟨v, q⟩ := I.cell x c e
    exact absurd (Nat.lt_of_lt_of_le q.lt (by rw [z]; exact hb)) (Nat.lt_irrefl _)
  · exact absurd (Nat.lt_of_lt_of_le (Heap.lt_size (I.pin p hp).1) (by rw [z]; exact hb)) (Nat.lt_irrefl _)
structure Turn (P : Program) (w : World) (K : PySem.W.Frag) (tg : Expr) (J : It) (fp : List Addr) (it : Addr) (tn : Nat → Heap → Prop) : Prop where
  mem : it ∈ fp
  obj : ∀ i h, tn i h → ∀ b ∈ fp, ∃ o, h.get? b = some o ∧ ∀ v, o.data ≠ .cell v
  keep : ∀ i h h', tn i h → (∀ b ∈ fp, ∀ o, h.get? b = some o → h'.get? b = some o) → tn i h'
  item : ∀ (X : Cx), X.prog = P → X.w = w → X.K = K → X.calm = true → ∀ (i : Nat) (pins : List (Addr × Obj)) (s : Shared) (σ : St) (H : Hp) (E : Value → Shared → Prop), Inv X pins σ H s → (∀ b ∈ fp, FpOk X pins H b) → tn i s.heap → J.go i H →
    wpAny (model P w) X.A (pyNext (.ref it)) (fun r s1 => ∃ u, r = some u ∧
      wpAny (model P w) X.A (letOwnedTupleGo tg (.ref it) u) (fun _ s2 => ∃ x H', Inv X pins σ H' s2 ∧ RelV x u ∧ J.yld i H x H' ∧ tn (i + 1) s2.heap ∧ ∀ b ∈ fp, H' b = none) E s1) E s
  done : ∀ (X : Cx), X.prog = P → X.w = w → X.K = K → X.calm = true → ∀ (i : Nat) (pins : List (Addr × Obj)) (s : Shared) (σ : St) (H : Hp) (E : Value → Shared → Prop), Inv X pins σ H s → (∀ b ∈ fp, FpOk X pins H b) → tn i s.heap → J.stop i H →
    wpAny (model P w) X.A (pyNext (.ref it)) (fun r s1 => r = none ∧ Inv X pins σ H s1) E s
  self : ∀ (A : Around) (i : Nat) (s : Shared) (Q : Value → Shared → Prop) (E : Value → Shared → Prop), tn i s.heap → Q (.ref it) s → wpAny (model P w) A (pyIter (.ref it)) Q E s
abbrev TI := St → Hp → (It → Hp → Prop) → Prop
/-- an iterator has come -/
def PIE (X : Cx) (pins : List (Addr × Obj)) (σ : St) (tg : Expr) (R : It → Hp → Prop) (itv : Value) (s2 : Shared) : Prop :=
  ∃ (it : Addr) (fp : List Addr) (tn : Nat → Heap → Prop) (J : It) (H' : Hp), itv = .ref it ∧ Inv X pins σ H' s2 ∧ Turn X.prog X.w X.K tg J fp it tn ∧ tn 0 s2.heap ∧ (∀ b ∈ fp, FpOk X pins H' b) ∧ R J H'
def PI (X : Cx) (tg iter : Expr) (wi : TI) : Prop :=
  ∀ (pins : List (Addr × Obj)) (s : Shared) (σ : St) (H : Hp) (R : It → Hp → Prop), Inv X pins σ H s → wi σ H R →
    wpAny (model X.prog X.w) X.A (eval iter X.env) (fun v s1 => wpAny (model X.prog X.w) X.A (pyIter v) (PIE X pins σ tg R) X.xe s1) X.xe s

/-- the step ahead of the store is nothing for an iterator that keeps no tuple -/
theorem go_of {M : Model} {A : Around} {E : Value → Shared → Prop} {s : Shared} {tg : Expr} {it : Addr} {u : Value} {o : Obj} {n : String} {vs : Array Value} {Q : Unit → Shared → Prop} (ho : s.heap.get? it = some o) (hc : o.cls = .type n) (hd : o.data = .fields vs)
    (hn : ["enumerate", "zip", "dict_itemiterator", "dict_reverseitemiterator", "odict_iterator", "itertools.zip_longest", "itertools.pairwise"].contains n = false) (hQ : Q () s) : wpAny M A (letOwnedTupleGo tg (.ref it) u) Q E s := by
  unfold letOwnedTupleGo
  cases tg <;> first
    | exact wpAny_pure hQ
    | (cases u <;> first
        | exact wpAny_pure hQ
        | (refine wpAny_bind (wpAny_load ho ?_)
           rw [hc, hd]
           show wpAny M A (if (["enumerate", "zip", "dict_itemiterator", "dict_reverseitemiterator", "odict_iterator", "itertools.zip_longest", "itertools.pairwise"].contains n && vs[0]? == some (rawInt _)) = true then _ else _) Q E s
           rw [if_neg (by intro h; rw [hn, Bool.false_and] at h; cases h)]
           exact wpAny_pure hQ))

/-- the list at a, as it stands at each turn (a loop may append to it) -/
def Itl (K : PySem.W.Frag) (a : Addr) : It :=
  ⟨fun i H => ∃ xs x, SqL K H a xs ∧ xs[i]? = some x, fun i H x H' => H' = H ∧ ∀ xs, SqL K H a xs → xs[i]? = some x, fun i H => ∃ xs, SqL K H a xs ∧ xs.length ≤ i⟩
def Itt (K : PySem.W.Frag) (a : Addr) : It :=
  ⟨fun i H => ∃ xs x, SqT K H a xs ∧ xs[i]? = some x, fun i H x H' => H' = H ∧ ∀ xs, SqT K H a xs → xs[i]? = some x, fun i H => ∃ xs, SqT K H a xs ∧ xs.length ≤ i⟩
/-- lo, lo + 1, .. (n of them) -/
def Itr (lo : Int) (n : Nat) : It := ⟨fun i _ => i < n, fun i H x H' => H' = H ∧ x = .int (lo + i), fun i _ => n ≤ i⟩
theorem turn_list {P : Program} {w : World} {K : PySem.W.Frag} {tg : Expr} (a it : Addr) : Turn P w K tg (Itl K a) [it] it (fun i h => h.IsListIter it a i) where
  mem := by simp
  obj := fun i h st b hb => by
    have e : b = it := by simpa using hb
    subst e
    obtain ⟨o, e, c, d⟩ := st
    exact ⟨o, e, fun v z => by rw [d] at z; cases z⟩
  keep := fun i h h' st k => st.at fun o e => k it (by simp) o e
  item := by
    intro X hP hw hK hc i pins s σ H E I hf st hg
    subst hP hw hK
    obtain ⟨xs, x, hq, hx⟩ := hg
    obtain ⟨its, rv, p, hz⟩ := I.list hq
    obtain ⟨u, hu, ru⟩ := rv.get hx
    obtain ⟨f0, f1, f2, f3, f4, f5⟩ := hf it (by simp)
    refine wpAny_pyNext_list_item st p.isList (x := u) (by simpa using hu) fun h' st' sb => ?_
    have I1 : Inv X pins σ H { s with heap := h' } := I.turned (t' := s.toks) (fun b o hb e => (sb.2 b hb).trans e) f0 f1 f3 f4 f5
    obtain ⟨o, e, c, d⟩ := id st'
    exact ⟨u, rfl, go_of (s := { s with heap := h' }) e c d (by decide) ⟨x, H, I1, ru, ⟨rfl, fun ys hy => by rw [I.list_inj hy hq]; exact hx⟩, st', fun b hb => (hf b hb).1⟩⟩
  done := by
    intro X hP hw hK hc i pins s σ H E I hf st hg
    subst hP hw hK
    obtain ⟨xs, hq, hx⟩ := hg
    obtain ⟨its, rv, p, hz⟩ := I.list hq
    obtain ⟨f0, f1, f2, f3, f4, f5⟩ := hf it (by simp)
    have hl := rv.length
    exact wpAny_pyNext_list_end (I.ok.hd hc) st p.isList (by simp; omega) fun h' eb => ⟨rfl, I.turned (t' := s.toks) (fun b o hb e => eb b o hb e) f0 f1 f3 f4 f5⟩
  self := fun _ _ _ _ _ st h => wpAny_pyIter_listiter st h
theorem turn_tuple {P : Program} {w : World} {K : PySem.W.Frag} {tg : Expr} (a it : Addr) : Turn P w K tg (Itt K a) [it] it (fun i h => h.IsTupleIter it a i) where
  mem := by simp
  obj := fun i h st b hb => by
    have e : b = it := by simpa using hb
    subst e
    obtain ⟨o, e, c, d⟩ := st
    exact ⟨o, e, fun v z => by rw [d] at z; cases z⟩
  keep := fun i h h' st k => st.at fun o e => k it (by simp) o e
  item := by
    intro X hP hw hK hc i pins s σ H E I hf st hg
    subst hP hw hK
    obtain ⟨xs, x, hq, hx⟩ := hg
    obtain ⟨its, rv, p, hz⟩ := I.tuple hq
    obtain ⟨u, hu, ru⟩ := rv.get hx
    obtain ⟨f0, f1, f2, f3, f4, f5⟩ := hf it (by simp)
    refine wpAny_pyNext_tuple_item st (show s.heap.IsTuple a its.toArray from p) (x := u) (by simpa using hu) fun h' st' sb => ?_
    have I1 : Inv X pins σ H { s with heap := h' } := I.turned (t' := s.toks) (fun b o hb e => (sb.2 b hb).trans e) f0 f1 f3 f4 f5
    obtain ⟨o, e, c, d⟩ := id st'
    exact ⟨u, rfl, go_of (s := { s with heap := h' }) e c d (by decide) ⟨x, H, I1, ru, ⟨rfl, fun ys hy => by rw [I.tuple_inj hy hq]; exact hx⟩, st', fun b hb => (hf b hb).1⟩⟩
  done := by
    intro X hP hw hK hc i pins s σ H E I hf st hg
    subst hP hw hK
    obtain ⟨xs, hq, hx⟩ := hg
    obtain ⟨its, rv, p, hz⟩ := I.tuple hq
    obtain ⟨f0, f1, f2, f3, f4, f5⟩ := hf it (by simp)
    have hl := rv.length
    exact wpAny_pyNext_tuple_end (I.ok.hd hc) st (show s.heap.IsTuple a its.toArray from p) (by simp; omega) fun h' eb => ⟨rfl, I.turned (t' := s.toks) (fun b o hb e => eb b o hb e) f0 f1 f3 f4 f5⟩
  self := fun _ _ _ _ _ st h => wpAny_pyIter_tupleiter st h
theorem turn_range {P : Program} {w : World} {K : PySem.W.Frag} {tg : Expr} (it : Addr) (lo : Int) (n : Nat) : Turn P w K tg (Itr lo n) [it] it (fun i h => IsRangeIter h it (lo + (i : Nat) * 1) ((n : Int) - (i : Nat)) 1) where
  mem := by simp
  obj := fun i h st b hb => by
    have e : b = it := by simpa using hb
    subst e
    exact ⟨_, st, fun v z => by
      have z' : Data.fields _ = Data.cell v := z
      cases z'⟩
  keep := fun i h h' st k => k it (by simp) _ st
  item := by
    intro X hP hw hK hc i pins s σ H E I hf st hg
    subst hP hw hK
    obtain ⟨f0, f1, f2, f3, f4, f5⟩ := hf it (by simp)
    have W := Walks.range (prog := X.prog) (w := X.w) (I.ok.hd hc) it lo 1 n
    refine W.item i s _ _ hg st fun v h' tk hv st' kk => ?_
    obtain ⟨t, rfl⟩ := hv
    have I1 : Inv X pins σ H { s with heap := h', toks := tk } := I.turned (fun b o hb e => kk b o (by simpa using hb) e) f0 f1 f3 f4 f5
    refine ⟨_, rfl, go_of (s := { s with heap := h', toks := tk }) (n := "range_iterator") st' rfl rfl (by decide) ⟨.int (lo + i), H, I1, ⟨t, ?_⟩, ⟨rfl, rfl⟩, st', fun b hb => (hf b hb).1⟩⟩
    rw [Int.mul_one]
  done := by
    intro X hP hw hK hc i pins s σ H E I hf st hg
    subst hP hw hK
    obtain ⟨f0, f1, f2, f3, f4, f5⟩ := hf it (by simp)
    exact wpAny_pyNext_range_end (I.ok.hd hc) st (by have : n ≤ i := hg; omega) fun h' eb => ⟨rfl, I.turned (t' := s.toks) (fun b o hb e => eb b o hb e) f0 f1 f3 f4 f5⟩
  self := fun _ _ _ _ _ st h => wpAny_pyIter_rangeiter st h
end L2

namespace L2
open PySem PySem.Spec PyProof.Rows
section
variable {X : Cx} {tg : Expr}
def iList (K : PySem.W.Frag) (tl : TE) : TI := fun σ H R => tl σ H fun x H1 => ∃ a, x = .ref a ∧ (∃ xs, SqL K H1 a xs) ∧ R (Itl K a) H1
def iTup (K : PySem.W.Frag) (tl : TE) : TI := fun σ H R => tl σ H fun x H1 => ∃ a, x = .ref a ∧ (∃ xs, SqT K H1 a xs) ∧ R (Itt K a) H1
theorem pi_list {l : Expr} {tl : TE} (hl : PE X l tl) : PI X tg l (iList X.K tl) := by
  intro pins s σ H R I h
  refine thn (hl pins s σ H _ I h) fun v s1 ⟨x, H1, I1, r1, q1⟩ => ?_
  obtain ⟨a, e, ⟨xs, hq⟩, q⟩ := q1
  subst e
  cases r1
  obtain ⟨its, rv, p, hz⟩ := I1.list hq
  refine wpAny_pyIter_list p.isList ?_
  refine ⟨s1.heap.objs.size, [s1.heap.objs.size], _, _, H1, rfl, I1.kept (t' := s1.toks) fun b o e => Heap.get?_push_of_some _ e, turn_list a _, ⟨_, Heap.get?_push_size _ rfl, rfl, rfl⟩, fun b hb => ?_, q⟩
  have e : b = s1.heap.objs.size := by simpa using hb
  subst e
  exact I1.fpOk (Nat.le_refl _) (I1.hok.fresh (Nat.le_refl _))
theorem pi_tup {l : Expr} {tl : TE} (hl : PE X l tl) : PI X tg l (iTup X.K tl) := by
  intro pins s σ H R I h
  refine thn (hl pins s σ H _ I h) fun v s1 ⟨x, H1, I1, r1, q1⟩ => ?_
  obtain ⟨a, e, ⟨xs, hq⟩, q⟩ := q1
  subst e
  cases r1
  obtain ⟨its, rv, p, hz⟩ := I1.tuple hq
  refine wpAny_pyIter_tuple (show s1.heap.IsTuple a its.toArray from p) ?_
  refine ⟨s1.heap.objs.size, [s1.heap.objs.size], _, _, H1, rfl, I1.kept (t' := s1.toks) fun b o e => Heap.get?_push_of_some _ e, turn_tuple a _, ⟨_, Heap.get?_push_size _ rfl, rfl, rfl⟩, fun b hb => ?_, q⟩
  have e : b = s1.heap.objs.size := by simpa using hb
  subst e
  exact I1.fpOk (Nat.le_refl _) (I1.hok.fresh (Nat.le_refl _))
/-- a range object just made, walked -/
theorem range_it {pins : List (Addr × Obj)} {σ : St} {H : Hp} {s : Shared} {R : It → Hp → Prop} {E : Value → Shared → Prop} {lo hi : Int} {t u v : Tok} {tk : Nat} (I : Inv X pins σ H s) (h1 : -(2 ^ 62) ≤ lo) (h2 : lo < 2 ^ 62) (h3 : -(2 ^ 62) ≤ hi) (h4 : hi < 2 ^ 62)
    (q : R (Itr lo (hi - lo).toNat) H) : wpAny (model X.prog X.w) X.A (pyIter (.ref s.heap.objs.size)) (PIE X pins σ tg R) E { s with heap := s.heap.push { cls := .type "range", data := .fields #[.int lo t, .int hi u, .int 1 v] }, toks := tk } := by
  refine wpAny_pyIter_range (IsRange.new ..) (small_one h1 h2 h3 h4) ?_
  have I1 : Inv X pins σ H { s with heap := s.heap.push { cls := .type "range", data := .fields #[.int lo t, .int hi u, .int 1 v] }, toks := tk } := I.kept fun b o e => Heap.get?_push_of_some _ e
  refine ⟨(s.heap.push { cls := .type "range", data := .fields #[.int lo t, .int hi u, .int 1 v] }).objs.size, [(s.heap.push { cls := .type "range", data := .fields #[.int lo t, .int hi u, .int 1 v] }).objs.size], _, _, H, rfl,
    I1.kept (t' := tk) fun b o e => Heap.get?_push_of_some _ e, turn_range _ lo (hi - lo).toNat, ?_, fun b hb => ?_, q⟩
  · have e1 : lo + ((0 : Nat) : Int) * 1 = lo := by simp
    have e2 : (((hi - lo).toNat : Nat) : Int) - ((0 : Nat) : Int) = Builtin.Range.rangeSize lo hi 1 := by rw [rangeSize_one]; split <;> omega
    show IsRangeIter _ _ (lo + ((0 : Nat) : Int) * 1) ((((hi - lo).toNat : Nat) : Int) - ((0 : Nat) : Int)) 1
    rw [e1, e2]
    exact Heap.get?_push_size _ rfl
  · have e : b = (s.heap.push { cls := .type "range", data := .fields #[.int lo t, .int hi u, .int 1 v] }).objs.size := by simpa using hb
    subst e
    exact I1.fpOk (Nat.le_refl _) (I1.hok.fresh (Nat.le_refl _))
def iRng1 (ta : TA) : TI := fun σ H R => ta σ H fun vs H1 => ∃ j : Int, vs = [.int j] ∧ -(2 ^ 62) ≤ j ∧ j < 2 ^ 62 ∧ R (Itr 0 j.toNat) H1
def iRng2 (ta : TA) : TI := fun σ H R => ta σ H fun vs H1 => ∃ i j : Int, vs = [.int i, .int j] ∧ (-(2 ^ 62) ≤ i ∧ i < 2 ^ 62 ∧ -(2 ^ 62) ≤ j ∧ j < 2 ^ 62) ∧ R (Itr i (j - i).toNat) H1
theorem pi_range1 {a : Expr} {ta : TA} {p pos : Pos} (hg : Gl X "range") (hm : X.mg "range" = none) (ha : PA X [a] ta) (hs : starEach [a] X.env = [(false, eval a X.env)] := by rfl) : PI X tg (.Call (.Name "range" p) [a] [] pos) (iRng1 ta) := by
  intro pins s σ H R I h
  refine Call_ (ld_blt I hg hm boot_range (PyProof.Rows.callWith_type1 (thn (ha pos pins s σ H _ I h) fun us s1 ⟨vs, H1, I1, r1, q1⟩ => ?_) hs rfl))
  obtain ⟨j, e, q1, q2, q⟩ := q1
  subst e
  cases r1 with
  | cons r rr =>
    cases rr
    obtain ⟨t, rfl⟩ := r
    exact call_range_1 (range_it I1 (by omega) (by omega) q1 q2 (by simpa using q))
/-! ### for -/
/-- W: the invariant by the turn and a measure; N: what the body is to reach -/
def tFor (wi : TI) (g : TG) (tb : TS) : TS := fun D σ H => wi σ H fun J H1 => ∃ W : Nat → Nat → St → Hp → Prop, (∃ m, W 0 m σ H1) ∧ ∀ i m σ H, W i m σ H →
  (J.stop i H ∧ D.nx σ H) ∨ (J.go i H ∧ ∃ N : St → Hp → Prop, (∀ σ' H', N σ' H' → ∃ m', m' < m ∧ W (i + 1) m' σ' H') ∧ ∀ x H', J.yld i H x H' → g x σ H' fun σ2 H2 => tb { D with nx := N, ct := N, bk := D.nx } σ2 H2)
/-- the records at fp as they stand -/
def pinsAt (fp : List Addr) (h : Heap) : List (Addr × Obj) := fp.filterMap fun b => (h.get? b).map fun o => (b, o)
theorem mem_pinsAt {fp : List Addr} {h : Heap} {b : Addr} {o : Obj} (hb : b ∈ fp) (e : h.get? b = some o) : (b, o) ∈ pinsAt fp h := List.mem_filterMap.mpr ⟨b, hb, by rw [e]; rfl⟩
theorem of_pinsAt {fp : List Addr} {h : Heap} {p : Addr × Obj} (hp : p ∈ pinsAt fp h) : p.1 ∈ fp ∧ h.get? p.1 = some p.2 := by
  obtain ⟨b, hb, e⟩ := List.mem_filterMap.mp hp
  cases q : h.get? b with
  | none => rw [q] at e; cases e
  | some o =>
    rw [q] at e
    have e' : (b, o) = p := Option.some.inj e
    subst e'
    exact ⟨hb, q⟩
theorem Inv.pinned {pins : List (Addr × Obj)} {σ : St} {H : Hp} {s : Shared} {fp : List Addr} (I : Inv X pins σ H s) (hf : ∀ b ∈ fp, FpOk X pins H b) (ho : ∀ b ∈ fp, ∃ o, s.heap.get? b = some o ∧ ∀ v, o.data ≠ .cell v) : Inv X (pins ++ pinsAt fp s.heap) σ H s :=
  I.pins_of fun p hp => (List.mem_append.mp hp).elim (fun z => I.pin p (List.mem_append_right _ z)) fun z => by
    obtain ⟨hb, e⟩ := of_pinsAt z
    obtain ⟨f0, f1, f2, _⟩ := hf p.1 hb
    obtain ⟨o, e', d⟩ := ho p.1 hb
    rw [e] at e'; cases e'
    exact ⟨e, f0, f1, f2, d⟩
theorem Inv.unpinned {pins pl : List (Addr × Obj)} {σ : St} {H : Hp} {s : Shared} (I : Inv X (pins ++ pl) σ H s) : Inv X pins σ H s := I.pins_of fun p hp => I.pin p (List.mem_append_right _ (List.mem_append_left _ hp))
theorem ps_for {iter : Expr} {body : List Stmt} {wi : TI} {g : TG} {tb : TS} {pos : Pos} (hp : PassesOwn (model X.prog X.w) X.A X.env X.xe) (hc : X.calm = true) (hi : PI X tg iter wi) (hg : PG X tg g) (hb : PSs X body tb)
    (hs : ∀ x, foldedSetIterable iter X.env x = pure x := by intro _; rfl) : PS X (.For tg iter body [] pos) (tFor wi g tb) := by
  intro pins s σ H D I h
  refine wpAny_For (thn (hi pins s σ H _ I h) fun v s1 h1 => thn h1 fun itv s2 h2 => ?_) hs
  obtain ⟨it, fp, tn, J, H2, e, I2, T, st2, f2, W, ⟨m0, w0⟩, turn⟩ := h2
  subst e
  -- what stays true of the iterator's objects through the loop
  have stat : ∀ {H' : Hp}, (∀ b ∈ fp, H' b = none) → ∀ b ∈ fp, FpOk X pins H' b := fun hn b hb => ⟨hn b hb, (f2 b hb).2⟩
  refine codeAny_forLoop_any (fun n s' => ∃ i σ' H', Inv X pins σ' H' s' ∧ tn i s'.heap ∧ (∀ b ∈ fp, H' b = none) ∧ W i n σ' H') ?_ m0 ⟨0, σ, H2, I2, st2, fun b hb => (f2 b hb).1, w0⟩
  rintro n s3 ⟨i, σ3, H3, I3, st3, fr3, w3⟩
  rcases turn i n σ3 H3 w3 with ⟨stop, qn⟩ | ⟨go, N, hN, step⟩
  · refine wpAny_passesOwn hp (thn (T.done X rfl rfl rfl hc i pins s3 σ3 H3 X.xe I3 (stat fr3) st3 stop) fun r s4 ⟨hr, I4⟩ => ?_)
    subst hr
    exact wpAny_execs_nil ⟨σ3, H3, I4, qn⟩
  · refine wpAny_passesOwn hp (thn (T.item X rfl rfl rfl hc i pins s3 σ3 H3 X.xe I3 (stat fr3) st3 go) fun r s4 ⟨u, hr, h4⟩ => ?_)
    subst hr
    refine wpAny_passesOwn hp (thn h4 fun _ s5 ⟨x, H5, I5, r5, y5, st5, fr5⟩ => ?_)
    have I5' := I5.pinned (stat fr5) (T.obj _ _ st5)
    refine wpAny_passesOwn hp (thn (hg _ s5 σ3 H5 x u _ I5' r5 (step x H5 y5)) fun _ s6 ⟨σ6, H6, I6, q6⟩ => ?_)
    refine wpAny_passesOwn hp (thn (hb _ s6 σ6 H6 _ I6 q6) fun f s7 q7 => ?_)
    have again : ∀ {σ7 : St} {H7 : Hp}, Inv X (pins ++ pinsAt fp s5.heap) σ7 H7 s7 → N σ7 H7 → ∃ m, m < n ∧ ∃ i σ' H', Inv X pins σ' H' s7 ∧ tn i s7.heap ∧ (∀ b ∈ fp, H' b = none) ∧ W i m σ' H' := fun {σ7 H7} I7 n7 => by
      obtain ⟨m', hm, w7⟩ := hN σ7 H7 n7
      refine ⟨m', hm, i + 1, σ7, H7, I7.unpinned, T.keep _ _ _ st5 fun b hb o e => (I7.pin (b, o) (List.mem_append_right _ (List.mem_append_right _ (mem_pinsAt hb e)))).1, fun b hb => ?_, w7⟩
      obtain ⟨o, e, d⟩ := T.obj _ _ st5 b hb
      exact (I7.pin (b, o) (List.mem_append_right _ (List.mem_append_right _ (mem_pinsAt hb e)))).2.1
    cases f with
    | next => obtain ⟨σ7, H7, I7, n7⟩ := q7; exact again I7 n7
    | cont => obtain ⟨σ7, H7, I7, n7⟩ := q7; exact again I7 n7
    | brk => obtain ⟨σ7, H7, I7, q7⟩ := q7; exact ⟨σ7, H7, I7.unpinned, q7⟩
    | ret v => obtain ⟨x7, σ7, H7, I7, r7, q7⟩ := q7; exact ⟨x7, σ7, H7, I7.unpinned, r7, q7⟩
end

/-! ### the forms one uses -/
theorem for_tup {K : PySem.W.Frag} {a : Addr} {xs : List V} {g : TG} {tb : TS} {D : Ends} {σ : St} {H : Hp} (Pv : Nat → St → Hp → Prop) (h0 : Pv 0 σ H) (hl : ∀ i σ H, i ≤ xs.length → Pv i σ H → SqT K H a xs)
    (hs : ∀ i x σ H, xs[i]? = some x → Pv i σ H → g x σ H fun σ2 H2 => tb { D with nx := Pv (i + 1), ct := Pv (i + 1), bk := D.nx } σ2 H2) (hd : ∀ σ H, Pv xs.length σ H → D.nx σ H) :
    ∃ W : Nat → Nat → St → Hp → Prop, (∃ m, W 0 m σ H) ∧ ∀ i m σ H, W i m σ H →
      ((Itt K a).stop i H ∧ D.nx σ H) ∨ ((Itt K a).go i H ∧ ∃ N : St → Hp → Prop, (∀ σ' H', N σ' H' → ∃ m', m' < m ∧ W (i + 1) m' σ' H') ∧ ∀ x H', (Itt K a).yld i H x H' → g x σ H' fun σ2 H2 => tb { D with nx := N, ct := N, bk := D.nx } σ2 H2) := by
  refine ⟨fun i m σ H => m = xs.length - i ∧ i ≤ xs.length ∧ Pv i σ H, ⟨xs.length, by simp, Nat.zero_le _, h0⟩, ?_⟩
  rintro i m σ H ⟨rfl, hi, p⟩
  have q := hl i σ H hi p
  by_cases hlt : i < xs.length
  · refine .inr ⟨⟨xs, xs[i], q, by simp [hlt]⟩, Pv (i + 1), fun σ' H' p' => ⟨xs.length - (i + 1), by omega, rfl, hlt, p'⟩, fun x H' y => ?_⟩
    obtain ⟨e, y⟩ := y
    subst e
    exact hs i x σ _ (y xs q) p
  · have e : i = xs.length := by omega
    subst e
    exact .inl ⟨⟨xs, q, Nat.le_refl _⟩, hd σ H p⟩
theorem for_range {lo : Int} {n : Nat} {g : TG} {tb : TS} {D : Ends} {σ : St} {H : Hp} (Pv : Nat → St → Hp → Prop) (h0 : Pv 0 σ H)
    (hs : ∀ i σ H, i < n → Pv i σ H → g (.int (lo + i)) σ H fun σ2 H2 => tb { D with nx := Pv (i + 1), ct := Pv (i + 1), bk := D.nx } σ2 H2) (hd : ∀ σ H, Pv n σ H → D.nx σ H) :
    ∃ W : Nat → Nat → St → Hp → Prop, (∃ m, W 0 m σ H) ∧ ∀ i m σ H, W i m σ H →
      ((Itr lo n).stop i H ∧ D.nx σ H) ∨ ((Itr lo n).go i H ∧ ∃ N : St → Hp → Prop, (∀ σ' H', N σ' H' → ∃ m', m' < m ∧ W (i + 1) m' σ' H') ∧ ∀ x H', (Itr lo n).yld i H x H' → g x σ H' fun σ2 H2 => tb { D with nx := N, ct := N, bk := D.nx } σ2 H2) := by
  refine ⟨fun i m σ H => m = n - i ∧ i ≤ n ∧ Pv i σ H, ⟨n, by simp, Nat.zero_le _, h0⟩, ?_⟩
  rintro i m σ H ⟨rfl, hi, p⟩
  by_cases hlt : i < n
  · refine .inr ⟨hlt, Pv (i + 1), fun σ' H' p' => ⟨n - (i + 1), by omega, rfl, hlt, p'⟩, fun x H' y => ?_⟩
    obtain ⟨e, y⟩ := y
    subst e y
    exact hs i σ _ hlt p
  · have e : i = n := by omega
    subst e
    exact .inl ⟨Nat.le_refl _, hd σ H p⟩
end L2

namespace L2
open PySem PySem.Spec PyProof.Rows

abbrev R2 := V → V → Hp → VK → Prop
/-- a two-place operation on values: f is binaryOp op, inplaceOp op or compareOp op -/
def OpR (X : Cx) (f : Value → Value → Sem Value) (r : R2) : Prop :=
  ∀ (pins : List (Addr × Obj)) (s : Shared) (σ : St) (H : Hp) (x y : V) (v u : Value) (Q : VK), Inv X pins σ H s → RelV x v → RelV y u → r x y H Q →
    wpAny (model X.prog X.w) X.A (f v u) (EP X pins σ Q) X.xe s
/-- a one-place operation -/
def UnR (X : Cx) (f : Value → Sem Value) (r : V → Hp → VK → Prop) : Prop :=
  ∀ (pins : List (Addr × Obj)) (s : Shared) (σ : St) (H : Hp) (x : V) (v : Value) (Q : VK), Inv X pins σ H s → RelV x v → r x H Q →
    wpAny (model X.prog X.w) X.A (f v) (EP X pins σ Q) X.xe s
/-- a call of a value that is known (a builtin, a type) with values -/
def CallR (X : Cx) (f : Value) (r : List V → Hp → VK → Prop) : Prop :=
  ∀ (pins : List (Addr × Obj)) (s : Shared) (σ : St) (H : Hp) (xs : List V) (us : List Value) (Q : VK), Inv X pins σ H s → Vals xs us → r xs H Q →
    wpAny (model X.prog X.w) X.A (call f us) (EP X pins σ Q) X.xe s
def tOp (r : R2) (ta tb : TE) : TE := fun σ H Q => ta σ H fun x H1 => tb σ H1 fun y H2 => r x y H2 Q
def tUn (r : V → Hp → VK → Prop) (ta : TE) : TE := fun σ H Q => ta σ H fun x H1 => r x H1 Q
/-- ints in, under C, and a value out -/
def rI (C : Int → Int → Prop) (g : Int → Int → V) : R2 := fun x y H Q => ∃ i j, x = .int i ∧ y = .int j ∧ C i j ∧ Q (g i j) H
def rI0 (g : Int → Int → V) : R2 := fun x y H Q => ∃ i j, x = .int i ∧ y = .int j ∧ Q (g i j) H
def rU (g : Int → V) : V → Hp → VK → Prop := fun x H Q => ∃ i, x = .int i ∧ Q (g i) H

section
variable {X : Cx} {a b c : Expr} {ta tb tc : TE} {pos : Pos}

theorem binT (ha : PE X a ta) (hb : PE X b tb) {pins : List (Addr × Obj)} {s : Shared} {σ : St} {H : Hp} {R : V → V → Hp → Prop} (I : Inv X pins σ H s)
    (h : ta σ H fun x H1 => tb σ H1 fun y H2 => R x y H2) {Q : Value → Shared → Prop} {f : Value → Value → Sem Value}
    (hf : ∀ v u s2 x y H2, Inv X pins σ H2 s2 → RelV x v → RelV y u → R x y H2 → wpAny (model X.prog X.w) X.A (f v u) Q X.xe s2) :
    wpAny (model X.prog X.w) X.A (eval a X.env) (fun v s₁ => wpAny (model X.prog X.w) X.A (eval b X.env) (fun u s₂ => wpAny (model X.prog X.w) X.A (f v u) Q X.xe s₂) X.xe s₁) X.xe s := by
  refine thn (ha pins s σ H _ I h) fun v s1 ⟨x, H1, I1, r1, q1⟩ => ?_
  refine thn (hb pins s1 σ H1 _ I1 q1) fun u s2 ⟨y, H2, I2, r2, q2⟩ => ?_
  exact hf v u s2 x y H2 I2 r1 r2 q2

theorem pe_op {op : Operator} {r : R2} (ho : OpR X (binaryOp op) r) (ha : PE X a ta) (hb : PE X b tb) : PE X (.BinOp a op b pos) (tOp r ta tb) := by
  intro pins s σ H Q I h
  exact wpAny_BinOp (binT ha hb I h fun v u s2 x y H2 I2 rx ry q => ho pins s2 σ H2 x y v u Q I2 rx ry q)
theorem pe_un {op : UnaryOp} {r : V → Hp → VK → Prop} (ho : UnR X (unaryOp op) r) (ha : PE X a ta) : PE X (.UnaryOp op a pos) (tUn r ta) := by
  intro pins s σ H Q I h
  exact UnaryOp_ (thn (ha pins s σ H _ I h) fun v s1 ⟨x, H1, I1, r1, q1⟩ => ho pins s1 σ H1 x v Q I1 r1 q1)
/-! ### ints -/
theorem opI {f : Value → Value → Sem Value} {C : Int → Int → Prop} {g : Int → Int → Int}
    (rule : ∀ (i j : Int) (t u : Tok) (s : Shared) (Q : Value → Shared → Prop) (E : Value → Shared → Prop), C i j → Q (.int (g i j) s.toks) { s with toks := s.toks + 1 } → wpAny (model X.prog X.w) X.A (f (.int i t) (.int j u)) Q E s) :
    OpR X f (rI C fun i j => .int (g i j)) := by
  intro pins s σ H x y v u Q I rx ry h
  obtain ⟨i, j, rfl, rfl, hc, q⟩ := h
  obtain ⟨t, rfl⟩ := rx
  obtain ⟨t', rfl⟩ := ry
  exact rule i j t t' s _ _ hc ⟨.int (g i j), H, I.tok _, ⟨_, rfl⟩, q⟩
theorem opI0 {f : Value → Value → Sem Value} {g : Int → Int → Int}
    (rule : ∀ (i j : Int) (t u : Tok) (s : Shared) (Q : Value → Shared → Prop) (E : Value → Shared → Prop), Q (.int (g i j) s.toks) { s with toks := s.toks + 1 } → wpAny (model X.prog X.w) X.A (f (.int i t) (.int j u)) Q E s) :
    OpR X f (rI0 fun i j => .int (g i j)) := by
  intro pins s σ H x y v u Q I rx ry h
  obtain ⟨i, j, rfl, rfl, q⟩ := h
  obtain ⟨t, rfl⟩ := rx
  obtain ⟨t', rfl⟩ := ry
  exact rule i j t t' s _ _ ⟨.int (g i j), H, I.tok _, ⟨_, rfl⟩, q⟩
theorem opB0 {f : Value → Value → Sem Value} {g : Int → Int → Bool}
    (rule : ∀ (i j : Int) (t u : Tok) (s : Shared) (Q : Value → Shared → Prop) (E : Value → Shared → Prop), Q (.bool (g i j)) s → wpAny (model X.prog X.w) X.A (f (.int i t) (.int j u)) Q E s) :
    OpR X f (rI0 fun i j => .bl (g i j)) := by
  intro pins s σ H x y v u Q I rx ry h
  obtain ⟨i, j, rfl, rfl, q⟩ := h
  obtain ⟨t, rfl⟩ := rx
  obtain ⟨t', rfl⟩ := ry
  exact rule i j t t' s _ _ ⟨.bl (g i j), H, I, rfl, q⟩

def CDiv (i j : Int) : Prop := 0 < j ∧ j < 1073741824
def CPow (i j : Int) : Prop := 0 ≤ j ∧ j ≤ 1000000 ∧ i.natAbs < 2 ^ 64
def CMul (i j : Int) : Prop := (-(2 ^ 64) < i ∧ i < 2 ^ 64) ∨ (-(2 ^ 64) < j ∧ j < 2 ^ 64)
theorem CMul.ok {i j : Int} (h : CMul i j) : IntMulOk i j := by
  rcases h with ⟨h1, h2⟩ | ⟨h1, h2⟩
  · exact .of_left (intBits_le_64 h1 h2)
  · exact .of_right (intBits_le_64 h1 h2)
theorem op_add : OpR X (binaryOp .Add) (rI0 fun i j => .int (i + j)) := opI0 fun _ _ _ _ _ _ _ q => add_int q
theorem op_sub : OpR X (binaryOp .Sub) (rI0 fun i j => .int (i - j)) := opI0 fun _ _ _ _ _ _ _ q => sub_int q
theorem op_mul : OpR X (binaryOp .Mult) (rI CMul fun i j => .int (i * j)) := opI fun _ _ _ _ _ _ _ hc q => mul_int q hc.ok
/-- // by a positive divisor -/
theorem op_fdiv : OpR X (binaryOp .FloorDiv) (rI CDiv fun i j => .int (i / j)) := opI fun i j _ _ _ _ _ hc q => by
  have h1 : (0 : Int) < j := hc.1
  have h2 : j < 1073741824 := hc.2
  exact floordiv_int (by omega) (by rw [Int.fdiv_eq_ediv_of_nonneg i (by omega)]; exact q) (.inl (PyProof.noPylong_small (by omega)))
/-- % by a positive divisor of any size -/
theorem op_mod : OpR X (binaryOp .Mod) (rI (fun _ j => 0 < j) fun i j => .int (i % j)) := opI fun i j _ _ _ _ _ hc q => by
  have h1 : (0 : Int) < j := hc
  exact mod_int' (by omega) (by rw [Int.fmod_eq_emod_of_nonneg i (by omega)]; exact q)
theorem op_pow : OpR X (binaryOp .Pow) (rI CPow fun i j => .int (i ^ j.toNat)) := opI fun _ _ _ _ _ _ _ hc q => pow_int_small hc.1 hc.2.1 hc.2.2 q
theorem unI {f : Value → Sem Value} {g : Int → Int}
    (rule : ∀ (i : Int) (t : Tok) (s : Shared) (Q : Value → Shared → Prop) (E : Value → Shared → Prop), Q (.int (g i) s.toks) { s with toks := s.toks + 1 } → wpAny (model X.prog X.w) X.A (f (.int i t)) Q E s) :
    UnR X f (rU fun i => .int (g i)) := by
  intro pins s σ H x v Q I rx h
  obtain ⟨i, rfl, q⟩ := h
  obtain ⟨t, rfl⟩ := rx
  exact rule i t s _ _ ⟨.int (g i), H, I.tok _, ⟨_, rfl⟩, q⟩
theorem un_neg : UnR X (unaryOp .USub) (rU fun i => .int (-i)) := unI fun _ _ _ _ _ q => neg_int q
/-! ### bools among ints: n += (a < b) -/
end

/-! ### comparisons -/
/-- the scalars that == tells apart as data does -/
def scal : V → V → Bool
  | .non, .non => true | .non, .int _ => true | .int _, .non => true | .non, .bl _ => true | .bl _, .non => true | .non, .str _ => true | .str _, .non => true
  | .int _, .int _ => true | .bl _, .bl _ => true | .str _, .str _ => true | .byt _, .byt _ => true
  | .int _, .str _ => true | .str _, .int _ => true | .bl _, .str _ => true | .str _, .bl _ => true
  | _, _ => false
def rEq : R2 := fun x y H Q => scal x y = true ∧ Q (.bl (decide (x = y))) H
def rNe : R2 := fun x y H Q => scal x y = true ∧ Q (.bl (!decide (x = y))) H

theorem dec_int {i j : Int} : decide (V.int i = V.int j) = (i == j) := by
  rw [Bool.eq_iff_iff]
  simp
theorem dec_bl {i j : Bool} : decide (V.bl i = V.bl j) = (i == j) := by
  rw [Bool.eq_iff_iff]
  simp
theorem dec_str {i j : Str} : decide (V.str i = V.str j) = (i == j) := by
  rw [Bool.eq_iff_iff]
  simp
theorem dec_byt {i j : Array UInt8} : decide (V.byt i = V.byt j) = (i.toList == j.toList) := by
  rw [Bool.eq_iff_iff]
  cases i
  cases j
  simp

section
variable {X : Cx} {a b c : Expr} {ta tb tc : TE} {pos : Pos}
theorem fin_bl {pins : List (Addr × Obj)} {σ : St} {H : Hp} {s : Shared} {Q : VK} {k k' : Bool} (I : Inv X pins σ H s) (q : Q (.bl k) H) (e : k = k') : EP X pins σ Q (.bool k') s := by
  subst e
  exact ⟨.bl k, H, I, rfl, q⟩
theorem op_eq : OpR X (compareOp .Eq) rEq := by
  intro pins s σ H x y v u Q I rx ry h
  obtain ⟨hs, q⟩ := h
  cases x with
  | non =>
    cases rx
    cases y with
    | non => cases ry; exact PySem.EqNone.eq_none_none (fin_bl I q (by simp))
    | bl j => cases ry; exact PySem.EqNone.eq_none_bool (fin_bl I q (by simp))
    | int j => obtain ⟨t', rfl⟩ := ry; exact PySem.EqNone.eq_none_int (fin_bl I q (by simp))
    | str j => obtain ⟨t', rfl⟩ := ry; exact PySem.EqNone.eq_none_str (fin_bl I q (by simp))
    | _ => exact absurd (show false = true from hs) Bool.false_ne_true
  | bl i =>
    cases rx
    cases y with
    | non => cases ry; exact PySem.EqNone.eq_bool_none (fin_bl I q (by simp))
    | bl j => cases ry; exact eq_bool (fin_bl I q dec_bl)
    | str j => obtain ⟨t', rfl⟩ := ry; exact PySem.EqMixed.eq_bool_str (fin_bl I q (by simp))
    | _ => exact absurd (show false = true from hs) Bool.false_ne_true
  | int i =>
    obtain ⟨t, rfl⟩ := rx
    cases y with
    | non => cases ry; exact PySem.EqNone.eq_int_none (fin_bl I q (by simp))
    | int j => obtain ⟨t', rfl⟩ := ry; exact eq_int (fin_bl I q dec_int)
    | str j => obtain ⟨t', rfl⟩ := ry; exact PySem.EqMixed.eq_int_str (fin_bl I q (by simp))
    | _ => exact absurd (show false = true from hs) Bool.false_ne_true
  | str i =>
    obtain ⟨t, rfl⟩ := rx
    cases y with
    | non => cases ry; exact PySem.EqNone.eq_str_none (fin_bl I q (by simp))
    | bl j => cases ry; exact PySem.EqMixed.eq_str_bool (fin_bl I q (by simp))
    | int j => obtain ⟨t', rfl⟩ := ry; exact PySem.EqMixed.eq_str_int (fin_bl I q (by simp))
    | str j => obtain ⟨t', rfl⟩ := ry; exact eq_str (fin_bl I q dec_str)
    | _ => exact absurd (show false = true from hs) Bool.false_ne_true
  | byt i =>
    obtain ⟨t, rfl⟩ := rx
    cases y with
    | byt j => obtain ⟨t', rfl⟩ := ry; exact PySem.W.eq_bytes (fin_bl I q dec_byt)
    | _ => exact absurd (show false = true from hs) Bool.false_ne_true
  | _ => cases y <;> exact absurd (show false = true from hs) Bool.false_ne_true
theorem op_ne : OpR X (compareOp .NotEq) rNe := by
  intro pins s σ H x y v u Q I rx ry h
  obtain ⟨hs, q⟩ := h
  cases x with
  | non =>
    cases rx
    cases y with
    | non => cases ry; exact PySem.EqNone.ne_none_none (fin_bl I q (by simp))
    | bl j => cases ry; exact PySem.EqNone.ne_none_bool (fin_bl I q (by simp))
    | int j => obtain ⟨t', rfl⟩ := ry; exact PySem.EqNone.ne_none_int (fin_bl I q (by simp))
    | str j => obtain ⟨t', rfl⟩ := ry; exact PySem.EqNone.ne_none_str (fin_bl I q (by simp))
    | _ => exact absurd (show false = true from hs) Bool.false_ne_true
  | bl i =>
    cases rx
    cases y with
    | non => cases ry; exact PySem.EqNone.ne_bool_none (fin_bl I q (by simp))
    | bl j => cases ry; exact ne_bool (fin_bl I q (congrArg not dec_bl))
    | str j => obtain ⟨t', rfl⟩ := ry; exact PySem.EqMixed.ne_bool_str (fin_bl I q (by simp))
    | _ => exact absurd (show false = true from hs) Bool.false_ne_true
  | int i =>
    obtain ⟨t, rfl⟩ := rx
    cases y with
    | non => cases ry; exact PySem.EqNone.ne_int_none (fin_bl I q (by simp))
    | int j => obtain ⟨t', rfl⟩ := ry; exact ne_int (fin_bl I q (congrArg not dec_int))
    | str j => obtain ⟨t', rfl⟩ := ry; exact PySem.EqMixed.ne_int_str (fin_bl I q (by simp))
    | _ => exact absurd (show false = true from hs) Bool.false_ne_true
  | str i =>
    obtain ⟨t, rfl⟩ := rx
    cases y with
    | non => cases ry; exact PySem.EqNone.ne_str_none (fin_bl I q (by simp))
    | bl j => cases ry; exact PySem.EqMixed.ne_str_bool (fin_bl I q (by simp))
    | int j => obtain ⟨t', rfl⟩ := ry; exact PySem.EqMixed.ne_str_int (fin_bl I q (by simp))
    | str j => obtain ⟨t', rfl⟩ := ry; exact ne_str (fin_bl I q (congrArg not dec_str))
    | _ => exact absurd (show false = true from hs) Bool.false_ne_true
  | byt i =>
    obtain ⟨t, rfl⟩ := rx
    cases y with
    | byt j => obtain ⟨t', rfl⟩ := ry; exact PySem.W.ne_bytes (fin_bl I q (congrArg not dec_byt))
    | _ => exact absurd (show false = true from hs) Bool.false_ne_true
  | _ => cases y <;> exact absurd (show false = true from hs) Bool.false_ne_true

theorem op_lt : OpR X (compareOp .Lt) (rI0 fun i j => .bl (decide (i < j))) := opB0 fun _ _ _ _ _ _ _ q => lt_int q
theorem op_le : OpR X (compareOp .LtE) (rI0 fun i j => .bl (decide (i ≤ j))) := opB0 fun _ _ _ _ _ _ _ q => le_int q
theorem op_gt : OpR X (compareOp .Gt) (rI0 fun i j => .bl (decide (j < i))) := opB0 fun _ _ _ _ _ _ _ q => gt_int q
theorem op_lt_str : OpR X (compareOp .Lt) (fun x y H Q => ∃ i j, x = .str i ∧ y = .str j ∧ Q (.bl (decide (i.cps.toList < j.cps.toList))) H) := by
  intro pins s σ H x y v u Q I rx ry h
  obtain ⟨i, j, rfl, rfl, q⟩ := h
  obtain ⟨t, rfl⟩ := rx
  obtain ⟨t', rfl⟩ := ry
  exact lt_str (fin_bl I q rfl)
/-- the one string within the other -/
theorem op_in_str : OpR X (compareOp .In) (fun x y H Q => ∃ i j, x = .str i ∧ y = .str j ∧ Q (.bl (!(Builtin.Str.occurrences j i 0 j.length 1).isEmpty)) H) := by
  intro pins s σ H x y v u Q I rx ry h
  obtain ⟨i, j, rfl, rfl, q⟩ := h
  obtain ⟨t, rfl⟩ := rx
  obtain ⟨t', rfl⟩ := ry
  exact in_str (fin_bl I q rfl)

/-- is None, is not None: the right side a value none -/
theorem op_isN : OpR X (compareOp .Is) (fun x y H Q => y = .non ∧ Q (.bl (decide (x = .non))) H) := by
  intro pins s σ H x y v u Q I rx ry h
  obtain ⟨rfl, q⟩ := h
  cases ry
  refine is_none_gen (fin_bl I q ?_)
  cases x <;> first
    | (cases rx; rfl)
    | (obtain ⟨t, rfl⟩ := rx; rfl)
theorem op_notN : OpR X (compareOp .IsNot) (fun x y H Q => y = .non ∧ Q (.bl (!decide (x = .non))) H) := by
  intro pins s σ H x y v u Q I rx ry h
  obtain ⟨rfl, q⟩ := h
  cases ry
  refine isnot_none_gen (fin_bl I q ?_)
  cases x <;> first
    | (cases rx; rfl)
    | (obtain ⟨t, rfl⟩ := rx; rfl)

/-- two rules for one operation: by cases -/
theorem OpR.or {f : Value → Value → Sem Value} {r r' : R2} (h : OpR X f r) (h' : OpR X f r') : OpR X f (fun x y H Q => r x y H Q ∨ r' x y H Q) := by
  intro pins s σ H x y v u Q I rx ry q
  rcases q with q | q
  · exact h pins s σ H x y v u Q I rx ry q
  · exact h' pins s σ H x y v u Q I rx ry q

theorem nomark (b : Expr) {op : CmpOp} (h : op ≠ .In := by decide) (h2 : op ≠ .NotIn := by decide) : behindInMarks op b = false := by
  have e1 : (op == CmpOp.In) = false := by cases op <;> first | rfl | exact absurd rfl h
  have e2 : (op == CmpOp.NotIn) = false := by cases op <;> first | rfl | exact absurd rfl h2
  cases b <;> simp [behindInMarks, e1, e2]
/-- a comparison as a value; hm: nomark b, or (for in, not in) by with_unfolding_all rfl -/
theorem pe_cmpR {op : CmpOp} {r : R2} (ho : OpR X (compareOp op) r) (ha : PE X a ta) (hb : PE X b tb) (hm : behindInMarks op b = false) : PE X (.Compare a [op] [b] pos) (tOp r ta tb) := by
  intro pins s σ H Q I h
  exact wpAny_Compare1 (binT ha hb I h fun v u s2 x y H2 I2 rx ry q => ho pins s2 σ H2 x y v u Q I2 rx ry q) hm
/-- a reading of a value as a test -/
def tTest (t : TE) : TT := fun σ H Q => t σ H fun x H' => ∃ k, x = .bl k ∧ Q k H'
theorem pt_cmpR {op : CmpOp} {r : R2} (ho : OpR X (compareOp op) r) (ha : PE X a ta) (hb : PE X b tb) (hm : behindInMarks op b = false) : PT X (.Compare a [op] [b] pos) (tTest (tOp r ta tb)) := by
  intro pins s σ H Q I h
  refine wpAny_isTrue_Compare1 (thn (ha pins s σ H _ I h) fun v s1 ⟨x, H1, I1, r1, q1⟩ => thn (hb pins s1 σ H1 _ I1 q1) fun u s2 ⟨y, H2, I2, r2, q2⟩ =>
    thn (ho pins s2 σ H2 x y v u _ I2 r1 r2 q2) fun c s3 ⟨z, H3, I3, r3, k, e, q3⟩ => ?_) hm
  subst e
  cases r3
  exact wpAny_truthy_bool ⟨H3, I3, q3⟩
/-- a op1 b op2 c -/
def tChain (r r' : R2) (ta tb tc : TE) : TE := fun σ H Q => ta σ H fun x H1 => tb σ H1 fun y H2 => r x y H2 fun z H3 => ∃ k, z = .bl k ∧
  (if k = true then tc σ H3 fun w' H4 => r' y w' H4 Q else Q (.bl false) H3)
/-! ### truth -/
theorem line63 : (sizeLine : Nat) < 2 ^ 63 := by rw [sizeLine_eq]; decide
/-! ### strs and bytes -/
/-! ### scalar builtins, by CallR -/
theorem vals1 {x : V} {us : List Value} (r : Vals [x] us) : ∃ u, us = [u] ∧ RelV x u := by
  cases r with
  | cons r1 r2 => cases r2; exact ⟨_, rfl, r1⟩
end
end L2

namespace L2
open PySem PySem.Spec PyProof.Rows

/-! ### an instance, its attributes a map -/
structure ObjM (h : Heap) (x dx C : Addr) (mA : Str → Option Value) : Prop where
  obj : h.get? x = some (PySem.W.instObj C dx)
  ns : h.Ns1 dx mA
  ne : dx ≠ x

theorem lookIn_ns {h : Heap} {dx : Addr} {mA : Str → Option Value} (n : h.Ns1 dx mA) : ∃ od, h.get? dx = some od ∧ ∀ name, PySem.W.lookIn name od = some (mA name) := by
  obtain ⟨o, es, ep, ho, hd, hk, _, hm⟩ := n
  refine ⟨o, ho, fun name => ?_⟩
  have e := hm name
  unfold nsFind findBy at e
  rw [← Array.find?_toList] at e
  unfold PySem.W.lookIn
  rw [hd]
  dsimp only
  split
  · rename_i y q
    rw [q] at e
    exact congrArg some e
  · rename_i q
    rw [q] at e
    have a : es.toList.any (·.refKey) = false := by
      rw [List.any_eq_false]
      intro y hy
      obtain ⟨z, t, hkey⟩ := hk y (Array.mem_toList_iff.mp hy)
      simp [DictEntry.refKey, hkey]
    have a' : ¬ es.toList.any (·.refKey) = true := by rw [a]; exact Bool.false_ne_true
    rw [if_neg a']
    exact congrArg some e

theorem ObjM.look {h : Heap} {x dx C : Addr} {mA : Str → Option Value} (I : ObjM h x dx C mA) : ∃ od, PySem.W.InstAt h x (PySem.W.instObj C dx) C (some od) ∧ ∀ name, PySem.W.lookIn name od = some (mA name) :=
  let ⟨od, ho, hl⟩ := lookIn_ns I.ns
  ⟨od, ⟨I.obj, rfl, rfl, ho⟩, hl⟩

section
variable {prog : Program} {w : World} {A : Around} {E : Value → Shared → Prop} {s : Shared} {K : PySem.W.Frag} {x dx C f : Addr} {mA : Str → Option Value} {name : Str} {v : Value}

end

/-! ### the attributes as a list of pairs -/
section
variable {P : Program} {w : World} {H H' : Hp} {h h' : Heap} {a C dx : Addr} {fs fs' : List (Str × V)}
theorem ins_get (hok : HOk P w H h) (e : H a = some (.ins C dx fs)) : ∃ mA, ObjM h a dx C mA ∧ (∀ f, RelO (fs.lookup f) (mA f)) ∧ PySem.Within mA (fs.map (·.1)) ∧ fs.length ≤ 1000 ∧ H dx = some (.own a) := by
  obtain ⟨d, z, ne, ob, mA, n, r, q⟩ := (show ObjOk P w H h a (.ins C dx fs) from hok a _ e)
  exact ⟨mA, ⟨ob, n, ne⟩, r, q, z, d⟩
end

/-! ### what of the text a class must have -/
structure Cls (K : PySem.W.Frag) (C : Addr) : Prop where
  pg : PySem.W.plainGet K C Str.empty = true
  hd : PySem.W.hasDictIn K C = true
  po : PySem.W.plainOver K C = true
  sa : PySem.W.findIn K (.ref C) "__setattr__" = some (some (.builtin "object.__setattr__"))
theorem Cls.get {K : PySem.W.Frag} {C : Addr} (c : Cls K C) (f : Str) : PySem.W.plainGet K C f = true := c.pg
/-- a constant of the class -/
structure Con (K : PySem.W.Frag) (C : Addr) (f : Str) (v : V) (u : Value) : Prop where
  at_ : PySem.W.findIn K (.ref C) f = some (some u)
  rel : RelV v u
  get : PySem.W.specialIn K u "__get__" = some none
  cp : PySem.W.copiedNames.contains f = false
/-- a method: a plain def of the class or of one above it -/
structure Meth (K : PySem.W.Frag) (C : Addr) (m : Str) (f : Addr) : Prop where
  at_ : PySem.W.findIn K (.ref C) m = some (some (.ref f))
  fn : PySem.W.isFn K (.ref f) = true
  kp : PySem.W.keepIn K (.ref f) = true

section
variable {X : Cx} {pins : List (Addr × Obj)} {σ : St} {H : Hp} {s : Shared} {a C dx : Addr} {fs : List (Str × V)} {f : Str} {v : V} {A : Around} {E : Value → Shared → Prop}

/-- a new instance, tracked, without attributes -/
theorem Inv.made (I : Inv X pins σ H s) : Inv X pins σ (upd (upd H s.heap.objs.size (.own (s.heap.objs.size + 1))) (s.heap.objs.size + 1) (.ins C s.heap.objs.size []))
    { s with heap := (s.heap.push PySem.W.emptyDict).push (PySem.W.instObj C s.heap.objs.size) } := by
  have e1 : (s.heap.push PySem.W.emptyDict).get? s.heap.objs.size = some PySem.W.emptyDict := Heap.get?_push_size s.heap rfl
  have e2 : ((s.heap.push PySem.W.emptyDict).push (PySem.W.instObj C s.heap.objs.size)).get? (s.heap.objs.size + 1) = some (PySem.W.instObj C s.heap.objs.size) := by
    have := Heap.get?_push_size (s.heap.push PySem.W.emptyDict) (o := PySem.W.instObj C s.heap.objs.size) rfl
    rwa [Heap.size_push] at this
  have e3 : (s.heap.push PySem.W.emptyDict).Ns s.heap.objs.size (fun _ => none) := ⟨PySem.W.emptyDict, #[], _, e1, rfl, (fun e he => absurd he (by simp)), fun _ => rfl⟩
  have I1 := I.laid (a := s.heap.objs.size) (o := .own (s.heap.objs.size + 1)) (h' := s.heap.push PySem.W.emptyDict) (t' := s.toks) (fun b u q => Heap.get?_push_of_some _ q) (Nat.le_refl _) ⟨_, e1⟩
  refine I1.laid (a := s.heap.objs.size + 1) (o := .ins C s.heap.objs.size []) (t' := s.toks) (fun b u q => Heap.get?_push_of_some _ q) (Nat.le_of_eq (Heap.size_push _ _)) ?_
  have ne : s.heap.objs.size ≠ s.heap.objs.size + 1 := Nat.ne_of_lt (Nat.lt_succ_self _)
  refine ⟨by rw [upd_ne ne, upd_same], Nat.zero_le _, ne, e2, fun _ => none, (Heap.Ns1.of_empty e3).at fun o q => Heap.get?_push_of_some _ q, fun _ => True.intro, fun y hy => absurd rfl hy⟩

end

/-! ### readings and rules -/
section
variable {X : Cx} {o e value : Expr} {f : Str} {pos pos' tpos : Pos} {ta tv : TE}
end

/-! ### isinstance -/
section
variable {X : Cx} {pins : List (Addr × Obj)} {σ : St} {H : Hp} {s : Shared} {A : Around} {E : Value → Shared → Prop} {Q : Value → Shared → Prop} {c : Value} {b : Bool}
/-- the type of a value, as the fragment's deciders take it; for an instance its class -/
inductive TyOf (K : PySem.W.Frag) (H : Hp) : V → Value → Prop where
  | non : TyOf K H .non (.type "NoneType")
  | bl (x : Bool) : TyOf K H (.bl x) (.type "bool")
  | int (i : Int) : TyOf K H (.int i) (.type "int")
  | str (x : Str) : TyOf K H (.str x) (.type "str")
  | flt (x : UInt64) : TyOf K H (.flt x) (.type "float")
  | lst {a : Addr} {xs : List V} (e : H a = some (.lst xs)) : TyOf K H (.ref a) (.type "list")
  | frz {a : Addr} {o : Obj} {xs : List V} (e : H a = some (.frz o (.lst xs))) : TyOf K H (.ref a) (.type "list")
  | tup {a : Addr} {xs : List V} (e : H a = some (.tup xs)) : TyOf K H (.ref a) (.type "tuple")
  | dK {a : Addr} {kvs : List (Key × V)} (e : H a = some (.dK kvs)) : TyOf K H (.ref a) (.type "dict")
  | dT {a : Addr} {kvs : List (List Key × V)} (e : H a = some (.dT kvs)) : TyOf K H (.ref a) (.type "dict")
  | ins {a C dx : Addr} {fs : List (Str × V)} (e : H a = some (.ins C dx fs)) (cl : Cls K C) (ha : PySem.W.findIn K (.ref C) "__class__" = some (some (.builtin "object.__class__")))
      (hn : PySem.W.specialIn K (.builtin "object.__class__") "__get__" = some (some (.builtin "getset_descriptor.__get__"))) (htk : PySem.W.takesIn K (.builtin "object.__class__") = some true)
      (hm : PySem.W.mroIn K C (.type "object") = some true) : TyOf K H (.ref a) (.ref C)
/-- isinstance(x, c) for one class c, a built-in or an own one: kitOne's answer -/
theorem isinst_ok {x : V} {u t : Value} (I : Inv X pins σ H s) (rx : RelV x u) (ty : TyOf X.K H x t) (e : PySem.W.kitOne X.K t c = some b) (h : ∀ tk, Q (.bool b) { s with toks := tk }) :
    wpAny (model X.prog X.w) A (call (.builtin "isinstance") [u, c]) Q E s := by
  cases ty with
  | non => cases (show u = Value.none from rx); exact PySem.W.kia_one PySem.W.kitx_none I.kIn True.intro e (fun z => nomatch z) h
  | bl y => cases (show u = Value.bool y from rx); exact PySem.W.kia_one PySem.W.kitx_bool I.kIn True.intro e (fun z => nomatch z) h
  | int i => obtain ⟨t, q⟩ := (show ∃ t, u = Value.int i t from rx); cases q; exact PySem.W.kia_one PySem.W.kitx_int I.kIn True.intro e (fun z => nomatch z) h
  | str y => obtain ⟨t, q⟩ := (show ∃ t, u = Value.str y t from rx); cases q; exact PySem.W.kia_one PySem.W.kitx_str I.kIn True.intro e (fun z => nomatch z) h
  | flt y => obtain ⟨t, q⟩ := (show ∃ t, u = Value.float y t from rx); cases q; exact PySem.W.kia_one PySem.W.kitx_float I.kIn True.intro e (fun z => nomatch z) h
  | @lst a xs ea =>
    cases (show u = Value.ref a from rx)
    obtain ⟨_, _, n, _, h1⟩ := (show ObjOk X.prog X.w H s.heap a (.lst xs) from I.hok a _ ea)
    exact PySem.W.kia_one PySem.W.kitx_list I.kIn ⟨_, h1, rfl⟩ e (fun z => nomatch z) h
  | @frz a ob xs ea =>
    cases (show u = Value.ref a from rx)
    obtain ⟨_, _, _, n, _, h1⟩ := (show ObjOk X.prog X.w H s.heap a (.frz ob (.lst xs)) from I.hok a _ ea)
    exact PySem.W.kia_one PySem.W.kitx_list I.kIn ⟨_, h1, rfl⟩ e (fun z => nomatch z) h
  | @tup a xs ea =>
    cases (show u = Value.ref a from rx)
    obtain ⟨_, _, _, p⟩ := (show ObjOk X.prog X.w H s.heap a (.tup xs) from I.hok a _ ea)
    obtain ⟨o, h1, h2, _⟩ := p
    exact PySem.W.kia_one PySem.W.kitx_tuple I.kIn ⟨o, h1, h2⟩ e (fun z => nomatch z) h
  | @dK a kvs ea =>
    cases (show u = Value.ref a from rx)
    obtain ⟨_, _, vs, _, p⟩ := (show ObjOk X.prog X.w H s.heap a (.dK kvs) from I.hok a _ ea)
    obtain ⟨o, es, ep, h1, h2, _⟩ := p
    exact PySem.W.kia_one PySem.W.kitx_dict I.kIn ⟨o, h1, h2.1⟩ e (fun z => nomatch z) h
  | @dT a kvs ea =>
    cases (show u = Value.ref a from rx)
    obtain ⟨_, _, xs, _, o, es, ep, h1, h2, _⟩ := (show ObjOk X.prog X.w H s.heap a (.dT kvs) from I.hok a _ ea)
    exact PySem.W.kia_one PySem.W.kitx_dict I.kIn ⟨o, h1, h2.1⟩ e (fun z => nomatch z) h
  | @ins a C dx fs ea cl ha hn htk hm =>
    cases (show u = Value.ref a from rx)
    obtain ⟨mA, O, _⟩ := ins_get I.hok ea
    obtain ⟨od, J, _⟩ := O.look
    exact PySem.W.kia_one (PySem.W.kitx_own (cl.get _) cl.hd ha hn htk hm) I.kIn J e (fun z => nomatch z) h
end
end L2

namespace L2
open PySem PySem.Spec PyProof.Rows

/-! ### room -/
structure Room (k : Nat) (A : Around) : Prop where
  hd : A.handled = none
  dp : A.depth + 3 * k + 5 < recursionLimit
  un : A.units + 16 * k + 200 < cLine
theorem Room.mono {j k : Nat} {A : Around} (r : Room k A) (h : j ≤ k) : Room j A := ⟨r.hd, by have := r.dp; omega, by have := r.un; omega⟩
theorem Room.deeper {k : Nat} {A : Around} (r : Room (k + 1) A) (env : Env) : Room k (A.deeper env) :=
  ⟨r.hd, by have := r.dp; show A.depth + 1 + 3 * k + 5 < _; omega, by have := r.un; show A.units + 3 + 16 * k + 200 < _; omega⟩
theorem Room.in1 {k : Nat} {A : Around} (r : Room (k + 1) A) : Room k A.in1 :=
  ⟨r.hd, by have := r.dp; show A.depth + 3 * k + 5 < _; omega, by have := r.un; show A.units + 1 + 16 * k + 200 < _; omega⟩
theorem Room.depth {k : Nat} {A : Around} (r : Room k A) : A.depth < recursionLimit := by have := r.dp; omega
theorem Room.units {k : Nat} {A : Around} (r : Room k A) : A.units + 64 < cLine := by have := r.un; omega
/-! ### argument lists and displays -/
def tNil : TA := fun _ H Q => Q [] H
def tCons (ta : TE) (tr : TA) : TA := fun σ H Q => ta σ H fun x H1 => tr σ H1 fun xs H2 => Q (x :: xs) H2
section
variable {X : Cx} {e : Expr} {es : List Expr} {te : TE} {t : TA} {pos : Pos}
theorem pa_nil : PA X [] tNil := fun _ _ _ _ H Q I h => Calls.spliced_nil ⟨[], H, I, .nil, h⟩
theorem pa_cons (ha : PE X e te) (hr : PA X es t) (hs : starEach (e :: es) X.env = (false, eval e X.env) :: starEach es X.env := by rfl) : PA X (e :: es) (tCons te t) := by
  intro pos pins s σ H Q I h
  rw [hs]
  show wpAny _ _ (spliced ((false, eval e X.env) :: backTo pos (starEach es X.env))) _ _ s
  refine Calls.spliced_cons (thn (ha pins s σ H _ I h) fun u s1 ⟨x, H1, I1, r1, q1⟩ => ?_)
  exact thn (hr pos pins s1 σ H1 _ I1 q1) fun us s2 ⟨xs, H2, I2, r2, q2⟩ => ⟨x :: xs, H2, I2, .cons r1 r2, q2⟩

/-- a tuple, a list of written items -/
def tTup (t : TA) : TE := fun σ H Q => t σ H fun xs H1 => xs.length ≤ sizeLine ∧ ∀ p, H1 p = none → Q (.ref p) (upd H1 p (.tup xs))
def tLst (t : TA) : TE := fun σ H Q => t σ H fun xs H1 => xs.length ≤ sizeLine ∧ ∀ p, H1 p = none → Q (.ref p) (upd H1 p (.lst xs))
theorem pe_tup {x1} (h : PA X es t) : PE X (.Tuple es x1 pos) (tTup t) := by
  intro pins s σ H Q I hq
  refine wpAny_Tuple_spliced (thn (h pos pins s σ H _ I hq) fun us s1 ⟨xs, H1, I1, r, z, q⟩ => ⟨by rw [← r.length]; exact z, ?_⟩)
  have hf : H1 s1.heap.objs.size = none := I1.hok.fresh (Nat.le_refl _)
  refine ⟨.ref s1.heap.objs.size, upd H1 s1.heap.objs.size (.tup xs), I1.laid (t' := s1.toks) (fun b u e => Heap.get?_push_of_some _ e) (Nat.le_refl _) ?_, rfl, q _ hf⟩
  exact ⟨z, us, r, ⟨_, Heap.get?_push_size _ rfl, rfl, _, rfl⟩⟩
theorem pe_lst (h : PA X es t) : PE X (.List es pos) (tLst t) := by
  intro pins s σ H Q I hq
  refine wpAny_List_spliced (thn (h pos pins s σ H _ I hq) fun us s1 ⟨xs, H1, I1, r, z, q⟩ => ⟨by rw [← r.length]; exact z, ?_⟩)
  have hf : H1 s1.heap.objs.size = none := I1.hok.fresh (Nat.le_refl _)
  refine ⟨.ref s1.heap.objs.size, upd H1 s1.heap.objs.size (.lst xs), I1.laid (t' := s1.toks) (fun b u e => Heap.get?_push_of_some _ e) (Nat.le_refl _) ?_, rfl, q _ hf⟩
  exact ⟨z, us, 0, r, Heap.get?_push_size _ rfl⟩
end

/-! ### what a def promises -/
/-- a def's promise: the bound arguments in the parameters' order, the heap, the wanted end, the wanted exception -/
abbrev Sp := List V → Hp → VK → XK → Prop
/-- how an exception lies behind a call (file 08 gives it): the callers' frames, abstract heap and state ahead of the call, the wish, the exception, the state -/
abbrev CXT := List Env → Hp → Shared → XK → Value → Shared → Prop

/-- the state at a call -/
structure Env0 (P : Program) (w : World) (K : PySem.W.Frag) (mg : Str → Option Value) (base : Heap) (A : Around) (outer : List Env) (s : Shared) (H : Hp) : Prop where
  frames : A.frames = some outer
  mod : Mod K mg base
  bs : ∀ b o, base.get? b = some o → s.heap.get? b = some o ∧ H b = none
  bsz : base.objs.size ≤ s.heap.objs.size
  funs : s.heap.FunFrames base outer
  frf : ∀ b ∈ frs outer, H b = none
  hok : HOk P w H s.heap
  bare : AllBare s.gens
/-- a call's end -/
def CE (outer : List Env) (P : Program) (w : World) (H : Hp) (s : Shared) (Q : VK) (u : Value) (s' : Shared) : Prop :=
  ∃ v H', s'.os = s.os ∧ AllBare s'.gens ∧ Un (frs outer) [] H H' s.heap s'.heap ∧ HOk P w H' s'.heap ∧ RelV v u ∧ Q v H'
def CR (CX : CXT) (outer : List Env) (P : Program) (w : World) (H : Hp) (s : Shared) (Q : VK) (E : XK) (r : Result) (s' : Shared) : Prop :=
  match r with
  | .ok (.ret u) => CE outer P w H s Q u s'
  | .ok _ => False
  | .error e => CX outer H s E e s'
structure FnOk (P : Program) (w : World) (K : PySem.W.Frag) (mg : Str → Option Value) (base : Heap) (CX : CXT) (k : Nat) (f : Addr) (fd : FuncData) (ps : List Str) (sp : Sp) : Prop where
  len : ∀ vs H Q E, sp vs H Q E → vs.length = ps.length
  run : ∀ (A : Around) (outer : List Env) (s : Shared) (H : Hp) (args : Args) (us : List Value) (vs : List V) (Q : VK) (E : XK), Room k A → Env0 P w K mg base A outer s H → BindsTo s fd args (ps.zip us) → Vals vs us → sp vs H Q E →
    codeAny (model P w) A (.call (.ref f) args) (CR CX outer P w H s Q E) s
theorem FnOk.mono {P : Program} {w : World} {K : PySem.W.Frag} {mg : Str → Option Value} {base : Heap} {CX : CXT} {j k : Nat} {f : Addr} {fd : FuncData} {ps : List Str} {sp : Sp} (F : FnOk P w K mg base CX j f fd ps sp) (h : j ≤ k) :
    FnOk P w K mg base CX k f fd ps sp := ⟨F.len, fun A outer s H args us vs Q E hr => F.run A outer s H args us vs Q E (hr.mono h)⟩
theorem Env0.in1 {P : Program} {w : World} {K : PySem.W.Frag} {mg : Str → Option Value} {base : Heap} {A : Around} {outer : List Env} {s : Shared} {H : Hp} (e : Env0 P w K mg base A outer s H) :
    Env0 P w K mg base A.in1 outer s H := ⟨e.frames, e.mod, e.bs, e.bsz, e.funs, e.frf, e.hok, e.bare⟩

section
variable {X : Cx} {pins : List (Addr × Obj)} {σ : St} {H : Hp} {s s' : Shared}
/-- from a body: what a callee wants -/
theorem Inv.env0 (I : Inv X pins σ H s) : Env0 X.prog X.w X.K X.mg X.base X.A X.stack s H :=
  ⟨I.ok.frames, I.ok.mod, I.bs, Nat.le_trans I.ok.bsz I.sz, I.stack, I.stkFree, I.hok, I.bare⟩
/-- behind a call -/
theorem Inv.after {Q : VK} {u : Value} (I : Inv X pins σ H s) (h : CE X.stack X.prog X.w H s Q u s') : EP X pins σ Q u s' := by
  obtain ⟨v, H', os, bare, un, hok, r, q⟩ := h
  obtain ⟨hh, g, d, t, os'⟩ := s'
  obtain rfl : os' = s.os := os
  exact ⟨v, H', I.call (h' := hh) (g' := g) (d' := d) (t' := t) (ch := []) un hok bare (fun b z => absurd z (by simp)), r, q⟩
end

/-! ### calls -/
/-- f(..): the written arguments, then the defaults dvs; E: what is wanted of an exception -/
def tCall (sp : Sp) (dvs : List V) (E : XK) (t : TA) : TE := fun σ H Q => t σ H fun vs H1 => sp (vs ++ dvs) H1 Q E
/-- how the parameters are bound: us the positional arguments, kw the keywords' values by name, ds the defaults that fill up -/
def Binds (K : PySem.W.Frag) (fd : FuncData) (ps : List Str) (ds : List Value) : Prop :=
  ∀ (s : Shared) (us : List Value), K.In s.heap → (us ++ ds).length = ps.length → BindsTo s fd ⟨us, []⟩ (ps.zip (us ++ ds))
/-- every parameter is given -/
theorem Binds.all {K : PySem.W.Frag} {fd : FuncData} {ps : List Str} (h : ∀ us : List Value, us.length = ps.length → bindArgs fd ⟨us, []⟩ = pure (ps.zip us)) : Binds K fd ps [] := fun s us _ hl => by
  rw [List.append_nil] at hl ⊢
  exact .of_eq (h us hl)

/-- an exception of a callee reaches what this body wants of exceptions -/
def Passes (CX : CXT) (X : Cx) (E : XK) : Prop := ∀ (pins : List (Addr × Obj)) (σ : St) (H : Hp) (s : Shared) (e : Value) (s' : Shared), Inv X pins σ H s → CX X.stack H s E e s' → X.xe e s'

section
variable {X : Cx} {CX : CXT} {k : Nat} {f C : Addr} {fd : FuncData} {ps : List Str} {sp : Sp} {dvs : List V} {ds : List Value} {E : XK} {x m : Str} {p pos apos : Pos} {e o : Expr} {es : List Expr} {ta : TE} {t : TA}

/-- the callee runs -/
theorem run_fn {pins : List (Addr × Obj)} {σ : St} {H : Hp} {s : Shared} {Q : VK} {us : List Value} {vs : List V} (F : FnOk X.prog X.w X.K X.mg X.base CX k f fd ps sp) (hr : Room k X.A) (hb : Binds X.K fd ps ds) (hd : Vals dvs ds) (hx : Passes CX X E)
    (I : Inv X pins σ H s) (r : Vals vs us) (h : sp (vs ++ dvs) H Q E) : wpAny (model X.prog X.w) X.A (call (.ref f) us) (EP X pins σ Q) X.xe s := by
  have r2 : Vals (vs ++ dvs) (us ++ ds) := r.append hd
  have hl : (us ++ ds).length = ps.length := by rw [← r2.length]; exact F.len _ _ _ _ h
  refine wpAny_call (codeAny_mono (F.run X.A X.stack s H ⟨us, []⟩ (us ++ ds) (vs ++ dvs) Q E hr I.env0 (hb s us I.kIn hl) r2 h) fun r s' hq => ?_)
  cases r with
  | error e => exact hx pins σ H s e s' I hq
  | ok fl =>
    cases fl with
    | ret u => exact I.after hq
    | next => exact False.elim hq
    | brk => exact False.elim hq
    | cont => exact False.elim hq

/-- what a class must have to be made -/
structure Mk (K : PySem.W.Frag) (C f : Addr) : Prop where
  makes : PySem.W.makesIn K C = true
  init : PySem.W.findIn K (.ref C) "__init__" = some (some (.ref f))
  fn : PySem.W.isFn K (.ref f) = true
  kp : PySem.W.keepIn K (.ref C) = true

end

/-! ### keywords -/
section
variable {X : Cx} {CX : CXT} {k : Nat} {f C : Addr} {fd : FuncData} {ps ks : List Str} {sp : Sp} {E : XK} {x m : Str} {p pos apos kpos : Pos} {e o : Expr} {es : List Expr} {kws : List Keyword} {te ta : TE} {t tk : TA} {nm : Option Str}
/-- how a call with keywords binds: g puts the positional values us and the keywords' values ws (names ks) in the parameters' order, defaults among them -/
structure KBinds (K : PySem.W.Frag) (fd : FuncData) (ps ks : List Str) (g : List Value → List Value → List Value) (gV : List V → List V → List V) : Prop where
  to : ∀ (s : Shared) (us ws : List Value), K.In s.heap → (g us ws).length = ps.length → BindsTo s fd ⟨us, ks.zip ws⟩ (ps.zip (g us ws))
  rel : ∀ {vs : List V} {us : List Value} {zs : List V} {ws : List Value}, Vals vs us → Vals zs ws → Vals (gV vs zs) (g us ws)
variable {g : List Value → List Value → List Value} {gV : List V → List V → List V}
end

/-! ### a def's body keeps its promise -/
/-- names: the parameters first -/
structure FnScope (N P : List Str) (sc : Scope) : Prop where
  kind : sc.kind = .function
  co : sc.isCoroutine = false
  gen : sc.isGenerator = false
  nd : N.Nodup
  pre : N.take P.length = P
  par : ∀ x ∈ P, sc.names.lookup x = some .local ∨ sc.names.lookup x = some .cell
  nofree : ∀ y ∈ sc.names, y.2 ≠ .free

theorem bindL_out {kindOf : Str → Option NameKind} {x : Str} : ∀ {binds : List (Str × Value)} {m : Str → Option Value}, (∀ v, (x, v) ∉ binds) → bindL kindOf binds m x = m x
  | [], _, _ => rfl
  | (n, v) :: r, m, h => by
    unfold bindL
    rw [bindL_out fun w hw => h w (List.mem_cons_of_mem _ hw)]
    split
    · have : x ≠ n := by rintro rfl; exact h v List.mem_cons_self
      simp [this]
    · rfl
theorem bindC_out {kindOf : Str → Option NameKind} {x : Str} : ∀ {binds : List (Str × Value)} {m : Str → Option Value}, (∀ v, (x, v) ∉ binds) → bindC kindOf binds m x = m x
  | [], _, _ => rfl
  | (n, v) :: r, m, h => by
    unfold bindC
    rw [bindC_out fun w hw => h w (List.mem_cons_of_mem _ hw)]
    split
    · rfl
    · have : x ≠ n := by rintro rfl; exact h v List.mem_cons_self
      simp [this]
theorem bindL_get {kindOf : Str → Option NameKind} {x : Str} {v : Value} : ∀ {P : List Str} {vs : List Value} {i : Nat} {m : Str → Option Value}, P.Nodup → P[i]? = some x → vs[i]? = some v → kindOf x = some .local →
    bindL kindOf (P.zip vs) m x = some v
  | [], _, _, _, _, h, _, _ => by simp at h
  | _ :: _, [], _, _, _, _, h, _ => by simp at h
  | p :: P, w :: vs, 0, m, nd, h1, h2, hk => by
    simp at h1 h2; subst h1; subst h2
    show bindL kindOf ((p, w) :: P.zip vs) m p = _
    unfold bindL
    rw [bindL_out fun v hv => (List.nodup_cons.mp nd).1 (List.of_mem_zip hv).1, if_pos hk]
    simp
  | p :: P, w :: vs, i + 1, m, nd, h1, h2, hk => by
    show bindL kindOf ((p, w) :: P.zip vs) m x = _
    unfold bindL
    exact bindL_get (i := i) (List.nodup_cons.mp nd).2 (by simpa using h1) (by simpa using h2) hk
theorem bindC_get {kindOf : Str → Option NameKind} {x : Str} {v : Value} : ∀ {P : List Str} {vs : List Value} {i : Nat} {m : Str → Option Value}, P.Nodup → P[i]? = some x → vs[i]? = some v → kindOf x ≠ some .local →
    bindC kindOf (P.zip vs) m x = some v
  | [], _, _, _, _, h, _, _ => by simp at h
  | _ :: _, [], _, _, _, _, h, _ => by simp at h
  | p :: P, w :: vs, 0, m, nd, h1, h2, hk => by
    simp at h1 h2; subst h1; subst h2
    show bindC kindOf ((p, w) :: P.zip vs) m p = _
    unfold bindC
    rw [bindC_out fun v hv => (List.nodup_cons.mp nd).1 (List.of_mem_zip hv).1, if_neg hk]
    simp
  | p :: P, w :: vs, i + 1, m, nd, h1, h2, hk => by
    show bindC kindOf ((p, w) :: P.zip vs) m x = _
    unfold bindC
    exact bindC_get (i := i) (List.nodup_cons.mp nd).2 (by simpa using h1) (by simpa using h2) hk

/-- the names' values at the entry -/
def start (N : List Str) (vs : List V) : St := vs.map some ++ List.replicate (N.length - vs.length) none

/-- the context of a def's body, at its entry; an exception leaves the frame, then lies as CX says -/
def cxOf (CX : CXT) (P : Program) (w : World) (K : PySem.W.Frag) (mg : Str → Option Value) (base : Heap) (N : List Str) (qual : Str) (scope : Scope) (f : Addr) (cd : Value) (A : Around) (outer : List Env) (s : Shared) (H : Hp) (E : XK) : Cx where
  prog := P
  w := w
  K := K
  mg := mg
  base := base
  A := A.deeper (envOfC qual scope s.heap.objs.size f cd)
  N := N
  s₀ := s
  H₀ := H
  env := envOfC qual scope s.heap.objs.size f cd
  outer := outer
  stack := envOfC qual scope s.heap.objs.size f cd :: outer
  ex := []
  calm := true
  fn := fun _ => true
  pn := []
  xe := fun e s' => wpAny (model P w) (A.deeper (envOfC qual scope s.heap.objs.size f cd)) (leaving (envOfC qual scope s.heap.objs.size f cd) e) (fun _ s'' => CX outer H s E e s'') (fun e' s'' => CX outer H s E e' s'') s'

theorem cell_has {sc : Scope} {n : Nat} {x : Str} (h : sc.names.lookup x = some .cell) : ∃ c, (cellsFrom n sc.names []).lookup x = some c := by
  have q := PySem.W.cellsFrom_some sc.names n [] (.inl h)
  exact Option.isSome_iff_exists.mp q

theorem inv_start {CX : CXT} {P : Program} {w : World} {K : PySem.W.Frag} {mg : Str → Option Value} {base : Heap} {N ps : List Str} {qual : Str} {scope : Scope} {f : Addr} {cd : Value} {A : Around} {outer : List Env} {s s1 : Shared} {H : Hp} {E : XK} {us : List Value} {vs : List V}
    (S : FnScope N ps scope) (hd : A.handled = none) (e0 : Env0 P w K mg base A outer s H) (hl : vs.length = ps.length) (r : Vals vs us)
    (x : InCallC s s.heap.objs.size (bindL (envOfC qual scope s.heap.objs.size f cd).kindOf (ps.zip us) fun _ => none) (cellsFrom (s.heap.objs.size + 1) scope.names []) (bindC (envOfC qual scope s.heap.objs.size f cd).kindOf (ps.zip us) fun _ => none) s1) :
    Inv (cxOf CX P w K mg base N qual scope f cd A outer s H E) [] (start N vs) H s1 := by
  have hpl : ps.length ≤ N.length := by have := congrArg List.length S.pre; rw [List.length_take] at this; omega
  obtain ⟨h1, tk, rfl, hk⟩ := x.done
  have noA : ∀ b : Addr, b ∉ (cxOf CX P w K mg base N qual scope f cd A outer s H E).ex := fun b z => absurd (show b ∈ ([] : List Addr) from z) (by simp)
  refine ⟨⟨e0.mod, S.kind, rfl, rfl, Nat.le_refl _, fun y z c h1 h2 => ?_, fun y hy => ?_, fun y c _ h => ?_, fun _ => hd, Around.frames_deeper e0.frames, .inr ⟨rfl, rfl⟩, fun b z => absurd z (noA b), e0.bs, e0.bsz, fun b _ _ => noA b, fun b z => absurd z (noA b), e0.funs, e0.frf⟩,
    rfl, e0.bare, Un.kept hk, ⟨_, x.toInCall.ns, fun i y v h1 h2 h3 => ?_⟩, fun y c h => ⟨_, x.cell y c h⟩, e0.hok.fresh (Nat.le_refl _), fun y c h => ?_, fun p hp => absurd (show p ∈ ([] : List (Addr × Obj)) from hp) (by simp), e0.hok.kept hk, ?_⟩
  · exact name_of_addr x.apart (PySem.mem_of_lookup h1) (PySem.mem_of_lookup h2)
  · have hy : scope.names.lookup y = some .cell ∨ scope.names.lookup y = some .free := hy
    rcases hy with hy | hy
    · exact cell_has hy
    · exact absurd rfl (S.nofree _ (PySem.mem_of_lookup hy))
  · exact Nat.le_of_lt (x.above y c (PySem.mem_of_lookup h))
  · have hi : i < vs.length := by
      unfold start at h2
      by_cases hi : i < vs.length
      · exact hi
      · rw [List.getElem?_append_right (by simpa using hi)] at h2
        rw [List.getElem?_replicate] at h2
        split at h2 <;> cases h2
    have ha : vs[i]? = some v := by
      unfold start at h2
      rw [List.getElem?_append_left (by simpa using hi), List.getElem?_map] at h2
      cases e : vs[i]? with
      | none => rw [e] at h2; cases h2
      | some a => rw [e] at h2; cases h2; rfl
    obtain ⟨u, hu, rv⟩ := r.get ha
    have hp : ps[i]? = some y := by
      rw [← S.pre, List.getElem?_take_of_lt (by omega)]; exact h1
    have ndP : ps.Nodup := by rw [← S.pre]; exact S.nd.sublist (List.take_sublist _ _)
    refine ⟨u, rv, ?_⟩
    rcases S.par y (List.mem_of_getElem? hp) with k | k
    · exact .inl ⟨k, bindL_get ndP hp hu k⟩
    · obtain ⟨c, e⟩ := cell_has (n := s.heap.objs.size + 1) k
      refine .inr ⟨.inl k, c, e, ?_⟩
      have q := x.cell y c e
      rw [bindC_get ndP hp hu (by show scope.names.lookup y ≠ _; rw [k]; decide)] at q
      exact q
  · exact e0.hok.fresh (Nat.le_of_lt (x.above y c (PySem.mem_of_lookup h)))
  · unfold start
    show _ = N.length
    rw [List.length_append, List.length_map, List.length_replicate]
    omega

/-- THE RULE: a def (or a method) of the text, by its body. The body's reading t is chosen for each entry; it is run at the parameters' values -/
theorem fn_of {CX : CXT} {P : Program} {w : World} {K : PySem.W.Frag} {mg : Str → Option Value} {base : Heap} {k : Nat} {f : Addr} {name qual : Str} {params : Arguments} {body : List Stmt} {scope : Scope} {dV kV doc pm cdv ct oc : Value} {an od : Option Addr}
    {osl : Array (Option Value)} {N ps : List Str} {sp : Sp} (lk : K.lookup f = some ⟨oc, od, .func (PySem.W.fnOf name qual params body scope dV kV doc pm an cdv ct), osl⟩) (hcd : PySem.W.codeIn K cdv qual = true) (S : FnScope N ps scope)
    (len : ∀ vs H Q E, sp vs H Q E → vs.length = ps.length)
    (hbody : ∀ (A : Around) (outer : List Env) (s : Shared) (H : Hp) (vs : List V) (Q : VK) (E : XK), Room k (A.deeper (envOfC qual scope s.heap.objs.size f cdv)) → sp vs H Q E →
      ∃ t, PSs (cxOf CX P w K mg base N qual scope f cdv A outer s H E) body t ∧ t { nx := fun _ H' => Q .non H', rt := Q } (start N vs) H) :
    FnOk P w K mg base CX (k + 1) f (PySem.W.fnOf name qual params body scope dV kV doc pm an cdv ct) ps sp := by
  refine ⟨len, fun A outer s H args us vs Q E hr e0 hb r hsp => ?_⟩
  have hl := len _ _ _ _ hsp
  have KX : K.In s.heap := e0.mod.kin.keeps fun b o e => (e0.bs b o e).1
  have lim : s.heap.NoLimit := e0.mod.nolimit.keeps fun b o e => (e0.bs b o e).1
  have hkind : ∀ y ∈ ps.zip us, scope.names.lookup y.1 = some .local ∨ (scope.names.lookup y.1 = some .cell ∧ ((cellsFrom (s.heap.objs.size + 1) scope.names []).lookup y.1).isSome = true) := fun ⟨n, v⟩ hy => by
    rcases S.par n (List.of_mem_zip hy).1 with q | q
    · exact .inl q
    · exact .inr ⟨q, PySem.W.cellsFrom_some _ _ _ (.inl q)⟩
  refine codeAny_call_function hr.depth (KX _ _ lk) rfl S.co S.gen rfl (PySem.W.codeRec_of KX hcd) (hb _ _ _ _ ?_)
  refine wpAny_newFunctionEnv_cells S.kind hkind fun env he s1 x => ?_
  subst he
  refine ⟨lim.keeps x.toInCall.keep, codeAny_func ?_⟩
  obtain ⟨t, ht, hq⟩ := hbody A outer s H vs Q E (hr.deeper _) hsp
  have I : Inv (cxOf CX P w K mg base N qual scope f cdv A outer s H E) [] (start N vs) H s1 := inv_start S hr.hd e0 hl r x
  refine wpAny_mono (ht [] s1 (start N vs) H _ I hq) (fun fl s' hs => ?_) fun e s' hs => hs
  have fin : ∀ {σ' : St} {H' : Hp} {v : V} {u : Value}, Inv (cxOf CX P w K mg base N qual scope f cdv A outer s H E) [] σ' H' s' → RelV v u → Q v H' → CE outer P w H s Q u s' :=
    fun {σ' H' v u} J rv q => ⟨v, H', J.os, J.bare, J.base, J.hok, rv, q⟩
  cases fl with
  | ret u =>
    obtain ⟨v, σ', H', J, rv, q⟩ := hs
    exact fin J rv q
  | next =>
    obtain ⟨σ', H', J, q⟩ := hs
    exact fin (v := V.non) (u := Value.none) J rfl q
  | brk =>
    obtain ⟨_, _, _, q⟩ := hs
    exact False.elim q
  | cont =>
    obtain ⟨_, _, _, q⟩ := hs
    exact False.elim q
end L2

namespace L2
open PySem PySem.Spec PyProof.Rows
section
variable {X : Cx} {x : Str} {p pos : Pos} {e : Expr} {es : List Expr} {t : TA} {id T : String} {r : List V → Hp → VK → Prop}

def tCB (r : List V → Hp → VK → Prop) (t : TA) : TE := fun σ H Q => t σ H fun vs H1 => r vs H1 Q
/-- f(e, ..), f a built-in function -/
theorem pe_callB (hc : CallR X (.builtin id) r) (hg : Gl X x) (hm : X.mg x = none) (hv : bootBuiltins x = some (.builtin id)) (ha : PA X (e :: es) t) (hn : x ≠ "__name__" := by decide) (hdb : (x == ("__debug__" : Str)) = false := by decide)
    (he : starEach (e :: es) X.env = (false, eval e X.env) :: starEach es X.env := by rfl) (hpl : (backTo pos (starEach es X.env)).any (·.1) = false := by rfl) : PE X (.Call (.Name x p) (e :: es) [] pos) (tCB r t) := by
  intro pins s σ H Q I h
  refine wpAny_Call_Name_kw (ld_blt I hg hm hv ?_ hn hdb)
  exact PyProof.Rows.callWith_builtin1 (thn (ha pos pins s σ H _ I h) fun us s1 ⟨vs, H1, I1, r1, q1⟩ => hc pins s1 σ H1 vs us Q I1 r1 q1) he hpl
/-- T(e, ..), T a built-in type -/
theorem pe_callTy (hc : CallR X (.type T) r) (hg : Gl X x) (hm : X.mg x = none) (hv : bootBuiltins x = some (.type T)) (ha : PA X (e :: es) t) (hn : x ≠ "__name__" := by decide) (hdb : (x == ("__debug__" : Str)) = false := by decide)
    (he : starEach (e :: es) X.env = (false, eval e X.env) :: starEach es X.env := by rfl) (hpl : (backTo pos (starEach es X.env)).any (·.1) = false := by rfl) : PE X (.Call (.Name x p) (e :: es) [] pos) (tCB r t) := by
  intro pins s σ H Q I h
  refine wpAny_Call_Name_kw (ld_blt I hg hm hv ?_ hn hdb)
  exact PyProof.Rows.callWith_type1 (thn (ha pos pins s σ H _ I h) fun us s1 ⟨vs, H1, I1, r1, q1⟩ => hc pins s1 σ H1 vs us Q I1 r1 q1) he hpl
end
end L2

namespace HT
open PySem PyProof.Rows

section
open PySem.SeqAt
open PySem.AutoSeq1 (wpAny_loadPart')
open PySem.MeetsSeq PySem.MeetsSeq2 PySem.MeetsSeq3

end

section
variable {prog : Program} {w : World} {A : Around} {E : Value → Shared → Prop} {s : Shared}

/-- t + u, t not empty -/
theorem cat_tup {t b : Addr} {vs ws : List Value} {Q : Value → Shared → Prop} (ht : IsTup s.heap t vs.toArray) (hb : IsTup s.heap b ws.toArray) (hv : vs ≠ [])
    (h1 : ws = [] → Q (.ref t) s) (h2 : ws ≠ [] → Q (.ref s.heap.objs.size) { s with heap := s.heap.push { cls := .type "tuple", data := .seq (vs ++ ws).toArray } })
    (hsz : vs.length + ws.length ≤ sizeLine) : wpAny (model prog w) A (binaryOp .Add (.ref t) (.ref b)) Q E s := by
  obtain ⟨⟨cls, dd, data, sl⟩, ho, hc, n, hd⟩ := id ht
  obtain ⟨⟨cls2, dd2, data2, sl2⟩, ho2, hc2, n2, hd2⟩ := id hb
  simp only at hc hd hc2 hd2
  subst hc hd hc2 hd2
  have e : vs.toArray ++ ws.toArray = (vs ++ ws).toArray := by simp
  by_cases hw : ws = []
  · exact concat_meets ⟨_, ho, rfl⟩ ⟨_, ho2, rfl⟩ noFill_tuple_add seq_tuple_add PySem.F.slot_tuple_add PySem.F.entry_tuple_add (PySem.F.args_tuple_add_2 _ _)
      (tuple_addW1 t b vs.toArray ws.toArray n n2 dd dd2 sl sl2 (by simpa using hv) (by simp [hw])) ⟨ho, ho2, h1 hw⟩
  · refine concat_meets ⟨_, ho, rfl⟩ ⟨_, ho2, rfl⟩ noFill_tuple_add seq_tuple_add PySem.F.slot_tuple_add PySem.F.entry_tuple_add (PySem.F.args_tuple_add_2 _ _)
      (tuple_addW2 t b vs.toArray ws.toArray n n2 dd dd2 sl sl2 (by simpa using hv) (by simpa using hw) (by rw [List.size_toArray, List.size_toArray]; exact hsz)) ⟨ho, ho2, ?_⟩
    rw [e]
    exact h2 hw

/-! ### t[a:b], not the whole -/
/-- a slice's bound as a place among n (d where it is left out) -/
def sIx (n d : Nat) : Option Int → Nat
  | none => d
  | some v => if v < 0 then (v + (n : Int)).toNat else min v.toNat n
theorem sIx_none (n d : Nat) : sIx n d none = d := rfl
theorem sIx_nat (n d k : Nat) : sIx n d (some (k : Int)) = min k n := by
  show (if (k : Int) < 0 then ((k : Int) + (n : Int)).toNat else min (k : Int).toNat n) = min k n
  rw [if_neg (by omega), Int.toNat_natCast]
theorem sIx_le (n d : Nat) (hd : d ≤ n) (o : Option Int) : sIx n d o ≤ n := by
  cases o with
  | none => exact hd
  | some v =>
    show (if v < 0 then (v + (n : Int)).toNat else min v.toNat n) ≤ n
    by_cases hv : v < 0
    · rw [if_pos hv]; omega
    · rw [if_neg hv]; exact Nat.min_le_right _ _
theorem clip_eq (v : Int) (n d : Nat) : (if v < 0 then max (v + (n : Int)) 0 else min v (n : Int)) = ((sIx n d (some v) : Nat) : Int) := by
  show (if v < 0 then max (v + (n : Int)) 0 else min v (n : Int)) = (((if v < 0 then (v + (n : Int)).toNat else min v.toNat n) : Nat) : Int)
  by_cases hv : v < 0
  · simp only [if_pos hv]; omega
  · simp only [if_neg hv]; omega
theorem adjust_gen (lo hi : Option Int) (n : Nat) : Builtin.Slice.sliceAdjust lo hi 1 (n : Int) = (((sIx n 0 lo : Nat) : Int), ((sIx n n hi : Nat) : Int)) := by
  have h1 : ¬ ((1 : Int) < 0) := by omega
  unfold Builtin.Slice.sliceAdjust
  simp only [h1, if_false]
  refine Prod.ext ?_ ?_
  · cases lo with
    | none => rfl
    | some v => exact clip_eq v n 0
  · cases hi with
    | none => rfl
    | some v => exact clip_eq v n n
theorem places_gen (i j : Nat) : Builtin.Slice.slicePlaces (i : Int) (j : Int) 1 = j - i := by
  unfold Builtin.Slice.slicePlaces
  have h1 : (1 : Int) > 0 := by omega
  simp only [h1, if_true, Int.ediv_one]
  split <;> omega
theorem slicePart_ {v : Value} {o : Option Int} {Q : Option Int → Shared → Prop} (p : IsPart v o) (h : Q o s) : wpAny (model prog w) A (Builtin.Slice.slicePartIndex v) Q E s := by
  cases p with
  | none => exact slicePart_none h
  | int i t => exact slicePart_int h
theorem sliceApplied_gen {sl : Addr} {vl vu : Value} {lo hi : Option Int} {n : Nat} {Q : Int × Int × Nat → Shared → Prop} (hs : s.heap.IsSliceOf sl vl vu .none) (pl : IsPart vl lo) (pu : IsPart vu hi)
    (h : Q (((sIx n 0 lo : Nat) : Int), 1, sIx n n hi - sIx n 0 lo) s) : wpAny (model prog w) A (Builtin.Slice.sliceApplied (.ref sl) (pure (n : Int))) Q E s := by
  obtain ⟨os, hos, hcs, hds⟩ := id hs
  unfold Builtin.Slice.sliceApplied Builtin.Slice.sliceFields
  refine wpAny_bind (wpAny_bind (wpAny_field hos hds (x := vl) rfl (wpAny_bind (wpAny_field hos hds (x := vu) rfl (wpAny_bind (wpAny_field hos hds (x := .none) rfl (wpAny_pure ?_)))))))
  refine wpAny_bind (slicePart_none ?_)
  show wpAny _ _ (if ((1 : Int) == 0) = true then _ else _) _ _ s
  rw [if_neg (by decide)]
  refine wpAny_bind (slicePart_ pl (wpAny_bind (slicePart_ pu (wpAny_bind (wpAny_pure ?_)))))
  show wpAny _ _ (match Builtin.Slice.sliceAdjust lo hi 1 (n : Int) with | (lo, hi) => pure (lo, (1 : Int), Builtin.Slice.slicePlaces lo hi 1)) _ _ s
  rw [adjust_gen lo hi n]
  show wpAny _ _ (pure (((sIx n 0 lo : Nat) : Int), (1 : Int), Builtin.Slice.slicePlaces ((sIx n 0 lo : Nat) : Int) ((sIx n n hi : Nat) : Int) 1)) _ _ s
  rw [places_gen]
  exact wpAny_pure h
theorem pick_gen (xs : Array Value) (i k : Nat) : ((List.range k).filterMap fun (m : Nat) => xs[((i : Int) + (m : Int) * 1).toNat]?).toArray = ((xs.toList.drop i).take k).toArray := by
  have e : (fun (m : Nat) => xs[((i : Int) + (m : Int) * 1).toNat]?) = fun m => xs[i + m]? := by
    funext m
    have : ((i : Int) + (m : Int) * 1).toNat = i + m := by omega
    rw [this]
  rw [e]
  have := pick_run xs i k
  rw [List.filterMap_map] at this
  have e2 : ((fun x => xs[x]?) ∘ fun x => i + x) = fun m => xs[i + m]? := rfl
  rw [e2] at this
  rw [this]

theorem getItem_tuple_cut {t sl : Addr} {items : Array Value} {vl vu : Value} {lo hi : Option Int} {Q : Value → Shared → Prop} (ht : IsTup s.heap t items) (hs : s.heap.IsSliceOf sl vl vu .none) (pl : IsPart vl lo) (pu : IsPart vu hi)
    (hw : ¬ (sIx items.size 0 lo = 0 ∧ sIx items.size items.size hi = items.size))
    (h : Q (.ref s.heap.objs.size) { s with heap := s.heap.push { cls := .type "tuple", data := .seq ((items.toList.drop (sIx items.size 0 lo)).take (sIx items.size items.size hi - sIx items.size 0 lo)).toArray } })
    (hsz : items.size ≤ sizeLine) : wpAny (model prog w) A (getItem (.ref t) (.ref sl)) Q E s := by
  have htake : sizeOk (.seq ((items.toList.drop (sIx items.size 0 lo)).take (sIx items.size items.size hi - sIx items.size 0 lo)).toArray) := by
    show ((items.toList.drop (sIx items.size 0 lo)).take (sIx items.size items.size hi - sIx items.size 0 lo)).toArray.size ≤ sizeLine
    rw [List.size_toArray, List.length_take, List.length_drop, Array.length_toList]
    omega
  have hj : sIx items.size items.size hi ≤ items.size := sIx_le _ _ (Nat.le_refl _) hi
  obtain ⟨os, hos, hcs, hds⟩ := id hs
  have hTs : s.TypeIs (.ref sl) "slice" := ⟨os, hos, hcs⟩
  unfold getItem
  try with_reducible refine wpAny_holding ?_
  first | refine wpAny_bind (wpAny_pure ?_) | skip
  refine wpAny_bind (wpAny_sequenceKey ht.typeIs (by decide) ?_)
  refine wpAny_bind (wpAny_callSpecial?_slot (name := Str.ofString "__getitem__") ht.typeIs PyProof.Rows.slot_tuple_getitem
    (wpAny_call_entry PyProof.Rows.slot_tuple_getitem ht.typeIs entry_tuple_getitem ?_ (args_tuple_getitem _ _)))
  show wpAny _ _ (Builtin.Tuple.tupleItemsOf (.ref t) >>= _) _ _ s
  refine wpAny_bind (tupleItemsOf_ ht ?_)
  refine wpAny_bind (wpAny_typeOf hTs ?_)
  rw [if_pos (by decide)]
  refine wpAny_bind (sliceApplied_gen hs pl pu ?_)
  have hno : ¬ ((((sIx items.size 0 lo : Nat) : Int) == 0 && (1 : Int) == 1 && (sIx items.size items.size hi - sIx items.size 0 lo) == items.size) = true) := by
    intro q
    rw [Bool.and_eq_true, Bool.and_eq_true] at q
    have q1 : ((sIx items.size 0 lo : Nat) : Int) = 0 := eq_of_beq q.1.1
    have q2 : sIx items.size items.size hi - sIx items.size 0 lo = items.size := eq_of_beq q.2
    exact hw ⟨by omega, by omega⟩
  show wpAny _ _ (if (((sIx items.size 0 lo : Nat) : Int) == 0 && (1 : Int) == 1 && (sIx items.size items.size hi - sIx items.size 0 lo) == items.size) = true then _ else _) _ _ s
  rw [if_neg hno, pick_gen]
  first
    | exact wpAny_bind (m := Builtin.Tuple.tupleExact _) (wpAny_newObj_type (wpAny_pure ⟨_, rfl, wpAny_pure h⟩) htake)
    | exact wpAny_bind (m := Builtin.Tuple.tupleExact _) (wpAny_newObj_type (wpAny_bind (wpAny_pure (wpAny_pure ⟨_, rfl, wpAny_pure h⟩))) htake)
    | exact wpAny_bind (wpAny_bind (m := Builtin.Tuple.tupleExact _) (wpAny_newObj_type (wpAny_pure (wpAny_pure ⟨_, rfl, wpAny_pure h⟩)) htake))
    | exact wpAny_bind (wpAny_bind (m := Builtin.Tuple.tupleExact _) (wpAny_newObj_type (wpAny_pure ⟨_, rfl, wpAny_pure h⟩) htake))
end
end HT

namespace L2
open PySem PySem.Spec PyProof.Rows

/-! ### the parts of a slice -/
abbrev TO := St → Hp → (Option Int → Hp → Prop) → Prop
/-- a slice's part (left out, or an int) -/
def PO (X : Cx) (e : Option Expr) (t : TO) : Prop :=
  ∀ (pins : List (Addr × Obj)) (s : Shared) (σ : St) (H : Hp) (Q : Option Int → Hp → Prop), Inv X pins σ H s → t σ H Q →
    wpAny (model X.prog X.w) X.A (evalPart e X.env) (fun u s' => ∃ o H', Inv X pins σ H' s' ∧ IsPart u o ∧ Q o H') X.xe s
def tNoPart : TO := fun _ H Q => Q none H
def tPart (t : TE) : TO := fun σ H Q => t σ H fun x H1 => ∃ i, x = .int i ∧ Q (some i) H1

section
variable {X : Cx} {e : Expr} {te : TE} {lo hi : Option Expr} {tl th : TO} {pos p2 : Pos}

theorem po_none : PO X none tNoPart := by
  intro pins s σ H Q I h
  rw [evalPart_none]
  exact wpAny_pure ⟨none, H, I, .none, h⟩
theorem po_some (h : PE X e te) : PO X (some e) (tPart te) := by
  intro pins s σ H Q I hw
  rw [evalPart_some]
  refine thn (h pins s σ H _ I hw) fun u s1 ⟨x, H1, I1, r1, q1⟩ => ?_
  obtain ⟨i, rfl, q⟩ := q1
  obtain ⟨t, rfl⟩ := r1
  exact ⟨some i, H1, I1, .int i t, q⟩

/-- what a slice of a value is, by values: the slice object stands at sl -/
def SlR (X : Cx) (r : V → Option Int → Option Int → Hp → VK → Prop) : Prop :=
  ∀ (pins : List (Addr × Obj)) (s : Shared) (σ : St) (H : Hp) (x : V) (v vl vu : Value) (lo hi : Option Int) (sl : Addr) (Q : VK), Inv X pins σ H s → RelV x v → s.heap.IsSliceOf sl vl vu .none → IsPart vl lo → IsPart vu hi → r x lo hi H Q →
    ∃ T id, typeLookup (.type T) "__getitem__" = pure (some (.builtin id)) ∧ s.TypeIs v T ∧ wpAny (model X.prog X.w) X.A (getItem v (.ref sl)) (EP X pins σ Q) X.xe s
theorem SlR.or {r r' : V → Option Int → Option Int → Hp → VK → Prop} (h : SlR X r) (h' : SlR X r') : SlR X (fun x lo hi H Q => r x lo hi H Q ∨ r' x lo hi H Q) := by
  intro pins s σ H x v vl vu lo hi sl Q I rx hs pl pu q
  rcases q with q | q
  · exact h pins s σ H x v vl vu lo hi sl Q I rx hs pl pu q
  · exact h' pins s σ H x v vl vu lo hi sl Q I rx hs pl pu q
def tSl (r : V → Option Int → Option Int → Hp → VK → Prop) (te : TE) (tl th : TO) : TE := fun σ H Q => te σ H fun x H1 => tl σ H1 fun l H2 => th σ H2 fun u H3 => r x l u H3 Q
/-- a[lo:hi], any a -/
theorem pe_slice {r : V → Option Int → Option Int → Hp → VK → Prop} (hr : SlR X r) (he : PE X e te) (hl : PO X lo tl) (hu : PO X hi th) : PE X (.Subscript e (.Slice lo hi none p2) pos) (tSl r te tl th) := by
  intro pins s σ H Q I h
  refine Subscript_ (thn (he pins s σ H _ I h) fun v s1 ⟨x, H1, I1, r1, q1⟩ => ?_)
  refine wpAny_Slice (thn (hl pins s1 σ H1 _ I1 q1) fun vl s2 ⟨l, H2, I2, pl, q2⟩ => thn (hu pins s2 σ H2 _ I2 q2) fun vu s3 ⟨u, H3, I3, pu, q3⟩ => ?_)
  rw [evalPart_none]
  refine wpAny_pure ?_
  have I4 : Inv X pins σ H3 { s3 with heap := s3.heap.push { cls := .type "slice", data := .fields #[vl, vu, .none] } } := I3.kept (t' := s3.toks) fun b ob q => Heap.get?_push_of_some _ q
  obtain ⟨T, id, hT, ht, hg⟩ := hr pins { s3 with heap := s3.heap.push { cls := .type "slice", data := .fields #[vl, vu, .none] } } σ H3 x v vl vu l u s3.heap.objs.size Q I4 r1 (Heap.IsSliceOf.new ..) pl pu q3
  show wpAny (model X.prog X.w) X.A (subscriptTail e (.Slice lo hi none p2) v (.ref s3.heap.objs.size)) (EP X pins σ Q) X.xe { s3 with heap := s3.heap.push { cls := .type "slice", data := .fields #[vl, vu, .none] } }
  exact tail_any (ops := [.ref s3.heap.objs.size, v]) ht hT hg (by with_unfolding_all rfl)

/-- the items of xs[lo:hi] -/
def cutV (xs : List V) (lo hi : Option Int) : List V := (xs.drop (HT.sIx xs.length 0 lo)).take (HT.sIx xs.length xs.length hi - HT.sIx xs.length 0 lo)
theorem cutV_length (xs : List V) (lo hi : Option Int) : (cutV xs lo hi).length ≤ xs.length := by
  unfold cutV
  rw [List.length_take, List.length_drop]
  omega
/-- t[lo:hi], not the whole of it (the whole would be t itself) -/
def rSlT (K : PySem.W.Frag) : V → Option Int → Option Int → Hp → VK → Prop := fun x lo hi H Q => ∃ a xs, x = .ref a ∧ SqT K H a xs ∧
  ¬ (HT.sIx xs.length 0 lo = 0 ∧ HT.sIx xs.length xs.length hi = xs.length) ∧ ∀ p, H p = none → Q (.ref p) (upd H p (.tup (cutV xs lo hi)))
theorem sl_tup : SlR X (rSlT X.K) := by
  intro pins s σ H x v vl vu lo hi sl Q I rx hs pl pu h
  obtain ⟨a, xs, rfl, hx, hw, q⟩ := h
  cases rx
  obtain ⟨its, r, ht, hz⟩ := I.tuple hx
  have hlen : its.toArray.size = xs.length := by rw [List.size_toArray]; exact r.length.symm
  refine ⟨"tuple", _, PyProof.Rows.slot_tuple_getitem.lookup, ht.typeIs, ?_⟩
  refine HT.getItem_tuple_cut ht hs pl pu (by rw [hlen]; exact hw) ?_ (by rw [hlen]; exact hz)
  rw [hlen]
  refine ⟨.ref s.heap.objs.size, _, I.laid (t' := s.toks) (o := .tup (cutV xs lo hi)) (fun b ob q => Heap.get?_push_of_some _ q) (Nat.le_refl _) ?_, rfl, q _ (I.hok.fresh (Nat.le_refl _))⟩
  exact ⟨Nat.le_trans (cutV_length xs lo hi) hz, _, (r.drop (HT.sIx xs.length 0 lo)).take (HT.sIx xs.length xs.length hi - HT.sIx xs.length 0 lo), IsTup.new _ _⟩

/-! ### t < u, t + u -/
/-- t + u, t not empty: u empty gives t itself -/
def rCatT (K : PySem.W.Frag) : R2 := fun x y H Q => ∃ a b xs ys, x = .ref a ∧ y = .ref b ∧ SqT K H a xs ∧ SqT K H b ys ∧ xs ≠ [] ∧ xs.length + ys.length ≤ sizeLine ∧
  (ys = [] → Q (.ref a) H) ∧ (ys ≠ [] → ∀ p, H p = none → Q (.ref p) (upd H p (.tup (xs ++ ys))))
theorem Vals.nil_iff {xs : List V} {us : List Value} (r : Vals xs us) : us = [] ↔ xs = [] := by
  cases r with
  | nil => simp
  | cons _ _ => simp
theorem op_catT : OpR X (binaryOp .Add) (rCatT X.K) := by
  intro pins s σ H x y v u Q I rx ry h
  obtain ⟨a, b, xs, ys, rfl, rfl, ha, hb, hx, hz, q1, q2⟩ := h
  cases rx
  cases ry
  obtain ⟨its, r1, p1, _⟩ := I.tuple ha
  obtain ⟨its2, r2, p2, _⟩ := I.tuple hb
  refine HT.cat_tup p1 p2 (fun z => hx (r1.nil_iff.mp z)) (fun z => ⟨.ref a, H, I, rfl, q1 (r2.nil_iff.mp z)⟩) (fun z => ?_) (by rw [← r1.length, ← r2.length]; exact hz)
  refine ⟨.ref s.heap.objs.size, _, I.laid (t' := s.toks) (o := .tup (xs ++ ys)) (fun b ob q => Heap.get?_push_of_some _ q) (Nat.le_refl _) ?_, rfl, q2 (fun w => z (r2.nil_iff.mpr w)) _ (I.hok.fresh (Nat.le_refl _))⟩
  exact ⟨by rw [List.length_append]; exact hz, _, r1.append r2, IsTup.new _ _⟩
end
end L2

namespace L2
open PySem PySem.Spec PyProof.Rows

/-! ### places -/
/-- the place that an index of any sign means -/
def ixN (n : Nat) (i : Int) : Option Nat := if 0 ≤ i then (if i < n then some i.toNat else none) else if -(n : Int) ≤ i then some (i + n).toNat else none
def atI {α : Type} (xs : List α) (i : Int) : Option α := (ixN xs.length i).bind fun j => xs[j]?
theorem ixN_seq {n : Nat} {i : Int} {j : Nat} (h : ixN n i = some j) : seqIndex? i n = some j ∧ j < n ∧ -(n : Int) ≤ i ∧ i < n := by
  unfold ixN at h
  by_cases h0 : 0 ≤ i
  · rw [if_pos h0] at h
    by_cases h1 : i < n
    · rw [if_pos h1] at h
      have e : i.toNat = j := Option.some.inj h
      exact ⟨by rw [seqIndex_of h0 h1, e], by omega, by omega, h1⟩
    · rw [if_neg h1] at h; cases h
  · rw [if_neg h0] at h
    by_cases h1 : -(n : Int) ≤ i
    · rw [if_pos h1] at h
      have e : (i + n).toNat = j := Option.some.inj h
      exact ⟨by rw [seqIndex_neg (by omega) h1, e], by omega, h1, by omega⟩
    · rw [if_neg h1] at h; cases h
theorem atI_get {α : Type} {xs : List α} {i : Int} {v : α} (h : atI xs i = some v) : ∃ j, seqIndex? i xs.length = some j ∧ xs[j]? = some v ∧ j < xs.length ∧ -(xs.length : Int) ≤ i ∧ i < xs.length := by
  unfold atI at h
  cases e : ixN xs.length i with
  | none => rw [e] at h; cases h
  | some j =>
    rw [e] at h
    obtain ⟨h1, h2, h3, h4⟩ := ixN_seq e
    exact ⟨j, h1, h, h2, h3, h4⟩
theorem atI_nat {α : Type} {xs : List α} {j : Nat} {v : α} (h : xs[j]? = some v) : atI xs (j : Int) = some v := by
  have hj : j < xs.length := (List.getElem?_eq_some_iff.mp h).1
  have e : ixN xs.length (j : Int) = some j := by
    unfold ixN
    rw [if_pos (by omega), if_pos (by omega)]; simp
  unfold atI; rw [e]; exact h
/-! ### what may be subscripted -/
/-- what stands as an index of a plain subscript -/
def PlainIx (b : Expr) : Prop := ∀ o i, subscripted b false o i = operate [o, i] (getItem o i)
/-- a subscript by values -/
def IxR (X : Cx) (r : R2) : Prop :=
  ∀ (value slice : Expr) (pins : List (Addr × Obj)) (s : Shared) (σ : St) (H : Hp) (x y : V) (v u : Value) (Q : VK), Inv X pins σ H s → RelV x v → RelV y u → r x y H Q →
    subscripted slice false v u = operate [v, u] (getItem v u) → wpAny (model X.prog X.w) X.A (subscriptTail value slice v u) (EP X pins σ Q) X.xe s
/-- a call of a builtin's method by values: the receiver, the arguments -/
def MtR (X : Cx) (id : String) (r : V → List V → Hp → VK → Prop) : Prop :=
  ∀ (pins : List (Addr × Obj)) (s : Shared) (σ : St) (H : Hp) (x : V) (xs : List V) (v : Value) (us : List Value) (Q : VK), Inv X pins σ H s → RelV x v → Vals xs us → r x xs H Q →
    wpAny (model X.prog X.w) X.A (call (.builtin id) (v :: us)) (EP X pins σ Q) X.xe s
section
variable {X : Cx} {a b : Expr} {ta tb : TE} {pos : Pos}
theorem IxR.or {r r' : R2} (h : IxR X r) (h' : IxR X r') : IxR X (fun x y H Q => r x y H Q ∨ r' x y H Q) := by
  intro value slice pins s σ H x y v u Q I rx ry q hs
  rcases q with q | q
  · exact h value slice pins s σ H x y v u Q I rx ry q hs
  · exact h' value slice pins s σ H x y v u Q I rx ry q hs
theorem MtR.or {id : String} {r r' : V → List V → Hp → VK → Prop} (h : MtR X id r) (h' : MtR X id r') : MtR X id (fun x xs H Q => r x xs H Q ∨ r' x xs H Q) := by
  intro pins s σ H x xs v us Q I rx rs q
  rcases q with q | q
  · exact h pins s σ H x xs v us Q I rx rs q
  · exact h' pins s σ H x xs v us Q I rx rs q
/-- a[b] -/
theorem pe_ix {r : R2} (hr : IxR X r) (ha : PE X a ta) (hb : PE X b tb) (hs : PlainIx b) : PE X (.Subscript a b pos) (tOp r ta tb) := by
  intro pins s σ H Q I h
  exact Subscript_ (binT ha hb I h fun v u s2 x y H2 I2 rx ry q => hr a b pins s2 σ H2 x y v u Q I2 rx ry q (hs _ _))

def rIxL (K : PySem.W.Frag) : R2 := fun x y H Q => ∃ p xs i v, x = .ref p ∧ y = .int i ∧ SqL K H p xs ∧ atI xs i = some v ∧ Q v H
def rIxT (K : PySem.W.Frag) : R2 := fun x y H Q => ∃ p xs i v, x = .ref p ∧ y = .int i ∧ SqT K H p xs ∧ atI xs i = some v ∧ Q v H
def rIxS : R2 := fun x y H Q => ∃ z i c, x = .str z ∧ y = .int i ∧ z.length ≤ sizeLine ∧ atI z.cps.toList i = some c ∧ Q (.str ⟨#[c]⟩) H
theorem ix_list : IxR X (rIxL X.K) := by
  intro value slice pins s σ H x y v u Q I rx ry h hs
  obtain ⟨p, xs, i, z, rfl, rfl, hq, he, q⟩ := h
  cases rx
  obtain ⟨t, rfl⟩ := ry
  obtain ⟨its, r, pl, hz⟩ := I.list hq
  obtain ⟨j, h1, h2, h3, h4, h5⟩ := atI_get he
  obtain ⟨w, ew, rw'⟩ := r.get h2
  have hl := r.length
  have hn := line63
  have fin : EP X pins σ Q w s := ⟨z, H, I, rw', q⟩
  by_cases h0 : 0 ≤ i
  · have hj : i.toNat = j := by
      rw [seqIndex_of h0 h5] at h1
      exact Option.some.inj h1
    exact item_listR pl.isList h0 (by omega) (by rw [hj]; simpa using ew) fin hs
  · have hj : (i + (its.toArray.size : Int)).toNat = j := by
      rw [seqIndex_neg (by omega) h4] at h1
      rw [List.size_toArray, ← hl]
      exact Option.some.inj h1
    exact subscriptTail_builtinR (x := w) pl.isList.typeIs slot_list_getitem.lookup
      (wpAny_getItem_list_neg (Q := fun r s' => r = w ∧ EP X pins σ Q r s') pl.isList (by omega) (by rw [List.size_toArray] <;> omega) (by omega) (by rw [hj]; simpa using ew) ⟨rfl, fin⟩) hs
theorem ix_tup : IxR X (rIxT X.K) := by
  intro value slice pins s σ H x y v u Q I rx ry h hs
  obtain ⟨p, xs, i, z, rfl, rfl, hq, he, q⟩ := h
  cases rx
  obtain ⟨t, rfl⟩ := ry
  obtain ⟨its, r, pl, hz⟩ := I.tuple hq
  obtain ⟨j, h1, h2, h3, h4, h5⟩ := atI_get he
  obtain ⟨w, ew, rw'⟩ := r.get h2
  have hl := r.length
  have hn := line63
  have fin : EP X pins σ Q w s := ⟨z, H, I, rw', q⟩
  exact subscriptTail_builtinR (x := w) pl.typeIs slot_tuple_getitem.lookup
    (getItem_tuple (j := j) (Q := fun r s' => r = w ∧ EP X pins σ Q r s') pl (by omega) (by omega) (by rw [List.size_toArray, ← hl]; exact h1) (by simpa using ew) ⟨rfl, fin⟩) hs
/-- list, tuple or str -/
def rIx (K : PySem.W.Frag) : R2 := fun x y H Q => rIxL K x y H Q ∨ rIxT K x y H Q ∨ rIxS x y H Q
/-! ### xs[i] = v, any sign -/
theorem Inv.lst {pins : List (Addr × Obj)} {σ : St} {H : Hp} {s : Shared} {p : Addr} {xs : List V} (I : Inv X pins σ H s) (h : H p = some (.lst xs)) :
    ∃ (its : List Value) (n : Nat), Vals xs its ∧ s.heap.get? p = some { cls := .type "list", data := .seq its.toArray n } ∧ xs.length ≤ sizeLine := by
  obtain ⟨z, its, n, r, e⟩ := I.hok p _ h
  exact ⟨its, n, r, e, z⟩
/-! ### slices -/
theorem slice_bounds (lo hi : Option Int) (n : Nat) : (sliceBounds lo hi none n).1 = ((HT.sIx n 0 lo : Nat) : Int) ∧ (sliceBounds lo hi none n).2.1 = ((HT.sIx n n hi : Nat) : Int) ∧ (sliceBounds lo hi none n).2.2 = 1 := by
  refine ⟨?_, ?_, rfl⟩
  · cases lo with
    | none => simp [sliceBounds, HT.sIx]
    | some i =>
      simp only [sliceBounds, HT.sIx, Option.getD_none, show (1 : Int) > 0 by decide, if_true]
      by_cases h : i < 0
      · simp only [h, if_true] <;> omega
      · simp only [h, if_false] <;> omega
  · cases hi with
    | none => simp [sliceBounds, HT.sIx]
    | some i =>
      simp only [sliceBounds, HT.sIx, Option.getD_none, show (1 : Int) > 0 by decide, if_true]
      by_cases h : i < 0
      · simp only [h, if_true] <;> omega
      · simp only [h, if_false] <;> omega
theorem slicePick_cut (its : List Value) (lo hi : Option Int) : slicePick its.toArray lo hi none = ((its.drop (HT.sIx its.length 0 lo)).take (HT.sIx its.length its.length hi - HT.sIx its.length 0 lo)).toArray := by
  obtain ⟨h1, h2, h3⟩ := slice_bounds lo hi its.toArray.size
  unfold slicePick
  rw [h1, h2, h3]
  simp only [sliceRange_one, pick_run, List.size_toArray] <;> rfl
/-- xs[lo:hi] of a list: a new list -/
def rSlL (K : PySem.W.Frag) : V → Option Int → Option Int → Hp → VK → Prop := fun x lo hi H Q => ∃ a xs, x = .ref a ∧ SqL K H a xs ∧ ∀ p, H p = none → Q (.ref p) (upd H p (.lst (cutV xs lo hi)))
theorem sl_list : SlR X (rSlL X.K) := by
  intro pins s σ H x v vl vu lo hi sl Q I rx hs pl pu h
  obtain ⟨a, xs, rfl, hx, q⟩ := h
  cases rx
  obtain ⟨its, r, ht, hz⟩ := I.list hx
  have hlen := r.length
  refine ⟨"list", _, slot_list_getitem.lookup, ht.isList.typeIs, ?_⟩
  refine wpAny_getItem_list_slice ht.isList hs pl pu .none (by simp) ?_ (by rw [List.size_toArray] <;> omega)
  rw [slicePick_cut, ← hlen]
  refine ⟨.ref s.heap.objs.size, _, I.laid (t' := s.toks) (o := .lst (cutV xs lo hi)) (fun b ob q => Heap.get?_push_of_some _ q) (Nat.le_refl _) ?_, rfl, q _ (I.hok.fresh (Nat.le_refl _))⟩
  exact ⟨Nat.le_trans (cutV_length xs lo hi) hz, _, 0, (r.drop (HT.sIx xs.length 0 lo)).take (HT.sIx xs.length xs.length hi - HT.sIx xs.length 0 lo), Heap.get?_push_size _ rfl⟩

/-! ### in, not in: flat items -/
def flatV : V → Bool
  | .non => true
  | .bl _ => true
  | .int _ => true
  | .str _ => true
  | _ => false
/-- == of flat values -/
def eqV : V → V → Bool
  | .non, .non => true
  | .bl a, .bl b => a == b
  | .bl a, .int b => (if a then 1 else 0) == b
  | .int a, .bl b => a == (if b then 1 else 0)
  | .int a, .int b => a == b
  | .str a, .str b => a == b
  | _, _ => false
theorem eqAt_V {A : Around} {s : Shared} {y x : V} {u v : Value} (ry : RelV y u) (rx : RelV x v) (fy : flatV y = true) (fx : flatV x = true) : SeqAt.EqAt A s u v (eqV y x) := by
  cases y with
  | non =>
    cases ry
    cases x with
    | non => cases rx; exact SeqAt.EqAt.same _
    | bl b => cases rx; exact SeqAt.EqAt.none_bool b
    | int b => obtain ⟨t, rfl⟩ := rx; exact SeqAt.EqAt.none_int b t
    | str b => obtain ⟨t, rfl⟩ := rx; exact SeqAt.EqAt.none_str b t
    | _ => exact absurd (show false = true from fx) Bool.false_ne_true
  | bl a =>
    cases ry
    cases x with
    | non => cases rx; exact SeqAt.EqAt.bool_none a
    | bl b => cases rx; exact SeqAt.EqAt.bool_bool a b
    | int b => obtain ⟨t, rfl⟩ := rx; exact SeqAt.EqAt.bool_int a b t
    | str b => obtain ⟨t, rfl⟩ := rx; exact SeqAt.EqAt.bool_str a b t
    | _ => exact absurd (show false = true from fx) Bool.false_ne_true
  | int a =>
    obtain ⟨t', rfl⟩ := ry
    cases x with
    | non => cases rx; exact SeqAt.EqAt.int_none a t'
    | bl b => cases rx; exact SeqAt.EqAt.int_bool a t' b
    | int b => obtain ⟨t, rfl⟩ := rx; exact SeqAt.EqAt.int_int a t' b t
    | str b => obtain ⟨t, rfl⟩ := rx; exact SeqAt.EqAt.int_str a t' b t
    | _ => exact absurd (show false = true from fx) Bool.false_ne_true
  | str a =>
    obtain ⟨t', rfl⟩ := ry
    cases x with
    | non => cases rx; exact SeqAt.EqAt.str_none a t'
    | bl b => cases rx; exact SeqAt.EqAt.str_bool a t' b
    | int b => obtain ⟨t, rfl⟩ := rx; exact SeqAt.EqAt.str_int a t' b t
    | str b => obtain ⟨t, rfl⟩ := rx; exact SeqAt.EqAt.str_str a t' b t
    | _ => exact absurd (show false = true from fx) Bool.false_ne_true
  | _ => exact absurd (show false = true from fy) Bool.false_ne_true
/-- the items' answers, read off the values (a value's own answer does not lean on its token) -/
def eqU (x : V) (u : Value) : Bool := match u with
  | .none => eqV .non x
  | .bool b => eqV (.bl b) x
  | .int i _ => eqV (.int i) x
  | .str z _ => eqV (.str z) x
  | _ => false
theorem eqU_of {x y : V} {u : Value} (r : RelV y u) (f : flatV y = true) : eqU x u = eqV y x := by
  cases y with
  | non => cases r; rfl
  | bl b => cases r; rfl
  | int i => obtain ⟨t, rfl⟩ := r; rfl
  | str z => obtain ⟨t, rfl⟩ := r; rfl
  | _ => exact absurd (show false = true from f) Bool.false_ne_true
theorem any_eqU {x : V} : ∀ {xs : List V} {us : List Value}, Vals xs us → xs.all flatV = true → us.any (eqU x) = xs.any fun y => eqV y x
  | _, _, .nil, _ => rfl
  | y :: xs, u :: us, .cons r t, f => by
    rw [List.all_cons, Bool.and_eq_true] at f
    rw [List.any_cons, List.any_cons, eqU_of r f.1, any_eqU t f.2]
theorem mem_eqAt {A : Around} {s : Shared} {x : V} {v : Value} (rx : RelV x v) (fx : flatV x = true) : ∀ {xs : List V} {us : List Value}, Vals xs us → xs.all flatV = true → ∀ u ∈ us, SeqAt.EqAt A s u v (eqU x u)
  | _, _, .nil, _ => fun u hu => by cases hu
  | y :: xs, u :: us, .cons r t, f => fun u' hu => by
    rw [List.all_cons, Bool.and_eq_true] at f
    rcases List.mem_cons.mp hu with rfl | hu
    · rw [eqU_of r f.1]; exact eqAt_V r rx f.1 fx
    · exact mem_eqAt rx fx t f.2 u' hu
def inV (x : V) (xs : List V) : Bool := xs.any fun y => eqV y x
/-- x in a list or tuple of flat items -/
def rIn (K : PySem.W.Frag) (neg : Bool) : R2 := fun x y H Q => ∃ p xs, y = .ref p ∧ (SqL K H p xs ∨ SqT K H p xs) ∧ flatV x = true ∧ xs.all flatV = true ∧ Q (.bl (if neg then !inV x xs else inV x xs)) H
theorem op_in_seq : OpR X (compareOp .In) (rIn X.K false) := by
  intro pins s σ H x y v u Q I rx ry h
  obtain ⟨p, xs, rfl, hq, fx, fs, q⟩ := h
  cases ry
  rcases hq with hq | hq
  · obtain ⟨its, r, pl, hz⟩ := I.list hq
    refine SeqAt.in_listAt (eqU x) pl.isList (fun w hw => mem_eqAt rx fx r fs w (by simpa using hw)) ⟨.bl _, H, I, rfl, ?_⟩
    rw [show its.toArray.any (eqU x) = its.any (eqU x) by simp, any_eqU r fs]
    exact q
  · obtain ⟨its, r, pl, hz⟩ := I.tuple hq
    refine SeqAt.in_tupleAt (eqU x) pl (fun w hw => mem_eqAt rx fx r fs w (by simpa using hw)) ⟨.bl _, H, I, rfl, ?_⟩
    rw [show its.toArray.any (eqU x) = its.any (eqU x) by simp, any_eqU r fs]
    exact q
theorem op_notIn_seq : OpR X (compareOp .NotIn) (rIn X.K true) := by
  intro pins s σ H x y v u Q I rx ry h
  obtain ⟨p, xs, rfl, hq, fx, fs, q⟩ := h
  cases ry
  rcases hq with hq | hq
  · obtain ⟨its, r, pl, hz⟩ := I.list hq
    refine SeqAt.notIn_listAt (eqU x) pl.isList (fun w hw => mem_eqAt rx fx r fs w (by simpa using hw)) ⟨.bl _, H, I, rfl, ?_⟩
    rw [show its.toArray.any (eqU x) = its.any (eqU x) by simp, any_eqU r fs]
    exact q
  · obtain ⟨its, r, pl, hz⟩ := I.tuple hq
    refine SeqAt.notIn_tupleAt (eqU x) pl (fun w hw => mem_eqAt rx fx r fs w (by simpa using hw)) ⟨.bl _, H, I, rfl, ?_⟩
    rw [show its.toArray.any (eqU x) = its.any (eqU x) by simp, any_eqU r fs]
    exact q
theorem op_notIn_str : OpR X (compareOp .NotIn) (fun x y H Q => ∃ i j, x = .str i ∧ y = .str j ∧ Q (.bl (!(!(Builtin.Str.occurrences j i 0 j.length 1).isEmpty))) H) := by
  intro pins s σ H x y v u Q I rx ry h
  obtain ⟨i, j, rfl, rfl, q⟩ := h
  obtain ⟨t, rfl⟩ := rx
  obtain ⟨t', rfl⟩ := ry
  exact notIn_str ⟨.bl _, H, I, rfl, q⟩

/-! ### len, list(x), tuple(x) of any list or tuple that is read -/
theorem call_len_seq : CallR X (.builtin "len") (fun xs H Q => ∃ p ys, xs = [.ref p] ∧ (SqL X.K H p ys ∨ SqT X.K H p ys) ∧ Q (.int ys.length) H) := by
  intro pins s σ H xs us Q I r h
  obtain ⟨p, ys, rfl, hq, q⟩ := h
  obtain ⟨u, rfl, rx⟩ := vals1 r
  cases rx
  have hn := line63
  rcases hq with hq | hq
  · obtain ⟨its, r', pl, hz⟩ := I.list hq
    have hlen := r'.length
    exact Calls.call_len_list pl.isList (by simp only [List.size_toArray] <;> omega) ⟨.int ys.length, H, I.tok _, ⟨s.toks + 1, by rw [List.size_toArray, hlen]⟩, q⟩
  · obtain ⟨its, r', pl, hz⟩ := I.tuple hq
    have hlen := r'.length
    exact len_tuple pl (by simp only [List.size_toArray] <;> omega) ⟨.int ys.length, H, I.tok _, ⟨s.toks + 1, by rw [List.size_toArray, hlen]⟩, q⟩
theorem call_len_str : CallR X (.builtin "len") (fun xs H Q => ∃ z, xs = [.str z] ∧ z.length ≤ sizeLine ∧ Q (.int z.length) H) := by
  intro pins s σ H xs us Q I r h
  obtain ⟨z, rfl, hz, q⟩ := h
  obtain ⟨u, rfl, t, rfl⟩ := vals1 r
  have hn := line63
  exact len_str (by omega) ⟨.int z.length, H, I.tok _, ⟨_, rfl⟩, q⟩
theorem CallR.or {f : Value} {r r' : List V → Hp → VK → Prop} (h : CallR X f r) (h' : CallR X f r') : CallR X f (fun xs H Q => r xs H Q ∨ r' xs H Q) := by
  intro pins s σ H xs us Q I rs q
  rcases q with q | q
  · exact h pins s σ H xs us Q I rs q
  · exact h' pins s σ H xs us Q I rs q
theorem call_list_of : CallR X (.type "list") (fun xs H Q => ∃ p ys, xs = [.ref p] ∧ (SqL X.K H p ys ∨ SqT X.K H p ys) ∧ ∀ l, H l = none → Q (.ref l) (upd H l (.lst ys))) := by
  intro pins s σ H xs us Q I r h
  obtain ⟨p, ys, rfl, hq, q⟩ := h
  obtain ⟨u, rfl, rx⟩ := vals1 r
  cases rx
  have fin : ∀ (its : List Value), Vals ys its → ys.length ≤ sizeLine → ∀ (h' : Heap) (c' : Nat), (∀ b o', s.heap.get? b = some o' → h'.get? b = some o') →
      h'.get? s.heap.objs.size = some { cls := .type "list", dict := none, data := .seq its.toArray c', slots := #[] } → EP X pins σ Q (.ref s.heap.objs.size) { s with heap := h' } := fun its r' hz h' c' kp e =>
    ⟨.ref s.heap.objs.size, _, I.laid (t' := s.toks) kp (Nat.le_refl _) (show ObjOk X.prog X.w _ h' _ (.lst ys) from ⟨hz, its, c', r', e⟩), rfl, q _ (I.hok.fresh (Nat.le_refl _))⟩
  rcases hq with hq | hq
  · obtain ⟨its, r', pl, hz⟩ := I.list hq
    have hlen := r'.length
    obtain ⟨o, ho, hc, n, hd⟩ := pl.isList
    exact call_list_seq p (.inl rfl) ho hc hd (fun h' c' kp e => fin its r' hz h' c' kp e) (by simp only [List.size_toArray] <;> omega)
  · obtain ⟨its, r', pl, hz⟩ := I.tuple hq
    have hlen := r'.length
    obtain ⟨o, ho, hc, n, hd⟩ := pl
    exact call_list_seq p (.inr rfl) ho hc hd (fun h' c' kp e => fin its r' hz h' c' kp e) (by simp only [List.size_toArray] <;> omega)
theorem call_tuple_of : CallR X (.type "tuple") (fun xs H Q => ∃ p ys, xs = [.ref p] ∧ ((SqL X.K H p ys ∧ ∀ l, H l = none → Q (.ref l) (upd H l (.tup ys))) ∨ (SqT X.K H p ys ∧ Q (.ref p) H))) := by
  intro pins s σ H xs us Q I r h
  obtain ⟨p, ys, rfl, h⟩ := h
  obtain ⟨u, rfl, rx⟩ := vals1 r
  cases rx
  rcases h with ⟨hq, q⟩ | ⟨hq, q⟩
  · obtain ⟨its, r', pl, hz⟩ := I.list hq
    have hlen := r'.length
    refine call_tuple_list pl.isList (fun h' kp => ?_) (by simp only [List.size_toArray] <;> omega)
    have I1 : Inv X pins σ H { s with heap := h' } := I.kept (t' := s.toks) kp
    have I2 : Inv X pins σ (upd H h'.objs.size (.tup ys)) { s with heap := h'.push { cls := .type "tuple", data := .seq its.toArray } } :=
      I1.laid (t' := s.toks) (fun b o e => Heap.get?_push_of_some _ e) (Nat.le_refl _) (show ObjOk X.prog X.w _ _ _ (.tup ys) from ⟨hz, its, r', IsTup.new _ _⟩)
    exact ⟨.ref h'.objs.size, _, I2, rfl, q _ (I1.hok.fresh (Nat.le_refl _))⟩
  · obtain ⟨its, r', pl, hz⟩ := I.tuple hq
    exact call_tuple_same pl ⟨.ref p, H, I, rfl, q⟩

/-! ### the call of a builtin's method: o.m(..) -/
/-- the value is of that builtin type -/
def tyV (K : PySem.W.Frag) (T : String) (x : V) (H : Hp) : Prop := match x with
  | .str _ => T = "str"
  | .int _ => T = "int"
  | .ref p => (T = "list" ∧ ∃ xs, SqL K H p xs) ∨ (T = "tuple" ∧ ∃ o, K.lookup p = some o ∧ o.cls = .type "tuple" ∧ o.dict = none) ∨
      (T = "dict" ∧ ((∃ kvs, H p = some (.dK kvs)) ∨ ∃ kvs, H p = some (.dT kvs))) ∨ (T = "set" ∧ ∃ S n, H p = some (.set S n))
  | _ => False
theorem tyV_is {pins : List (Addr × Obj)} {σ : St} {H : Hp} {s : Shared} {T : String} {x : V} {v : Value} (I : Inv X pins σ H s) (r : RelV x v) (ty : tyV X.K T x H) :
    s.TypeIs v T ∧ ∀ a, v = .ref a → ∃ ob, s.heap.get? a = some ob ∧ ob.dict = none := by
  cases x with
  | str z =>
    obtain ⟨t, rfl⟩ := r
    cases (show T = "str" from ty)
    exact ⟨typeIs_str s z t, fun _ e => nomatch e⟩
  | int i =>
    obtain ⟨t, rfl⟩ := r
    cases (show T = "int" from ty)
    exact ⟨typeIs_int s i t, fun _ e => nomatch e⟩
  | ref p =>
    cases r
    rcases ty with ⟨rfl, xs, hq⟩ | ⟨rfl, o, hk, hc, hd⟩ | ⟨rfl, hk⟩ | ⟨rfl, S, n, hk⟩
    · obtain ⟨its, _, pl, _⟩ := I.list hq
      refine ⟨pl.isList.typeIs, fun a e => ?_⟩
      cases e
      obtain ⟨o, n, e, c, hd, _⟩ := pl
      exact ⟨o, e, hd⟩
    · refine ⟨⟨o, I.kIn p o hk, hc⟩, fun a e => ?_⟩
      cases e
      exact ⟨o, I.kIn _ o hk, hd⟩
    · have z : ∃ o, s.heap.get? p = some o ∧ o.ExactDict := by
        rcases hk with ⟨kvs, hk⟩ | ⟨kvs, hk⟩
        · obtain ⟨_, _, _, _, o, _, _, e, ex, _⟩ := I.hok p _ hk
          exact ⟨o, e, ex⟩
        · obtain ⟨_, _, _, _, o, _, _, e, ex, _⟩ := I.hok p _ hk
          exact ⟨o, e, ex⟩
      obtain ⟨o, e, ex⟩ := z
      refine ⟨⟨o, e, ex.1⟩, fun a e2 => ?_⟩
      cases e2
      exact ⟨o, e, ex.2.1⟩
    · obtain ⟨o, _, _, _, e, ex, _⟩ := I.hok p _ hk
      refine ⟨⟨o, e, ex.1⟩, fun a e2 => ?_⟩
      cases e2
      exact ⟨o, e, ex.2.1⟩
  | _ => exact False.elim ty
def tBM (K : PySem.W.Frag) (T : String) (r : V → List V → Hp → VK → Prop) (to : TE) (t : TA) : TE := fun σ H Q => to σ H fun x H1 => tyV K T x H1 ∧ t σ H1 fun xs H2 => r x xs H2 Q
variable {o e : Expr} {es : List Expr} {to : TE} {t : TA} {name : Str} {apos cpos : Pos} {T id : String} {r : V → List V → Hp → VK → Prop}
theorem pe_bm (pa : PlainAttrs T) (slot : Slot T name id) (hty : typeOf (.builtin id) = pure (.type "method_descriptor")) (hm : MtR X id r) (ho : PE X o to) (ha : PA X (e :: es) t)
    (hbase : attributeBase o name X.env (eval o X.env) = eval o X.env := by rfl)
    (hfew : ((backTo cpos (starEach (e :: es) X.env)).all (fun x => !x.1) && (backToKw cpos (keywordEach [] X.env)).all (fun x => x.1.isSome)
      && decide ((e :: es).length + ([] : List Keyword).length + (if ([] : List Keyword).isEmpty then 0 else 1) < 30)) = true := by rfl)
    (hline : (apos.endLine == cpos.line) = true := by rfl) (hs : starEach (e :: es) X.env = (false, eval e X.env) :: starEach es X.env := by rfl) (hplain : (backTo cpos (starEach es X.env)).any (·.1) = false := by rfl) :
    PE X (.Call (.Attribute o name apos) (e :: es) [] cpos) (tBM X.K T r to t) := by
  intro pins s σ H Q I h
  refine wpAny_Call_method_late hbase hfew hline rfl (thn (ho pins s σ H _ I h) fun v s1 ⟨x, H1, I1, r1, ty, q1⟩ => ?_)
  obtain ⟨h1, h2⟩ := tyV_is I1 r1 ty
  refine ⟨T, id, pa, slot, hty, h1, h2, ?_⟩
  have hA := ha cpos pins s1 σ H1 _ I1 q1
  rw [hs] at hA ⊢
  refine Calls.callWith_builtin (by show (false || (backTo cpos (starEach es X.env)).any (·.1)) = false; rw [hplain] <;> rfl) (Calls.evalArgs_plain ?_)
  exact thn hA fun us s2 ⟨vs, H2, I2, r2, q2⟩ => hm pins s2 σ H2 x vs v us Q I2 r1 r2 q2
/- xs.append(e), list.index on a module's tuple .. are MtR facts of 06m -/
end
end L2

namespace L2
open PySem PySem.Spec PyProof.Rows

def MtM (X : Cx) (id : String) (r : V → List V → Hp → VK → Prop) : Prop :=
  ∀ (pins : List (Addr × Obj)) (s : Shared) (σ : St) (H : Hp) (x : V) (xs : List V) (v : Value) (us : List Value) (Q : VK), Inv X pins σ H s → RelV x v → Vals xs us → r x xs H Q →
    wpAny (model X.prog X.w) X.A (call (.builtin id) (v :: us)) (EP X pins σ Q) X.xe s

/-! ### lists of values -/
theorem Vals.one : ∀ {x : V} {us : List Value}, Vals [x] us → ∃ u, us = [u] ∧ RelV x u
  | _, _, .cons r .nil => ⟨_, rfl, r⟩
theorem Vals.two : ∀ {x y : V} {us : List Value}, Vals [x, y] us → ∃ u v, us = [u, v] ∧ RelV x u ∧ RelV y v
  | _, _, _, .cons r (.cons q .nil) => ⟨_, _, rfl, r, q⟩
theorem Vals.zero : ∀ {us : List Value}, Vals [] us → us = []
  | _, .nil => rfl
theorem Vals.rep {xs : List V} {us : List Value} (h : Vals xs us) : ∀ k : Nat, Vals (List.replicate k xs).flatten (List.replicate k us).flatten
  | 0 => .nil
  | k + 1 => by
    rw [List.replicate_succ, List.replicate_succ, List.flatten_cons, List.flatten_cons]
    exact Vals.append h (Vals.rep h k)
theorem foldl_rep (its : List Value) : ∀ (k : Nat) (acc : List Value),
    List.foldl (fun x1 x2 => x1 ++ x2) acc.toArray (List.replicate k its.toArray) = (acc ++ (List.replicate k its).flatten).toArray
  | 0, acc => by simp
  | k + 1, acc => by
    have e : acc.toArray ++ its.toArray = (acc ++ its).toArray := by simp
    have e2 : (acc ++ its) ++ (List.replicate k its).flatten = acc ++ (List.replicate (k + 1) its).flatten := by
      rw [List.replicate_succ, List.flatten_cons, List.append_assoc]
    rw [← e2, ← foldl_rep its k (acc ++ its), ← e, List.replicate_succ, List.foldl_cons]

section
variable {X : Cx} {pins : List (Addr × Obj)} {σ : St} {H : Hp} {s : Shared} {l b : Addr} {xs ys zs : List V}

/-! ### the two steps: a tracked list is rewritten, a new list is laid -/
theorem Inv.lset {its its' : List Value} {n : Nat} {f : Array Value → Array Value} {t' : Nat} (I : Inv X pins σ H s) (hH : H l = some (.lst xs))
    (e : s.heap.get? l = some { cls := .type "list", data := .seq its.toArray n }) (hf : f its.toArray = its'.toArray) (hv : Vals ys its') (hz : ys.length ≤ sizeLine) :
    Inv X pins σ (upd H l (.lst ys)) { s with heap := s.heap.update l (Obj.mapSeq f), toks := t' } := by
  have q := PySem.IsL.update e f
  rw [hf] at q
  refine I.write (x := l) (e := l) (by rw [hH]; exact trivial) (.inl rfl) (fun b' u hb hu => (Heap.get?_update_other s.heap (Obj.mapSeq f) (Ne.symm hb)).trans hu) ⟨_, q⟩ ?_
  exact ⟨hz, its', _, hv, q⟩
theorem Inv.lnew {its : List Value} {t' : Nat} (I : Inv X pins σ H s) (hv : Vals ys its) (hz : ys.length ≤ sizeLine) :
    Inv X pins σ (upd H s.heap.objs.size (.lst ys)) { s with heap := s.heap.push { cls := .type "list", data := .seq its.toArray }, toks := t' } :=
  I.laid (fun _ _ q => Heap.get?_push_of_some _ q) (Nat.le_refl _) ⟨hz, its, 0, hv, Heap.get?_push_size _ rfl⟩
theorem Inv.fresh (I : Inv X pins σ H s) : H s.heap.objs.size = none := I.hok.fresh (Nat.le_refl _)
theorem Inv.lstM (I : Inv X pins σ H s) (hH : H l = some (.lst xs)) : xs.length ≤ sizeLine ∧ ∃ (its : List Value) (n : Nat), Vals xs its ∧ xs.length = its.length ∧ s.heap.get? l = some { cls := .type "list", data := .seq its.toArray n } := by
  obtain ⟨z, its, n, r, e⟩ := I.hok l _ hH
  exact ⟨z, its, n, r, r.length, e⟩

theorem notLongL {n : Nat} (h : n ≤ sizeLine) : Builtin.List.listTooLong n = false := by
  unfold Builtin.List.listTooLong
  exact decide_eq_false (by omega)
end

section
variable {X : Cx}

/-! ### methods -/
def rAppend : V → List V → Hp → VK → Prop := fun x vs H Q => ∃ l xs y, x = .ref l ∧ vs = [y] ∧ H l = some (.lst xs) ∧ xs.length < sizeLine ∧ Q .non (upd H l (.lst (xs ++ [y])))
theorem mt_append : MtM X "list.append" rAppend := by
  intro pins s σ H x vs v us Q I rx rv h
  obtain ⟨l, xs, y, rfl, rfl, hH, hz, q⟩ := h
  cases rx
  obtain ⟨u, rfl, ru⟩ := rv.one
  obtain ⟨z, its, n, r, hl, e⟩ := I.lstM hH
  refine call_meets F.slot_list_append ⟨_, e, rfl⟩ F.entry_list_append (F.args_list_append_2 _ _) (PySem.list_append l its.toArray n u (by rw [List.size_toArray]; omega)) ⟨e, ?_⟩
  refine ⟨.non, _, I.lset (its' := its ++ [u]) hH e (by simp) (r.append (.cons ru .nil)) ?_, rfl, q⟩
  rw [List.length_append, List.length_singleton]
  omega

def rExtend : V → List V → Hp → VK → Prop := fun x vs H Q => ∃ l b xs zs, x = .ref l ∧ vs = [.ref b] ∧ H l = some (.lst xs) ∧ H b = some (.lst zs) ∧ xs.length + zs.length ≤ sizeLine ∧ Q .non (upd H l (.lst (xs ++ zs)))
theorem mt_extend : MtM X "list.extend" rExtend := by
  intro pins s σ H x vs v us Q I rx rv h
  obtain ⟨l, b, xs, zs, rfl, rfl, hH, hB, hz, q⟩ := h
  cases rx
  obtain ⟨u, rfl, ru⟩ := rv.one
  cases ru
  obtain ⟨z, its, n, r, hl, e⟩ := I.lstM hH
  obtain ⟨z2, its2, n2, r2, hl2, e2⟩ := I.lstM hB
  have hsz : its.toArray.size + its2.toArray.size ≤ sizeLine := by rw [List.size_toArray, List.size_toArray]; omega
  have hlong : ¬ (!its.toArray.isEmpty && Builtin.List.listTooLong (its.toArray.size + its2.toArray.size)) = true := by
    rw [notLongL hsz, Bool.and_false]
    exact Bool.false_ne_true
  refine call_meets F.slot_list_extend ⟨_, e, rfl⟩ F.entry_list_extend (F.args_list_extend_2 _ _)
    (AutoSeq1.list_extend_list_list_0 l its.toArray n b its2.toArray n2 hlong (by rw [List.size_toArray]; omega) (by omega)) ⟨e, e2, ?_⟩
  refine ⟨.non, _, I.lset (its' := its ++ its2) hH e (by simp) (r.append r2) ?_, rfl, q⟩
  rw [List.length_append]
  omega

/-! ### list + list, list += list, list * int -/
def rCat : R2 := fun x y H Q => ∃ l b xs zs, x = .ref l ∧ y = .ref b ∧ H l = some (.lst xs) ∧ H b = some (.lst zs) ∧ xs.length + zs.length ≤ sizeLine ∧ ∀ p, H p = none → Q (.ref p) (upd H p (.lst (xs ++ zs)))
theorem op_cat : OpR X (binaryOp .Add) rCat := by
  intro pins s σ H x y v u Q I rx ry h
  obtain ⟨l, b, xs, zs, rfl, rfl, hH, hB, hz, q⟩ := h
  cases rx
  cases ry
  obtain ⟨z, its, n, r, hl, e⟩ := I.lstM hH
  obtain ⟨z2, its2, n2, r2, hl2, e2⟩ := I.lstM hB
  refine PySem.P.add_list e e2 ?_ (by rw [List.size_toArray, List.size_toArray]; omega)
  have ea : its.toArray ++ its2.toArray = (its ++ its2).toArray := by simp
  rw [ea]
  exact ⟨.ref _, _, I.lnew (t' := s.toks) (r.append r2) (by rw [List.length_append]; omega), rfl, q _ I.fresh⟩
/-- a list times an int (a negative one is nothing) -/
def rRep : R2 := fun x y H Q => ∃ l k xs, x = .ref l ∧ y = .int k ∧ H l = some (.lst xs) ∧ -(2 ^ 63) ≤ k ∧ k < 2 ^ 63 ∧ xs.length * k.toNat ≤ sizeLine ∧
  ∀ p, H p = none → Q (.ref p) (upd H p (.lst (List.replicate k.toNat xs).flatten))
theorem len_rep {α : Type} (xs : List α) (k : Nat) : (List.replicate k xs).flatten.length = k * xs.length := by
  induction k with
  | zero => simp
  | succ k ih => rw [List.replicate_succ, List.flatten_cons, List.length_append, ih, Nat.succ_mul, Nat.add_comm]
theorem op_rep : OpR X (binaryOp .Mult) rRep := by
  intro pins s σ H x y v u Q I rx ry h
  obtain ⟨l, k, xs, rfl, rfl, hH, h1, h2, hz, q⟩ := h
  cases rx
  obtain ⟨t, rfl⟩ := ry
  obtain ⟨z, its, n, r, hl, e⟩ := I.lstM hH
  have hlen : its.toArray.size * k.toNat ≤ sizeLine := by rw [List.size_toArray, ← hl]; exact hz
  have hcap : ¬ its.toArray.size * k.toNat > (2 ^ 63 - 1) / 8 := by
    have : (sizeLine : Nat) ≤ (2 ^ 63 - 1) / 8 := by decide
    omega
  have hfit : ¬ (!Builtin.List.listFitsIndex k) = true := by
    rw [fitsIndex_both h1 h2]
    exact Bool.false_ne_true
  have hlong : ¬ Builtin.List.listTooLong (its.toArray.size * k.toNat) = true := by
    rw [notLongL hlen]
    exact Bool.false_ne_true
  have hnew : List.foldl (fun x1 x2 => x1 ++ x2) #[] (List.replicate (if its.toArray.isEmpty = true then 0 else k.toNat) its.toArray) = (List.replicate k.toNat its).flatten.toArray := by
    have f0 : ∀ m : Nat, List.foldl (fun x1 x2 => x1 ++ x2) #[] (List.replicate m its.toArray) = (List.replicate m its).flatten.toArray := fun m => by
      have := foldl_rep its m []
      rw [List.nil_append] at this
      exact this
    rw [f0]
    cases its with
    | nil => simp
    | cons a r' => rw [if_neg (by simp)]
  refine wpAny_binaryOp_repeat_ref (T := "list") (U := "int") (by decide) ⟨_, e, rfl⟩ (fun s' => typeIs_int s' k t) noFill_list_mul F.fills_int_mul F.slot_int_rmul repeat_list F.slot_int_index.lookup
    (call_meets F.slot_int_rmul (typeIs_int s k t) F.entry_int_rmul (F.args_int_rmul_2 _ _) (int___rmul___int_list k t l its.toArray n)
      ⟨e, rfl, ⟨_, e, rfl⟩, call_meets F.slot_list_mul ⟨_, e, rfl⟩ F.entry_list_mul (F.args_list_mul_2 _ _) (AutoListH.list___mul___list_int_3 l its.toArray n k t hfit hcap hlong) ⟨e, ?_⟩⟩)
  rw [hnew]
  exact ⟨.ref _, _, I.lnew (t' := s.toks) (r.rep k.toNat) (by rw [len_rep, Nat.mul_comm]; exact hz), rfl, q _ I.fresh⟩

/-! ### del xs[i] -/
end

/-! ### xs[a:b] = ys -/
section
variable {prog : Program} {w : World} {A : Around} {E : Value → Shared → Prop} {s : Shared}
end

section
variable {X : Cx}
end
end L2

namespace Att
open PySem PySem.W PySem.Calls PyProof.Rows

/-! ### the script -/
theorem ints_of_wellAll {P : Params} {h : Heap} : ∀ (ns : List Int) (vs : List Value), WellAll P h vs (ns.map WData.int) → IntsAre vs ns := by
  intro ns
  induction ns with
  | nil =>
    intro vs w
    rw [List.map_nil] at w
    cases w
    exact .nil
  | cons n ns ih =>
    intro vs w
    rw [List.map_cons] at w
    cases w with
    | cons a b =>
      cases a
      exact .cons _ _ (ih _ b)

theorem script_of {l : OpenLaw} {n : Nat} (hn : l.most = some n) {P : Params} {h : Heap} {args : List WData} {vals : List Value}
    (hpre : l.row.toRowW.claim.pre args = true) (hwl : WellAll P h vals args) :
    ∃ a vs ns, vals = [Value.ref a] ∧ args = [WData.list (ns.map WData.int)] ∧ h.get? a = some { cls := .type "list", data := .seq vs.toArray } ∧ IntsAre vs ns ∧ ns.length ≤ n := by
  have hsh : WShape.hasAll [] args [.list .int] = true := (pre_splitW hpre).1
  have hc : l.pre.holds [] { args := args } = true := (pre_splitW hpre).2
  obtain ⟨d, r, rfl, h1, h2⟩ := hasAllW_cons hsh
  obtain rfl := hasAllW_nil h2
  obtain ⟨xs, rfl, h3⟩ := hasW_list h1
  obtain ⟨ns, rfl⟩ := items_int h3
  have hlen : ns.length ≤ n := by
    unfold OpenLaw.pre at hc
    have h4 : (WTm.not (.lt (.lit (.int (n : Int))) (.len (.arg 0)))).holds [] { args := [.list (ns.map .int)] } = true := by
      have h4 := (holds_andW hc).1
      rw [hn] at h4
      exact h4
    have h5 := condW_of h4 (w_not (w_lt w_lit (w_len_list (w_arg rfl))))
    rw [List.length_map] at h5
    refine Nat.le_of_not_lt fun q => ?_
    have q' : (n : Int) < ((ns.length : Nat) : Int) := by omega
    first
      | (rw [decide_eq_true q'] at h5; exact absurd h5 (by decide))
      | (simp at h5; omega)
  cases hwl with
  | cons w1 w2 =>
    cases w2
    cases w1 with
    | list ho hall => exact ⟨_, _, ns, rfl, rfl, ho, ints_of_wellAll ns _ hall, hlen⟩

theorem post_true (l : OpenLaw) (args : List WData) : l.row.toRowW.claim.post args (.bool true) args = true :=
  postW_of (r := l.row.toRowW) (X := (true == true))
    (show WShape.has [] (.bool true) .bool = true by first | rfl | decide | simp [WShape.has, WShape.arms, WShape.armsAll])
    (show (WTm.eq .res (.lit (.bool true))).value [] { args := args, res := some (.bool true), after := args } = some (.bool (true == true)) from w_eq_bool (w_res rfl) w_lit) rfl

/-! ### the attachment: holds_open's last premise (the goal 'hc' behind k_head) from a wpAny of the law's body -/
/-- the same from a codeAny of the CALL (for a layer whose function contracts speak of calls) -/
theorem attach_call {l : OpenLaw} {n : Nat} {q : Program} {loose : List Str} {XP : (Str → Option Value) → Heap → Prop} {YP : World → Heap → Prop} {d : DefRec}
    (hn : l.most = some n) (hdf : d.params.defaults = [])
    (call : ∀ (w : World) (s₀ s₁ : Shared) (mg mb : Str → Option Value) (fa : Addr) (o : Obj) (pm cd doc : Value) (a : Addr) (vs : List Value) (ns : List Int),
      Ground q loose [] XP w s₀ mg mb s₁.heap → YP w s₁.heap →
      s₁.heap.get? fa = some o → o.data = .func (docDef d.name d.params d.body d.scope pm cd doc) → s₁.heap.CodeRec cd d.name → mg d.name = some (.ref fa) →
      s₁.heap.get? a = some { cls := .type "list", data := .seq vs.toArray } → IntsAre vs ns → ns.length ≤ n → s₁.gens = #[] →
      codeAny (model l.prog w) callerA (.call (.ref fa) ⟨[.ref a], []⟩) (fun r s' => r = .ok (.ret (.bool true)) ∧ OldK s₁.heap s'.heap ∧ s'.os = s₁.os ∧ AllBare s'.gens) s₁) :
    WalkO q loose XP YP l.row.toRowW d [] (fun f vs => PySem.call f vs) := by
  intro w s₀ s₁ mg mb G Y fa o pm cd doc dV kV ho hd hcd hD hmg hg args vals as hpre hlay hrd hwl hlo
  obtain rfl : dV = .none := Dflts.none hD hdf
  obtain rfl : kV = .none := Dflts.noKw hD
  obtain ⟨a, vs, ns, rfl, rfl, hobj, hints, hlen⟩ := script_of hn hpre hwl
  refine enter_call (codeAny_mono (call w s₀ s₁ mg mb fa o pm cd doc a vs ns G Y ho (fd_plain hd) hcd hmg hobj hints hlen hg) fun r s' hq => ?_)
  obtain ⟨rfl, h2, h3, h4⟩ := hq
  exact ⟨.inl ⟨.bool true, .bool true, [], rfl, fun _ => rfl, .bool true, post_true l _, fun _ => ⟨List.Pairwise.nil, fun _ hm => (nomatch hm)⟩⟩, h2, h3, h4⟩

/-! ### rules over ANY heap (no ledger) from facts about the written part K: the library's own take a ledger (News) for what they write -/
section
variable {prog : Program} {w : World} {A : Around} {E : Value → Shared → Prop} {s : Shared} {K : Frag}

/-! the whole heap as the ledger: makes every rule that writes through a ledger a rule over any heap -/
def ledger (h : Heap) (L d : Addr) : List (Addr × Obj) := (List.range h.objs.size).filterMap fun a => if a = L ∨ a = d then none else (h.get? a).map fun o => (a, o)
end
end Att

namespace L2
open PySem PySem.Spec PyProof.Rows

theorem vals_ints : ∀ {vs : List Value} {ns : List Int}, IntsAre vs ns → Vals (ns.map V.int) vs
  | _, _, .nil => .nil
  | _, _, .cons n t h => .cons ⟨t, rfl⟩ (vals_ints h)

/-- nothing is tracked but the script, known to the object (or it is an object of the module) -/
def Only (H : Hp) : Prop := ∀ b, H b = none ∨ ∃ o xs, H b = some (.frz o (.lst xs))

/-- THE HEAD: the law's promise, at the heap behind the top. F, the promise of the law's def, may use that base is part of the heap (so K.In base, base.Ns mainGlobals mg stand in Mod) -/
theorem law_call {P : Program} {w : World} {K : PySem.W.Frag} {mg mb : Str → Option Value} {CX : CXT} {k : Nat} {fa a : Addr} {fd : FuncData} {x : Str} {sp : Sp} {s₁ : Shared} {vs : List Value} {ns : List Int}
    (KX : K.In s₁.heap) (hns : s₁.heap.Ns mainGlobals mg) (hb : s₁.heap.Ns builtinsNs mb) (hbb : ∀ x : Str, x ≠ "__name__" → mb x = bootBuiltins x) (hlim : s₁.heap.NoLimit) (hg : s₁.gens = #[])
    (ha : s₁.heap.get? a = some { cls := .type "list", data := .seq vs.toArray }) (hi : IntsAre vs ns) (hl : ns.length ≤ sizeLine) (hr : Room k callerA)
    (F : ∀ base : Heap, K.In base → base.Ns mainGlobals mg → FnOk P w K mg base CX k fa fd [x] sp) (hbind : ∀ (s : Shared) (u : Value), BindsTo s fd ⟨[u], []⟩ [(x, u)])
    (hsp : ∀ H : Hp, Only H → SqL K H a (ns.map V.int) → sp [.ref a] H (fun v _ => v = .bl true) fun _ _ _ => False)
    (hCX : ∀ H e s', CX [] H s₁ (fun _ _ _ => False) e s' → False) :
    codeAny (model P w) callerA (.call (.ref fa) ⟨[.ref a], []⟩) (fun r s' => r = .ok (.ret (.bool true)) ∧ OldK s₁.heap s'.heap ∧ s'.os = s₁.os ∧ AllBare s'.gens) s₁ := by
  have rv := vals_ints hi
  have lenV := hi.length
  -- from an abstract heap in which nothing but the script may be tracked
  have core : ∀ H : Hp, Only H → SqL K H a (ns.map V.int) → HOk P w H s₁.heap → (∀ b, H b ≠ none → b = a) → (H a ≠ none → K.lookup a = none) →
      codeAny (model P w) callerA (.call (.ref fa) ⟨[.ref a], []⟩) (fun r s' => r = .ok (.ret (.bool true)) ∧ OldK s₁.heap s'.heap ∧ s'.os = s₁.os ∧ AllBare s'.gens) s₁ := by
    intro H hO hS hok hA hK
    have base_of : ∀ {b : Addr} {o : Obj}, s₁.heap.get? b = some o → H b = none → (hidT s₁.heap H).get? b = some o := fun e n => hidT_get e n
    have noA : ∀ {b : Addr} {o : Obj} {es : Array DictEntry} {ep : Nat}, s₁.heap.get? b = some o → o.data = .dict es ep → H b = none := fun {b o es ep} e d => by
      cases q : H b with
      | none => rfl
      | some u =>
        have e' : b = a := hA b (by rw [q]; simp)
        subst e'
        rw [ha] at e; cases e
        have d' : Data.seq vs.toArray _ = Data.dict es ep := d
        cases d'
    have nsK : ∀ {b : Addr} {m : Str → Option Value}, s₁.heap.Ns b m → (hidT s₁.heap H).Ns b m := fun {b m} ⟨o, es, ep, e, d, r⟩ => ⟨o, es, ep, base_of e (noA e d), d, r⟩
    have hKb : K.In (hidT s₁.heap H) := fun b o e => base_of (KX b o e) (by
      cases q : H b with
      | none => rfl
      | some u =>
        have e' : b = a := hA b (by rw [q]; simp)
        subst e'
        rw [hK (by rw [q]; simp)] at e; cases e)
    have hM : Mod K mg (hidT s₁.heap H) := ⟨hKb, nsK hns, ⟨mb, nsK hb, hbb⟩, let ⟨mc, h1, h2⟩ := hlim; ⟨mc, nsK h1, h2⟩⟩
    have e0 : Env0 P w K mg (hidT s₁.heap H) callerA [] s₁ H := ⟨rfl, hM, fun b o e => of_hidT e, Nat.le_of_eq (hidT_size _ _), trivial, fun b hb => absurd (show b ∈ ([] : List Addr) from hb) (by simp), hok, .of_eq hg⟩
    refine codeAny_mono ((F _ hKb (nsK hns)).run callerA [] s₁ H ⟨[.ref a], []⟩ [.ref a] [.ref a] _ _ hr e0 (hbind s₁ (.ref a)) (.cons rfl .nil) (hsp H hO hS)) fun r s' h => ?_
    cases r with
    | error e => exact (hCX H e s' h).elim
    | ok fl =>
      cases fl with
      | next => exact False.elim h
      | brk => exact False.elim h
      | cont => exact False.elim h
      | ret u =>
        obtain ⟨v, H', os, bare, un, hok', r', q⟩ := h
        have q' : v = .bl true := q
        subst q'
        obtain rfl : u = Value.bool true := r'
        refine ⟨rfl, OldK.of_keep fun b o e => ?_, os, bare⟩
        cases q : H b with
        | none => exact un.keep b o e q (by intro z; exact absurd (show b ∈ ([] : List Addr) from z) (by simp)) (by simp)
        | some u =>
          rcases hO b with z | ⟨ob, xs, z⟩
          · rw [q] at z; cases z
          · have z2 := un.frzs b ob _ z
            obtain ⟨e1, _⟩ := hok b _ z
            obtain ⟨e2, _⟩ := hok' b _ z2
            rw [e] at e1; cases e1
            exact e2
  cases hk : K.lookup a with
  | some o =>
    -- the script is one of the module's own objects
    have e := KX a o hk
    rw [ha] at e
    cases e
    refine core (fun _ => none) (fun _ => .inl rfl) (.inr ⟨_, vs.toArray, _, hk, rfl, rfl, rfl, by rw [List.size_toArray, lenV]; exact hl, by simpa using rv⟩) (fun b u z => by have z' : (none : Option HO) = some u := z; cases z') (fun b z => absurd rfl z) fun z => absurd rfl z
  | none =>
    refine core (fun b => if b = a then some (.frz { cls := .type "list", data := .seq vs.toArray } (.lst (ns.map V.int))) else none) (fun b => ?_) (.inl (.inr ⟨{ cls := .type "list", data := .seq vs.toArray }, if_pos rfl⟩)) (fun b u z => ?_) (fun b z => ?_) fun _ => hk
    · by_cases hb : b = a
      · exact .inr ⟨_, _, if_pos hb⟩
      · exact .inl (if_neg hb)
    · by_cases hb : b = a
      · have z' := (if_pos hb).symm.trans z
        cases z'
        subst hb
        exact ⟨ha, by rw [List.length_map]; exact hl, vs, _, rv, ha⟩
      · have z' := (if_neg hb).symm.trans z
        cases z'
    · by_cases hb : b = a
      · exact hb
      · exact absurd (if_neg hb) z
end L2

namespace L2
open PySem PySem.Spec PyProof.Rows

abbrev KOf {K : PySem.W.Frag} {h : Heap} (_ : K.In h) : PySem.W.Frag := K

/-- the goal that k_head leaves (case hc), from the law's promise. F gives the function object fd (K's own) once, then the promise over every base -/
theorem walk_of {l : PySem.W.OpenLaw} {n k : Nat} {q : Program} {loose : List Str} {XP : (Str → Option Value) → Heap → Prop} {YP : World → Heap → Prop} {d : DefRec} {K : Params → PySem.W.Frag} {CX : World → CXT} {sp : World → Sp} {x : Str}
    (hn : l.most = some n) (hn2 : n ≤ sizeLine) (hdf : d.params.defaults = []) (hr : Room k callerA)
    (hY : ∀ (w : World) (h : Heap), YP w h → (K w.params).In h)
    (F : ∀ (w : World) (mg : Str → Option Value) (fa : Addr) (h : Heap), (K w.params).In h → h.Ns mainGlobals mg → mg d.name = some (.ref fa) →
      ∃ fd : FuncData, (∀ (s : Shared) (u : Value), BindsTo s fd ⟨[u], []⟩ [(x, u)]) ∧
        ∀ base : Heap, (K w.params).In base → base.Ns mainGlobals mg → FnOk l.prog w (K w.params) mg base (CX w) k fa fd [x] (sp w))
    (hsp : ∀ (w : World) (H : Hp) (a : Addr) (ns : List Int), ns.length ≤ n → Only H → SqL (K w.params) H a (ns.map V.int) → sp w [.ref a] H (fun v _ => v = .bl true) fun _ _ _ => False)
    (hCX : ∀ (w : World) (H : Hp) (s : Shared) (e : Value) (s' : Shared), CX w [] H s (fun _ _ _ => False) e s' → False) :
    PySem.W.WalkO q loose XP YP l.row.toRowW d [] (fun f vs => PySem.call f vs) := by
  refine Att.attach_call hn hdf fun w s₀ s₁ mg mb fa o pm cd doc a vs ns G Y ho hd hcd hmg hobj hints hlen hg => ?_
  have KX := hY w _ Y
  obtain ⟨fd, hb, hF⟩ := F w mg fa _ KX G.T.g hmg
  exact law_call KX G.T.g G.T.b G.T.builtins G.T.nolimit hg hobj hints (Nat.le_trans hlen hn2) hr hF hb (fun H hO hS => hsp w H a ns hlen hO hS) fun H e s' => hCX w H s₁ e s'
end L2

/- THE LAST THEOREM (shape; LID, My.* are yours):
   My.Adr: a structure of the addresses that your layer names (classes, functions); My.Txt K t: a structure (Prop) of the equations over K;
   My.txt_mk : {K} {implicit addresses ..} (e1 : nsIn K mainGlobals "law" = some (some (.ref f))) (e2 : K.lookup f = some ⟨oc, od, .func (fnOf "law" "law" params body scope dV kV doc pm an cdv ct), sl⟩) (e3 : codeIn K cdv "law" = true) .. : ∃ t, My.Txt K t

set_option maxRecDepth 100000 in
set_option maxHeartbeats 0 in
theorem PySem.Challenge.cw_LID_holds : PySem.Challenge.rw_LID.Holds := by
  w_on; o_law; k_head; (case hw => w_witness2)
  k_fill
  refine L2.walk_of (l := PySem.Challenge.rw_LID) (n := 63) (k := 40) (x := "script") (CX := fun w => ..) (sp := fun _ => My.sp_law) rfl (by decide) rfl ⟨rfl, by decide, by decide⟩ (fun w h Y => PySem.W.kIn_of Y) ?F ?S ?C
  case F =>
    intro w mg fa h KX G hmg
    have T : ∃ t, My.Txt (L2.KOf KX) t := by
      dsimp only [L2.KOf]                          -- K must stand as «<heap const> w.params» for k_is
      refine' My.txt_mk ?e1 ?e2 ?e3 ..
      (case e1 => PySem.W.k_is)                    -- in the order: a name -> its address -> its object -> its parts
      (case e2 => PySem.W.k_is)
      ..
    obtain ⟨t, T⟩ := T
    have e0 := hmg.symm.trans (PySem.W.mg_of KX G T.law)
    cases e0                                       -- fa is the law's own address
    exact ⟨_, fun s u => .of_eq rfl, fun base kb nb => My.law_fn T kb nb⟩     -- if «.of_eq rfl» comes too early: refine' ⟨_, ?b, fun base kb nb => My.law_fn T kb nb⟩; exact fun s u => .of_eq rfl
  case S => exact fun w H a ns hl hO hS => ..
  case C => exact ..
(the tactic k_is has no namespace: write k_is) -/

/-! SHORT WORDS over the layer: a def of the text, its body, what a loop and a test want. -/
namespace L2
open PySem PySem.Spec PyProof.Rows

/-! ### the text by places -/
def defArgs (s : Stmt) : Arguments := match s with
  | .FunctionDef _ a _ _ _ _ _ _ _ _ => a
  | _ => { posonlyargs := [], args := [], vararg := none, kwonlyargs := [], kw_defaults := [], kwarg := none, defaults := [] }
def defBody (s : Stmt) : List Stmt := match s with
  | .FunctionDef _ _ b _ _ _ _ _ _ _ => b
  | _ => []
def defScope (s : Stmt) : Scope := match s with
  | .FunctionDef _ _ _ _ _ _ sc _ _ _ => sc
  | _ => { kind := .function, names := [], isGenerator := false, isCoroutine := false }

/-! ### no exception leaves a def -/
abbrev CX0 : CXT := fun _ _ _ _ _ _ => False
abbrev E0 : XK := fun _ _ _ => False
/-! ### a def (or method) of the text as it stands behind the top -/
structure Fun (K : PySem.W.Frag) (x qual : Str) (st : Stmt) (f : Addr) (fd : FuncData) : Prop where
  ex : ∃ (oc : Value) (od : Option Addr) (kV doc pm : Value) (an : Option Addr) (cdv ct : Value) (osl : Array (Option Value)),
    fd = PySem.W.fnOf x qual (defArgs st) (defBody st) (defScope st) .none kV doc pm an cdv ct ∧ K.lookup f = some ⟨oc, od, .func fd, osl⟩ ∧ PySem.W.codeIn K cdv qual = true
  kp : PySem.W.keepIn K (.ref f) = true
section
variable {P : Program} {w : World} {K : PySem.W.Frag} {mg : Str → Option Value} {base : Heap}
/-- THE RULE for a def: its body as a term of rules, and the reading of that term -/
theorem Fun.ok {x qual : Str} {st : Stmt} {f : Addr} {fd : FuncData} {N ps : List Str} {k : Nat} {sp : Sp} (F : Fun K x qual st f fd) (S : FnScope N ps (defScope st)) (len : ∀ vs H Q E, sp vs H Q E → vs.length = ps.length)
    (hbody : ∀ (cdv : Value) (A : Around) (outer : List Env) (s : Shared) (H : Hp) (vs : List V) (Q : VK) (E : XK), Room k (A.deeper (envOfC qual (defScope st) s.heap.objs.size f cdv)) → sp vs H Q E →
      ∃ t, PSs (cxOf CX0 P w K mg base N qual (defScope st) f cdv A outer s H E).nox (defBody st) t ∧ t { nx := fun _ H' => Q .non H', rt := Q } (start N vs) H) : FnOk P w K mg base CX0 (k + 1) f fd ps sp := by
  obtain ⟨oc, od, kV, doc, pm, an, cdv, ct, osl, rfl, lk, hcd⟩ := F.ex
  refine fn_of lk hcd S len fun A outer s H vs Q E hr hsp => ?_
  obtain ⟨t, h, q⟩ := hbody cdv A outer s H vs Q E hr hsp
  exact ⟨t, h.nox, q⟩
/-- how its arguments bind (no defaults): h is «fun _ _ _ _ _ _ us hl => match us, hl with | [_, _], _ => rfl», one _ a parameter -/
theorem Fun.binds {x qual : Str} {st : Stmt} {f : Addr} {fd : FuncData} {ps : List Str} (F : Fun K x qual st f fd)
    (h : ∀ (kV doc pm : Value) (an : Option Addr) (cdv ct : Value) (us : List Value), us.length = ps.length → bindArgs (PySem.W.fnOf x qual (defArgs st) (defBody st) (defScope st) .none kV doc pm an cdv ct) ⟨us, []⟩ = pure (ps.zip us)) : Binds K fd ps [] := by
  obtain ⟨oc, od, kV, doc, pm, an, cdv, ct, osl, rfl, lk, hcd⟩ := F.ex
  exact .all (h kV doc pm an cdv ct)
theorem fun_mk {x qual : Str} {st : Stmt} {f : Addr} {oc : Value} {od an : Option Addr} {osl : Array (Option Value)} {kV doc pm cdv ct : Value} (l : K.lookup f = some ⟨oc, od, .func (PySem.W.fnOf x qual (defArgs st) (defBody st) (defScope st) .none kV doc pm an cdv ct), osl⟩)
    (c : PySem.W.codeIn K cdv qual = true) (k : PySem.W.keepIn K (.ref f) = true) : Fun K x qual st f (PySem.W.fnOf x qual (defArgs st) (defBody st) (defScope st) .none kV doc pm an cdv ct) := ⟨⟨oc, od, kV, doc, pm, an, cdv, ct, osl, rfl, l, c⟩, k⟩
end
theorem small1000 {n : Nat} (h : n ≤ 1000) : n < sizeLine := Nat.lt_of_le_of_lt h (by decide)

/-! ### expressions in short: the name that stands in the i-th slot -/
section
variable {X : Cx}
theorem pv (i : Nat) {x : Str} {pos : Pos} (hN : X.N[i]? = some x := by rfl) (hv : Vis X.env.scope x := by first | exact Or.inl rfl | exact Or.inr (Or.inl rfl) | exact Or.inr (Or.inr rfl)) (hd : (x == ("__debug__" : Str)) = false := by decide)
    (hcd : (x == ("__classdict__" : Str)) = false := by decide) : PE X (.Name x pos) (tVar i) := pe_var hN hv hd hcd
end

/-! ### tests -/
/-! ### heaps -/
/-- all that was tracked is as it was -/
def Same (H H' : Hp) : Prop := ∀ b o, H b = some o → H' b = some o
theorem Same.refl (H : Hp) : Same H H := fun _ _ h => h
theorem Same.trans {H H1 H2 : Hp} (a : Same H H1) (b : Same H1 H2) : Same H H2 := fun c o h => b c o (a c o h)
theorem Same.free {H H' : Hp} (e : Same H H') {l : Addr} (h : H' l = Option.none) : H l = Option.none := by
  cases q : H l with
  | none => rfl
  | some o =>
    rw [e l o q] at h
    cases h
theorem Same.seq {K : PySem.W.Frag} {H H' : Hp} {a : Addr} {xs : List V} (e : Same H H') (h : SqL K H a xs) : SqL K H' a xs := by
  rcases h with (h | ⟨o, h⟩) | h
  · exact .inl (.inl (e _ _ h))
  · exact .inl (.inr ⟨o, e _ _ h⟩)
  · exact .inr h

end L2


set_option Elab.async false
set_option linter.all false
set_option maxRecDepth 100000
/-! LIST COMPREHENSIONS of one clause, with at most one test, over the hand layer -/
namespace L2
open PySem PySem.Spec PyProof.Rows

/-! ### the closure -/
theorem clos_go (env : Env) : ∀ (names : List (Str × NameKind)) (acc : List (Str × Addr)), (∀ y ∈ names, y.2 = .free → ∃ c, env.cells.lookup y.1 = some c) → (∀ x c, acc.lookup x = some c → env.cells.lookup x = some c) →
    ∃ cl, (forIn names acc fun (p : Str × NameKind) (r : List (Str × Addr)) => (match p with | (name, kind) => if (kind == NameKind.free) = true then (do let c ← cellOf env name; pure (ForInStep.yield ((name, c) :: r))) else pure (ForInStep.yield r)) : Sem (List (Str × Addr))) = pure cl ∧
      (∀ x c, cl.lookup x = some c → env.cells.lookup x = some c) ∧ (∀ x, (∃ c, acc.lookup x = some c) → ∃ c, cl.lookup x = some c) ∧ (∀ y ∈ names, y.2 = .free → ∃ c, cl.lookup y.1 = some c)
  | [], acc, _, ha => ⟨acc, by simp, ha, fun _ h => h, fun _ h => absurd h (by simp)⟩
  | (n, k) :: r, acc, hn, ha => by
    by_cases hk : k = .free
    · obtain ⟨c, hc⟩ := hn (n, k) List.mem_cons_self hk
      have ha' : ∀ x c', ((n, c) :: acc).lookup x = some c' → env.cells.lookup x = some c' := fun x c' h => by
        by_cases hx : x = n
        · subst hx
          rw [List.lookup_cons_self] at h
          cases h; exact hc
        · have hx' : (x == n) = false := by simpa using hx
          simp only [List.lookup_cons, hx'] at h
          exact ha x c' h
      obtain ⟨cl, e, p1, p2, p3⟩ := clos_go env r ((n, c) :: acc) (fun y hy => hn y (List.mem_cons_of_mem _ hy)) ha'
      refine ⟨cl, ?_, p1, fun x ⟨c', hc'⟩ => p2 x ?_, fun y hy hf => ?_⟩
      · have hco : cellOf env n = pure c := by unfold cellOf; rw [hc]
        rw [List.forIn_cons]
        subst hk
        simp only [beq_self_eq_true, if_true, hco, pure_bind]
        exact e
      · by_cases hx : x = n
        · exact ⟨c, by subst hx; rw [List.lookup_cons_self]⟩
        · have hx' : (x == n) = false := by simpa using hx
          exact ⟨c', by simp only [List.lookup_cons, hx']; exact hc'⟩
      · rcases List.mem_cons.mp hy with rfl | hy
        · exact p2 _ ⟨c, by rw [List.lookup_cons_self]⟩
        · exact p3 y hy hf
    · obtain ⟨cl, e, p1, p2, p3⟩ := clos_go env r acc (fun y hy => hn y (List.mem_cons_of_mem _ hy)) ha
      refine ⟨cl, ?_, p1, p2, fun y hy hf => ?_⟩
      · have hb : (k == NameKind.free) = false := by simpa using hk
        rw [List.forIn_cons]
        simp only [hb, Bool.false_eq_true, if_false, pure_bind]
        exact e
      · rcases List.mem_cons.mp hy with rfl | hy
        · exact absurd hf hk
        · exact p3 y hy hf
theorem clos_of {scope : Scope} {env : Env} (h : ∀ y ∈ scope.names, y.2 = .free → ∃ c, env.cells.lookup y.1 = some c) :
    ∃ cl, closureFor scope env = pure cl ∧ (∀ x c, cl.lookup x = some c → env.cells.lookup x = some c) ∧ (∀ y ∈ scope.names, y.2 = .free → ∃ c, cl.lookup y.1 = some c) := by
  obtain ⟨cl, e, p1, _, p3⟩ := clos_go env scope.names [] h (fun x c q => by simp at q)
  refine ⟨cl, ?_, p1, p3⟩
  unfold closureFor
  simp only [bind_pure]
  exact e

theorem lookup_relabel {env : Env} : ∀ {names : List (Str × NameKind)} {x : Str} {k : NameKind}, (names.map fun (n, k) => if (k == NameKind.free && env.scope.kind == .function && env.kindOf n == some .cell) then (n, NameKind.cell) else (n, k)).lookup x = some k →
    (∀ y ∈ names, y.2 ≠ .cell) → k = .cell ∨ k = .free → names.lookup x = some .free
  | [], _, _, h, _, _ => by simp at h
  | (n, k0) :: r, x, k, h, hc, hk => by
    have ih := @lookup_relabel env r x k
    rw [List.map_cons] at h
    cases hx : x == n with
    | true =>
      have hn : k0 ≠ .cell := hc (n, k0) List.mem_cons_self
      simp only [List.lookup_cons, hx]
      by_cases hcnd : (k0 == NameKind.free && env.scope.kind == .function && env.kindOf n == some .cell) = true
      · have : k0 = .free := by
          simp only [Bool.and_eq_true, beq_iff_eq] at hcnd
          exact hcnd.1.1
        rw [this]
      · dsimp only at h
        rw [if_neg hcnd] at h
        simp only [List.lookup_cons, hx] at h
        have h : k0 = k := by simpa using h
        subst h
        rcases hk with hk | hk
        · exact absurd hk hn
        · rw [hk]
    | false =>
      simp only [List.lookup_cons, hx]
      refine ih ?_ (fun y hy => hc y (List.mem_cons_of_mem _ hy)) hk
      by_cases hcnd : (k0 == NameKind.free && env.scope.kind == .function && env.kindOf n == some .cell) = true
      · dsimp only at h
        rw [if_pos hcnd] at h
        simp only [List.lookup_cons, hx] at h; exact h
      · dsimp only at h
        rw [if_neg hcnd] at h
        simp only [List.lookup_cons, hx] at h; exact h

/-! ### the block's context -/
def cxComp (X : Cx) (N' : List Str) (scope : Scope) (cl : List (Str × Addr)) (C : Addr) (s₀ : Shared) (H₀ : Hp) (ex : List Addr) : Cx :=
  { X with N := N', s₀ := s₀, H₀ := H₀, env := compEnvC scope cl C X.env, outer := X.stack, stack := X.stack, ex := ex, fn := fun _ => false, pn := [], xe := fun _ _ => False }
/-- the block's slots: its own names empty, those from outside with their values -/
def subσ (mp : List (Option Nat)) (σ : St) : St := mp.map fun o => match o with | none => none | some i => (σ[i]?).getD none
def compOk (N : List Str) (on inn : List (Str × NameKind)) (N' : List Str) (mp : List (Option Nat)) : Bool :=
  mp.length == N'.length && (N'.zip mp).all fun p => match p.2 with
    | none => true
    | some i => N[i]? == some p.1 && inn.lookup p.1 == some .free && on.lookup p.1 == some .cell
/-- tests of the clause -/
def PIf (X : Cx) (ifs : List Expr) (t : TT) : Prop :=
  ∀ (pins : List (Addr × Obj)) (s : Shared) (σ : St) (H : Hp) (Q : Bool → Hp → Prop), Inv X pins σ H s → t σ H Q →
    wpAny (model X.prog X.w) X.A (forIn ifs true fun c r => if r = true then do let ok ← isTrue c X.env (eval c X.env); pure (ForInStep.yield ok) else pure (ForInStep.yield r)) (TP X pins σ Q) X.xe s
def tYes : TT := fun _ H Q => Q true H
theorem pif_nil {X : Cx} : PIf X [] tYes := fun pins s σ H Q I h => wpAny_tests_nil ⟨H, I, h⟩
theorem pif_one {X : Cx} {c : Expr} {t : TT} (h : PT X c t) : PIf X [c] t := fun pins s σ H Q I q => wpAny_tests_one (h pins s σ H Q I q)

theorem comp_loop {prog : Program} {w : World} {A : Around} {s : Shared} {elt target iter : PySem.Expr} {ifs : List PySem.Expr} {scope : Scope} {pos : Pos} {it acc : Value} {env : Env} {R : Result → Shared → Prop} (I : Nat → Shared → Prop)
    (turn : ∀ n s, I n s → wpAny (model prog w) A (pyNext it) (fun r s₁ => match r with
      | none => R (.ok .next) s₁
      | some v => wpAny (model prog w) A (letOwnedTupleGo target it v) (fun _ s₀ => wpAny (model prog w) A (assign target env v) (fun _ s₂ =>
          wpAny (model prog w) A (forIn ifs true fun c r => if r = true then do let ok ← isTrue c env (eval c env); pure (ForInStep.yield ok) else pure (ForInStep.yield r)) (fun ok s₃ => if ok = true then wpAny (model prog w) A (eval elt env) (fun x s₄ =>
            wpAny (model prog w) A (call (.builtin "list.append") [acc, x]) (fun _ s₅ => ∃ m, m < n ∧ I m s₅) (fun _ _ => False) s₄) (fun _ _ => False) s₃
            else ∃ m, m < n ∧ I m s₃) (fun _ _ => False) s₂)
          (fun _ _ => False) s₀) (fun _ _ => False) s₁) (fun _ _ => False) s)
    (n : Nat) (h : I n s) : codeAny (model prog w) A (.compLoop (.ListComp elt [⟨target, iter, ifs, 0⟩] scope pos) 0 it acc env) R s := by
  refine codeAny_loop rfl I (fun n s hI => ?_) n h
  show wpAny _ A ((compTurn (.ListComp elt [⟨target, iter, ifs, 0⟩] scope pos) 0 it acc env).onRaise (fun x => do noteFrame x env; theTreesLotGoes x)) _ _ s
  refine wpAny_noted ?_
  rw [compTurn_list]
  refine wpAny_bind (wpAny_standAt (wpAny_bind (wpAny_mono (turn n s hI) (fun r s₁ h₁ => ?_) fun _ _ h' => h'.elim)))
  cases r with
  | none => exact wpAny_pure h₁
  | some v =>
    refine wpAny_bind (wpAny_mono h₁ (fun _ s₀ h₀' => ?_) fun _ _ h' => h'.elim)
    refine wpAny_bind (wpAny_mono h₀' (fun _ s₂ h₂ => ?_) fun _ _ h' => h'.elim)
    refine wpAny_bind (wpAny_mono h₂ (fun okb s₃ h₃ => ?_) fun _ _ h' => h'.elim)
    cases okb with
    | false => exact wpAny_pure ⟨rfl, h₃⟩
    | true => exact wpAny_bind (wpAny_bind (wpAny_mono h₃ (fun x s₄ h₄ => wpAny_bind (wpAny_mono h₄ (fun _ s₅ h₅ => wpAny_pure (wpAny_pure ⟨rfl, h₅⟩)) fun _ _ h' => h'.elim)) fun _ _ h' => h'.elim))

/-- a record of ours is tracked from now on -/
theorem Inv.track {X : Cx} {pins : List (Addr × Obj)} {σ : St} {H : Hp} {s : Shared} {a : Addr} {o : HO} (I : Inv X pins σ H s) (hn : H a = none) (f : FpOk X pins H a) (new : ObjOk X.prog X.w (upd H a o) s.heap a o) : Inv X pins σ (upd H a o) s := by
  obtain ⟨_, f1, f2, f3, f4, f5⟩ := f
  have na : ∀ b u, H b = some u → b ≠ a := fun b u e => ne_of_none e hn
  have J := I.step (g' := s.gens) (t' := s.toks) (d' := s.drawn) (ch := [a]) (h' := s.heap) (H' := upd H a o) (fun b hb => by
      have e : b = a := by simpa using hb
      subst e
      exact ⟨f3, f1, f4, f5⟩) (fun b o _ _ _ e _ => e) (fun b o _ _ _ e _ => ⟨o.slots, e⟩) (fun b o hb _ n => by rw [upd_ne (by simpa using hb)]; exact n) (fun b o _ e => ⟨o, e⟩)
    (fun b xs e => by rw [upd_ne (na b _ e)]; exact e) (fun b o u e => by rw [upd_ne (na b _ e)]; exact e) (fun b ps e => ⟨#[], by rw [upd_ne (na b _ e), e]; simp⟩) (fun m hm => hm) (fun b u e => by
      by_cases hb : b = a
      · subst hb; rw [upd_same] at e; cases e; exact new
      · rw [upd_ne hb] at e
        exact (I.hok b u e).stay (fun c v _ q => q) (fun c q => by rw [upd_ne (na c _ q)]; exact q) fun c xs q => by rw [upd_ne (na c _ q)]; exact q) I.bare
  exact J

def tComp (wi : TI) (g : TG) (tt : TT) (te : TE) (mp : List (Option Nat)) : TE := fun σ H Q => wi σ H fun J H1 => ∃ W : Nat → Nat → List V → St → Hp → Prop, (∃ m, W 0 m [] (subσ mp σ) H1) ∧ ∀ i m ys σ H, W i m ys σ H →
  (J.stop i H ∧ ys.length ≤ sizeLine ∧ ∀ p, H p = none → Q (.ref p) (upd H p (.lst ys))) ∨ (J.go i H ∧ ys.length < sizeLine ∧ ∃ N : List V → St → Hp → Prop, (∀ ys' σ' H', N ys' σ' H' → ∃ m', m' < m ∧ W (i + 1) m' ys' σ' H') ∧ ∀ x H', J.yld i H x H' → g x σ H' fun σ2 H2 => tt σ2 H2 fun b H3 =>
    if b = true then te σ2 H3 (fun v H4 => N (ys ++ [v]) σ2 H4) else N ys σ2 H3)

/-- all that the clause needs of the scopes -/
structure CompS (X : Cx) (N' : List Str) (scope : Scope) (mp : List (Option Nat)) : Prop where
  kind : scope.kind = .function
  nocell : ∀ y ∈ scope.names, y.2 ≠ .cell
  locs : ∀ y ∈ scope.names, y.2 = .local → scope.names.lookup y.1 = some .local
  frees : ∀ y ∈ scope.names, y.2 = .free → X.env.scope.names.lookup y.1 = some .cell
  ok : compOk X.N X.env.scope.names scope.names N' mp = true

theorem compOk_get {N : List Str} {on inn : List (Str × NameKind)} {N' : List Str} {mp : List (Option Nat)} (h : compOk N on inn N' mp = true) : mp.length = N'.length ∧ ∀ (j : Nat) (x : Str) (i : Nat), N'[j]? = some x → mp[j]? = some (some i) → N[i]? = some x ∧ inn.lookup x = some .free ∧ on.lookup x = some .cell := by
  unfold compOk at h
  rw [Bool.and_eq_true] at h
  obtain ⟨h1, h2⟩ := h
  refine ⟨by simpa using h1, fun j x i e1 e2 => ?_⟩
  have hm : (x, some i) ∈ N'.zip mp := by
    refine List.mem_of_getElem? (i := j) ?_
    rw [List.getElem?_zip_eq_some]
    exact ⟨e1, e2⟩
  have q := List.all_eq_true.mp h2 _ hm
  simp only [Bool.and_eq_true, beq_iff_eq] at q
  exact ⟨q.1.1, q.1.2, q.2⟩
theorem subσ_get {mp : List (Option Nat)} {σ : St} {j : Nat} {v : V} (h : (subσ mp σ)[j]? = some (some v)) : ∃ i, mp[j]? = some (some i) ∧ σ[i]? = some (some v) := by
  unfold subσ at h
  rw [List.getElem?_map] at h
  cases e : mp[j]? with
  | none => rw [e] at h; cases h
  | some o =>
    rw [e] at h
    cases o with
    | none => simp at h
    | some i =>
      refine ⟨i, rfl, ?_⟩
      cases e2 : σ[i]? with
      | none => simp [e2] at h
      | some z =>
        simp [e2] at h
        rw [h]

section
variable {X : Cx} {pins : List (Addr × Obj)} {σ : St} {H : Hp}
/-- the core: behind the iterator; RR is what the comprehension wants of its end -/
theorem comp_core {elt tg iter : Expr} {ifs : List Expr} {scope : Scope} {pos : Pos} {N' : List Str} {mp : List (Option Nat)} {g : TG} {tt : TT} {te : TE} {s₂ : Shared} {it : Addr} {fp : List Addr} {tn : Nat → Heap → Prop} {J : It} {cl : List (Str × Addr)}
    {Qe : V → Hp → Prop} {RR : Value → Addr → Result → Shared → Prop} {E : Value → Shared → Prop} (hc : X.calm = true) (S : CompS X N' scope mp)
    (hcl : ∀ x c, cl.lookup x = some c → X.env.cells.lookup x = some c) (hcf : ∀ y ∈ scope.names, y.2 = .free → ∃ c, cl.lookup y.1 = some c)
    (hg : ∀ C s₀ H₀ ex, PG (cxComp X N' scope cl C s₀ H₀ ex) tg g) (ht : ∀ C s₀ H₀ ex, PIf (cxComp X N' scope cl C s₀ H₀ ex) ifs tt) (he : ∀ C s₀ H₀ ex, PE (cxComp X N' scope cl C s₀ H₀ ex) elt te)
    (I : Inv X pins σ H s₂) (T : Turn X.prog X.w X.K tg J fp it tn) (st : tn 0 s₂.heap) (hf : ∀ b ∈ fp, FpOk X pins H b)
    (hw : ∃ W : Nat → Nat → List V → St → Hp → Prop, (∃ m, W 0 m [] (subσ mp σ) H) ∧ ∀ i m ys σ H, W i m ys σ H →
      (J.stop i H ∧ ys.length ≤ sizeLine ∧ ∀ p, H p = none → Qe (.ref p) (upd H p (.lst ys))) ∨ (J.go i H ∧ ys.length < sizeLine ∧ ∃ N : List V → St → Hp → Prop, (∀ ys' σ' H', N ys' σ' H' → ∃ m', m' < m ∧ W (i + 1) m' ys' σ' H') ∧ ∀ x H', J.yld i H x H' → g x σ H' fun σ2 H2 => tt σ2 H2 fun b H3 =>
    if b = true then te σ2 H3 (fun v H4 => N (ys ++ [v]) σ2 H4) else N ys σ2 H3))
    (hR : ∀ (D C : Addr) (H' : Hp) (s' : Shared), Inv X pins σ H' s' → Qe (.ref D) H' → (∃ m, s'.heap.Ns C m) → FpOk X pins H' C → RR (.ref D) C (.ok .next) s') :
    wpAny (model X.prog X.w) X.A (newList []) (fun acc s₃ => wpAny (model X.prog X.w) X.A (newFunctionEnv scope X.env.globals cl [] X.env.qual none .none (some X.env)) (fun cenv s₄ =>
      codeAny (model X.prog X.w) X.A (.compStart (.ListComp elt [⟨tg, iter, ifs, 0⟩] scope pos) 0 (.ref it) acc { cenv with scope := relabel scope X.env }) (RR acc cenv.locals) s₄) E s₃) E s₂ := by
  obtain ⟨W, ⟨m0, w0⟩, turn⟩ := hw
  refine wpAny_newObj_type (wpAny_newFunctionEnv S.nocell (by intro y hy; simp at hy) (fun h₁ hns₁ hsb₁ => ?_) S.kind)
  dsimp only at hns₁ hsb₁ ⊢
  generalize hH2 : s₂.heap.push { cls := .type "list", dict := none, data := .seq ([] : List Value).toArray } = H2 at hns₁ hsb₁ ⊢
  have hCs : H2.objs.size = s₂.heap.objs.size + 1 := by rw [← hH2, Heap.size_push]
  have I3 : Inv X pins σ H { s₂ with heap := H2 } := by
    rw [← hH2]
    exact I.kept (t' := s₂.toks) fun b o e => Heap.get?_push_of_some _ e
  have k1 : ∀ b u, H2.get? b = some u → h₁.get? b = some u := fun b u e => hsb₁.extBut b u (Nat.ne_of_lt (Heap.lt_size e)) (Heap.get?_push_of_some _ e)
  have accOk : FpOk X pins H s₂.heap.objs.size := I.fpOk (Nat.le_refl _) (I.hok.fresh (Nat.le_refl _))
  have COk : FpOk X pins H H2.objs.size := I3.fpOk (Nat.le_refl _) (I3.hok.fresh (Nat.le_refl _))
  have fpLt : ∀ b ∈ fp, b < s₂.heap.objs.size := fun b hb => let ⟨o, e, _⟩ := T.obj 0 _ st b hb; Heap.lt_size e
  have accNf : s₂.heap.objs.size ∉ fp := fun z => absurd (fpLt _ z) (Nat.lt_irrefl _)
  have accNC : s₂.heap.objs.size ≠ H2.objs.size := by rw [hCs]; exact Nat.ne_of_lt (Nat.lt_succ_self _)
  have exAll : ∀ b ∈ s₂.heap.objs.size :: fp, FpOk X pins H b := fun b hb => (List.mem_cons.mp hb).elim (fun e => e ▸ accOk) (hf b)
  have exNC : ∀ b ∈ s₂.heap.objs.size :: fp, b ≠ H2.objs.size := fun b hb => (List.mem_cons.mp hb).elim (fun e => e ▸ accNC) fun z => Nat.ne_of_lt (Nat.lt_trans (fpLt b z) (by rw [hCs]; exact Nat.lt_succ_self _))
  have stkN : ∀ b, FpOk X pins H b → b ∉ frs X.stack := fun b f z => (List.mem_cons.mp (I.stkSub b z)).elim f.2.1 f.2.2.1
  -- the block's context
  have ok' : (cxComp X N' scope cl H2.objs.size { s₂ with heap := H2 } H (s₂.heap.objs.size :: fp)).Ok := by
    refine ⟨I.ok.mod, S.kind, I.ok.glob, I.ok.blt, Nat.le_refl _, fun x y c h1 h2 => I.ok.inj x y c (hcl x c h1) (hcl y c h2), fun x hx => ?_, fun x c hx => absurd hx (by show ¬ false = true; decide), I.ok.hd, I.ok.frames, .inl rfl,
      fun b hb => ⟨exNC b hb, fun x c e => (exAll b hb).2.2.2.2.1 x c (hcl x c e)⟩, fun b o e => I3.bs b o e, Nat.le_trans I.ok.bsz I3.sz, fun b o e hb => ?_, fun b hb => stkN b (exAll b hb), I3.stack, I3.stkFree⟩
    · have hx' : (relabel scope X.env).names.lookup x = some .cell ∨ (relabel scope X.env).names.lookup x = some .free := hx
      have hfree : scope.names.lookup x = some .free := by
        rcases hx' with z | z
        · exact lookup_relabel z S.nocell (.inl rfl)
        · exact lookup_relabel z S.nocell (.inr rfl)
      exact hcf (x, .free) (PySem.mem_of_lookup hfree) rfl
    · rcases (exAll b hb).2.2.2.1 with z | z
      · exact I.ok.noex b o e z
      · exact absurd (Nat.lt_of_lt_of_le (Heap.lt_size e) (Nat.le_trans I.ok.bsz z)) (Nat.lt_irrefl _)
  obtain ⟨hml, hmp⟩ := compOk_get S.ok
  let XC := cxComp X N' scope cl H2.objs.size { s₂ with heap := H2 } H (s₂.heap.objs.size :: fp)
  have J4 : Inv (cxComp X N' scope cl H2.objs.size { s₂ with heap := H2 } H (s₂.heap.objs.size :: fp)) [] (subσ mp σ) H { s₂ with heap := h₁, toks := s₂.toks + ([] : List (Str × Value)).length } := by
    refine ⟨ok', rfl, I.bare, Un.kept k1, ⟨_, hns₁, fun j x v e1 e2 e3 => ?_⟩, fun x c e => ?_, COk.1, fun x c e => I.freeC x c (hcl x c e), fun p hp => absurd (show p ∈ ([] : List (Addr × Obj)) from hp) (by simp), I3.hok.kept k1, by show (subσ mp σ).length = N'.length; unfold subσ; rw [List.length_map, hml]⟩
    · obtain ⟨i, q1, q2⟩ := subσ_get e2
      obtain ⟨n1, n2, n3⟩ := hmp j x i e1 q1
      obtain ⟨m, hn, hl⟩ := I3.loc
      obtain ⟨u, ru, lk⟩ := hl i x v n1 q2 (.inr (.inl n3))
      refine ⟨u, ru, ?_⟩
      rcases lk with ⟨z, _⟩ | ⟨_, c, ec, z⟩
      · have z' : X.env.scope.names.lookup x = some .local := z
        rw [n3] at z'; cases z'
      · obtain ⟨c', ec'⟩ := hcf (x, .free) (PySem.mem_of_lookup n2) rfl
        have e4 := hcl x c' ec'
        rw [ec] at e4; cases e4
        refine .inr ⟨?_, c, ec', ?_⟩
        · have z3 : (relabel scope X.env).names.lookup x = some .local ∨ (relabel scope X.env).names.lookup x = some .cell ∨ (relabel scope X.env).names.lookup x = some .free := e3
          rcases z3 with z3 | z3 | z3
          · exfalso
            have : ∀ (names : List (Str × NameKind)), names.lookup x = some .free → (names.map fun (n, k) => if (k == NameKind.free && X.env.scope.kind == .function && X.env.kindOf n == some .cell) then (n, NameKind.cell) else (n, k)).lookup x ≠ some .local := by
              intro names
              induction names with
              | nil => intro h; simp at h
              | cons p r ih =>
                obtain ⟨n, k⟩ := p
                intro h
                cases hx : x == n with
                | true =>
                  simp only [List.lookup_cons, hx] at h
                  cases h
                  rw [List.map_cons]
                  dsimp only
                  split <;> simp [List.lookup_cons, hx]
                | false =>
                  simp only [List.lookup_cons, hx] at h
                  rw [List.map_cons]
                  dsimp only
                  split <;> (simp only [List.lookup_cons, hx]; exact ih h)
            exact this scope.names n2 z3
          · exact .inl z3
          · exact .inr z3
        · obtain ⟨o, ho, hd⟩ := z
          exact ⟨o, k1 _ _ ho, hd⟩
    · obtain ⟨v, o, ho, hd⟩ := I3.cell x c (hcl x c e)
      exact ⟨v, o, k1 _ _ ho, hd⟩
  have acc4 : h₁.get? s₂.heap.objs.size = some { cls := .type "list", data := .seq ([] : List Value).toArray 0 } := k1 _ _ (by rw [← hH2]; exact Heap.get?_push_size _ rfl)
  have st4 : tn 0 h₁ := T.keep _ _ _ st fun b _ o e => k1 b o (by rw [← hH2]; exact Heap.get?_push_of_some _ e)
  have fp4 : ∀ {H' : Hp}, (∀ b ∈ fp, H' b = none) → ∀ b ∈ fp, FpOk (cxComp X N' scope cl H2.objs.size { s₂ with heap := H2 } H (s₂.heap.objs.size :: fp)) [] H' b := fun hn b hb =>
    ⟨hn b hb, exNC b (List.mem_cons_of_mem _ hb), stkN b (hf b hb), .inl (List.mem_cons_of_mem _ hb), fun x c e => (hf b hb).2.2.2.2.1 x c (hcl x c e), fun p hp => absurd (show p ∈ ([] : List (Addr × Obj)) from hp) (by simp)⟩
  have acc5 : ∀ {H' : Hp}, H' s₂.heap.objs.size = none → FpOk (cxComp X N' scope cl H2.objs.size { s₂ with heap := H2 } H (s₂.heap.objs.size :: fp)) [] H' s₂.heap.objs.size := fun hn =>
    ⟨hn, accNC, stkN _ accOk, .inl List.mem_cons_self, fun x c e => accOk.2.2.2.2.1 x c (hcl x c e), fun p hp => absurd (show p ∈ ([] : List (Addr × Obj)) from hp) (by simp)⟩
  have loop : ∀ s₃ : Shared, s₃ = { s₂ with heap := h₁, toks := s₂.toks + ([] : List (Str × Value)).length } →
      codeAny (model X.prog X.w) X.A (.compLoop (.ListComp elt [⟨tg, iter, ifs, 0⟩] scope pos) 0 (.ref it) (.ref s₂.heap.objs.size) (compEnvC scope cl H2.objs.size X.env)) (RR (.ref s₂.heap.objs.size) H2.objs.size) s₃ := by
    rintro s₃ rfl
    refine comp_loop (fun n s' => ∃ i σ' H' ys its k, Inv (cxComp X N' scope cl H2.objs.size { s₂ with heap := H2 } H (s₂.heap.objs.size :: fp)) [] σ' H' s' ∧ tn i s'.heap ∧ (∀ b ∈ fp, H' b = none) ∧ H' s₂.heap.objs.size = none ∧
      Vals ys its ∧ s'.heap.get? s₂.heap.objs.size = some { cls := .type "list", data := .seq its.toArray k } ∧ W i n ys σ' H') ?_ m0 ⟨0, subσ mp σ, H, [], [], 0, J4, st4, fun b hb => (hf b hb).1, accOk.1, .nil, acc4, w0⟩
    rintro n s5 ⟨i, σ5, H5, ys, its, k, J5, st5, fr5, an5, vy, ea, w5⟩
    have zv : its.length = ys.length := vy.length.symm
    have pinOk : ∀ {σ' : St} {H' : Hp} {s' : Shared} {o : Obj}, Inv XC [] σ' H' s' → H' s₂.heap.objs.size = none → s'.heap.get? s₂.heap.objs.size = some o → (∀ v, o.data ≠ .cell v) → Inv XC [(s₂.heap.objs.size, o)] σ' H' s' := fun {σ' H' s' o} J a1 a2 a3 => J.pins_of fun p hp => by
      have e : p = (s₂.heap.objs.size, o) := by simpa using hp
      subst e
      exact ⟨a2, a1, accNC, stkN _ accOk, a3⟩
    have fp5 : ∀ {H' : Hp} {o : Obj}, (∀ b ∈ fp, H' b = none) → ∀ b ∈ fp, FpOk XC [(s₂.heap.objs.size, o)] H' b := fun {H' o} hn b hb => by
      obtain ⟨c1, c2, c3, c4, c5, _⟩ := fp4 hn b hb
      refine ⟨c1, c2, c3, c4, c5, fun p hp => ?_⟩
      have e : p = (s₂.heap.objs.size, o) := by
        have hp' : p ∈ ([] ++ [(s₂.heap.objs.size, o)] : List (Addr × Obj)) := hp
        simpa using hp'
      subst e
      intro z
      exact accNf (by rw [show s₂.heap.objs.size = b from z]; exact hb)
    have noc : ∀ (us : List Value) (k : Nat) (v : Option Value), ({ cls := .type "list", data := .seq us.toArray k } : Obj).data ≠ .cell v := fun us k v z => by
      have z' : Data.seq us.toArray k = Data.cell v := z
      cases z'
    have J5p := pinOk J5 an5 ea (noc its k)
    rcases turn i n ys σ5 H5 w5 with ⟨stop, zl, qn⟩ | ⟨go, zl, N, hN, step⟩
    · refine thn (T.done XC rfl rfl rfl hc i _ s5 σ5 H5 _ J5p (fp5 fr5) st5 stop) fun r s6 ⟨hr, J6⟩ => ?_
      subst hr
      have I6 : Inv X pins σ H5 s6 := I3.call' (ch := s₂.heap.objs.size :: fp) (show s6.os = _ from J6.os) J6.base J6.hok J6.bare fun b hb => let ⟨_, a1, _, a3, a4, a5⟩ := exAll b hb; ⟨a3, a1, a4, a5⟩
      have ea6 : s6.heap.get? s₂.heap.objs.size = some { cls := .type "list", data := .seq its.toArray k } := (J6.pin _ (List.mem_append_right _ (List.mem_singleton.mpr rfl))).1
      have I7 : Inv X pins σ (upd H5 s₂.heap.objs.size (.lst ys)) s6 := I6.track an5 ⟨an5, accOk.2⟩ ⟨zl, its, k, vy, ea6⟩
      obtain ⟨m, hm, _⟩ := J6.loc
      exact hR _ _ _ s6 I7 (qn _ an5) ⟨m, hm⟩ ⟨by rw [upd_ne (Ne.symm accNC)]; exact J6.free, COk.2⟩
    · refine thn (T.item XC rfl rfl rfl hc i _ s5 σ5 H5 _ J5p (fp5 fr5) st5 go) fun r s6 ⟨u, hr, h6⟩ => ?_
      subst hr
      refine thn h6 fun _ s7 ⟨x, H7, J7, r7, y7, st7, fr7⟩ => ?_
      have an7 : H7 s₂.heap.objs.size = none := (J7.pin _ (List.mem_append_right _ (List.mem_singleton.mpr rfl))).2.1
      have J7' := J7.pinned (fp5 fr7) (T.obj _ _ st7)
      refine thn (hg _ _ _ _ _ s7 σ5 H7 x u _ J7' r7 (step x H7 y7)) fun _ s8 ⟨σ8, H8, J8, q8⟩ => ?_
      refine thn (ht _ _ _ _ _ s8 σ8 H8 _ J8 q8) fun b s9 ⟨H9, J9, q9⟩ => ?_
      have back : ∀ {σ' : St} {H' : Hp} {s' : Shared}, Inv XC ([(s₂.heap.objs.size, ({ cls := .type "list", data := .seq its.toArray k } : Obj))] ++ pinsAt fp s7.heap) σ' H' s' →
          Inv XC [] σ' H' s' ∧ tn (i + 1) s'.heap ∧ (∀ b ∈ fp, H' b = none) ∧ H' s₂.heap.objs.size = none ∧ s'.heap.get? s₂.heap.objs.size = some { cls := .type "list", data := .seq its.toArray k } := fun {σ' H' s'} K => by
        have pa := K.pin (s₂.heap.objs.size, { cls := .type "list", data := .seq its.toArray k }) (List.mem_append_right _ (List.mem_append_left _ (List.mem_singleton.mpr rfl)))
        refine ⟨K.pins_of (fun p hp => absurd hp (by simp)), T.keep _ _ _ st7 fun b hb o e => (K.pin (b, o) (List.mem_append_right _ (List.mem_append_right _ (mem_pinsAt hb e)))).1, fun b hb => ?_, pa.2.1, pa.1⟩
        obtain ⟨o, e, d⟩ := T.obj _ _ st7 b hb
        exact (K.pin (b, o) (List.mem_append_right _ (List.mem_append_right _ (mem_pinsAt hb e)))).2.1
      cases b with
      | false =>
        rw [if_neg Bool.false_ne_true] at q9
        rw [if_neg Bool.false_ne_true]
        obtain ⟨m', hm', w'⟩ := hN _ _ _ q9
        obtain ⟨K1, K2, K3, K4, K5⟩ := back J9
        exact ⟨m', hm', i + 1, σ8, H9, ys, its, k, K1, K2, K3, K4, vy, K5, w'⟩
      | true =>
        rw [if_pos rfl] at q9
        rw [if_pos rfl]
        refine thn (he _ _ _ _ _ s9 σ8 H9 _ J9 q9) fun z s10 ⟨v, H10, J10, r10, q10⟩ => ?_
        obtain ⟨m', hm', w'⟩ := hN _ _ _ q10
        obtain ⟨K1, K2, K3, K4, K5⟩ := back J10
        refine call_meets F.slot_list_append ⟨_, K5, rfl⟩ F.entry_list_append (F.args_list_append_2 _ _) (PySem.list_append s₂.heap.objs.size its.toArray k z (by rw [List.size_toArray]; omega)) ⟨K5, ?_⟩
        have qa := PySem.IsL.update K5 (fun x_1 => x_1.push z)
        have eqa : its.toArray.push z = (its ++ [z]).toArray := by simp
        rw [eqa] at qa
        have kk : ∀ b o, b ≠ s₂.heap.objs.size → s10.heap.get? b = some o → (s10.heap.update s₂.heap.objs.size (Obj.mapSeq fun x_1 => x_1.push z)).get? b = some o := fun b o hb hu => (Heap.get?_update_other s10.heap (Obj.mapSeq fun x_1 => x_1.push z) (Ne.symm hb)).trans hu
        obtain ⟨d0, d1, d2, d3, d4, d5⟩ := acc5 K4
        have K1' := K1.turned (h' := s10.heap.update s₂.heap.objs.size (Obj.mapSeq fun x_1 => x_1.push z)) (t' := s10.toks) kk d0 d1 d3 d4 d5
        exact ⟨m', hm', i + 1, σ8, H10, ys ++ [v], its ++ [z], _, K1', T.keep _ _ _ K2 (fun b hb o e => kk b o (fun y => accNf (by rw [← y]; exact hb)) e), K3, K4, vy.append (.cons r10 .nil), qa, w'⟩
  exact codeAny_compStart_list (loop _ rfl) (T.self _ _ _ _ _ st4 (loop _ rfl))

/-- [elt for tg in iter if ..] -/
theorem pe_comp {elt tg iter : Expr} {ifs : List Expr} {scope : Scope} {pos : Pos} (N' : List Str) (mp : List (Option Nat)) {wi : TI} {g : TG} {tt : TT} {te : TE} (hc : X.calm = true) (S : CompS X N' scope mp) (hi : PI X tg iter wi)
    (hg : ∀ cl C s₀ H₀ ex, PG (cxComp X N' scope cl C s₀ H₀ ex) tg g) (ht : ∀ cl C s₀ H₀ ex, PIf (cxComp X N' scope cl C s₀ H₀ ex) ifs tt) (he : ∀ cl C s₀ H₀ ex, PE (cxComp X N' scope cl C s₀ H₀ ex) elt te)
    (hs : ∀ x, foldedSetIterable iter X.env x = pure x := by intro _; rfl) : PE X (.ListComp elt [⟨tg, iter, ifs, 0⟩] scope pos) (tComp wi g tt te mp) := by
  intro pins s σ H Q I h
  obtain ⟨cl, e0, e1, e2⟩ := clos_of (scope := scope) (env := X.env) fun y hy hf => I.ok.has y.1 (.inl (S.frees y hy hf))
  rw [eval_ListComp]
  refine wpAny_comprehension_free (use := none) rfl hs e0 S.kind S.locs (thn (hi pins s σ H _ I h) fun v s1 h1 => thn h1 fun itv s2 h2 => ?_)
  obtain ⟨it, fp, tn, J, H2, e, I2, T, st2, f2, hw⟩ := h2
  subst e
  refine comp_core (Qe := Q) (RR := fun acc C => compPost (model X.prog X.w) X.A X.xe none (EP X pins σ Q) acc C) hc S e1 e2 (hg cl) (ht cl) (he cl) I2 T st2 f2 hw fun D C H' s' I' q ⟨m, hm⟩ ⟨f0, f1, _, f3, f4, f5⟩ => ?_
  exact ⟨m, hm, fun h' sb => ⟨.ref D, H', I'.turned (t' := s'.toks) (fun b o hb e => (sb.2 b hb).trans e) f0 f1 f3 f4 f5, rfl, q⟩⟩
end

/-! ### the forms one uses: over a list, a tuple, a range -/
section
variable {K : PySem.W.Frag} {a : Addr} {xs : List V} {g : TG} {tt : TT} {te : TE} {σ : St} {H : Hp} {Q : VK}
abbrev CompW (J : It) (g : TG) (tt : TT) (te : TE) (Q : VK) (σ : St) (H : Hp) : Prop := ∃ W : Nat → Nat → List V → St → Hp → Prop, (∃ m, W 0 m [] σ H) ∧ ∀ i m ys σ H, W i m ys σ H →
  (J.stop i H ∧ ys.length ≤ sizeLine ∧ ∀ p, H p = none → Q (.ref p) (upd H p (.lst ys))) ∨ (J.go i H ∧ ys.length < sizeLine ∧ ∃ N : List V → St → Hp → Prop, (∀ ys' σ' H', N ys' σ' H' → ∃ m', m' < m ∧ W (i + 1) m' ys' σ' H') ∧ ∀ x H', J.yld i H x H' → g x σ H' fun σ2 H2 => tt σ2 H2 fun b H3 =>
    if b = true then te σ2 H3 (fun v H4 => N (ys ++ [v]) σ2 H4) else N ys σ2 H3)
theorem comp_list (Pv : Nat → List V → St → Hp → Prop) (h0 : Pv 0 [] σ H) (hz : xs.length < sizeLine) (hy : ∀ i ys σ H, Pv i ys σ H → ys.length ≤ i) (hl : ∀ i ys σ H, i ≤ xs.length → Pv i ys σ H → SqL K H a xs)
    (hs : ∀ i ys x σ H, xs[i]? = some x → Pv i ys σ H → g x σ H fun σ2 H2 => tt σ2 H2 fun b H3 => if b = true then te σ2 H3 (fun v H4 => Pv (i + 1) (ys ++ [v]) σ2 H4) else Pv (i + 1) ys σ2 H3)
    (hd : ∀ ys σ H, Pv xs.length ys σ H → ∀ p, H p = none → Q (.ref p) (upd H p (.lst ys))) : CompW (Itl K a) g tt te Q σ H := by
  refine ⟨fun i m ys σ H => m = xs.length - i ∧ i ≤ xs.length ∧ Pv i ys σ H, ⟨xs.length, by simp, Nat.zero_le _, h0⟩, ?_⟩
  rintro i m ys σ H ⟨rfl, hi, p⟩
  have q := hl i ys σ H hi p
  have hyl := hy i ys σ H p
  by_cases hlt : i < xs.length
  · refine .inr ⟨⟨xs, xs[i], q, by simp [hlt]⟩, by omega, Pv (i + 1), fun ys' σ' H' p' => ⟨xs.length - (i + 1), by omega, rfl, hlt, p'⟩, fun x H' y => ?_⟩
    obtain ⟨e, y⟩ := y
    subst e
    exact hs i ys x σ _ (y xs q) p
  · have e : i = xs.length := by omega
    subst e
    exact .inl ⟨⟨xs, q, Nat.le_refl _⟩, by omega, hd ys σ H p⟩
theorem comp_tup (Pv : Nat → List V → St → Hp → Prop) (h0 : Pv 0 [] σ H) (hz : xs.length < sizeLine) (hy : ∀ i ys σ H, Pv i ys σ H → ys.length ≤ i) (hl : ∀ i ys σ H, i ≤ xs.length → Pv i ys σ H → SqT K H a xs)
    (hs : ∀ i ys x σ H, xs[i]? = some x → Pv i ys σ H → g x σ H fun σ2 H2 => tt σ2 H2 fun b H3 => if b = true then te σ2 H3 (fun v H4 => Pv (i + 1) (ys ++ [v]) σ2 H4) else Pv (i + 1) ys σ2 H3)
    (hd : ∀ ys σ H, Pv xs.length ys σ H → ∀ p, H p = none → Q (.ref p) (upd H p (.lst ys))) : CompW (Itt K a) g tt te Q σ H := by
  refine ⟨fun i m ys σ H => m = xs.length - i ∧ i ≤ xs.length ∧ Pv i ys σ H, ⟨xs.length, by simp, Nat.zero_le _, h0⟩, ?_⟩
  rintro i m ys σ H ⟨rfl, hi, p⟩
  have q := hl i ys σ H hi p
  have hyl := hy i ys σ H p
  by_cases hlt : i < xs.length
  · refine .inr ⟨⟨xs, xs[i], q, by simp [hlt]⟩, by omega, Pv (i + 1), fun ys' σ' H' p' => ⟨xs.length - (i + 1), by omega, rfl, hlt, p'⟩, fun x H' y => ?_⟩
    obtain ⟨e, y⟩ := y
    subst e
    exact hs i ys x σ _ (y xs q) p
  · have e : i = xs.length := by omega
    subst e
    exact .inl ⟨⟨xs, q, Nat.le_refl _⟩, by omega, hd ys σ H p⟩
end
end L2


set_option Elab.async false
set_option linter.all false
set_option maxRecDepth 100000
/-! MORE OPERATIONS over the hand layer -/
namespace L2
open PySem PySem.Spec PyProof.Rows

section
variable {X : Cx}
/-! ### tuple + tuple, whatever is empty -/
def rCatT2 (K : PySem.W.Frag) : R2 := fun x y H Q => ∃ a b xs ys, x = .ref a ∧ y = .ref b ∧ SqT K H a xs ∧ SqT K H b ys ∧ xs.length + ys.length ≤ sizeLine ∧
  (xs = [] → Q (.ref b) H) ∧ (xs ≠ [] → ys = [] → Q (.ref a) H) ∧ (xs ≠ [] → ys ≠ [] → ∀ p, H p = none → Q (.ref p) (upd H p (.tup (xs ++ ys))))
theorem op_catT2 : OpR X (binaryOp .Add) (rCatT2 X.K) := by
  intro pins s σ H x y v u Q I rx ry h
  obtain ⟨a, b, xs, ys, rfl, rfl, ha, hb, hz, q0, q1, q2⟩ := h
  by_cases hx : xs = []
  · cases rx
    cases ry
    obtain ⟨its, r1, p1, _⟩ := I.tuple ha
    obtain ⟨its2, r2, p2, _⟩ := I.tuple hb
    obtain ⟨⟨cls, dd, data, sl⟩, ho, hc, n, hd⟩ := id p1
    obtain ⟨⟨cls2, dd2, data2, sl2⟩, ho2, hc2, n2, hd2⟩ := id p2
    simp only at hc hd hc2 hd2
    subst hc hd hc2 hd2
    have he : its = [] := r1.nil_iff.mpr hx
    exact concat_meets ⟨_, ho, rfl⟩ ⟨_, ho2, rfl⟩ noFill_tuple_add seq_tuple_add PySem.F.slot_tuple_add PySem.F.entry_tuple_add (PySem.F.args_tuple_add_2 _ _)
      (tuple_addW0 a b its.toArray its2.toArray n n2 dd dd2 sl sl2 (by simp [he])) ⟨ho, ho2, ⟨.ref b, H, I, rfl, q0 hx⟩⟩
  · exact op_catT pins s σ H _ _ v u Q I rx ry ⟨a, b, xs, ys, rfl, rfl, ha, hb, hx, hz, q1 hx, q2 hx⟩

/-! ### == and != of two lists of flat items -/
def datV : V → PyData
  | .bl b => .bool b
  | .int i => .int i
  | .str x => .str x
  | _ => .none
theorem reads_flat {h : Heap} {x : V} {u : Value} (r : RelV x u) (f : flatV x = true) : Reads h u (datV x) [] := by
  cases x with
  | non => cases r; exact .none
  | bl b => cases r; exact .bool b
  | int i => obtain ⟨t, rfl⟩ := r; exact .int i t
  | str z => obtain ⟨t, rfl⟩ := r; exact .str z t
  | _ => exact absurd (show false = true from f) Bool.false_ne_true
theorem readsAll_flat {h : Heap} : ∀ {xs : List V} {us : List Value}, Vals xs us → xs.all flatV = true → ReadsAll h us (xs.map datV) []
  | _, _, .nil, _ => .nil
  | _ :: _, _ :: _, .cons r t, f => by
    rw [List.all_cons, Bool.and_eq_true] at f
    exact .cons (reads_flat r f.1) (readsAll_flat t f.2)
def okV : V → Bool
  | .non => true
  | .bl _ => true
  | .int _ => true
  | .str z => PyData.strOk z
  | _ => false
theorem okV.flat {x : V} (h : okV x = true) : flatV x = true := by
  cases x <;> first | rfl | exact absurd (show false = true from h) Bool.false_ne_true
theorem okV.all {xs : List V} (h : xs.all okV = true) : xs.all flatV = true := List.all_eq_true.mpr fun x hx => okV.flat (List.all_eq_true.mp h x hx)
theorem lay_flat : ∀ (xs : List V), xs.all okV = true → PyData.canLayAll0 (xs.map datV) = true ∧ PyData.depthAll (xs.map datV) ≤ 1
  | [], _ => by simp [PyData.canLayAll0, PyData.depthAll]
  | x :: xs, hz => by
    rw [List.all_cons, Bool.and_eq_true] at hz
    have h1 : (datV x).canLay0 = true ∧ (datV x).depth ≤ 1 := by
      cases x with
      | str z => exact ⟨by simpa [datV, PyData.canLay0, okV] using hz.1, by simp [datV, PyData.depth]⟩
      | _ => exact ⟨by simp [datV, PyData.canLay0], by simp [datV, PyData.depth]⟩
    have h2 := lay_flat xs hz.2
    simp only [List.map_cons, PyData.canLayAll0, PyData.depthAll, h1.1, h2.1, Bool.and_self, true_and]
    have a1 := h1.2
    have a2 := h2.2
    omega
theorem shaped_flat {xs : List V} (h : xs.all okV = true) : SeqAt.shaped (.list (xs.map datV)) = true := by
  have q := lay_flat xs h
  unfold SeqAt.shaped
  simp only [PyData.canLay0, PyData.depth, q.1, Bool.true_and]
  have := q.2
  exact decide_eq_true (by omega)
theorem Inv.readsL {pins : List (Addr × Obj)} {σ : St} {H : Hp} {s : Shared} {a : Addr} {xs : List V} (I : Inv X pins σ H s) (h : SqL X.K H a xs) (f : xs.all okV = true) : ∃ as, Reads s.heap (.ref a) (.list (xs.map datV)) as := by
  obtain ⟨its, r, ⟨o, n, e, c, _, d⟩, _⟩ := I.list h
  exact ⟨_, .list e c d (by simpa using readsAll_flat r (okV.all f))⟩
def eqL (xs ys : List V) : Bool := PyData.eqv (.list (xs.map datV)) (.list (ys.map datV))
def rEqL (K : PySem.W.Frag) (neg : Bool) : R2 := fun x y H Q => ∃ a b xs ys, x = .ref a ∧ y = .ref b ∧ SqL K H a xs ∧ SqL K H b ys ∧ xs.all okV = true ∧ ys.all okV = true ∧ Q (.bl (if neg then !eqL xs ys else eqL xs ys)) H
theorem op_eqL (hu : X.A.units + 64 < cLine) : OpR X (compareOp .Eq) (rEqL X.K false) := by
  intro pins s σ H x y v u Q I rx ry h
  obtain ⟨a, b, xs, ys, rfl, rfl, ha, hb, fa, fb, q⟩ := h
  cases rx; cases ry
  obtain ⟨as, ra⟩ := I.readsL ha fa
  obtain ⟨bs, rb⟩ := I.readsL hb fb
  exact eq_dataH ra rb (shaped_flat fa) (shaped_flat fb) hu ⟨.bl _, H, I, rfl, q⟩
theorem op_neL (hu : X.A.units + 64 < cLine) : OpR X (compareOp .NotEq) (rEqL X.K true) := by
  intro pins s σ H x y v u Q I rx ry h
  obtain ⟨a, b, xs, ys, rfl, rfl, ha, hb, fa, fb, q⟩ := h
  cases rx; cases ry
  obtain ⟨as, ra⟩ := I.readsL ha fa
  obtain ⟨bs, rb⟩ := I.readsL hb fb
  exact ne_dataH ra rb (shaped_flat fa) (shaped_flat fb) hu ⟨.bl _, H, I, rfl, q⟩
theorem eqL_nil (xs : List V) : eqL xs [] = xs.isEmpty := by
  cases xs <;> simp [eqL, PyData.eqv, PyData.eqvAll]

/-! ### texts by their order; truths by is -/
theorem op_isnot_bl : OpR X (compareOp .IsNot) (fun x y H Q => ∃ a b, x = .bl a ∧ y = .bl b ∧ Q (.bl (a != b)) H) := by
  intro pins s σ H x y v u Q I rx ry h
  obtain ⟨i, j, rfl, rfl, q⟩ := h
  cases rx; cases ry
  exact isnot_bool ⟨.bl _, H, I, rfl, q⟩

/-! ### isinstance with a built-in type -/
theorem call_isinst : CallR X (.builtin "isinstance") (fun xs H Q => ∃ x n t b, xs = [x, .ty n] ∧ TyOf X.K H x t ∧ PySem.W.kitOne X.K t (.type n) = some b ∧ Q (.bl b) H) := by
  intro pins s σ H xs us Q I r h
  obtain ⟨x, n, t, b, rfl, ty, e, q⟩ := h
  obtain ⟨u, u2, rfl, r1, r2⟩ := r.two
  cases r2
  exact isinst_ok I r1 ty e fun tk => ⟨.bl b, H, I.tok tk, rfl, q⟩

/-! ### all of a list of truths -/
theorem boolsAre_of : ∀ {bs : List Bool} {us : List Value}, Vals (bs.map V.bl) us → us = bs.map Value.bool
  | [], _, .nil => rfl
  | b :: bs, _ :: _, .cons r t => by
    cases r
    rw [boolsAre_of t]; rfl
theorem call_all (hh : X.calm = true) : CallR X (.builtin "all") (fun xs H Q => ∃ (p : Addr) (bs : List Bool), xs = [.ref p] ∧ SqL X.K H p (bs.map V.bl) ∧ Q (.bl (bs.all id)) H) := by
  intro pins s σ H xs us Q I r h
  obtain ⟨p, bs, rfl, hq, q⟩ := h
  obtain ⟨u, rfl, r1⟩ := r.one
  cases r1
  obtain ⟨its, rv, pl, hz⟩ := I.list hq
  have eb := boolsAre_of rv
  subst eb
  have hl := pl.isList
  have hlt : p < s.heap.objs.size := by obtain ⟨_, e, _⟩ := hl; exact Heap.lt_size e
  refine call_all_walk (wpAny_pyIter_list hl ?_)
  refine ⟨s.heap.objs.size, [s.heap.objs.size, p], [s.heap.objs.size], (bs.map Value.bool).toArray.size, _, _, fun i => (bs[i]?).getD true, rfl, Walks.list (A := X.A.in1) (I.ok.hd hh) _ p (Nat.ne_of_lt hlt) (bs.map Value.bool).toArray,
    ⟨⟨_, Heap.get?_push_size _ rfl, rfl, rfl⟩, hl.push _⟩, fun i v s' Q' E' hP hQ => ?_, fun h' tk hk => ?_⟩
  · have e : (bs.map Value.bool)[i]? = some v := by simpa using hP
    rw [List.getElem?_map] at e
    cases eb : bs[i]? with
    | none => rw [eb] at e; cases e
    | some b =>
      rw [eb] at e
      have e' : Value.bool b = v := Option.some.inj e
      subst e'
      simp only [eb, Option.getD_some] at hQ
      exact wpAny_truthy_bool hQ
  · have e : ((List.range (bs.map Value.bool).toArray.size).all fun i => (bs[i]?).getD true) = bs.all id := by
      have z : (bs.map Value.bool).toArray.size = bs.length := by simp
      rw [z, Bool.eq_iff_iff, List.all_eq_true, List.all_eq_true]
      constructor
      · intro h b hb
        obtain ⟨i, hi, rfl⟩ := List.getElem_of_mem hb
        have := h i (List.mem_range.mpr hi)
        simpa [List.getElem?_eq_getElem hi] using this
      · intro h i hi
        have hi' := List.mem_range.mp hi
        simp only [List.getElem?_eq_getElem hi', Option.getD_some]
        exact h _ (List.getElem_mem hi')
    rw [e]
    exact ⟨.bl _, H, I.kept (fun b o e => hk b o (fun hm => by rw [List.mem_singleton.mp hm] at e; exact Nat.lt_irrefl _ (Heap.lt_size e)) (Heap.get?_push_of_some _ e)), rfl, q⟩

/-! ### a text, sign by sign -/
def Its (z : Str) : It := ⟨fun i _ => i < z.cps.size, fun i H x H' => H' = H ∧ ∃ c, z.cps[i]? = some c ∧ x = .str ⟨#[c]⟩, fun i _ => i = z.cps.size⟩
def iStr (tl : TE) : TI := fun σ H R => tl σ H fun x H1 => ∃ z, x = .str z ∧ R (Its z) H1
theorem turn_str {P : Program} {w : World} {K : PySem.W.Frag} {tg : Expr} (it : Addr) (z : Str) (t : Tok) (ty : String) (hty : ["enumerate", "zip", "dict_itemiterator", "dict_reverseitemiterator", "odict_iterator", "itertools.zip_longest", "itertools.pairwise"].contains ty = false)
    (W : ∀ A' : Around, A'.handled = none → Walks P w A' it [it] [it] z.cps.size (SignAt z) (fun i h => h.IsStrIter it ty z t i))
    (self : ∀ (A : Around) (i : Nat) (s : Shared) (Q : Value → Shared → Prop) (E : Value → Shared → Prop), s.heap.IsStrIter it ty z t i → Q (.ref it) s → wpAny (model P w) A (pyIter (.ref it)) Q E s) :
    Turn P w K tg (Its z) [it] it (fun i h => h.IsStrIter it ty z t i) where
  mem := by simp
  obj := fun i h st b hb => by
    have e : b = it := by simpa using hb
    subst e
    obtain ⟨o, e, c, d⟩ := st
    exact ⟨o, e, fun v z => by rw [d] at z; cases z⟩
  keep := fun i h h' st k => let ⟨o, ho, r⟩ := st; ⟨o, k it (by simp) o ho, r⟩
  item := by
    intro X hP hw hK hc i pins s σ H E I hf st hg
    subst hP hw hK
    obtain ⟨f0, f1, f2, f3, f4, f5⟩ := hf it (by simp)
    refine (W X.A (I.ok.hd hc)).item i s _ _ hg st fun v h' tk hv st' kk => ?_
    obtain ⟨c, u, hcp, rfl⟩ := hv
    have I1 : Inv X pins σ H { s with heap := h', toks := tk } := I.turned (fun b o hb e => kk b o (by simpa using hb) e) f0 f1 f3 f4 f5
    obtain ⟨o, e, cc, d⟩ := id st'
    exact ⟨_, rfl, go_of (s := { s with heap := h', toks := tk }) e cc d hty ⟨.str ⟨#[c]⟩, H, I1, ⟨u, rfl⟩, ⟨rfl, c, hcp, rfl⟩, st', fun b hb => (hf b hb).1⟩⟩
  done := by
    intro X hP hw hK hc i pins s σ H E I hf st hg
    subst hP hw hK
    obtain ⟨f0, f1, f2, f3, f4, f5⟩ := hf it (by simp)
    have hg' : i = z.cps.size := hg
    subst hg'
    exact (W X.A (I.ok.hd hc)).done s _ _ st fun h' tk kk => ⟨rfl, I.turned (fun b o hb e => kk b o (by simpa using hb) e) f0 f1 f3 f4 f5⟩
  self := self
theorem pi_str {tg l : Expr} {tl : TE} (hl : PE X l tl) : PI X tg l (iStr tl) := by
  intro pins s σ H R I h
  refine thn (hl pins s σ H _ I h) fun v s1 ⟨x, H1, I1, r1, q1⟩ => ?_
  obtain ⟨z, e, q⟩ := q1
  subst e
  obtain ⟨t, rfl⟩ := r1
  have fp : ∀ b ∈ [s1.heap.objs.size], FpOk X pins H1 b := fun b hb => by
    have e : b = s1.heap.objs.size := by simpa using hb
    subst e
    exact I1.fpOk (Nat.le_refl _) (I1.hok.fresh (Nat.le_refl _))
  cases ha : z.cps.all (· < 128)
  · exact wpAny_pyIter_wide ha ⟨_, _, _, _, H1, rfl, I1.kept (t' := s1.toks) (fun b o e => Heap.get?_push_of_some _ e), turn_str s1.heap.objs.size z t "str_iterator" (by decide) (fun A' hA => Walks.strWide hA _ z t) (fun _ _ _ _ _ st h => wpAny_pyIter_striter_wide st h), ⟨_, Heap.get?_push_size _ rfl, rfl, rfl⟩, fp, q⟩
  · exact wpAny_pyIter_ascii ha ⟨_, _, _, _, H1, rfl, I1.kept (t' := s1.toks) (fun b o e => Heap.get?_push_of_some _ e), turn_str s1.heap.objs.size z t "str_ascii_iterator" (by decide) (fun A' hA => Walks.strAscii hA _ z t) (fun _ _ _ _ _ st h => wpAny_pyIter_striter_ascii st h), ⟨_, Heap.get?_push_size _ rfl, rfl, rfl⟩, fp, q⟩

/-! ### a tuple times an int above 1 -/
theorem noFill_tuple_mul : fillsNumberSlot (.type "tuple") "mul" = pure false :=
  PySem.fillsNumberSlot_seq (id := "tuple.__mul__") (r := some (.builtin "tuple.__rmul__")) F.slot_tuple_mul.lookup (by decide +kernel) F.slot_tuple_rmul.lookup (by decide +kernel)
theorem repeat_tuple : seqRepeat? (.type "tuple") = pure (some (.builtin "tuple.__mul__")) := by
  unfold seqRepeat?
  rw [PySem.seqSlot_of (T := "tuple") (name := "__mul__") (id := "tuple.__mul__") F.slot_tuple_mul.lookup (by decide +kernel), PySem.seqSlot_of (T := "tuple") (name := "__rmul__") (id := "tuple.__rmul__") F.slot_tuple_rmul.lookup (by decide +kernel)]
  rfl
theorem int_rmul_tuple (a : Int) (t : Tok) (l : Addr) (items : Array Value) (n : Nat) (dd : Option Addr) (sl : Array (Option Value)) :
    Meets (Builtin.«int.__rmul__» ⟨[.int a t, .ref l], []⟩) (fun _ R s => s.heap.get? l = some { cls := .type "tuple", dict := dd, data := .seq items n, slots := sl } ∧ R (.ok (.ret Value.notImplemented)) s) :=
  .of_wp fun prog w A R s h => by obtain ⟨hp, g, d, tk, os⟩ := s; obtain ⟨hl, h⟩ := h; wp_walk; exact ⟨_, rfl, h⟩
open PySem.AutoSeq1 (wpAny_loadPart') in
theorem tuple_mul2 (l : Addr) (items : Array Value) (n : Nat) (dd : Option Addr) (sl : Array (Option Value)) (x : Int) (u : Tok) (h2 : 2 ≤ x) (hx : x < 2 ^ 62) (hne : items.isEmpty = false) (hz : items.size * x.toNat ≤ sizeLine) :
    Meets (Builtin.«tuple.__mul__» ⟨[.ref l, .int x u], []⟩) (fun _ R s => s.heap.get? l = some { cls := .type "tuple", dict := dd, data := .seq items n, slots := sl } ∧ R (.ok (.ret (Value.ref s.heap.objs.size))) { s with heap := s.heap.push { cls := Value.type "tuple", data := Data.seq (List.foldl (fun x1 x2 => x1 ++ x2) #[] (List.replicate x.toNat items)) }, toks := s.toks }) :=
  .of_wp fun prog w A R s h => by
    obtain ⟨hp, g, d, tk, os⟩ := s; obtain ⟨hl, h⟩ := h
    have f1 := AutoSeq1.idx_int
    have hs : sizeLine = 16777216 := sizeLine_eq
    have hm : ((items.size * x.toNat : Nat) : Int) = (items.size : Int) * x := by
      rw [Int.natCast_mul, Int.toNat_of_nonneg (by omega)]
    have c0 : ¬ (decide (x < -2 ^ 63) || decide (x ≥ 2 ^ 63)) = true := by
      simp only [Bool.or_eq_true, decide_eq_true_eq, not_or]
      omega
    have c1 : ¬ (items.isEmpty || x == 1) = true := by
      rw [hne, Bool.false_or]
      simp only [beq_iff_eq]
      omega
    have c2 : ¬ (decide (x ≤ 0) || items.isEmpty) = true := by
      rw [hne, Bool.or_false]
      simp only [decide_eq_true_eq]
      omega
    have c3 : ¬ ((items.size : Int) * x > (2 ^ 63 - 1) / 8) := by
      rw [← hm]
      have : (2 ^ 63 - 1 : Int) / 8 = 1152921504606846975 := by decide
      rw [this]
      omega
    have c4 : ¬ Builtin.Tuple.tupleTooMany ((items.size : Int) * x) = true := by
      unfold Builtin.Tuple.tupleTooMany
      simp only [decide_eq_true_eq]
      rw [← hm]
      omega
    wp_walk using wpAny_loadPart' hl
    refine PySem.W.KFB.if_not (Bool.eq_false_iff.mpr c0) ?_
    wp_walk using wpAny_loadPart' hl
    refine PySem.W.KFB.if_not (Bool.eq_false_iff.mpr c1) ?_
    refine PySem.W.KFB.if_not (Bool.eq_false_iff.mpr c2) ?_
    dsimp only
    rw [if_neg c3]
    refine PySem.W.KFB.if_not (Bool.eq_false_iff.mpr c4) ?_
    refine wpAny_bind (wpAny_newObj_type (wpAny_pure ⟨_, rfl, h⟩) ?_)
    show (List.foldl (fun x1 x2 => x1 ++ x2) #[] (List.replicate x.toNat items)).size ≤ sizeLine
    have e := foldl_rep items.toList x.toNat []
    rw [List.nil_append] at e
    have e2 : items.toList.toArray = items := by simp
    rw [e2] at e
    rw [show ([] : List Value).toArray = #[] from rfl] at e
    rw [e, List.size_toArray, len_rep, Array.length_toList, Nat.mul_comm]
    exact hz
def rRepT (K : PySem.W.Frag) : R2 := fun x y H Q => ∃ l k xs, x = .ref l ∧ y = .int k ∧ SqT K H l xs ∧ 2 ≤ k ∧ k < 2 ^ 62 ∧ xs ≠ [] ∧ xs.length * k.toNat ≤ sizeLine ∧
  ∀ p, H p = none → Q (.ref p) (upd H p (.tup (List.replicate k.toNat xs).flatten))
theorem op_repT : OpR X (binaryOp .Mult) (rRepT X.K) := by
  intro pins s σ H x y v u Q I rx ry h
  obtain ⟨l, k, xs, rfl, rfl, hq, h1, h2, hne, hz, q⟩ := h
  cases rx
  obtain ⟨t, rfl⟩ := ry
  obtain ⟨its, r, ⟨⟨cls, dd, data, sl⟩, e, hc, n, hd⟩, _⟩ := I.tuple hq
  simp only at hc hd
  subst hc hd
  have hl : xs.length = its.length := r.length
  have hz' : its.toArray.size * k.toNat ≤ sizeLine := by rw [List.size_toArray, ← hl]; exact hz
  have hni : its.toArray.isEmpty = false := by
    cases its with
    | nil => exact absurd (r.nil_iff.mp rfl) hne
    | cons a b => simp
  have hnew : List.foldl (fun x1 x2 => x1 ++ x2) #[] (List.replicate k.toNat its.toArray) = (List.replicate k.toNat its).flatten.toArray := by
    have := foldl_rep its k.toNat []
    rw [List.nil_append] at this
    exact this
  refine wpAny_binaryOp_repeat_ref (T := "tuple") (U := "int") (by decide) ⟨_, e, rfl⟩ (fun s' => typeIs_int s' k t) noFill_tuple_mul F.fills_int_mul F.slot_int_rmul repeat_tuple F.slot_int_index.lookup
    (call_meets F.slot_int_rmul (typeIs_int s k t) F.entry_int_rmul (F.args_int_rmul_2 _ _) (int_rmul_tuple k t l its.toArray n dd sl)
      ⟨e, rfl, ⟨_, e, rfl⟩, call_meets F.slot_tuple_mul ⟨_, e, rfl⟩ F.entry_tuple_mul (F.args_tuple_mul_2 _ _) (tuple_mul2 l its.toArray n dd sl k t h1 h2 hni hz') ⟨e, ?_⟩⟩)
  rw [hnew]
  refine ⟨.ref s.heap.objs.size, _, I.laid (t' := s.toks) (o := .tup (List.replicate k.toNat xs).flatten) (fun b ob q => Heap.get?_push_of_some _ q) (Nat.le_refl _) ?_, rfl, q _ (I.hok.fresh (Nat.le_refl _))⟩
  exact ⟨by rw [len_rep, Nat.mul_comm]; exact hz, _, r.rep k.toNat, IsTup.new _ _⟩
end
end L2


set_option Elab.async false
set_option linter.all false
set_option maxRecDepth 100000
/-! ONE RULE for each written operation, whatever the kinds; callees; data -/
namespace L2
open PySem PySem.Spec PyProof.Rows
section
variable {X : Cx}
/-! ### a list or a tuple is no text, and not None -/
def Seq (K : PySem.W.Frag) (H : Hp) (a : Addr) : Prop := (∃ xs, SqL K H a xs) ∨ ∃ xs, SqT K H a xs
theorem op_eq_rs (hu : X.A.units + 64 < cLine) : OpR X (compareOp .Eq) (fun x y H Q => ∃ a z, x = .ref a ∧ y = .str z ∧ Seq X.K H a ∧ Q (.bl false) H) := by
  intro pins s σ H x y v u Q I rx ry h
  obtain ⟨a, z, rfl, rfl, hq, q⟩ := h
  cases rx
  obtain ⟨t, rfl⟩ := ry
  show wpAny _ _ (richCompare .Eq _ _) _ _ _
  rcases hq with ⟨xs, hq⟩ | ⟨xs, hq⟩
  · obtain ⟨its, r, pl, hz⟩ := I.list hq
    exact SeqAt.RcAt.list_str z t pl.isList (by omega) _ _ _ _ ⟨.bl false, H, I, rfl, q⟩
  · obtain ⟨its, r, pl, hz⟩ := I.tuple hq
    exact SeqAt.RcAt.tuple_str z t (show s.heap.IsTuple a its.toArray from pl) (by omega) _ _ _ _ ⟨.bl false, H, I, rfl, q⟩
def isN : V → Bool
  | .non => true
  | _ => false
def isNU : Value → Bool
  | .none => true
  | _ => false
/-- None in a list of tuples and Nones -/
theorem op_in_none (hu : X.A.units + 64 < cLine) : OpR X (compareOp .In) (fun x y H Q => ∃ p xs, x = .non ∧ y = .ref p ∧ SqL X.K H p xs ∧ (∀ v ∈ xs, v = .non ∨ ∃ a ys, v = .ref a ∧ SqT X.K H a ys) ∧ Q (.bl (xs.any isN)) H) := by
  intro pins s σ H x y v u Q I rx ry h
  obtain ⟨p, xs, rfl, rfl, hq, hall, q⟩ := h
  cases rx; cases ry
  obtain ⟨its, r, pl, hz⟩ := I.list hq
  have hmem : ∀ (xs : List V) (us : List Value), Vals xs us → (∀ v ∈ xs, v = .non ∨ ∃ a ys, v = .ref a ∧ SqT X.K H a ys) → (∀ u ∈ us, SeqAt.EqAt X.A.in1 s u .none (isNU u)) ∧ us.any isNU = xs.any isN := by
    intro xs us rv
    induction rv with
    | nil => intro _; exact ⟨fun u hu => (by cases hu), rfl⟩
    | cons rr _ ih =>
      intro ha
      obtain ⟨i1, i2⟩ := ih fun v hv => ha v (List.mem_cons_of_mem _ hv)
      rcases ha _ List.mem_cons_self with e | ⟨a, ys, e, hs⟩
      · subst e
        cases rr
        refine ⟨fun u hu' => ?_, by rw [List.any_cons, List.any_cons, i2]; rfl⟩
        rcases List.mem_cons.mp hu' with rfl | h'
        · exact SeqAt.EqAt.same _
        · exact i1 u h'
      · subst e
        cases rr
        refine ⟨fun u hu' => ?_, by rw [List.any_cons, List.any_cons, i2]; rfl⟩
        rcases List.mem_cons.mp hu' with rfl | h'
        · obtain ⟨its, _, ht, _⟩ := I.tuple hs
          exact SeqAt.EqAt.tuple_none (show s.heap.IsTuple a its.toArray from ht) (by show X.A.units + 1 < _; omega)
        · exact i1 u h'
  obtain ⟨h1, h2⟩ := hmem xs its r hall
  refine SeqAt.in_listAt isNU pl.isList (fun w hw => h1 w (by simpa using hw)) ⟨.bl _, H, I, rfl, ?_⟩
  rw [show its.toArray.any isNU = its.any isNU by simp, h2]
  exact q

/-! ### one rule each -/
def rLeS : R2 := fun x y H Q => ∃ i j, x = .str i ∧ y = .str j ∧ Q (.bl (!decide (j.cps.toList < i.cps.toList))) H
def rLtS : R2 := fun x y H Q => ∃ i j, x = .str i ∧ y = .str j ∧ Q (.bl (decide (i.cps.toList < j.cps.toList))) H
/-- what two values come to by ==; whether the one is in the other; how long one is: each told once -/
def EqOf (K : PySem.W.Frag) (x y : V) (H : Hp) (b : Bool) : Prop := (scal x y = true ∧ b = decide (x = y)) ∨
  (∃ a c xs ys, x = .ref a ∧ y = .ref c ∧ SqL K H a xs ∧ SqL K H c ys ∧ xs.all okV = true ∧ ys.all okV = true ∧ b = eqL xs ys) ∨ (∃ a z, x = .ref a ∧ y = .str z ∧ Seq K H a ∧ b = false)
def qEq (K : PySem.W.Frag) : R2 := fun x y H Q => ∃ b, EqOf K x y H b ∧ Q (.bl b) H
def qNe (K : PySem.W.Frag) : R2 := fun x y H Q => ∃ b, ((scal x y = true ∧ b = decide (x = y)) ∨ (∃ a c xs ys, x = .ref a ∧ y = .ref c ∧ SqL K H a xs ∧ SqL K H c ys ∧ xs.all okV = true ∧ ys.all okV = true ∧ b = eqL xs ys)) ∧ Q (.bl (!b)) H
def InOf (K : PySem.W.Frag) (x y : V) (H : Hp) (b : Bool) : Prop := (∃ p xs, y = .ref p ∧ (SqL K H p xs ∨ SqT K H p xs) ∧ flatV x = true ∧ xs.all flatV = true ∧ b = inV x xs) ∨
  (∃ i j, x = .str i ∧ y = .str j ∧ b = !(Builtin.Str.occurrences j i 0 j.length 1).isEmpty) ∨
  (∃ p xs, x = .non ∧ y = .ref p ∧ SqL K H p xs ∧ (∀ v ∈ xs, v = .non ∨ ∃ a ys, v = .ref a ∧ SqT K H a ys) ∧ b = xs.any isN)
def qIn (K : PySem.W.Frag) : R2 := fun x y H Q => ∃ b, InOf K x y H b ∧ Q (.bl b) H
def NotInOf (K : PySem.W.Frag) (x y : V) (H : Hp) (b : Bool) : Prop := (∃ p xs, y = .ref p ∧ (SqL K H p xs ∨ SqT K H p xs) ∧ flatV x = true ∧ xs.all flatV = true ∧ b = !inV x xs) ∨
  (∃ i j, x = .str i ∧ y = .str j ∧ b = !(!(Builtin.Str.occurrences j i 0 j.length 1).isEmpty)) ∨
  (∃ a p xs, x = .ref a ∧ y = .ref p ∧ Seq K H a ∧ SqT K H p xs ∧ (∀ v ∈ xs, ∃ z, v = .str z) ∧ b = true)
def qNotIn (K : PySem.W.Frag) : R2 := fun x y H Q => ∃ b, NotInOf K x y H b ∧ Q (.bl b) H
def LenOf (K : PySem.W.Frag) (x : V) (H : Hp) (n : Nat) : Prop := (∃ p ys, x = .ref p ∧ (SqL K H p ys ∨ SqT K H p ys) ∧ n = ys.length) ∨ ∃ z, x = .str z ∧ z.length ≤ sizeLine ∧ n = z.length
def qLen (K : PySem.W.Frag) : List V → Hp → VK → Prop := fun xs H Q => ∃ x n, xs = [x] ∧ LenOf K x H n ∧ Q (.int n) H
def qIsN : R2 := fun x y H Q => y = .non ∧ Q (.bl (decide (x = .non))) H
def qNotN : R2 := fun x y H Q => y = .non ∧ Q (.bl (!decide (x = .non))) H
def qIsB : R2 := fun x y H Q => ∃ a b, x = .bl a ∧ y = .bl b ∧ Q (.bl (a == b)) H
def qNotB : R2 := fun x y H Q => ∃ a b, x = .bl a ∧ y = .bl b ∧ Q (.bl (a != b)) H
theorem op_notIn_rs (hu : X.A.units + 64 < cLine) : OpR X (compareOp .NotIn) (fun x y H Q => ∃ a p xs, x = .ref a ∧ y = .ref p ∧ Seq X.K H a ∧ SqT X.K H p xs ∧ (∀ v ∈ xs, ∃ z, v = .str z) ∧ Q (.bl true) H) := by
  intro pins s σ H x y v u Q I rx ry h
  obtain ⟨a, p, xs, rfl, rfl, hq, hp, hall, q⟩ := h
  cases rx; cases ry
  obtain ⟨its, r, pl, hz⟩ := I.tuple hp
  have hmem : ∀ (xs : List V) (us : List Value), Vals xs us → (∀ v ∈ xs, ∃ z, v = .str z) → ∀ u ∈ us, SeqAt.EqAt X.A.in1 s u (.ref a) ((fun _ => false) u) := by
    intro xs us rv
    induction rv with
    | nil => intro _ u hu; cases hu
    | cons rr _ ih =>
      intro ha u hu'
      rcases List.mem_cons.mp hu' with rfl | h'
      · obtain ⟨z, e⟩ := ha _ List.mem_cons_self
        subst e
        obtain ⟨t, rfl⟩ := rr
        rcases hq with ⟨ys, hq⟩ | ⟨ys, hq⟩
        · obtain ⟨its, _, pl, _⟩ := I.list hq
          exact SeqAt.EqAt.str_list z t pl.isList (by show X.A.units + 1 < _; omega)
        · obtain ⟨its, _, pl, _⟩ := I.tuple hq
          exact SeqAt.EqAt.str_tuple z t (show s.heap.IsTuple a its.toArray from pl) (by show X.A.units + 1 < _; omega)
      · exact ih (fun v hv => ha v (List.mem_cons_of_mem _ hv)) u h'
  refine SeqAt.notIn_tupleAt (fun _ => false) pl (fun w hw => hmem xs its r hall w (by simpa using hw)) ⟨.bl _, H, I, rfl, ?_⟩
  have e : (!its.toArray.any fun _ => false) = true := by simp
  rw [e]
  exact q
theorem gEq (hu : X.A.units + 64 < cLine) : OpR X (compareOp .Eq) (qEq X.K) := by
  intro pins s σ H x y v u Q I rx ry h
  obtain ⟨b, h, q⟩ := h
  rcases h with ⟨h, rfl⟩ | ⟨a, c, xs, ys, h1, h2, h3, h4, h5, h6, rfl⟩ | ⟨a, z, h1, h2, h3, rfl⟩
  · exact op_eq pins s σ H x y v u Q I rx ry ⟨h, q⟩
  · exact op_eqL hu pins s σ H x y v u Q I rx ry ⟨a, c, xs, ys, h1, h2, h3, h4, h5, h6, q⟩
  · exact op_eq_rs hu pins s σ H x y v u Q I rx ry ⟨a, z, h1, h2, h3, q⟩
theorem gNe (hu : X.A.units + 64 < cLine) : OpR X (compareOp .NotEq) (qNe X.K) := by
  intro pins s σ H x y v u Q I rx ry h
  obtain ⟨b, h, q⟩ := h
  rcases h with ⟨h, rfl⟩ | ⟨a, c, xs, ys, h1, h2, h3, h4, h5, h6, rfl⟩
  · exact op_ne pins s σ H x y v u Q I rx ry ⟨h, q⟩
  · exact op_neL hu pins s σ H x y v u Q I rx ry ⟨a, c, xs, ys, h1, h2, h3, h4, h5, h6, q⟩
theorem gIn (hu : X.A.units + 64 < cLine) : OpR X (compareOp .In) (qIn X.K) := by
  intro pins s σ H x y v u Q I rx ry h
  obtain ⟨b, h, q⟩ := h
  rcases h with ⟨p, xs, h1, h2, h3, h4, rfl⟩ | ⟨i, j, h1, h2, rfl⟩ | ⟨p, xs, h1, h2, h3, h4, rfl⟩
  · exact op_in_seq pins s σ H x y v u Q I rx ry ⟨p, xs, h1, h2, h3, h4, q⟩
  · exact op_in_str pins s σ H x y v u Q I rx ry ⟨i, j, h1, h2, q⟩
  · exact op_in_none hu pins s σ H x y v u Q I rx ry ⟨p, xs, h1, h2, h3, h4, q⟩
theorem gNotIn (hu : X.A.units + 64 < cLine) : OpR X (compareOp .NotIn) (qNotIn X.K) := by
  intro pins s σ H x y v u Q I rx ry h
  obtain ⟨b, h, q⟩ := h
  rcases h with ⟨p, xs, h1, h2, h3, h4, rfl⟩ | ⟨i, j, h1, h2, rfl⟩ | ⟨a, p, xs, h1, h2, h3, h4, h5, rfl⟩
  · exact op_notIn_seq pins s σ H x y v u Q I rx ry ⟨p, xs, h1, h2, h3, h4, q⟩
  · exact op_notIn_str pins s σ H x y v u Q I rx ry ⟨i, j, h1, h2, q⟩
  · exact op_notIn_rs hu pins s σ H x y v u Q I rx ry ⟨a, p, xs, h1, h2, h3, h4, h5, q⟩
theorem gLen : CallR X (.builtin "len") (qLen X.K) := by
  intro pins s σ H xs us Q I r h
  obtain ⟨x, n, rfl, h, q⟩ := h
  rcases h with ⟨p, ys, rfl, h, rfl⟩ | ⟨z, rfl, hz, rfl⟩
  · exact call_len_seq pins s σ H _ us Q I r ⟨p, ys, rfl, h, q⟩
  · exact call_len_str pins s σ H _ us Q I r ⟨z, rfl, hz, q⟩
theorem op_eqI : OpR X (compareOp .Eq) (rI0 fun i j => .bl (decide (i = j))) := by
  intro pins s σ H x y v u Q I rx ry h
  obtain ⟨i, j, rfl, rfl, q⟩ := h
  refine op_eq pins s σ H _ _ v u Q I rx ry ⟨rfl, ?_⟩
  have e : decide (V.int i = V.int j) = decide (i = j) := by simp
  rw [e]; exact q
theorem gIsN : OpR X (compareOp .Is) qIsN := op_isN
theorem gNotN : OpR X (compareOp .IsNot) qNotN := op_notN
theorem gNotB : OpR X (compareOp .IsNot) qNotB := op_isnot_bl
theorem gLtS : OpR X (compareOp .Lt) rLtS := op_lt_str
def qInst (K : PySem.W.Frag) : List V → Hp → VK → Prop := fun xs H Q => ∃ x n b, xs = [x, .ty n] ∧ (∃ t, TyOf K H x t ∧ PySem.W.kitOne K t (.type n) = some b) ∧ Q (.bl b) H
theorem gInst : CallR X (.builtin "isinstance") (qInst X.K) := by
  intro pins s σ H xs us Q I r h
  obtain ⟨x, n, b, rfl, ⟨t, h1, h2⟩, q⟩ := h
  exact call_isinst pins s σ H _ us Q I r ⟨x, n, t, b, rfl, h1, h2, q⟩
end
/-! ### argument lists without a look into eval -/
def isStar : Expr → Bool
  | .Starred .. => true
  | _ => false
def noStars : List Expr → Bool
  | [] => true
  | e :: r => !isStar e && noStars r
theorem starEach_plain {e : Expr} {es : List Expr} {env : Env} (h : isStar e = false) : starEach (e :: es) env = (false, eval e env) :: starEach es env := by
  cases e <;> first | rfl | exact absurd (show true = false from h) (by decide)
theorem noStars_any {pos : Pos} {env : Env} : ∀ {es : List Expr}, noStars es = true → (backTo pos (starEach es env)).any (·.1) = false
  | [], _ => rfl
  | e :: r, h => by
    rw [noStars, Bool.and_eq_true, Bool.not_eq_true'] at h
    rw [starEach_plain h.1]
    have q := noStars_any (pos := pos) (env := env) h.2
    show (false || (backTo pos (starEach r env)).any (·.1)) = false
    rw [q]; rfl
theorem pa_c {X : Cx} {e : Expr} {es : List Expr} {te : TE} {t : TA} (ha : PE X e te) (hr : PA X es t) (h : isStar e = false := by rfl) : PA X (e :: es) (tCons te t) := pa_cons ha hr (starEach_plain h)
/-! ### callees and constants of the text -/
structure Callee (P : Program) (w : World) (K : PySem.W.Frag) (mg : Str → Option Value) (base : Heap) (x : Str) (ps : List Str) (k : Nat) (sp : Sp) : Prop where
  ex : ∃ f fd, FnOk P w K mg base CX0 k f fd ps sp ∧ mg x = some (.ref f) ∧ PySem.W.keepIn K (.ref f) = true ∧ Binds K fd ps []
theorem Callee.mono {P : Program} {w : World} {K : PySem.W.Frag} {mg : Str → Option Value} {base : Heap} {x : Str} {ps : List Str} {j k : Nat} {sp : Sp} (h : Callee P w K mg base x ps j sp) (hk : j ≤ k) : Callee P w K mg base x ps k sp := by
  obtain ⟨f, fd, a, b, c, d⟩ := h
  exact ⟨f, fd, a.mono hk, b, c, d⟩
theorem pe_cc {X : Cx} {x : Str} {ps : List Str} {k j : Nat} {sp : Sp} {e : Expr} {es : List Expr} {t : TA} {p pos : Pos} (C : Callee X.prog X.w X.K X.mg X.base x ps k sp) (hr : Room j X.A) (hk : k ≤ j) (ha : PA X (e :: es) t) (hg : Gl X x := by rfl)
    (hdb : (x == ("__debug__" : Str)) = false := by decide) (hst : noStars (e :: es) = true := by rfl) :
    PE X (.Call (.Name x p) (e :: es) [] pos) (tCall sp [] E0 t) := by
  have hst' := hst
  rw [noStars, Bool.and_eq_true, Bool.not_eq_true'] at hst'
  have he := starEach_plain (es := es) (env := X.env) hst'.1
  have hpl := noStars_any (pos := pos) (env := X.env) hst'.2
  obtain ⟨f, fd, F, hm, hkp, hb⟩ := C
  intro pins s σ H Q I h
  refine wpAny_Call_Name_kw (ld_glob I hg hm ?_ hdb)
  refine PySem.W.callWith_K (h₀ := X.base) I.ok.mod.kin hkp (thn (ha pos pins s σ H _ I h) fun us s1 ⟨vs, H1, I1, r, q⟩ => ⟨I1.kIn, ?_⟩) he hpl
  exact run_fn F (hr.mono hk) hb .nil (fun _ _ _ _ _ _ _ z => z.elim) I1 r q
theorem pe_cB {X : Cx} {x : Str} {p pos : Pos} {e : Expr} {es : List Expr} {t : TA} {id : String} {r : List V → Hp → VK → Prop} (hc : CallR X (.builtin id) r) (hg : Gl X x) (hm : X.mg x = none) (hv : bootBuiltins x = some (.builtin id)) (ha : PA X (e :: es) t) (hn : x ≠ "__name__") (hdb : (x == ("__debug__" : Str)) = false)
    (hst : noStars (e :: es) = true := by rfl) : PE X (.Call (.Name x p) (e :: es) [] pos) (tCB r t) := by
  have hst' := hst
  rw [noStars, Bool.and_eq_true, Bool.not_eq_true'] at hst'
  exact pe_callB hc hg hm hv ha hn hdb (starEach_plain hst'.1) (noStars_any hst'.2)
theorem pe_cT {X : Cx} {x : Str} {p pos : Pos} {e : Expr} {es : List Expr} {t : TA} {T : String} {r : List V → Hp → VK → Prop} (hc : CallR X (.type T) r) (hg : Gl X x) (hm : X.mg x = none) (hv : bootBuiltins x = some (.type T)) (ha : PA X (e :: es) t) (hn : x ≠ "__name__") (hdb : (x == ("__debug__" : Str)) = false)
    (hst : noStars (e :: es) = true := by rfl) : PE X (.Call (.Name x p) (e :: es) [] pos) (tCB r t) := by
  have hst' := hst
  rw [noStars, Bool.and_eq_true, Bool.not_eq_true'] at hst'
  exact pe_callTy hc hg hm hv ha hn hdb (starEach_plain hst'.1) (noStars_any hst'.2)
structure GC (mg : Str → Option Value) (x : Str) (v : V) : Prop where
  ex : ∃ u, mg x = some u ∧ RelV v u
theorem pe_gc {X : Cx} {x : Str} {v : V} {pos : Pos} (h : GC X.mg x v) (hg : Gl X x := by rfl) (hd : (x == ("__debug__" : Str)) = false := by decide) : PE X (.Name x pos) (tC v) := by
  obtain ⟨u, hm, r⟩ := h
  exact pe_glob hg hm r hd
/-- a comprehension's scopes, by one look -/
def compChk (N : List Str) (on : List (Str × NameKind)) (sc : Scope) (N' : List Str) (mp : List (Option Nat)) : Bool :=
  sc.kind == .function && sc.names.all (fun y => y.2 != .cell) && sc.names.all (fun y => y.2 != .local || sc.names.lookup y.1 == some .local) && sc.names.all (fun y => y.2 != .free || on.lookup y.1 == some .cell) && compOk N on sc.names N' mp
theorem CompS.of {X : Cx} {N' : List Str} {sc : Scope} {mp : List (Option Nat)} (h : compChk X.N X.env.scope.names sc N' mp = true) : CompS X N' sc mp := by
  unfold compChk at h
  simp only [Bool.and_eq_true, beq_iff_eq] at h
  obtain ⟨⟨⟨⟨h1, h2⟩, h3⟩, h4⟩, h5⟩ := h
  refine ⟨h1, fun y hy => ?_, fun y hy e => ?_, fun y hy e => ?_, h5⟩
  · have := List.all_eq_true.mp h2 y hy
    simpa using this
  · have := List.all_eq_true.mp h3 y hy
    simp only [e, Bool.or_eq_true, beq_iff_eq] at this
    rcases this with z | z
    · exact absurd z (by decide)
    · exact z
  · have := List.all_eq_true.mp h4 y hy
    simp only [e, Bool.or_eq_true, beq_iff_eq] at this
    rcases this with z | z
    · exact absurd z (by decide)
    · exact z

/-! ### the written part by its name (within comprehensions) -/
theorem opK {X : Cx} {K : PySem.W.Frag} {f : Value → Value → Sem Value} {r : PySem.W.Frag → R2} (h : OpR X f (r X.K)) (hK : X.K = K) : OpR X f (r K) := hK ▸ h
theorem ixK {X : Cx} {K : PySem.W.Frag} {r : PySem.W.Frag → R2} (h : IxR X (r X.K)) (hK : X.K = K) : IxR X (r K) := hK ▸ h
theorem pg_tupK {X : Cx} {K : PySem.W.Frag} {es : List Expr} {k : Nat} {t : TGs} {n : Nat} {pos : Pos} (hK : X.K = K) (hc : X.calm = true) (h : PGs X es t) (hn : (assignEach es X.env).length = n := by rfl) (hst : (assignEach es X.env).findIdx? (·.1) = none := by rfl) : PG X (.Tuple es k pos) (gTup K n t) := hK ▸ pg_tup hc h hn hst
def isComp : Expr → Bool
  | .ListComp .. => true
  | .SetComp .. => true
  | .DictComp .. => true
  | _ => false
theorem swaps_plain {e : Expr} {t : Option Expr} {l : Nat} {env : Env} (h : isComp e = false) : swapsWith e t l env = pure false := by
  cases e <;> first | rfl | exact absurd (show true = false from h) (by decide)
theorem swaps_cell {elt : Expr} {gs : List Comprehension} {sc : Scope} {cp p : Pos} {x : Str} {l : Nat} {env : Env} (h : env.scope.names.lookup x = some .cell) : swapsWith (.ListComp elt gs sc cp) (some (.Name x p)) l env = pure false := by
  unfold swapsWith
  have e : (env.kindOf x == some NameKind.local) = false := by
    unfold Env.kindOf
    rw [h]; rfl
  simp only [e, Bool.and_false, Bool.false_and]
/-! ### data: what a value means, lists left closed -/
inductive Dm where
  | non | bl (b : Bool) | int (i : Int) | str (x : Str) | tup (ds : List Dm) | lst
mutual
inductive Dt (H : Hp) : V → Dm → Prop where
  | non : Dt H .non .non
  | bl (b : Bool) : Dt H (.bl b) (.bl b)
  | int (i : Int) : Dt H (.int i) (.int i)
  | str (x : Str) : Dt H (.str x) (.str x)
  | tup {a : Addr} {xs : List V} {ds : List Dm} : H a = some (.tup xs) → DtA H xs ds → Dt H (.ref a) (.tup ds)
  | lst {a : Addr} {xs : List V} : H a = some (.lst xs) → Dt H (.ref a) .lst
inductive DtA (H : Hp) : List V → List Dm → Prop where
  | nil : DtA H [] []
  | cons {x : V} {xs : List V} {d : Dm} {ds : List Dm} : Dt H x d → DtA H xs ds → DtA H (x :: xs) (d :: ds)
end
/-- tuples stay, lists stay lists -/
structure Kp (H H' : Hp) : Prop where
  t : ∀ b xs, H b = some (.tup xs) → H' b = some (.tup xs)
  l : ∀ b xs, H b = some (.lst xs) → ∃ ys, H' b = some (.lst ys)
theorem Kp.refl (H : Hp) : Kp H H := ⟨fun _ _ h => h, fun _ xs h => ⟨xs, h⟩⟩
theorem Kp.trans {H H1 H2 : Hp} (a : Kp H H1) (b : Kp H1 H2) : Kp H H2 := ⟨fun c xs h => b.t c xs (a.t c xs h), fun c xs h => let ⟨ys, e⟩ := a.l c xs h; b.l c ys e⟩
theorem Same.kp {H H' : Hp} (s : Same H H') : Kp H H' := ⟨fun b xs h => s b _ h, fun b xs h => ⟨xs, s b _ h⟩⟩
theorem same_new {H : Hp} {p : Addr} (h : H p = none) (o : HO) : Same H (upd H p o) := fun b u q => by rw [upd_ne (ne_of_none q h)]; exact q
theorem Kp.new {H : Hp} {p : Addr} (h : H p = none) (o : HO) : Kp H (upd H p o) := (same_new h o).kp
theorem Kp.set {H : Hp} {p : Addr} {xs ys : List V} (h : H p = some (.lst xs)) : Kp H (upd H p (.lst ys)) :=
  ⟨fun b zs e => by rw [upd_ne (ne_of e h (by intro z; cases z))]; exact e, fun b zs e => by
    by_cases hb : b = p
    · subst hb; exact ⟨ys, upd_same⟩
    · exact ⟨zs, by rw [upd_ne hb]; exact e⟩⟩
mutual
theorem Dt.kp {H H' : Hp} (k : Kp H H') : ∀ {v : V} {d : Dm}, Dt H v d → Dt H' v d
  | _, _, .non => .non
  | _, _, .bl b => .bl b
  | _, _, .int i => .int i
  | _, _, .str x => .str x
  | _, _, .tup e r => .tup (k.t _ _ e) (DtA.kp k r)
  | _, _, .lst e => let ⟨_, e'⟩ := k.l _ _ e; .lst e'
theorem DtA.kp {H H' : Hp} (k : Kp H H') : ∀ {xs : List V} {ds : List Dm}, DtA H xs ds → DtA H' xs ds
  | _, _, .nil => .nil
  | _, _, .cons r t => .cons (Dt.kp k r) (DtA.kp k t)
end
theorem DtA.length {H : Hp} : ∀ {xs : List V} {ds : List Dm}, DtA H xs ds → xs.length = ds.length
  | _, _, .nil => rfl
  | _, _, .cons _ t => by rw [List.length_cons, List.length_cons, DtA.length t]
theorem DtA.append {H : Hp} : ∀ {xs ys : List V} {ds es : List Dm}, DtA H xs ds → DtA H ys es → DtA H (xs ++ ys) (ds ++ es)
  | _, _, _, _, .nil, h => h
  | _, _, _, _, .cons r t, h => .cons r (DtA.append t h)
theorem DtA.get {H : Hp} : ∀ {xs : List V} {ds : List Dm} {i : Nat} {x : V}, DtA H xs ds → xs[i]? = some x → ∃ d, ds[i]? = some d ∧ Dt H x d
  | _, _, _, _, .nil, e => by simp at e
  | _, _, 0, _, .cons r _, e => by simp at e; subst e; exact ⟨_, rfl, r⟩
  | _, _, i + 1, x, .cons _ t, e => by
    obtain ⟨d, h1, h2⟩ := DtA.get (i := i) (x := x) t (by simpa using e)
    exact ⟨d, by simpa using h1, h2⟩
theorem Dt.tupI {H : Hp} {v : V} {ds : List Dm} (h : Dt H v (.tup ds)) : ∃ a xs, v = .ref a ∧ H a = some (.tup xs) ∧ DtA H xs ds := by
  cases h with
  | tup e r => exact ⟨_, _, rfl, e, r⟩
end L2


set_option Elab.async false
set_option linter.all false
set_option maxRecDepth 100000
/-! least and greatest of a list, sorted ints, list(range()), == of nested data -/
namespace L2
open PySem PySem.Spec PyProof.Rows
section
variable {X : Cx}
def qMinL (K : PySem.W.Frag) : List V → Hp → VK → Prop := fun xs H Q => ∃ (a : Addr) (ns : List Int), xs = [.ref a] ∧ SqL K H a (ns.map V.int) ∧ 0 < ns.length ∧ ∀ M, M ∈ ns → (∀ a ∈ ns, M ≤ a) → Q (.int M) H
def qMaxL (K : PySem.W.Frag) : List V → Hp → VK → Prop := fun xs H Q => ∃ (a : Addr) (ns : List Int), xs = [.ref a] ∧ SqL K H a (ns.map V.int) ∧ 0 < ns.length ∧ ∀ M, M ∈ ns → (∀ a ∈ ns, a ≤ M) → Q (.int M) H
def qSortI (K : PySem.W.Frag) : List V → Hp → VK → Prop := fun xs H Q => ∃ (a : Addr) (ns : List Int), xs = [.ref a] ∧ SqL K H a (ns.map V.int) ∧ ns.length < 64 ∧ ∀ (l : Addr) (ms : List Int), H l = none → ms.Perm ns → ms.Pairwise (· ≤ ·) → Q (.ref l) (upd H l (.lst (ms.map V.int)))
/-! ### a conditional as a test -/
def tIfT (t ta tb : TT) : TT := fun σ H Q => t σ H fun c H1 => if c = true then ta σ H1 Q else tb σ H1 Q
/-! ### nested data -/
mutual
def Dm.dat : Dm → PyData
  | .non => .none
  | .bl b => .bool b
  | .int i => .int i
  | .str x => .str x
  | .tup ds => .tuple (datA ds)
  | .lst => .none
def datA : List Dm → List PyData
  | [] => []
  | d :: ds => d.dat :: datA ds
end
mutual
def Dm.shut : Dm → Bool
  | .tup ds => shutA ds
  | .lst => false
  | .str x => PyData.strOk x
  | _ => true
def shutA : List Dm → Bool
  | [] => true
  | d :: ds => d.shut && shutA ds
end
def EqD (H : Hp) (x y : V) (b : Bool) : Prop := ∃ d e, Dt H x d ∧ Dt H y e ∧ (d.shut = true ∧ SeqAt.shaped d.dat = true) ∧ (e.shut = true ∧ SeqAt.shaped e.dat = true) ∧ b = PyData.eqv d.dat e.dat
def qEqD (_ : PySem.W.Frag) : R2 := fun x y H Q => ∃ b, EqD H x y b ∧ Q (.bl b) H
def qNeD (_ : PySem.W.Frag) : R2 := fun x y H Q => ∃ b, EqD H x y b ∧ Q (.bl (!b)) H
end
end L2


set_option Elab.async false
set_option linter.all false
set_option maxRecDepth 100000
namespace L2
open PySem PySem.Spec PyProof.Rows

/-! ### lists of pairs as tables -/
section
variable {κ : Type} [DecidableEq κ]
def valV (kvs : List (κ × V)) (k : κ) : Option V := (kvs.find? fun kv => decide (kv.1 = k)).map (·.2)
/-- in its place, or at the end -/
def putK (kvs : List (κ × V)) (k : κ) (v : V) : List (κ × V) :=
  if (kvs.any fun kv => decide (kv.1 = k)) = true then kvs.map (fun kv => if kv.1 = k then (kv.1, v) else kv) else kvs ++ [(k, v)]
def dropK (kvs : List (κ × V)) (k : κ) : List (κ × V) := kvs.filter fun kv => decide (kv.1 ≠ k)

theorem valV_pos {p : κ × V} {r : List (κ × V)} {k : κ} (e : p.1 = k) : valV (p :: r) k = some p.2 := by simp [valV, List.find?_cons, e]
theorem valV_neg {p : κ × V} {r : List (κ × V)} {k : κ} (e : ¬ p.1 = k) : valV (p :: r) k = valV r k := by simp [valV, List.find?_cons, e]
theorem valV_any (k : κ) : ∀ kvs : List (κ × V), (kvs.any fun kv => decide (kv.1 = k)) = (valV kvs k).isSome
  | [] => rfl
  | p :: r => by
    rw [List.any_cons]
    by_cases e : p.1 = k
    · simp only [valV_pos e, decide_eq_true e, Bool.true_or, Option.isSome_some]
    · rw [valV_neg e, decide_eq_false e, Bool.false_or]; exact valV_any k r
theorem RelO.isSome_eq {o : Option V} {u : Option Value} (r : RelO o u) : o.isSome = u.isSome := by
  cases o with
  | none => cases u with
    | none => rfl
    | some _ => exact (show False from r).elim
  | some _ => cases u with
    | none => exact (show False from r).elim
    | some _ => rfl
theorem RelO.getD {o : Option V} {u : Option Value} {d : V} {d' : Value} (r : RelO o u) (rd : RelV d d') : RelV (o.getD d) (u.getD d') := by
  cases o with
  | none => cases u with
    | none => exact rd
    | some _ => exact (show False from r).elim
  | some _ => cases u with
    | none => exact (show False from r).elim
    | some _ => exact r

/-- raw tables of the same keys -/
theorem KV.val {kvs : List (κ × V)} {vs : List (κ × Value)} (r : KV kvs vs) (k : κ) : RelO (valV kvs k) (valueAt vs k) := by
  unfold KV at r
  induction r with
  | nil => exact True.intro
  | @cons p q ps qs h t ih =>
    obtain ⟨h1, h2⟩ := h
    by_cases e : p.1 = k
    · have e' : q.1 = k := h1.symm.trans e
      have b : valueAt (q :: qs) k = some q.2 := by simp [valueAt, List.find?_cons, e']
      rw [valV_pos e, b]; exact h2
    · have e' : ¬ q.1 = k := fun z => e (h1.trans z)
      have b : valueAt (q :: qs) k = valueAt qs k := by simp [valueAt, List.find?_cons, e']
      rw [valV_neg e, b]; exact ih
theorem KV.any {kvs : List (κ × V)} {vs : List (κ × Value)} (r : KV kvs vs) (k : κ) : (kvs.any fun kv => decide (kv.1 = k)) = vs.any fun kv => decide (kv.1 = k) := by
  unfold KV at r
  induction r with
  | nil => rfl
  | cons h t ih => rw [List.any_cons, List.any_cons, ih, h.1]
theorem KV.repl {kvs : List (κ × V)} {vs : List (κ × Value)} (r : KV kvs vs) (k : κ) {y : V} {u : Value} (ry : RelV y u) :
    KV (kvs.map fun kv => if kv.1 = k then (kv.1, y) else kv) (vs.map fun kv => if kv.1 = k then (kv.1, u) else kv) := by
  unfold KV at r ⊢
  induction r with
  | nil => exact .nil
  | @cons p q ps qs h t ih =>
    rw [List.map_cons, List.map_cons]
    refine .cons ?_ ih
    obtain ⟨h1, h2⟩ := h
    by_cases e : p.1 = k
    · rw [if_pos e, if_pos (h1.symm.trans e)]; exact ⟨h1, ry⟩
    · rw [if_neg e, if_neg (fun z => e (h1.trans z))]; exact ⟨h1, h2⟩
theorem KV.put {kvs : List (κ × V)} {vs : List (κ × Value)} (r : KV kvs vs) (k : κ) {y : V} {u : Value} (ry : RelV y u) : KV (putK kvs k y) (stored vs k u) := by
  unfold putK stored
  rw [r.any k]
  by_cases e : (vs.any fun kv => decide (kv.1 = k)) = true
  · rw [if_pos e, if_pos e]; exact r.repl k ry
  · rw [if_neg e, if_neg e]; exact Paired.snoc r ⟨rfl, ry⟩
theorem KV.drop {kvs : List (κ × V)} {vs : List (κ × Value)} (r : KV kvs vs) (k : κ) : KV (dropK kvs k) (without vs k) := by
  unfold KV at r ⊢
  unfold dropK without
  induction r with
  | nil => exact .nil
  | @cons p q ps qs h t ih =>
    obtain ⟨h1, h2⟩ := h
    rw [List.filter_cons, List.filter_cons]
    by_cases e : p.1 = k
    · have a : ¬ decide (p.1 ≠ k) = true := by simp [e]
      have b : ¬ decide (q.1 ≠ k) = true := by simp [h1.symm.trans e]
      rw [if_neg a, if_neg b]; exact ih
    · have e' : ¬ q.1 = k := fun z => e (h1.trans z)
      have a : decide (p.1 ≠ k) = true := by simp [e]
      have b : decide (q.1 ≠ k) = true := by simp [e']
      rw [if_pos a, if_pos b]; exact .cons ⟨h1, h2⟩ ih
theorem KV.keys {kvs : List (κ × V)} {vs : List (κ × Value)} (r : KV kvs vs) : kvs.map (·.1) = vs.map (·.1) := by
  unfold KV at r
  induction r with
  | nil => rfl
  | cons h t ih => rw [List.map_cons, List.map_cons, ih, h.1]
theorem KV.length {kvs : List (κ × V)} {vs : List (κ × Value)} (r : KV kvs vs) : kvs.length = vs.length := Paired.length r
end


/-! ### a tracked dict, its keys ints and texts or tuples of these -/
/-- raw entries of a dict with tuple keys -/
abbrev KT (H : Hp) : List (List Key × V) → List (List Key × Addr × Value) → Prop := Paired fun p q => p.1 = q.1 ∧ H q.2.1 = some (.tup (p.1.map kV)) ∧ RelV p.2 q.2.2
theorem KT.val {H : Hp} {kvs : List (List Key × V)} {xs : List (List Key × Addr × Value)} (r : KT H kvs xs) (k : List Key) : RelO (valV kvs k) ((atKey xs k).map (·.2)) := by
  induction r with
  | nil => exact True.intro
  | @cons p q ps qs h t ih =>
    obtain ⟨h1, _, h2⟩ := h
    by_cases e : p.1 = k
    · have e' : q.1 = k := h1.symm.trans e
      have b : atKey (q :: qs) k = some q.2 := by simp [atKey, List.find?_cons, e']
      rw [valV_pos e, b]; exact h2
    · have e' : ¬ q.1 = k := fun z => e (h1.trans z)
      have b : atKey (q :: qs) k = atKey qs k := by simp [atKey, List.find?_cons, e']
      rw [valV_neg e, b]; exact ih
theorem KT.repl {H : Hp} {kvs : List (List Key × V)} {xs : List (List Key × Addr × Value)} (r : KT H kvs xs) (k : List Key) {y : V} {u : Value} (ry : RelV y u) :
    KT H (kvs.map fun kv => if kv.1 = k then (kv.1, y) else kv) (xs.map (putAt k u)) := by
  induction r with
  | nil => exact .nil
  | @cons p q ps qs h t ih =>
    rw [List.map_cons, List.map_cons]
    refine .cons ?_ ih
    obtain ⟨h1, h2, h3⟩ := h
    unfold putAt
    by_cases e : p.1 = k
    · rw [if_pos e, if_pos (h1.symm.trans e)]; exact ⟨h1, h2, ry⟩
    · rw [if_neg e, if_neg (fun z => e (h1.trans z))]; exact ⟨h1, h2, h3⟩
theorem KT.put {H : Hp} {kvs : List (List Key × V)} {xs : List (List Key × Addr × Value)} (r : KT H kvs xs) (k : List Key) {b : Addr} {y : V} {u : Value} (hb : H b = some (.tup (k.map kV))) (ry : RelV y u) :
    KT H (putK kvs k y) (storedH xs k b u) := by
  have e : (kvs.any fun kv => decide (kv.1 = k)) = (atKey xs k).isSome := by
    rw [valV_any, (r.val k).isSome_eq, Option.isSome_map]
  unfold putK storedH
  rw [e]
  by_cases q : (atKey xs k).isSome = true
  · rw [if_pos q, if_pos q]; exact r.repl k ry
  · rw [if_neg q, if_neg q]; exact Paired.snoc r ⟨rfl, hb, ry⟩
theorem KT.keeps {H H' : Hp} {kvs : List (List Key × V)} {xs : List (List Key × Addr × Value)} (r : KT H kvs xs) (ht : ∀ b ys, H b = some (.tup ys) → H' b = some (.tup ys)) : KT H' kvs xs :=
  Paired.mapP r fun _ _ z => ⟨z.1, ht _ _ z.2.1, z.2.2⟩

section
variable {P : Program} {w : World} {H : Hp} {h : Heap} {a : Addr}
end

/-- what the dict at a holds at the key y -/
def DGet (H : Hp) (a : Addr) (y : V) (r : Option V) : Prop :=
  (∃ kvs k, Rd H a (.dK kvs) ∧ y = kV k ∧ r = valV kvs k) ∨ ∃ kvs k b, Rd H a (.dT kvs) ∧ y = .ref b ∧ H b = some (.tup (k.map kV)) ∧ r = valV kvs k
/-- the heap behind a[y] = v -/
def DPut (H : Hp) (a : Addr) (y v : V) (H' : Hp) : Prop :=
  (∃ kvs k, H a = some (.dK kvs) ∧ y = kV k ∧ kvs.length < sizeLine ∧ H' = upd H a (.dK (putK kvs k v))) ∨
  ∃ kvs k b, H a = some (.dT kvs) ∧ y = .ref b ∧ H b = some (.tup (k.map kV)) ∧ kvs.length < sizeLine ∧ H' = upd H a (.dT (putK kvs k v))
theorem DGet.k {H : Hp} {a : Addr} {kvs : List (Key × V)} {k : Key} (e : H a = some (.dK kvs)) : DGet H a (kV k) (valV kvs k) := .inl ⟨kvs, k, .inl e, rfl, rfl⟩
theorem DGet.t {H : Hp} {a b : Addr} {kvs : List (List Key × V)} {k : List Key} (e : H a = some (.dT kvs)) (eb : H b = some (.tup (k.map kV))) : DGet H a (.ref b) (valV kvs k) := .inr ⟨kvs, k, b, .inl e, rfl, eb, rfl⟩
theorem DPut.k {H : Hp} {a : Addr} {kvs : List (Key × V)} {k : Key} {v : V} (e : H a = some (.dK kvs)) (hl : kvs.length < sizeLine) : DPut H a (kV k) v (upd H a (.dK (putK kvs k v))) := .inl ⟨kvs, k, e, rfl, hl, rfl⟩
theorem DPut.t {H : Hp} {a b : Addr} {kvs : List (List Key × V)} {k : List Key} {v : V} (e : H a = some (.dT kvs)) (eb : H b = some (.tup (k.map kV))) (hl : kvs.length < sizeLine) :
    DPut H a (.ref b) v (upd H a (.dT (putK kvs k v))) := .inr ⟨kvs, k, b, e, rfl, eb, hl, rfl⟩


section
variable {X : Cx} {pins : List (Addr × Obj)} {σ : St} {H : Hp} {s : Shared} {a : Addr} {y v : V} {u r : Value} {o : Option V} {A : Around} {E : Value → Shared → Prop}

end

section
variable {X : Cx} {pins : List (Addr × Obj)} {σ : St} {H : Hp} {s : Shared} {a : Addr} {kvs : List (Key × V)} {k : Key} {u : Value} {A : Around} {E : Value → Shared → Prop}
end


/-! ### readings and rules -/
/-- d[y] -/
def tDGet (td ty : TE) : TE := fun σ H Q => td σ H fun x H1 => ty σ H1 fun y H2 => ∃ a v, x = .ref a ∧ DGet H2 a y (some v) ∧ Q v H2
/-- d[y] = v -/
def sDPut (td ty tv : TE) : TS := fun D σ H => tv σ H fun v H1 => td σ H1 fun x H2 => ty σ H2 fun y H3 => ∃ a H4, x = .ref a ∧ DPut H3 a y v H4 ∧ D.nx σ H4
section
variable {X : Cx} {o i e value : Expr} {pos pos' tpos : Pos} {td ty tv : TE}
end


/-! ### displays -/
/-- {}, to be a dict of the kind that is wanted -/
def tDNewK : TE := fun _ H Q => ∀ p, H p = none → Q (.ref p) (upd H p (.dK []))
section
variable {X : Cx} {pos : Pos}
end

/-- the pairs of a display, from the left -/
def tPairs : List (TE × TE) → St → Hp → (List (V × V) → Hp → Prop) → Prop
  | [], _, H, Q => Q [] H
  | (tk, tv) :: r, σ, H, Q => tk σ H fun x H1 => tv σ H1 fun y H2 => tPairs r σ H2 fun ps H3 => Q ((x, y) :: ps) H3
def mergeK (kvs more : List (Key × V)) : List (Key × V) := more.foldl (fun acc kv => putK acc kv.1 kv.2) kvs
/-- {k: v, ..} with keys ints and texts; the new dict stands empty while the pairs are made -/
def tDisp (trs : List (TE × TE)) : TE := fun σ H Q => ∀ p, H p = none → tPairs trs σ (upd H p (.dK [])) fun ps H2 => H2 p = some (.dK []) ∧ ∃ kvs : List (Key × V), ps = kvs.map (fun kv => (kV kv.1, kv.2)) ∧ kvs.length ≤ 15 ∧ Q (.ref p) (upd H2 p (.dK (mergeK [] kvs)))
/-! ### methods -/
/-- a method call o.m(e) of a built-in, with one argument: what must be seen of the text -/
structure M1 (X : Cx) (o : Expr) (m : Str) (apos : Pos) (e : Expr) (cpos : Pos) : Prop where
  base : attributeBase o m X.env (eval o X.env) = eval o X.env
  few : ((backTo cpos (starEach [e] X.env)).all (fun x => !x.1) && (backToKw cpos (keywordEach [] X.env)).all (fun x => x.1.isSome)
    && decide (([e] : List Expr).length + ([] : List Keyword).length + (if ([] : List Keyword).isEmpty then 0 else 1) < 30)) = true
  line : (apos.endLine == cpos.line) = true
  trees : backTo cpos (starEach [e] X.env) = [(false, eval e X.env)]
structure M2 (X : Cx) (o : Expr) (m : Str) (apos : Pos) (e f : Expr) (cpos : Pos) : Prop where
  base : attributeBase o m X.env (eval o X.env) = eval o X.env
  few : ((backTo cpos (starEach [e, f] X.env)).all (fun x => !x.1) && (backToKw cpos (keywordEach [] X.env)).all (fun x => x.1.isSome)
    && decide (([e, f] : List Expr).length + ([] : List Keyword).length + (if ([] : List Keyword).isEmpty then 0 else 1) < 30)) = true
  line : (apos.endLine == cpos.line) = true
  trees : backTo cpos (starEach [e, f] X.env) = [(false, eval e X.env), (false, eval f X.env)]

/-- a is a dict, whatever its keys -/
def IsD (H : Hp) (a : Addr) : Prop := (∃ kvs, Rd H a (.dK kvs)) ∨ ∃ kvs, Rd H a (.dT kvs)
section
variable {X : Cx} {pins : List (Addr × Obj)} {σ : St} {H : Hp} {s : Shared} {a : Addr} {y d : V} {u r : Value} {o : Option V} {A : Around} {E : Value → Shared → Prop}
end

def tDGet1 (td ty : TE) : TE := fun σ H Q => td σ H fun x H1 => ∃ a, x = .ref a ∧ IsD H1 a ∧ ty σ H1 fun y H2 => ∃ o, DGet H2 a y o ∧ Q (o.getD .non) H2
section
variable {X : Cx} {o e f : Expr} {apos cpos : Pos} {td ty tx : TE}
end

/-! ### dict(d): a copy -/
section
variable {X : Cx} {pins : List (Addr × Obj)} {σ : St} {H : Hp} {s : Shared} {a : Addr} {kvs : List (Key × V)} {A : Around} {E : Value → Shared → Prop}
end


section
variable {X : Cx} {pins : List (Addr × Obj)} {σ : St} {H : Hp} {s : Shared} {a : Addr} {y : V} {u : Value} {A : Around} {E : Value → Shared → Prop}
end
section
variable {X : Cx}
end
/-! ### a dict's pairs: keys that differ -/
section
variable {κ : Type} [DecidableEq κ]
end
end L2


set_option Elab.async false
set_option linter.all false
set_option maxRecDepth 100000
/-! a dict of the text's top, by ints -/
namespace L2
open PySem PySem.Spec PyProof.Rows
section
variable {X : Cx}
def KMap (K : PySem.W.Frag) (a : Addr) (f : Int → Option Value) : Prop := ∃ o es ep, K.lookup a = some o ∧ o.ExactDict ∧ o.data = .dict es ep ∧ (∀ e ∈ es, ∃ k, Value.isInt k e.key = true ∧ e.hash = hashInt k) ∧ ∀ k, findBy Value.isInt es k = f k
def tKGet (K : PySem.W.Frag) (td ty : TE) : TE := fun σ H Q => td σ H fun x H1 => ty σ H1 fun y H2 => ∃ a k u v f, x = .ref a ∧ y = .int k ∧ KMap K a f ∧ f k = some u ∧ RelV v u ∧ Q v H2
end
end L2


set_option Elab.async false
set_option linter.all false
set_option maxRecDepth 100000
/-! enumerate and zip over lists -/
namespace L2
open PySem PySem.Spec PyProof.Rows
section
variable {X : Cx} {pins : List (Addr × Obj)} {σ : List (Option V)} {H : Hp} {s : Shared} {h' : Heap}
/-- several untracked records have turned -/
theorem Inv.turnedL {t' : Nat} {ch : List Addr} (I : Inv X pins σ H s) (k : ∀ b o, b ∉ ch → s.heap.get? b = some o → h'.get? b = some o) (hf : ∀ b ∈ ch, FpOk X pins H b) : Inv X pins σ H { s with heap := h', toks := t' } := by
  have nit : ∀ b u, H b = some u → b ∉ ch := fun b u e z => by rw [(hf b z).1] at e; cases e
  refine I.step (g' := s.gens) (d' := s.drawn) (ch := ch) (fun b hb => ?_) (fun b o _ _ hc e _ => k b o hc e) (fun b o _ _ hc e _ => ⟨o.slots, k b o hc e⟩) (fun _ _ _ _ n => n)
    (fun b o hc e => ⟨o, k b o hc e⟩) (fun _ _ e => e) (fun _ _ _ e => e) (fun b ps e => ⟨#[], by rw [e]; simp⟩) (fun m hm => ?_) (fun b u e => ?_) I.bare
  · obtain ⟨_, f1, _, f3, f4, f5⟩ := hf b hb
    exact ⟨f3, f1, f4, f5⟩
  · obtain ⟨o, es, ep, ho, r⟩ := hm
    exact ⟨o, es, ep, k _ o (fun z => (hf _ z).2.1 rfl) ho, r⟩
  · refine (I.hok b u e).stay (fun c v hc q => k c v ?_ q) (fun _ q => q) fun _ _ q => q
    rcases hc with z | z
    · rw [z]; exact nit b u e
    · exact nit c _ z
end
/-- a pair for each turn: new tuples -/
def Ite (K : PySem.W.Frag) (a : Addr) : It :=
  ⟨fun i H => ∃ xs x, SqL K H a xs ∧ xs[i]? = some x, fun i H x H' => ∃ T v, x = .ref T ∧ H T = none ∧ H' = upd H T (.tup [.int i, v]) ∧ ∀ xs, SqL K H a xs → xs[i]? = some v, fun i H => ∃ xs, SqL K H a xs ∧ xs.length ≤ i⟩
def Itz (K : PySem.W.Frag) (a b : Addr) : It :=
  ⟨fun i H => ∃ xs ys x y, SqL K H a xs ∧ SqL K H b ys ∧ xs[i]? = some x ∧ ys[i]? = some y, fun i H x H' => ∃ T u v, x = .ref T ∧ H T = none ∧ H' = upd H T (.tup [u, v]) ∧ (∀ xs, SqL K H a xs → xs[i]? = some u) ∧ ∀ ys, SqL K H b ys → ys[i]? = some v,
    fun i H => ∃ xs ys, SqL K H a xs ∧ SqL K H b ys ∧ (xs.length ≤ i ∨ ys.length ≤ i)⟩
theorem two_le : (2 : Nat) ≤ sizeLine := by decide
section
variable {X : Cx}
def iEnum (K : PySem.W.Frag) (ta : TA) : TI := fun σ H R => ta σ H fun vs H1 => ∃ a, vs = [.ref a] ∧ (∃ xs, SqL K H1 a xs) ∧ R (Ite K a) H1
end
section
variable {X : Cx}
def iZip (K : PySem.W.Frag) (ta : TA) : TI := fun σ H R => ta σ H fun vs H1 => ∃ a b, vs = [.ref a, .ref b] ∧ (∃ xs, SqL K H1 a xs) ∧ (∃ ys, SqL K H1 b ys) ∧ R (Itz K a b) H1
end
end L2


set_option Elab.async false
set_option linter.all false
set_option maxRecDepth 100000
/-! dicts copied and listed, texts sorted, a list or a tuple walked -/
namespace L2
open PySem PySem.Spec PyProof.Rows
section
variable {X : Cx}
def qSortS (K : PySem.W.Frag) : List V → Hp → VK → Prop := fun xs H Q => ∃ (a : Addr) (ns : List Str), xs = [.ref a] ∧ SqL K H a (ns.map V.str) ∧ ns.length < 64 ∧ ∀ (l : Addr) (ms : List Str), H l = none → ms.Perm ns → sortedS ms = true → Q (.ref l) (upd H l (.lst (ms.map V.str)))
/-! ### a chain of three comparisons, as a test -/
def tChain3 (r r' r'' : R2) (ta tb tc td : TE) : TT := fun σ H Q => ta σ H fun x H1 => tb σ H1 fun y H2 => r x y H2 fun z H3 => ∃ k, z = .bl k ∧ (if k = true then tc σ H3 fun w H4 => r' y w H4 fun z H5 => ∃ k, z = .bl k ∧
  (if k = true then td σ H5 fun v H6 => r'' w v H6 fun z H7 => ∃ k, z = .bl k ∧ Q k H7 else Q false H5) else Q false H3)
/-! ### a list or a tuple, walked -/
def iSeq (K : PySem.W.Frag) (tl : TE) : TI := fun σ H R => tl σ H fun x H1 => ∃ a, x = .ref a ∧ (((∃ xs, SqL K H1 a xs) ∧ R (Itl K a) H1) ∨ ((∃ xs, SqT K H1 a xs) ∧ R (Itt K a) H1))
end
/-! ### == of lists of nested data -/
section
variable {X : Cx}
def EqDL (K : PySem.W.Frag) (H : Hp) (x y : V) (b : Bool) : Prop := ∃ a c xs ys ds es, x = .ref a ∧ y = .ref c ∧ SqL K H a xs ∧ SqL K H c ys ∧ DtA H xs ds ∧ DtA H ys es ∧ shutA ds = true ∧ shutA es = true ∧ SeqAt.shaped (.list (datA ds)) = true ∧ SeqAt.shaped (.list (datA es)) = true ∧ b = PyData.eqv (.list (datA ds)) (.list (datA es))
def qEqDL (K : PySem.W.Frag) : R2 := fun x y H Q => ∃ b, EqDL K H x y b ∧ Q (.bl b) H
def qNeDL (K : PySem.W.Frag) : R2 := fun x y H Q => ∃ b, EqDL K H x y b ∧ Q (.bl (!b)) H
end
end L2


set_option Elab.async false
set_option linter.all false
set_option maxRecDepth 100000
/-! SETS of ints or texts: made of a list, walked in whatever order, sorted -/
namespace L2
open PySem PySem.Spec PyProof.Rows

/-! ### a set's table: its places rise -/
def Ris (xs : Array Nat) : Prop := xs.toList.Pairwise (· < ·)
theorem Ris.lt {xs : Array Nat} (h : Ris xs) {i j : Nat} (hij : i < j) (hj : j < xs.size) (d : Nat) : xs.getD i d < xs.getD j d := by
  have e := List.pairwise_iff_getElem.mp h i j (by simp; omega) (by simpa using hj) hij
  simpa [Array.getD, hj, Nat.lt_trans hij hj] using e
end L2


set_option Elab.async false
set_option linter.all false
set_option maxRecDepth 100000
/-! SETS: a key put in, a set made of a list -/
namespace L2
open PySem PySem.Spec PyProof.Rows

/-! ### a set of keys, its elements in some order -/
section
variable {prog : Program} {w : World} {κ : Type} [DecidableEq κ] (knd : PySem.KeyKind prog w κ) (key : Value → κ)
/-- at a lies a set whose keys, in the order in which they are laid, are ks -/
def SetX (a : Addr) (L : Bool) (ks : List κ) (h : Heap) : Prop :=
  ∃ o es ep t, h.get? a = some o ∧ o.ExactSet ∧ o.data = .set es ep t ∧ ElemsOf knd es.toList ∧ ks = es.toList.map (fun e => key e.2) ∧ ks.Nodup ∧ es.size < scanBound ∧ t.fits es.size = true ∧ Ris t.place ∧ t.led = L
variable {knd key} {A : Around} {E : Value → Shared → Prop} {s : Shared} {a : Addr} {L : Bool} {ks : List κ}
theorem SetX.len {h : Heap} (x : SetX knd key a L ks h) : ks.length < scanBound := by
  obtain ⟨o, es, ep, t, _, _, _, _, rfl, _, hb, _⟩ := x
  simpa using hb
abbrev byTxt (w : World) : Bool := w.params.followText "set-order"
end
end L2


set_option Elab.async false
set_option linter.all false
set_option maxRecDepth 100000
/-! SETS: walked, sorted -/
namespace L2
open PySem PySem.Spec PyProof.Rows
section
variable {prog : Program} {w : World} {A : Around} {E : Value → Shared → Prop} {s : Shared} {S I : Addr} {es : Array (Int × Value)} {ep : Nat} {t : SetTable} {o : Obj}
end
end L2


set_option Elab.async false
set_option linter.all false
set_option maxRecDepth 100000
/-! SETS: sorted -/
namespace L2
open PySem PySem.Spec PyProof.Rows
section
variable {prog : Program} {w : World} {A : Around} {E : Value → Shared → Prop} {s : Shared} {S I : Addr} {es : Array (Int × Value)} {ep : Nat} {t : SetTable} {o : Obj}
def keyI : Value → Int
  | .int k _ => k
  | _ => 0
end
end L2


set_option Elab.async false
set_option linter.all false
set_option maxRecDepth 100000
namespace L2
open PySem PySem.Spec PyProof.Rows

/-! ### the layer's rules -/
def setO (P : Program) (w : World) (p : Addr) (ks : List Int) : HO := .ext (SetX (intKind P w) keyI p (!byTxt w) ks)
def qSetI (P : Program) (w : World) (K : PySem.W.Frag) : List V → Hp → VK → Prop := fun xs H Q => ∃ (a : Addr) (ns : List Int), xs = [.ref a] ∧ SqL K H a (ns.map V.int) ∧ ns.length ≤ 1000 ∧
  ∀ (p : Addr) (ks : List Int), H p = none → ks.Nodup → (∀ x, x ∈ ks ↔ x ∈ ns) → ks.length ≤ ns.length → Q (.ref p) (upd H p (setO P w p ks))
def qSortSet (P : Program) (w : World) : List V → Hp → VK → Prop := fun xs H Q => ∃ (a : Addr) (ks : List Int), xs = [.ref a] ∧ H a = some (setO P w a ks) ∧ ks.length < 64 ∧
  ∀ (l : Addr) (ms : List Int), H l = none → ms.Perm ks → ms.Pairwise (· ≤ ·) → Q (.ref l) (upd H l (.lst (ms.map V.int)))
section
variable {X : Cx}
end
end L2


set_option Elab.async false
set_option linter.all false
set_option maxRecDepth 100000
namespace L2
open PySem PyProof.Rows
/-! ### a def that a local holds, called -/
/-- what is at f is a def of this promise -/
def Held (P : Program) (w : World) (K : PySem.W.Frag) (mg : Str → Option Value) (base : Heap) (k : Nat) (f : Addr) (sp : Sp) : Prop := ∃ fd ps, FnOk P w K mg base CX0 k f fd ps sp ∧ PySem.W.keepIn K (.ref f) = true ∧ Binds K fd ps []
def tCallL (L : Addr → Sp → Prop) (i : Nat) (t : TA) : TE := fun σ H Q => ∃ f, σ[i]? = some (some (.ref f)) ∧ ∃ sp, L f sp ∧ t σ H fun vs H1 => sp vs H1 Q E0
theorem pe_callL {X : Cx} {x : Str} {i k j : Nat} {e : Expr} {es : List Expr} {t : TA} {p pos : Pos} (hN : X.N[i]? = some x) (hv : Vis X.env.scope x) (hr : Room j X.A) (hk : k ≤ j) (ha : PA X (e :: es) t)
    (hd : (x == ("__debug__" : Str)) = false := by decide) (hcd : (x == ("__classdict__" : Str)) = false := by decide) (hst : noStars (e :: es) = true := by rfl) :
    PE X (.Call (.Name x p) (e :: es) [] pos) (tCallL (Held X.prog X.w X.K X.mg X.base k) i t) := by
  have hst' := hst
  rw [noStars, Bool.and_eq_true, Bool.not_eq_true'] at hst'
  have he := starEach_plain (es := es) (env := X.env) hst'.1
  have hpl := noStars_any (pos := pos) (env := X.env) hst'.2
  intro pins s σ H Q I h
  obtain ⟨f, ei, sp, ⟨fd, ps, F, hkp, hb⟩, h⟩ := h
  refine wpAny_Call_Name_kw (thn (pe_var (pos := p) hN hv hd hcd pins s σ H (fun x' H' => x' = .ref f ∧ t σ H' fun vs H1 => sp vs H1 Q E0) I ⟨_, ei, rfl, h⟩) fun u s0 ⟨x', H', I', r', ex, h'⟩ => ?_)
  subst ex
  cases r'
  refine PySem.W.callWith_K (h₀ := X.base) I'.ok.mod.kin hkp (thn (ha pos pins s0 σ H' _ I' h') fun us s1 ⟨vs, H1, I1, r, q⟩ => ⟨I1.kIn, ?_⟩) he hpl
  exact run_fn F (hr.mono hk) hb .nil (fun _ _ _ _ _ _ _ z => z.elim) I1 r (by rw [List.append_nil]; exact q)
end L2


set_option Elab.async false
set_option linter.all false
set_option maxRecDepth 100000
namespace L2
open PySem PyProof.Rows
section
variable {P : Program} {w : World} {A : Around} {E : Value → Shared → Prop} {s : Shared}
/-- the next of a tuple's walk, asked by name -/
theorem nx_tup {it t : Addr} {i : Nat} {its : Array Value} {x : Value} {Q : Value → Shared → Prop} (a : s.heap.IsTupleIter it t i) (b : s.heap.IsTuple t its) (c : its[i]? = some x)
    (q : ∀ h', h'.IsTupleIter it t (i + 1) → Heap.SameBut it s.heap h' → Q x { s with heap := h' }) : wpAny (model P w) A (Builtin.SmallTypes.nextOf (.ref it)) Q E s := by
  have ty := a.typeIs
  obtain ⟨⟨_, dc, _, sl⟩, eo, rfl, rfl⟩ := a
  obtain ⟨⟨_, dl, _, ll⟩, el, rfl, nl, rfl⟩ := b
  rw [Builtin.SmallTypes.nextOf]
  refine wpAny_bind (wpAny_callSpecial?_slot (name := "__next__") ty F.slot_tuple_iterator_next (wpAny_call_entry F.slot_tuple_iterator_next ty F.entry_tuple_iterator_next ?_ (F.args_tuple_iterator_next_1 _)))
  wp_walk
  simp only [Int.toNat_natCast, c]
  wp_walk
  exact ⟨_, rfl, wpAny_pure (q _ ⟨_, Heap.get?_update_self _ eo rfl, rfl, by simp [Obj.mapFields, rawInt]⟩ (Heap.SameBut.update ..))⟩
theorem nx_tup_end {it t : Addr} {i : Nat} {its : Array Value} {Q : Value → Shared → Prop} (hh : A.handled = none) (a : s.heap.IsTupleIter it t i) (b : s.heap.IsTuple t its) (c : its[i]? = none)
    (q : ∀ h' e, Heap.ExtBut it s.heap h' → (∃ o, h'.get? e = some o ∧ o.cls = .type "StopIteration") → E (.ref e) { s with heap := h' }) : wpAny (model P w) A (Builtin.SmallTypes.nextOf (.ref it)) Q E s := by
  have ty := a.typeIs
  obtain ⟨⟨_, dc, _, sl⟩, eo, rfl, rfl⟩ := a
  obtain ⟨⟨_, dl, _, ll⟩, el, rfl, nl, rfl⟩ := b
  rw [Builtin.SmallTypes.nextOf]
  refine wpAny_bind (wpAny_callSpecial?_slot (name := "__next__") ty F.slot_tuple_iterator_next (wpAny_call_entry F.slot_tuple_iterator_next ty F.entry_tuple_iterator_next ?_ (F.args_tuple_iterator_next_1 _)))
  wp_walk
  simp only [Int.toNat_natCast, c]
  have hh' : A.in1.handled = none := hh
  wp_walk
  rw [raiseNew]
  wp_walk
  exact q _ _ (((Heap.SameBut.update ..).extBut.push _).push _) ⟨_, Heap.get?_push_size _ rfl, rfl⟩
/-- zip of two tuples, made -/
theorem zip_new_tup (t u : Addr) (xs ys : Array Value) : Meets (Builtin.«zip.__new__» ⟨[.type "zip", .ref t, .ref u], []⟩) (fun _ R s => s.heap.IsTuple t xs ∧ s.heap.IsTuple u ys ∧
    ∀ h', IsZip h' (s.heap.objs.size + 4) (s.heap.objs.size + 2) (s.heap.objs.size + 3) .none → IsPair h' (s.heap.objs.size + 2) (.ref s.heap.objs.size) (.ref (s.heap.objs.size + 1)) → IsPair h' (s.heap.objs.size + 3) .none .none →
      h'.IsTupleIter s.heap.objs.size t 0 → h'.IsTupleIter (s.heap.objs.size + 1) u 0 → h'.objs.size = s.heap.objs.size + 5 → (∀ c o, s.heap.get? c = some o → h'.get? c = some o) → R (.ok (.ret (.ref (s.heap.objs.size + 4)))) { s with heap := h' }) := by
  refine .of_wp fun prog w A R s h => ?_
  obtain ⟨hp, g, d, tk, os⟩ := s
  obtain ⟨h1, h2, h⟩ := h
  have zz := sub_zip
  have e1 : Heap.IsTuple (Shared.heap ⟨hp, g, d, tk, os⟩) t xs := h1
  have e2 : Heap.IsTuple (Shared.heap ⟨hp.push { cls := .type "tuple_iterator", data := .fields #[.ref t, .int 0 0] }, g, d, tk, os⟩) u ys := Heap.IsTuple.push h2 _
  wp_walk using wpAny_pyIter_tuple e1, wpAny_pyIter_tuple e2
  refine ⟨_, rfl, ?_⟩
  have put : ∀ {k : Heap} {o : Obj} {n : Nat}, n = k.objs.size → o.isFreed = false → (k.push o).get? n = some o := fun e f => by subst e; exact Heap.get?_push_size _ f
  have up : ∀ {k : Heap} {o o' : Obj} {n : Nat}, k.get? n = some o → (k.push o').get? n = some o := fun e => Heap.get?_push_of_some _ e
  simp only [Heap.size_push, Nat.add_assoc, Nat.reduceAdd]
  refine h _ ?_ ?_ ?_ ⟨_, up (up (up (up (put rfl rfl)))), rfl, rfl⟩ ⟨_, up (up (up (put (by simp [Heap.size_push]) rfl))), rfl, rfl⟩ (by simp [Heap.size_push]) fun c o x => up (up (up (up (up x))))
  · exact put (by simp [Heap.size_push]) rfl
  · exact up (up (put (by simp [Heap.size_push]) rfl))
  · exact up (put (by simp [Heap.size_push]) rfl)
def Nx (P : Program) (w : World) (A : Around) (it : Addr) (Q : Value → Shared → Prop) (E : Value → Shared → Prop) (s : Shared) : Prop := wpAny (model P w) A (Builtin.SmallTypes.nextOf (.ref it)) Q E s
theorem nx_stop {it : Addr} {Q : Value → Shared → Prop} (h : Nx P w A it Q E s) : wpAny (model P w) A (Builtin.SmallTypes.nextOf (.ref it)) Q E s := h
end
end L2


set_option Elab.async false
set_option linter.all false
set_option maxRecDepth 100000
/-! zip over two tuples -/
namespace L2
open PySem PyProof.Rows
section
variable {P : Program} {w : World} {A : Around} {E : Value → Shared → Prop} {s : Shared}
set_option maxHeartbeats 8000000 in
/-- the next pair of two tuples' zip -/
theorem zip_nx_tup {z I O i1 i2 t u : Addr} {k : Nat} {xs ys : Array Value} {x y a b : Value} {Q : Value → Shared → Prop} (D : ZipApart z I O i1 i2 t u) (hz : IsZip s.heap z I O .none) (hI : IsPair s.heap I (.ref i1) (.ref i2)) (hO : IsPair s.heap O a b)
    (h1 : s.heap.IsTupleIter i1 t k) (h2 : s.heap.IsTupleIter i2 u k) (ht : s.heap.IsTuple t xs) (hu : s.heap.IsTuple u ys) (hx : xs[k]? = some x) (hy : ys[k]? = some y)
    (q : ∀ h', IsZip h' z I O (rawInt s.heap.objs.size) → IsPair h' O x y → h'.IsTupleIter i1 t (k + 1) → h'.IsTupleIter i2 u (k + 1) → IsPair h' s.heap.objs.size x y → h'.objs.size = s.heap.objs.size + 1 →
      (∀ c o, c ≠ z → c ≠ O → c ≠ i1 → c ≠ i2 → s.heap.get? c = some o → h'.get? c = some o) → Q (.ref s.heap.objs.size) { s with heap := h' }) :
    wpAny (model P w) A (Builtin.«zip.__next__» ⟨[.ref z], []⟩) (fun fin s' => ∃ v, fin = .done (.ret v) ∧ Q v s') E s := by
  wp_walk using wpAny_onRaise, nx_stop
  have m0 : Heap.SameBut z s.heap (s.heap.update z (Obj.mapFields fun x => x.setIfInBounds 0 Value.ellipsis)) := Heap.SameBut.update ..
  have z0 : IsZip (s.heap.update z (Obj.mapFields fun x => x.setIfInBounds 0 Value.ellipsis)) z I O .ellipsis := Heap.get?_update_self _ hz rfl
  generalize s.heap.update z (Obj.mapFields fun x => x.setIfInBounds 0 Value.ellipsis) = g0 at m0 z0 ⊢
  refine nx_tup (h1.extBut m0.extBut D.i1z) (ht.extBut m0.extBut D.l1z) hx fun g1 j1 m1 => ?_
  have o1 : IsPair g1 O a b := m1.extBut _ _ D.TOi1 (m0.extBut _ _ D.TOz hO)
  wp_walk using wpAny_onRaise, nx_stop
  have m2 : Heap.SameBut O g1 (g1.update O (Obj.mapSeq fun v => v.setIfInBounds 0 x)) := Heap.SameBut.update ..
  have o2 : IsPair (g1.update O (Obj.mapSeq fun v => v.setIfInBounds 0 x)) O x b := Heap.get?_update_self _ o1 rfl
  generalize g1.update O (Obj.mapSeq fun v => v.setIfInBounds 0 x) = g2 at m2 o2 ⊢
  refine nx_tup (((h2.extBut m0.extBut D.i2z).extBut m1.extBut D.i12.symm).extBut m2.extBut D.TOi2.symm) (((hu.extBut m0.extBut D.l2z).extBut m1.extBut D.l2i1).extBut m2.extBut D.l2TO) hy fun g3 j3 m3 => ?_
  have o3 : IsPair g3 O x b := m3.extBut _ _ D.TOi2 o2
  have z3 : IsZip g3 z I O .ellipsis := m3.extBut _ _ D.i2z.symm (m2.extBut _ _ D.TOz.symm (m1.extBut _ _ D.i1z.symm z0))
  wp_walk using wpAny_onRaise, nx_stop
  have m4 : Heap.SameBut O g3 (g3.update O (Obj.mapSeq fun v => v.setIfInBounds (0 + 1) y)) := Heap.SameBut.update ..
  have o4 : IsPair (g3.update O (Obj.mapSeq fun v => v.setIfInBounds (0 + 1) y)) O x y := Heap.get?_update_self _ o3 rfl
  generalize g3.update O (Obj.mapSeq fun v => v.setIfInBounds (0 + 1) y) = g4 at m4 o4 ⊢
  have n4 : g4.objs.size = s.heap.objs.size := m4.1.trans (m3.1.trans (m2.1.trans (m1.1.trans m0.1)))
  rw [show ((fun v : Array Value => v.setIfInBounds (0 + 1) y) #[x, b]).toList.toArray = #[x, y] from rfl]
  have e5 : IsPair (g4.push { cls := .type "tuple", data := .seq #[x, y] }) g4.objs.size x y := Heap.get?_push_size _ rfl
  have z4 : IsZip (g4.push { cls := .type "tuple", data := .seq #[x, y] }) z I O .ellipsis := Heap.get?_push_of_some _ (m4.extBut _ _ D.TOz.symm z3)
  have k5 : ∀ c o, c ≠ z → c ≠ O → c ≠ i1 → c ≠ i2 → s.heap.get? c = some o → (g4.push { cls := .type "tuple", data := .seq #[x, y] }).get? c = some o := fun c o c1 c2 c3 c4 h => Heap.get?_push_of_some _ (m4.extBut _ _ c2 (m3.extBut _ _ c4 (m2.extBut _ _ c2 (m1.extBut _ _ c3 (m0.extBut _ _ c1 h)))))
  have o5 : IsPair (g4.push { cls := .type "tuple", data := .seq #[x, y] }) O x y := Heap.get?_push_of_some _ o4
  have y1 : (g4.push { cls := .type "tuple", data := .seq #[x, y] }).IsTupleIter i1 t (k + 1) := (((j1.extBut m2.extBut D.TOi1.symm).extBut m3.extBut D.i12).extBut m4.extBut D.TOi1.symm).at fun o h => Heap.get?_push_of_some _ h
  have y2 : (g4.push { cls := .type "tuple", data := .seq #[x, y] }).IsTupleIter i2 u (k + 1) := (j3.extBut m4.extBut D.TOi2.symm).at fun o h => Heap.get?_push_of_some _ h
  have s5 : (g4.push { cls := .type "tuple", data := .seq #[x, y] }).objs.size = s.heap.objs.size + 1 := by rw [size_push', n4]
  rw [n4] at e5
  rw [n4]
  generalize g4.push { cls := .type "tuple", data := .seq #[x, y] } = g5 at e5 z4 k5 o5 y1 y2 s5 ⊢
  wp_walk
  have m6 : Heap.SameBut z g5 ((g5.update z (Obj.mapFields fun v => v.setIfInBounds 0 (rawInt s.heap.objs.size))).update z (Obj.mapFields fun v => v.setIfInBounds 1 (Value.bool false))) := (Heap.SameBut.update ..).trans (Heap.SameBut.update ..)
  refine ⟨_, rfl, q _ (Heap.get?_update_self _ (Heap.get?_update_self _ z4 rfl) rfl) (m6.extBut _ _ D.TOz o5) (y1.extBut m6.extBut D.i1z) (y2.extBut m6.extBut D.i2z) (m6.extBut _ _ (Nat.ne_of_gt (Heap.lt_size hz)) e5) (m6.1.trans s5) fun c o c1 c2 c3 c4 h => m6.extBut _ _ c1 (k5 c o c1 c2 c3 c4 h)⟩
set_option maxHeartbeats 8000000 in
/-- .. and its end -/
theorem zip_end_tup {z I O i1 i2 t u : Addr} {k : Nat} {xs ys : Array Value} {a b : Value} {Q : Fin → Shared → Prop} (hh : A.handled = none) (D : ZipApart z I O i1 i2 t u) (hz : IsZip s.heap z I O .none) (hI : IsPair s.heap I (.ref i1) (.ref i2)) (hO : IsPair s.heap O a b)
    (h1 : s.heap.IsTupleIter i1 t k) (h2 : s.heap.IsTupleIter i2 u k) (ht : s.heap.IsTuple t xs) (hu : s.heap.IsTuple u ys) (hend : xs[k]? = none ∨ ys[k]? = none)
    (q : ∀ h' e, (∀ c o, c ≠ z → c ≠ O → c ≠ i1 → c ≠ i2 → s.heap.get? c = some o → h'.get? c = some o) → (∃ o, h'.get? e = some o ∧ o.cls = .type "StopIteration") → E (.ref e) { s with heap := h' }) :
    wpAny (model P w) A (Builtin.«zip.__next__» ⟨[.ref z], []⟩) Q E s := by
  wp_walk using wpAny_onRaise, nx_stop
  have m0 : Heap.SameBut z s.heap (s.heap.update z (Obj.mapFields fun x => x.setIfInBounds 0 Value.ellipsis)) := Heap.SameBut.update ..
  have z0 : IsZip (s.heap.update z (Obj.mapFields fun x => x.setIfInBounds 0 Value.ellipsis)) z I O .ellipsis := Heap.get?_update_self _ hz rfl
  generalize s.heap.update z (Obj.mapFields fun x => x.setIfInBounds 0 Value.ellipsis) = g0 at m0 z0 ⊢
  cases hx : xs[k]? with
  | none =>
    refine nx_tup_end hh (h1.extBut m0.extBut D.i1z) (ht.extBut m0.extBut D.l1z) hx fun g1 e1 m1 he => ?_
    have z1 : IsZip g1 z I O .ellipsis := m1 _ _ D.i1z.symm z0
    obtain ⟨oe, ho, hc⟩ := he
    have ne : e1 ≠ z := fun x => by subst x; rw [z1] at ho; cases ho; simp at hc
    exact wpAny_setField_rec z1 (by simp) fun h5 _ m5 => q h5 e1 (fun c o c1 c2 c3 c4 h => m5.extBut _ _ c1 (m1 _ _ c3 (m0.extBut _ _ c1 h))) ⟨oe, m5.extBut _ _ ne ho, hc⟩
  | some x =>
    have hy : ys[k]? = none := hend.resolve_left (by rw [hx]; simp)
    refine nx_tup (h1.extBut m0.extBut D.i1z) (ht.extBut m0.extBut D.l1z) hx fun g1 j1 m1 => ?_
    have o1 : IsPair g1 O a b := m1.extBut _ _ D.TOi1 (m0.extBut _ _ D.TOz hO)
    wp_walk using wpAny_onRaise, nx_stop
    have m2 : Heap.SameBut O g1 (g1.update O (Obj.mapSeq fun v => v.setIfInBounds 0 x)) := Heap.SameBut.update ..
    generalize g1.update O (Obj.mapSeq fun v => v.setIfInBounds 0 x) = g2 at m2 ⊢
    refine nx_tup_end hh (((h2.extBut m0.extBut D.i2z).extBut m1.extBut D.i12.symm).extBut m2.extBut D.TOi2.symm) (((hu.extBut m0.extBut D.l2z).extBut m1.extBut D.l2i1).extBut m2.extBut D.l2TO) hy fun g3 e3 m3 he => ?_
    have z3 : IsZip g3 z I O .ellipsis := m3 _ _ D.i2z.symm (m2.extBut _ _ D.TOz.symm (m1.extBut _ _ D.i1z.symm z0))
    obtain ⟨oe, ho, hc⟩ := he
    have ne : e3 ≠ z := fun x => by subst x; rw [z3] at ho; cases ho; simp at hc
    exact wpAny_setField_rec z3 (by simp) fun h5 _ m5 => q h5 e3 (fun c o c1 c2 c3 c4 h => m5.extBut _ _ c1 (m3 _ _ c4 (m2.extBut _ _ c2 (m1.extBut _ _ c3 (m0.extBut _ _ c1 h))))) ⟨oe, m5.extBut _ _ ne ho, hc⟩
end
end L2


set_option Elab.async false
set_option linter.all false
set_option maxRecDepth 100000
/-! zip over two tuples: the layer's rules -/
namespace L2
open PySem PySem.Spec PyProof.Rows
section
variable {P : Program} {w : World} {A : Around} {E : Value → Shared → Prop} {s : Shared}
theorem zipT_item {z I O i1 i2 t u : Addr} {k : Nat} {xs ys : Array Value} {x y a b : Value} {Q : Option Value → Shared → Prop} (D : ZipApart z I O i1 i2 t u) (hz : IsZip s.heap z I O .none) (hI : IsPair s.heap I (.ref i1) (.ref i2)) (hO : IsPair s.heap O a b)
    (h1 : s.heap.IsTupleIter i1 t k) (h2 : s.heap.IsTupleIter i2 u k) (ht : s.heap.IsTuple t xs) (hu : s.heap.IsTuple u ys) (hx : xs[k]? = some x) (hy : ys[k]? = some y)
    (q : ∀ h', IsZip h' z I O (rawInt s.heap.objs.size) → IsPair h' O x y → h'.IsTupleIter i1 t (k + 1) → h'.IsTupleIter i2 u (k + 1) → IsPair h' s.heap.objs.size x y → h'.objs.size = s.heap.objs.size + 1 →
      (∀ c o, c ≠ z → c ≠ O → c ≠ i1 → c ≠ i2 → s.heap.get? c = some o → h'.get? c = some o) → Q (some (.ref s.heap.objs.size)) { s with heap := h' }) : wpAny (model P w) A (pyNext (.ref z)) Q E s := by
  have ty : s.TypeIs (.ref z) "zip" := ⟨_, hz, rfl⟩
  rw [pyNext]
  refine wpAny_bind (wpAny_attempt (wpAny_callSpecial?_slot (name := "__next__") ty PySem.F.slot_zip_next (wpAny_call_entry PySem.F.slot_zip_next ty PySem.F.entry_zip_next ?_ (PySem.F.args_zip_next_1 _))))
  exact zip_nx_tup D hz hI hO h1 h2 ht hu hx hy fun h' b1 b2 b3 b4 b5 b6 b7 => wpAny_pure (q h' b1 b2 b3 b4 b5 b6 b7)
theorem zipT_end {z I O i1 i2 t u : Addr} {k : Nat} {xs ys : Array Value} {a b : Value} {Q : Option Value → Shared → Prop} (hh : A.handled = none) (D : ZipApart z I O i1 i2 t u) (hz : IsZip s.heap z I O .none) (hI : IsPair s.heap I (.ref i1) (.ref i2)) (hO : IsPair s.heap O a b)
    (h1 : s.heap.IsTupleIter i1 t k) (h2 : s.heap.IsTupleIter i2 u k) (ht : s.heap.IsTuple t xs) (hu : s.heap.IsTuple u ys) (hend : xs[k]? = none ∨ ys[k]? = none)
    (q : ∀ h', (∀ c o, c ≠ z → c ≠ O → c ≠ i1 → c ≠ i2 → s.heap.get? c = some o → h'.get? c = some o) → Q none { s with heap := h' }) : wpAny (model P w) A (pyNext (.ref z)) Q E s := by
  have ty : s.TypeIs (.ref z) "zip" := ⟨_, hz, rfl⟩
  rw [pyNext]
  refine wpAny_bind (wpAny_attempt (wpAny_callSpecial?_slot (name := "__next__") ty PySem.F.slot_zip_next (wpAny_call_entry PySem.F.slot_zip_next ty PySem.F.entry_zip_next (zip_end_tup (by simpa using hh) D hz hI hO h1 h2 ht hu hend fun h' e hk he => ?_) (PySem.F.args_zip_next_1 _))))
  obtain ⟨o, ho, hc⟩ := he
  exact wpAny_bind (wpAny_isInstance (b := true) ⟨o, ho, hc⟩ isSubtype_stop (wpAny_pure (q _ hk)))
theorem call_zipT {t u : Addr} {xs ys : Array Value} {Q : Value → Shared → Prop} (ht : s.heap.IsTuple t xs) (hu : s.heap.IsTuple u ys)
    (h : ∀ h', IsZip h' (s.heap.objs.size + 4) (s.heap.objs.size + 2) (s.heap.objs.size + 3) .none → IsPair h' (s.heap.objs.size + 2) (.ref s.heap.objs.size) (.ref (s.heap.objs.size + 1)) → IsPair h' (s.heap.objs.size + 3) .none .none →
      h'.IsTupleIter s.heap.objs.size t 0 → h'.IsTupleIter (s.heap.objs.size + 1) u 0 → h'.objs.size = s.heap.objs.size + 5 → (∀ c o, s.heap.get? c = some o → h'.get? c = some o) → Q (.ref (s.heap.objs.size + 4)) { s with heap := h' }) :
    wpAny (model P w) A (call (.type "zip") [.ref t, .ref u]) Q E s := by
  refine callType_new PySem.F.called_zip (by decide) (PySem.F.typeCall_zip_2 _ _) (PySem.F.newCall_zip_2 _ _) (fun obj => PySem.F.args_object_init_3 obj _ _) PySem.F.entry_zip_new (zip_new_tup t u xs ys) ⟨ht, hu, fun h' b1 b2 b3 b4 b5 b6 b7 => ?_⟩
  exact ⟨⟨_, b1, rfl⟩, h h' b1 b2 b3 b4 b5 b6 b7⟩
end
/-- pairs of what two tuples have -/
def Itzt (K : PySem.W.Frag) (a b : Addr) : It :=
  ⟨fun i H => ∃ xs ys x y, SqT K H a xs ∧ SqT K H b ys ∧ xs[i]? = some x ∧ ys[i]? = some y, fun i H x H' => ∃ T u v, x = .ref T ∧ H T = none ∧ H' = upd H T (.tup [u, v]) ∧ (∀ xs, SqT K H a xs → xs[i]? = some u) ∧ ∀ ys, SqT K H b ys → ys[i]? = some v,
    fun i H => ∃ xs ys, SqT K H a xs ∧ SqT K H b ys ∧ (xs.length ≤ i ∨ ys.length ≤ i)⟩
theorem turn_zipT {P : Program} {w : World} {K : PySem.W.Frag} {elts : List Expr} {kt : Nat} {pt : Pos} (a b z TI TO i1 i2 : Addr) (D : ZipApart z TI TO i1 i2 a b) :
    Turn P w K (.Tuple elts kt pt) (Itzt K a b) [z, TI, TO, i1, i2] z (fun i h => IsZip h z TI TO .none ∧ IsPair h TI (.ref i1) (.ref i2) ∧ (∃ u v, IsPair h TO u v) ∧ h.IsTupleIter i1 a i ∧ h.IsTupleIter i2 b i) where
  mem := by simp
  obj := fun i h st c hc => by
    obtain ⟨hz, hTI, ⟨u, v, hTO⟩, h1, h2⟩ := st
    simp only [List.mem_cons, List.not_mem_nil, or_false] at hc
    rcases hc with rfl | rfl | rfl | rfl | rfl
    · exact ⟨_, hz, fun v z => by cases z⟩
    · exact ⟨_, hTI, fun v z => by cases z⟩
    · exact ⟨_, hTO, fun v z => by cases z⟩
    · obtain ⟨o, e', c, d⟩ := h1
      exact ⟨o, e', fun v z => by rw [d] at z; cases z⟩
    · obtain ⟨o, e', c, d⟩ := h2
      exact ⟨o, e', fun v z => by rw [d] at z; cases z⟩
  keep := fun i h h' st k => by
    obtain ⟨hz, hTI, ⟨u, v, hTO⟩, h1, h2⟩ := st
    exact ⟨k z (by simp) _ hz, k TI (by simp) _ hTI, ⟨u, v, k TO (by simp) _ hTO⟩, h1.at fun o q => k i1 (by simp) o q, h2.at fun o q => k i2 (by simp) o q⟩
  item := by
    intro X hP hw hK hc i pins s σ H E I hf st hg
    subst hP hw hK
    obtain ⟨hz, hTI, ⟨u0, v0, hTO⟩, h1, h2⟩ := st
    obtain ⟨xs, ys, x, y, hq, hq2, hx, hy⟩ := hg
    obtain ⟨its, rv, p, _⟩ := I.tuple hq
    obtain ⟨its2, rv2, p2, _⟩ := I.tuple hq2
    obtain ⟨u, hu, ru⟩ := rv.get hx
    obtain ⟨u2, hu2, ru2⟩ := rv2.get hy
    refine zipT_item D hz hTI hTO h1 h2 p p2 (x := u) (y := u2) (by simpa using hu) (by simpa using hu2) fun h3 a1 a2 a3 a4 a5 a6 hk => ?_
    refine ⟨_, rfl, wpAny_letOwnedTupleGo_zip a1 fun h4 hz4 hs4 => ?_⟩
    have hs4' : Heap.SameBut z h3 h4 := hs4
    have hzl : z < s.heap.objs.size := Heap.lt_size hz
    have kk : ∀ c o, c ∉ [z, TI, TO, i1, i2] → s.heap.get? c = some o → h4.get? c = some o := fun c o hc' q =>
      hs4'.extBut c o (fun e => hc' (by simp [e])) (hk c o (fun e => hc' (by simp [e])) (fun e => hc' (by simp [e])) (fun e => hc' (by simp [e])) (fun e => hc' (by simp [e])) q)
    have I1 : Inv X pins σ H { s with heap := h4, toks := s.toks } := I.turnedL kk hf
    have hTn : H s.heap.objs.size = none := I.hok.fresh (Nat.le_refl _)
    have hT2 : h4.get? s.heap.objs.size = some { cls := .type "tuple", data := .seq #[u, u2] } := hs4'.extBut _ _ (Nat.ne_of_gt hzl) a5
    have I2 : Inv X pins σ (upd H s.heap.objs.size (.tup [x, y])) { s with heap := h4, toks := s.toks } :=
      I1.track hTn (I.fpOk (Nat.le_refl _) hTn) (show ObjOk X.prog X.w _ h4 _ (.tup [x, y]) from ⟨two_le, [u, u2], .cons ru (.cons ru2 .nil), ⟨_, hT2, rfl, _, rfl⟩⟩)
    refine ⟨.ref s.heap.objs.size, _, I2, rfl, ⟨s.heap.objs.size, x, y, rfl, hTn, rfl, fun zs hz' => by rw [I.tuple_inj hz' hq]; exact hx, fun zs hz' => by rw [I.tuple_inj hz' hq2]; exact hy⟩,
      ⟨hz4, hs4'.extBut _ _ D.TIz (hk _ _ D.TIz D.TITO D.TIi1 D.TIi2 hTI), ⟨_, _, hs4'.extBut _ _ D.TOz a2⟩, a3.at fun o q => (hs4'.2 i1 D.i1z).trans q, a4.at fun o q => (hs4'.2 i2 D.i2z).trans q⟩, fun c hc' => ?_⟩
    have hcl : c < s.heap.objs.size := by
      simp only [List.mem_cons, List.not_mem_nil, or_false] at hc'
      rcases hc' with rfl | rfl | rfl | rfl | rfl
      · exact hzl
      · exact Heap.lt_size hTI
      · exact Heap.lt_size hTO
      · obtain ⟨o, e', _⟩ := h1; exact Heap.lt_size e'
      · obtain ⟨o, e', _⟩ := h2; exact Heap.lt_size e'
    rw [upd_ne (Nat.ne_of_lt hcl)]
    exact (hf c hc').1
  done := by
    intro X hP hw hK hc i pins s σ H E I hf st hg
    subst hP hw hK
    obtain ⟨hz, hTI, ⟨u0, v0, hTO⟩, h1, h2⟩ := st
    obtain ⟨xs, ys, hq, hq2, hend⟩ := hg
    obtain ⟨its, rv, p, _⟩ := I.tuple hq
    obtain ⟨its2, rv2, p2, _⟩ := I.tuple hq2
    have e1 := rv.length
    have e2 := rv2.length
    refine zipT_end (I.ok.hd hc) D hz hTI hTO h1 h2 p p2 ?_ fun h' hk => ⟨rfl, I.turnedL (t' := s.toks) (fun c o hc' q => hk c o (fun e => hc' (by simp [e])) (fun e => hc' (by simp [e])) (fun e => hc' (by simp [e])) (fun e => hc' (by simp [e])) q) hf⟩
    rcases hend with z | z
    · exact .inl (by simp; omega)
    · exact .inr (by simp; omega)
  self := fun _ _ _ _ _ st h => wpAny_pyIter_zip st.1 h
section
variable {X : Cx}
def iZipT (K : PySem.W.Frag) (ta : TA) : TI := fun σ H R => ta σ H fun vs H1 => ∃ a b, vs = [.ref a, .ref b] ∧ (∃ xs, SqT K H1 a xs) ∧ (∃ ys, SqT K H1 b ys) ∧ R (Itzt K a b) H1
theorem pi_zipT {elts : List Expr} {kt : Nat} {pt p pos : Pos} {l l2 : Expr} {ta : TA} (hg : Gl X "zip") (hm : X.mg "zip" = none) (ha : PA X [l, l2] ta) (hst : isStar l = false := by rfl) (hst2 : isStar l2 = false := by rfl) : PI X (.Tuple elts kt pt) (.Call (.Name "zip" p) [l, l2] [] pos) (iZipT X.K ta) := by
  intro pins s σ H R I h
  have hpl := noStars_any (pos := pos) (env := X.env) (es := [l2]) (by simp [noStars, hst2])
  refine Call_ (ld_blt I hg hm boot_zip (PyProof.Rows.callWith_type1 (thn (ha pos pins s σ H _ I h) fun us s1 ⟨vs, H1, I1, r1, q1⟩ => ?_) (starEach_plain hst) hpl))
  obtain ⟨a, b, e, ⟨xs, hq⟩, ⟨ys, hq2⟩, q⟩ := q1
  subst e
  cases r1 with
  | cons r rr =>
    cases rr with
    | cons r2 rr =>
      cases rr
      cases r
      cases r2
      obtain ⟨its, rv, pl, _⟩ := I1.tuple hq
      obtain ⟨its2, rv2, pl2, _⟩ := I1.tuple hq2
      have hla : a < s1.heap.objs.size := by obtain ⟨_, e, _⟩ := pl; exact Heap.lt_size e
      have hlb : b < s1.heap.objs.size := by obtain ⟨_, e, _⟩ := pl2; exact Heap.lt_size e
      refine call_zipT pl pl2 fun h' hz hTI hTO h1 h2 hsz hk => ?_
      have I2 : Inv X pins σ H1 { s1 with heap := h' } := I1.kept (t' := s1.toks) hk
      refine wpAny_pyIter_zip hz ?_
      refine ⟨s1.heap.objs.size + 4, [s1.heap.objs.size + 4, s1.heap.objs.size + 2, s1.heap.objs.size + 3, s1.heap.objs.size, s1.heap.objs.size + 1], _, _, H1, rfl, I2, turn_zipT a b _ _ _ _ _ (zipApart_new hla hlb), ⟨hz, hTI, ⟨_, _, hTO⟩, h1, h2⟩, fun c hc => ?_, q⟩
      have hle : s1.heap.objs.size ≤ c := by
        simp only [List.mem_cons, List.not_mem_nil, or_false] at hc
        rcases hc with rfl | rfl | rfl | rfl | rfl <;> first | exact Nat.le_refl _ | exact Nat.le_add_right _ _
      exact I1.fpOk hle (I1.hok.fresh hle)
end

/-! ### a tuple's slice that may be the whole -/
section
variable {prog : Program} {w : World} {A : Around} {E : Value → Shared → Prop} {s : Shared}
theorem getItem_tuple_whole {t sl : Addr} {items : Array Value} {vl vu : Value} {lo hi : Option Int} {Q : Value → Shared → Prop} (ht : IsTup s.heap t items) (hs : s.heap.IsSliceOf sl vl vu .none) (pl : IsPart vl lo) (pu : IsPart vu hi)
    (hw : HT.sIx items.size 0 lo = 0 ∧ HT.sIx items.size items.size hi = items.size) (h : Q (.ref t) s) : wpAny (model prog w) A (getItem (.ref t) (.ref sl)) Q E s := by
  obtain ⟨os, hos, hcs, hds⟩ := id hs
  have ts : s.TypeIs (.ref sl) "slice" := ⟨os, hos, hcs⟩
  unfold getItem
  try with_reducible refine wpAny_holding ?_
  first | refine wpAny_bind (wpAny_pure ?_) | skip
  refine wpAny_bind (wpAny_sequenceKey ht.typeIs (by decide) ?_)
  refine wpAny_bind (wpAny_callSpecial?_slot (name := Str.ofString "__getitem__") ht.typeIs PyProof.Rows.slot_tuple_getitem (wpAny_call_entry PyProof.Rows.slot_tuple_getitem ht.typeIs entry_tuple_getitem ?_ (args_tuple_getitem _ _)))
  show wpAny _ _ (Builtin.Tuple.tupleItemsOf (.ref t) >>= _) _ _ s
  refine wpAny_bind (PyProof.Rows.tupleItemsOf_ ht (wpAny_bind (wpAny_typeOf ts ?_)))
  rw [if_pos (by decide)]
  refine wpAny_bind (HT.sliceApplied_gen hs pl pu ?_)
  refine wpAny_ite_split (fun _ => ?_) (fun c => absurd ?_ c)
  · unfold Builtin.Tuple.tupleIsExact
    refine wpAny_bind (wpAny_bind (wpAny_typeOf ht.typeIs (wpAny_pure ?_)))
    refine wpAny_ite_split (fun _ => ?_) (fun c => absurd (by decide) c)
    exact wpAny_bind (wpAny_rule (wpAny_pure ⟨_, rfl, wpAny_pure h⟩))
  · rw [hw.1, hw.2]
    simp
end
section
variable {X : Cx}
def rSlA (K : PySem.W.Frag) : V → Option Int → Option Int → Hp → VK → Prop := fun x lo hi H Q => ∃ a xs, x = .ref a ∧ SqT K H a xs ∧
  (((HT.sIx xs.length 0 lo = 0 ∧ HT.sIx xs.length xs.length hi = xs.length) ∧ Q (.ref a) H) ∨ (¬ (HT.sIx xs.length 0 lo = 0 ∧ HT.sIx xs.length xs.length hi = xs.length) ∧ ∀ p, H p = none → Q (.ref p) (upd H p (.tup (cutV xs lo hi)))))
theorem sl_tupA : SlR X (rSlA X.K) := by
  intro pins s σ H x v vl vu lo hi sl Q I rx hs pl pu h
  obtain ⟨a, xs, rfl, hx, ⟨hw, q⟩ | ⟨hw, q⟩⟩ := h
  · cases rx
    obtain ⟨its, r, ht, hz⟩ := I.tuple hx
    have hlen : its.toArray.size = xs.length := by rw [List.size_toArray]; exact r.length.symm
    exact ⟨"tuple", _, PyProof.Rows.slot_tuple_getitem.lookup, ht.typeIs, getItem_tuple_whole ht hs pl pu (by rw [hlen]; exact hw) ⟨.ref a, H, I, rfl, q⟩⟩
  · exact sl_tup pins s σ H (.ref a) v vl vu lo hi sl Q I rx hs pl pu ⟨a, xs, rfl, hx, hw, q⟩
end
/-! ### a comprehension over a zip of two tuples, the second no longer -/
theorem comp_zipT {K : PySem.W.Frag} {a b : Addr} {xs ys : List V} {g : TG} {tt : TT} {te : TE} {Q : VK} {σ : St} {H : Hp} (hxy : ys.length ≤ xs.length) (Pv : Nat → List V → St → Hp → Prop) (h0 : Pv 0 [] σ H) (hz : ys.length < sizeLine) (hy : ∀ i zs σ H, Pv i zs σ H → zs.length ≤ i) (hl : ∀ i zs σ H, i ≤ ys.length → Pv i zs σ H → SqT K H a xs ∧ SqT K H b ys)
    (hs : ∀ i zs x y σ H T, xs[i]? = some x → ys[i]? = some y → Pv i zs σ H → H T = none → g (.ref T) σ (upd H T (.tup [x, y])) fun σ2 H2 => tt σ2 H2 fun b H3 => if b = true then te σ2 H3 (fun v H4 => Pv (i + 1) (zs ++ [v]) σ2 H4) else Pv (i + 1) zs σ2 H3)
    (hd : ∀ zs σ H, Pv ys.length zs σ H → ∀ p, H p = none → Q (.ref p) (upd H p (.lst zs))) : CompW (Itzt K a b) g tt te Q σ H := by
  refine ⟨fun i m zs σ H => m = ys.length - i ∧ i ≤ ys.length ∧ Pv i zs σ H, ⟨ys.length, by simp, Nat.zero_le _, h0⟩, ?_⟩
  rintro i m zs σ H ⟨rfl, hi, p⟩
  have q := hl i zs σ H hi p
  have hyl := hy i zs σ H p
  by_cases hlt : i < ys.length
  · refine .inr ⟨⟨xs, ys, xs[i]'(by omega), ys[i], q.1, q.2, by simp, by simp⟩, by omega, Pv (i + 1), fun ys' σ' H' p' => ⟨ys.length - (i + 1), by omega, rfl, hlt, p'⟩, fun x H' y => ?_⟩
    obtain ⟨T, u, v, rfl, hT, rfl, y1, y2⟩ := y
    exact hs i zs u v σ H T (y1 xs q.1) (y2 ys q.2) p hT
  · have e : i = ys.length := by omega
    subst e
    exact .inl ⟨⟨xs, ys, q.1, q.2, .inr (Nat.le_refl _)⟩, by omega, hd zs σ H p⟩
theorem pe_callLK {P : Program} {w : World} {K : PySem.W.Frag} {mg : Str → Option Value} {base : Heap} {X : Cx} {x : Str} {i k j : Nat} {e : Expr} {es : List Expr} {t : TA} {p pos : Pos} (eP : X.prog = P) (ew : X.w = w) (eK : X.K = K) (em : X.mg = mg) (eb : X.base = base)
    (hN : X.N[i]? = some x) (hv : Vis X.env.scope x) (hr : Room j X.A) (hk : k ≤ j) (ha : PA X (e :: es) t)
    (hd : (x == ("__debug__" : Str)) = false := by decide) (hcd : (x == ("__classdict__" : Str)) = false := by decide) (hst : noStars (e :: es) = true := by rfl) :
    PE X (.Call (.Name x p) (e :: es) [] pos) (tCallL (Held P w K mg base k) i t) := by
  subst eP ew eK em eb
  exact pe_callL hN hv hr hk ha hd hcd hst
end L2


set_option Elab.async false
set_option linter.all false
set_option maxRecDepth 100000
/-! DISPLAYS OF DATA: nested tuples and lists of constants and names, read as one datum -/
namespace L2
open PySem PySem.Spec PyProof.Rows
inductive DX where
  | c (d : Dm) | var (i : Nat) | tup (l : List DX) | lst (l : List DX) | cat (a b : DX) | lof (a : DX)
def catD : Dm → Dm → Dm
  | .tup x, .tup y => .tup (x ++ y)
  | _, _ => .non
mutual
def DX.val (ρ : Nat → Dm) : DX → Dm
  | .c d => d
  | .var i => ρ i
  | .tup l => .tup (valA ρ l)
  | .lst _ => .lst
  | .cat a b => catD (a.val ρ) (b.val ρ)
  | .lof _ => .lst
def valA (ρ : Nat → Dm) : List DX → List Dm
  | [] => []
  | x :: r => x.val ρ :: valA ρ r
end
mutual
/-- what a display wants of the state -/
def DX.Fit (ρ : Nat → Dm) (σ : St) (H : Hp) : DX → Prop
  | .c _ => True
  | .var i => ∃ v, σ[i]? = some (some v) ∧ Dt H v (ρ i)
  | .tup l => l.length ≤ 1000 ∧ FitA ρ σ H l
  | .lst l => l.length ≤ 1000 ∧ FitA ρ σ H l
  | .cat a b => a.Fit ρ σ H ∧ b.Fit ρ σ H ∧ ∃ x y, a.val ρ = .tup x ∧ b.val ρ = .tup y ∧ x.length + y.length ≤ 1000
  | .lof a => a.Fit ρ σ H ∧ ∃ x, a.val ρ = .tup x
def FitA (ρ : Nat → Dm) (σ : St) (H : Hp) : List DX → Prop
  | [] => True
  | x :: r => x.Fit ρ σ H ∧ FitA ρ σ H r
end
mutual
theorem DX.Fit.mono {ρ : Nat → Dm} {σ : St} {H H' : Hp} (s : Same H H') : ∀ {x : DX}, x.Fit ρ σ H → x.Fit ρ σ H'
  | .c _, _ => by rw [DX.Fit]; trivial
  | .var i, h => by
    rw [DX.Fit] at h ⊢
    obtain ⟨v, e, d⟩ := h
    exact ⟨v, e, d.kp s.kp⟩
  | .tup l, h => by
    rw [DX.Fit] at h ⊢
    exact ⟨h.1, FitA.mono s h.2⟩
  | .lst l, h => by
    rw [DX.Fit] at h ⊢
    exact ⟨h.1, FitA.mono s h.2⟩
  | .cat a b, h => by
    rw [DX.Fit] at h ⊢
    exact ⟨DX.Fit.mono s h.1, DX.Fit.mono s h.2.1, h.2.2⟩
  | .lof a, h => by
    rw [DX.Fit] at h ⊢
    exact ⟨DX.Fit.mono s h.1, h.2⟩
theorem FitA.mono {ρ : Nat → Dm} {σ : St} {H H' : Hp} (s : Same H H') : ∀ {l : List DX}, FitA ρ σ H l → FitA ρ σ H' l
  | [], _ => by rw [FitA]; trivial
  | x :: r, h => by
    rw [FitA] at h ⊢
    exact ⟨DX.Fit.mono s h.1, FitA.mono s h.2⟩
end
/-! a look that tells that a display fits: vo the places that hold data, vt those that hold tuples -/
def catOk (vt : List Nat) : DX → DX → Bool
  | .var i, .tup l => vt.contains i && decide (l.length ≤ 100)
  | _, _ => false
def lofOk (vt : List Nat) : DX → Bool
  | .var i => vt.contains i
  | _ => false
mutual
def DX.chk (vo vt : List Nat) : DX → Bool
  | .c _ => true
  | .var i => vo.contains i
  | .tup l => decide (l.length ≤ 100) && chkA vo vt l
  | .lst l => decide (l.length ≤ 100) && chkA vo vt l
  | .cat a b => catOk vt a b && a.chk vo vt && b.chk vo vt
  | .lof a => lofOk vt a && a.chk vo vt
def chkA (vo vt : List Nat) : List DX → Bool
  | [] => true
  | x :: r => x.chk vo vt && chkA vo vt r
end
/-- what the places hold -/
structure Env (ρ : Nat → Dm) (σ : St) (H : Hp) (vo vt : List Nat) : Prop where
  o : ∀ i ∈ vo, ∃ v, σ[i]? = some (some v) ∧ Dt H v (ρ i)
  t : ∀ i ∈ vt, ∃ ds, ρ i = .tup ds ∧ ds.length ≤ 100
theorem valA_len' (ρ : Nat → Dm) : ∀ l : List DX, (valA ρ l).length = l.length
  | [] => rfl
  | _ :: r => by rw [valA, List.length_cons, List.length_cons, valA_len' ρ r]
mutual
theorem Env.fit {ρ : Nat → Dm} {σ : St} {H : Hp} {vo vt : List Nat} (e : Env ρ σ H vo vt) : ∀ {x : DX}, x.chk vo vt = true → x.Fit ρ σ H
  | .c _, _ => by rw [DX.Fit]; trivial
  | .var i, h => by
    rw [DX.chk] at h
    rw [DX.Fit]
    exact e.o i (List.contains_iff_mem.mp h)
  | .tup l, h => by
    rw [DX.chk, Bool.and_eq_true, decide_eq_true_eq] at h
    rw [DX.Fit]
    exact ⟨by omega, e.fitA h.2⟩
  | .lst l, h => by
    rw [DX.chk, Bool.and_eq_true, decide_eq_true_eq] at h
    rw [DX.Fit]
    exact ⟨by omega, e.fitA h.2⟩
  | .cat a b, h => by
    rw [DX.chk, Bool.and_eq_true, Bool.and_eq_true] at h
    obtain ⟨⟨h0, h1⟩, h2⟩ := h
    rw [DX.Fit]
    refine ⟨e.fit h1, e.fit h2, ?_⟩
    unfold catOk at h0
    split at h0
    · rename_i i l
      rw [Bool.and_eq_true, decide_eq_true_eq] at h0
      obtain ⟨ds, ed, hl⟩ := e.t i (List.contains_iff_mem.mp h0.1)
      exact ⟨ds, valA ρ l, by rw [DX.val]; exact ed, by rw [DX.val], by rw [valA_len']; omega⟩
    · cases h0
  | .lof a, h => by
    rw [DX.chk, Bool.and_eq_true] at h
    rw [DX.Fit]
    refine ⟨e.fit h.2, ?_⟩
    have h0 := h.1
    unfold lofOk at h0
    split at h0
    · rename_i i
      obtain ⟨ds, ed, hl⟩ := e.t i (List.contains_iff_mem.mp h0)
      exact ⟨ds, by rw [DX.val]; exact ed⟩
    · cases h0
theorem Env.fitA {ρ : Nat → Dm} {σ : St} {H : Hp} {vo vt : List Nat} (e : Env ρ σ H vo vt) : ∀ {l : List DX}, chkA vo vt l = true → FitA ρ σ H l
  | [], _ => by rw [FitA]; trivial
  | x :: r, h => by
    rw [chkA, Bool.and_eq_true] at h
    rw [FitA]
    exact ⟨e.fit h.1, e.fitA h.2⟩
end
def tDX (x : DX) : TE := fun σ H Q => ∃ ρ, x.Fit ρ σ H ∧ ∀ v H', Same H H' → Dt H' v (x.val ρ) → Q v H'
def tDXs (l : List DX) : TA := fun σ H Q => ∃ ρ, FitA ρ σ H l ∧ ∀ vs H', Same H H' → DtA H' vs (valA ρ l) → Q vs H'
theorem valA_len (ρ : Nat → Dm) : ∀ l : List DX, (valA ρ l).length = l.length
  | [] => rfl
  | _ :: r => by rw [valA, List.length_cons, List.length_cons, valA_len ρ r]
section
variable {X : Cx}
theorem PE.weak {e : Expr} {t t' : TE} (h : PE X e t) (k : ∀ σ H Q, t' σ H Q → t σ H Q) : PE X e t' := fun pins s σ H Q I q => h pins s σ H Q I (k σ H Q q)
theorem PA.weak {es : List Expr} {t t' : TA} (h : PA X es t) (k : ∀ σ H Q, t' σ H Q → t σ H Q) : PA X es t' := fun pos pins s σ H Q I q => h pos pins s σ H Q I (k σ H Q q)
theorem dx_c {e : Expr} {v : V} {d : Dm} (h : PE X e (tC v)) (k : ∀ H, Dt H v d) : PE X e (tDX (.c d)) := h.weak fun σ H Q ⟨ρ, _, q⟩ => q v H (Same.refl _) (k H)
theorem dx_int {i : Int} {j pos} : PE X (.Constant (.int i) j pos) (tDX (.c (.int i))) := dx_c pe_int fun _ => .int i
theorem dx_str {x j pos} : PE X (.Constant (.str x) j pos) (tDX (.c (.str x))) := dx_c pe_str fun _ => .str x
theorem dx_bl {b j pos} : PE X (.Constant (.bool b) j pos) (tDX (.c (.bl b))) := dx_c pe_bl fun _ => .bl b
theorem dx_non {j pos} : PE X (.Constant .none j pos) (tDX (.c .non)) := dx_c pe_non fun _ => .non
theorem dx_neg {i : Int} {j p pos} : PE X (.UnaryOp .USub (.Constant (.int i) j p) pos) (tDX (.c (.int (-i)))) := (pe_un un_neg pe_int).weak fun σ H Q ⟨ρ, _, q⟩ => ⟨i, rfl, q _ H (Same.refl _) (.int _)⟩
theorem dx_var {e : Expr} {i : Nat} (h : PE X e (tVar i)) : PE X e (tDX (.var i)) := h.weak fun σ H Q ⟨ρ, f, q⟩ => by
  rw [DX.Fit] at f
  obtain ⟨v, ev, d⟩ := f
  exact ⟨v, ev, q v H (Same.refl _) d⟩
theorem dxs_nil : PA X [] (tDXs []) := pa_nil.weak fun σ H Q ⟨ρ, _, q⟩ => q [] H (Same.refl _) .nil
theorem dxs_c {e : Expr} {es : List Expr} {x : DX} {l : List DX} (h : PE X e (tDX x)) (k : PA X es (tDXs l)) (hs : isStar e = false := by rfl) : PA X (e :: es) (tDXs (x :: l)) := (pa_c h k hs).weak fun σ H Q ⟨ρ, f, q⟩ => by
  rw [FitA] at f
  exact ⟨ρ, f.1, fun v H1 s1 d1 => ⟨ρ, f.2.mono s1, fun vs H2 s2 d2 => q (v :: vs) H2 (s1.trans s2) (.cons (d1.kp s2.kp) d2)⟩⟩
theorem dx_tup {es : List Expr} {x1} {l : List DX} {pos : Pos} (h : PA X es (tDXs l)) : PE X (.Tuple es x1 pos) (tDX (.tup l)) := (pe_tup h).weak fun σ H Q ⟨ρ, f, q⟩ => by
  rw [DX.Fit] at f
  exact ⟨ρ, f.2, fun vs H1 s1 d1 => ⟨by rw [d1.length, valA_len]; exact Nat.le_of_lt (small1000 f.1), fun p hp => q _ _ (s1.trans (same_new hp _)) (.tup upd_same (d1.kp (same_new hp _).kp))⟩⟩
theorem dx_lst {es : List Expr} {l : List DX} {pos : Pos} (h : PA X es (tDXs l)) : PE X (.List es pos) (tDX (.lst l)) := (pe_lst h).weak fun σ H Q ⟨ρ, f, q⟩ => by
  rw [DX.Fit] at f
  exact ⟨ρ, f.2, fun vs H1 s1 d1 => ⟨by rw [d1.length, valA_len]; exact Nat.le_of_lt (small1000 f.1), fun p hp => q _ _ (s1.trans (same_new hp _)) (.lst upd_same)⟩⟩
theorem dx_cat {a b : Expr} {x y : DX} {pos : Pos} (ha : PE X a (tDX x)) (hb : PE X b (tDX y)) : PE X (.BinOp a .Add b pos) (tDX (.cat x y)) := (pe_op op_catT2 ha hb).weak fun σ H Q ⟨ρ, f, q⟩ => by
  rw [DX.Fit] at f
  obtain ⟨f1, f2, ds, es, e1, e2, hz⟩ := f
  refine ⟨ρ, f1, fun v H1 s1 d1 => ⟨ρ, f2.mono s1, fun u H2 s2 d2 => ?_⟩⟩
  have ev : (DX.cat x y).val ρ = .tup (ds ++ es) := by rw [DX.val, e1, e2]; rfl
  rw [ev] at q
  rw [e1] at d1
  rw [e2] at d2
  have d1 := d1.kp s2.kp
  cases d1 with
  | @tup p xs _ e r =>
    cases d2 with
    | @tup p2 ys _ e' r' =>
      have s12 := s1.trans s2
      refine ⟨p, p2, xs, ys, rfl, rfl, SqT.of e, SqT.of e', Nat.le_of_lt (small1000 (by rw [r.length, r'.length]; exact hz)), fun z => ?_, fun _ z => ?_, fun _ _ p3 hp3 => ?_⟩
      · subst z
        cases r
        exact q _ _ s12 (.tup e' r')
      · subst z
        cases r'
        rw [List.append_nil] at q
        exact q _ _ s12 (.tup e r)
      · exact q _ _ (s12.trans (same_new hp3 _)) (.tup upd_same ((r.append r').kp (same_new hp3 _).kp))
theorem dx_lof {a : Expr} {x : DX} {p pos : Pos} (hg : Gl X "list") (hm : X.mg "list" = none) (ha : PE X a (tDX x)) (hst : noStars [a] = true := by rfl) : PE X (.Call (.Name "list" p) [a] [] pos) (tDX (.lof x)) := by
  have hs : isStar a = false := by
    rw [noStars, Bool.and_eq_true, Bool.not_eq_true'] at hst
    exact hst.1
  refine (pe_cT call_list_of hg hm (by decide +kernel) (pa_c ha pa_nil hs) (by decide) (by decide) hst).weak fun σ H Q ⟨ρ, f, q⟩ => ?_
  rw [DX.Fit] at f
  obtain ⟨f1, ds, e1⟩ := f
  refine ⟨ρ, f1, fun v H1 s1 d1 => ?_⟩
  rw [e1] at d1
  cases d1 with
  | @tup p xs _ e r => exact ⟨_, _, rfl, .inr (SqT.of e), fun l hl => q _ _ (s1.trans (same_new hl _)) (.lst upd_same)⟩
end
end L2


set_option Elab.async false
set_option linter.all false
set_option maxRecDepth 100000
set_option maxHeartbeats 0
namespace SR
open PySem L2
def top (i : Nat) : Stmt := PySem.Challenge.pw_smallrooms_k01_programs.main.body.getD i (.Pass ⟨0, 0, 0, 0⟩)
-- s_is_program s_is_whole s_is_whole_from s_is_tuple_of s_is_name s_are_rising_rows s_are_ins s_is_in s_is_block s_is_deed s_is_term s_known_behind_block s_known_behind_deed s_has_known_names s_term_of s_blocks_of s_law_cell s_law_pick s_law_sum s_law_counted s_law_block s_law_program s_law_bad s_law_once s_law
theorem bt_all : bootBuiltins "all" = some (.builtin "all") := by decide +kernel
theorem bt_bool : bootBuiltins "bool" = some (.type "bool") := by decide +kernel
theorem bt_int : bootBuiltins "int" = some (.type "int") := by decide +kernel
theorem bt_isinstance : bootBuiltins "isinstance" = some (.builtin "isinstance") := by decide +kernel
theorem bt_len : bootBuiltins "len" = some (.builtin "len") := by decide +kernel
theorem bt_str : bootBuiltins "str" = some (.type "str") := by decide +kernel
theorem bt_tuple : bootBuiltins "tuple" = some (.type "tuple") := by decide +kernel
theorem cd__law_at : (("_law_at" : Str) == ("__classdict__" : Str)) = false := by decide +kernel
theorem cd__law_base : (("_law_base" : Str) == ("__classdict__" : Str)) = false := by decide +kernel
theorem cd__law_block_here : (("_law_block_here" : Str) == ("__classdict__" : Str)) = false := by decide +kernel
theorem cd__law_body : (("_law_body" : Str) == ("__classdict__" : Str)) = false := by decide +kernel
theorem cd__law_cell_here : (("_law_cell_here" : Str) == ("__classdict__" : Str)) = false := by decide +kernel
theorem cd__law_deed : (("_law_deed" : Str) == ("__classdict__" : Str)) = false := by decide +kernel
theorem cd__law_deeds : (("_law_deeds" : Str) == ("__classdict__" : Str)) = false := by decide +kernel
theorem cd__law_deep : (("_law_deep" : Str) == ("__classdict__" : Str)) = false := by decide +kernel
theorem cd__law_drawn : (("_law_drawn" : Str) == ("__classdict__" : Str)) = false := by decide +kernel
theorem cd__law_expr : (("_law_expr" : Str) == ("__classdict__" : Str)) = false := by decide +kernel
theorem cd__law_first : (("_law_first" : Str) == ("__classdict__" : Str)) = false := by decide +kernel
theorem cd__law_goal : (("_law_goal" : Str) == ("__classdict__" : Str)) = false := by decide +kernel
theorem cd__law_ins : (("_law_ins" : Str) == ("__classdict__" : Str)) = false := by decide +kernel
theorem cd__law_k : (("_law_k" : Str) == ("__classdict__" : Str)) = false := by decide +kernel
theorem cd__law_known : (("_law_known" : Str) == ("__classdict__" : Str)) = false := by decide +kernel
theorem cd__law_last : (("_law_last" : Str) == ("__classdict__" : Str)) = false := by decide +kernel
theorem cd__law_low : (("_law_low" : Str) == ("__classdict__" : Str)) = false := by decide +kernel
theorem cd__law_many : (("_law_many" : Str) == ("__classdict__" : Str)) = false := by decide +kernel
theorem cd__law_mine : (("_law_mine" : Str) == ("__classdict__" : Str)) = false := by decide +kernel
theorem cd__law_more : (("_law_more" : Str) == ("__classdict__" : Str)) = false := by decide +kernel
theorem cd__law_most : (("_law_most" : Str) == ("__classdict__" : Str)) = false := by decide +kernel
theorem cd__law_name : (("_law_name" : Str) == ("__classdict__" : Str)) = false := by decide +kernel
theorem cd__law_one : (("_law_one" : Str) == ("__classdict__" : Str)) = false := by decide +kernel
theorem cd__law_plain : (("_law_plain" : Str) == ("__classdict__" : Str)) = false := by decide +kernel
theorem cd__law_program_here : (("_law_program_here" : Str) == ("__classdict__" : Str)) = false := by decide +kernel
theorem cd__law_row : (("_law_row" : Str) == ("__classdict__" : Str)) = false := by decide +kernel
theorem cd__law_script : (("_law_script" : Str) == ("__classdict__" : Str)) = false := by decide +kernel
theorem cd__law_second : (("_law_second" : Str) == ("__classdict__" : Str)) = false := by decide +kernel
theorem cd__law_some : (("_law_some" : Str) == ("__classdict__" : Str)) = false := by decide +kernel
theorem cd__law_sums : (("_law_sums" : Str) == ("__classdict__" : Str)) = false := by decide +kernel
theorem cd__law_turn : (("_law_turn" : Str) == ("__classdict__" : Str)) = false := by decide +kernel
theorem cd__law_way : (("_law_way" : Str) == ("__classdict__" : Str)) = false := by decide +kernel
theorem cd__law_words : (("_law_words" : Str) == ("__classdict__" : Str)) = false := by decide +kernel
theorem cd__law_yours : (("_law_yours" : Str) == ("__classdict__" : Str)) = false := by decide +kernel
theorem cd_block : (("block" : Str) == ("__classdict__" : Str)) = false := by decide +kernel
theorem cd_deed : (("deed" : Str) == ("__classdict__" : Str)) = false := by decide +kernel
theorem cd_ends : (("ends" : Str) == ("__classdict__" : Str)) = false := by decide +kernel
theorem cd_high : (("high" : Str) == ("__classdict__" : Str)) = false := by decide +kernel
theorem cd_is_row : (("is_row" : Str) == ("__classdict__" : Str)) = false := by decide +kernel
theorem cd_known : (("known" : Str) == ("__classdict__" : Str)) = false := by decide +kernel
theorem cd_levels : (("levels" : Str) == ("__classdict__" : Str)) = false := by decide +kernel
theorem cd_low : (("low" : Str) == ("__classdict__" : Str)) = false := by decide +kernel
theorem cd_many : (("many" : Str) == ("__classdict__" : Str)) = false := by decide +kernel
theorem cd_name : (("name" : Str) == ("__classdict__" : Str)) = false := by decide +kernel
theorem cd_one : (("one" : Str) == ("__classdict__" : Str)) = false := by decide +kernel
theorem cd_other : (("other" : Str) == ("__classdict__" : Str)) = false := by decide +kernel
theorem cd_row : (("row" : Str) == ("__classdict__" : Str)) = false := by decide +kernel
theorem cd_sign : (("sign" : Str) == ("__classdict__" : Str)) = false := by decide +kernel
theorem cd_term : (("term" : Str) == ("__classdict__" : Str)) = false := by decide +kernel
theorem cd_thing : (("thing" : Str) == ("__classdict__" : Str)) = false := by decide +kernel
theorem db_DEEPEST_BLOCK : (("DEEPEST_BLOCK" : Str) == ("__debug__" : Str)) = false := by decide +kernel
theorem db_DEEPEST_TERM : (("DEEPEST_TERM" : Str) == ("__debug__" : Str)) = false := by decide +kernel
theorem db_GREATEST_IN : (("GREATEST_IN" : Str) == ("__debug__" : Str)) = false := by decide +kernel
theorem db_LEAST_IN : (("LEAST_IN" : Str) == ("__debug__" : Str)) = false := by decide +kernel
theorem db_LETTERS : (("LETTERS" : Str) == ("__debug__" : Str)) = false := by decide +kernel
theorem db_MOST_DEEDS : (("MOST_DEEDS" : Str) == ("__debug__" : Str)) = false := by decide +kernel
theorem db_MOST_INS : (("MOST_INS" : Str) == ("__debug__" : Str)) = false := by decide +kernel
theorem db_MOST_LETTERS : (("MOST_LETTERS" : Str) == ("__debug__" : Str)) = false := by decide +kernel
theorem db_MOST_ROUNDS : (("MOST_ROUNDS" : Str) == ("__debug__" : Str)) = false := by decide +kernel
theorem db_WIDE : (("WIDE" : Str) == ("__debug__" : Str)) = false := by decide +kernel
theorem db_WORDS : (("WORDS" : Str) == ("__debug__" : Str)) = false := by decide +kernel
theorem db__law_at : (("_law_at" : Str) == ("__debug__" : Str)) = false := by decide +kernel
theorem db__law_bad : (("_law_bad" : Str) == ("__debug__" : Str)) = false := by decide +kernel
theorem db__law_base : (("_law_base" : Str) == ("__debug__" : Str)) = false := by decide +kernel
theorem db__law_block : (("_law_block" : Str) == ("__debug__" : Str)) = false := by decide +kernel
theorem db__law_block_here : (("_law_block_here" : Str) == ("__debug__" : Str)) = false := by decide +kernel
theorem db__law_body : (("_law_body" : Str) == ("__debug__" : Str)) = false := by decide +kernel
theorem db__law_cell : (("_law_cell" : Str) == ("__debug__" : Str)) = false := by decide +kernel
theorem db__law_cell_here : (("_law_cell_here" : Str) == ("__debug__" : Str)) = false := by decide +kernel
theorem db__law_counted : (("_law_counted" : Str) == ("__debug__" : Str)) = false := by decide +kernel
theorem db__law_deed : (("_law_deed" : Str) == ("__debug__" : Str)) = false := by decide +kernel
theorem db__law_deeds : (("_law_deeds" : Str) == ("__debug__" : Str)) = false := by decide +kernel
theorem db__law_deep : (("_law_deep" : Str) == ("__debug__" : Str)) = false := by decide +kernel
theorem db__law_drawn : (("_law_drawn" : Str) == ("__debug__" : Str)) = false := by decide +kernel
theorem db__law_expr : (("_law_expr" : Str) == ("__debug__" : Str)) = false := by decide +kernel
theorem db__law_first : (("_law_first" : Str) == ("__debug__" : Str)) = false := by decide +kernel
theorem db__law_goal : (("_law_goal" : Str) == ("__debug__" : Str)) = false := by decide +kernel
theorem db__law_ins : (("_law_ins" : Str) == ("__debug__" : Str)) = false := by decide +kernel
theorem db__law_k : (("_law_k" : Str) == ("__debug__" : Str)) = false := by decide +kernel
theorem db__law_known : (("_law_known" : Str) == ("__debug__" : Str)) = false := by decide +kernel
theorem db__law_last : (("_law_last" : Str) == ("__debug__" : Str)) = false := by decide +kernel
theorem db__law_low : (("_law_low" : Str) == ("__debug__" : Str)) = false := by decide +kernel
theorem db__law_many : (("_law_many" : Str) == ("__debug__" : Str)) = false := by decide +kernel
theorem db__law_mine : (("_law_mine" : Str) == ("__debug__" : Str)) = false := by decide +kernel
theorem db__law_more : (("_law_more" : Str) == ("__debug__" : Str)) = false := by decide +kernel
theorem db__law_most : (("_law_most" : Str) == ("__debug__" : Str)) = false := by decide +kernel
theorem db__law_name : (("_law_name" : Str) == ("__debug__" : Str)) = false := by decide +kernel
theorem db__law_once : (("_law_once" : Str) == ("__debug__" : Str)) = false := by decide +kernel
theorem db__law_one : (("_law_one" : Str) == ("__debug__" : Str)) = false := by decide +kernel
theorem db__law_pick : (("_law_pick" : Str) == ("__debug__" : Str)) = false := by decide +kernel
theorem db__law_plain : (("_law_plain" : Str) == ("__debug__" : Str)) = false := by decide +kernel
theorem db__law_program : (("_law_program" : Str) == ("__debug__" : Str)) = false := by decide +kernel
theorem db__law_program_here : (("_law_program_here" : Str) == ("__debug__" : Str)) = false := by decide +kernel
theorem db__law_row : (("_law_row" : Str) == ("__debug__" : Str)) = false := by decide +kernel
theorem db__law_script : (("_law_script" : Str) == ("__debug__" : Str)) = false := by decide +kernel
theorem db__law_second : (("_law_second" : Str) == ("__debug__" : Str)) = false := by decide +kernel
theorem db__law_some : (("_law_some" : Str) == ("__debug__" : Str)) = false := by decide +kernel
theorem db__law_sum : (("_law_sum" : Str) == ("__debug__" : Str)) = false := by decide +kernel
theorem db__law_sums : (("_law_sums" : Str) == ("__debug__" : Str)) = false := by decide +kernel
theorem db__law_turn : (("_law_turn" : Str) == ("__debug__" : Str)) = false := by decide +kernel
theorem db__law_way : (("_law_way" : Str) == ("__debug__" : Str)) = false := by decide +kernel
theorem db__law_words : (("_law_words" : Str) == ("__debug__" : Str)) = false := by decide +kernel
theorem db__law_yours : (("_law_yours" : Str) == ("__debug__" : Str)) = false := by decide +kernel
theorem db_all : (("all" : Str) == ("__debug__" : Str)) = false := by decide +kernel
theorem db_are_ins : (("are_ins" : Str) == ("__debug__" : Str)) = false := by decide +kernel
theorem db_are_rising_rows : (("are_rising_rows" : Str) == ("__debug__" : Str)) = false := by decide +kernel
theorem db_block : (("block" : Str) == ("__debug__" : Str)) = false := by decide +kernel
theorem db_blocks_of : (("blocks_of" : Str) == ("__debug__" : Str)) = false := by decide +kernel
theorem db_bool : (("bool" : Str) == ("__debug__" : Str)) = false := by decide +kernel
theorem db_deed : (("deed" : Str) == ("__debug__" : Str)) = false := by decide +kernel
theorem db_ends : (("ends" : Str) == ("__debug__" : Str)) = false := by decide +kernel
theorem db_has_known_names : (("has_known_names" : Str) == ("__debug__" : Str)) = false := by decide +kernel
theorem db_high : (("high" : Str) == ("__debug__" : Str)) = false := by decide +kernel
theorem db_int : (("int" : Str) == ("__debug__" : Str)) = false := by decide +kernel
theorem db_is_block : (("is_block" : Str) == ("__debug__" : Str)) = false := by decide +kernel
theorem db_is_deed : (("is_deed" : Str) == ("__debug__" : Str)) = false := by decide +kernel
theorem db_is_in : (("is_in" : Str) == ("__debug__" : Str)) = false := by decide +kernel
theorem db_is_name : (("is_name" : Str) == ("__debug__" : Str)) = false := by decide +kernel
theorem db_is_program : (("is_program" : Str) == ("__debug__" : Str)) = false := by decide +kernel
theorem db_is_row : (("is_row" : Str) == ("__debug__" : Str)) = false := by decide +kernel
theorem db_is_term : (("is_term" : Str) == ("__debug__" : Str)) = false := by decide +kernel
theorem db_is_tuple_of : (("is_tuple_of" : Str) == ("__debug__" : Str)) = false := by decide +kernel
theorem db_is_whole : (("is_whole" : Str) == ("__debug__" : Str)) = false := by decide +kernel
theorem db_is_whole_from : (("is_whole_from" : Str) == ("__debug__" : Str)) = false := by decide +kernel
theorem db_isinstance : (("isinstance" : Str) == ("__debug__" : Str)) = false := by decide +kernel
theorem db_known : (("known" : Str) == ("__debug__" : Str)) = false := by decide +kernel
theorem db_known_behind_block : (("known_behind_block" : Str) == ("__debug__" : Str)) = false := by decide +kernel
theorem db_known_behind_deed : (("known_behind_deed" : Str) == ("__debug__" : Str)) = false := by decide +kernel
theorem db_len : (("len" : Str) == ("__debug__" : Str)) = false := by decide +kernel
theorem db_levels : (("levels" : Str) == ("__debug__" : Str)) = false := by decide +kernel
theorem db_low : (("low" : Str) == ("__debug__" : Str)) = false := by decide +kernel
theorem db_many : (("many" : Str) == ("__debug__" : Str)) = false := by decide +kernel
theorem db_name : (("name" : Str) == ("__debug__" : Str)) = false := by decide +kernel
theorem db_one : (("one" : Str) == ("__debug__" : Str)) = false := by decide +kernel
theorem db_other : (("other" : Str) == ("__debug__" : Str)) = false := by decide +kernel
theorem db_row : (("row" : Str) == ("__debug__" : Str)) = false := by decide +kernel
theorem db_sign : (("sign" : Str) == ("__debug__" : Str)) = false := by decide +kernel
theorem db_str : (("str" : Str) == ("__debug__" : Str)) = false := by decide +kernel
theorem db_term : (("term" : Str) == ("__debug__" : Str)) = false := by decide +kernel
theorem db_term_of : (("term_of" : Str) == ("__debug__" : Str)) = false := by decide +kernel
theorem db_thing : (("thing" : Str) == ("__debug__" : Str)) = false := by decide +kernel
theorem db_tuple : (("tuple" : Str) == ("__debug__" : Str)) = false := by decide +kernel
theorem nn_all : ("all" : Str) ≠ "__name__" := by decide +kernel
theorem nn_bool : ("bool" : Str) ≠ "__name__" := by decide +kernel
theorem nn_int : ("int" : Str) ≠ "__name__" := by decide +kernel
theorem nn_isinstance : ("isinstance" : Str) ≠ "__name__" := by decide +kernel
theorem nn_len : ("len" : Str) ≠ "__name__" := by decide +kernel
theorem nn_str : ("str" : Str) ≠ "__name__" := by decide +kernel
theorem nn_tuple : ("tuple" : Str) ≠ "__name__" := by decide +kernel
abbrev s_is_program : Stmt := top 12
theorem sc_is_program : FnScope ["thing", "known"] ["thing"] (defScope s_is_program) := ⟨rfl, rfl, rfl, by decide +kernel, rfl, by decide +kernel, by decide +kernel⟩
theorem gl_is_program_DEEPEST_BLOCK : (defScope s_is_program).names.lookup ("DEEPEST_BLOCK" : Str) = some NameKind.globalImplicit := by decide +kernel
theorem gl_is_program_are_ins : (defScope s_is_program).names.lookup ("are_ins" : Str) = some NameKind.globalImplicit := by decide +kernel
theorem gl_is_program_is_block : (defScope s_is_program).names.lookup ("is_block" : Str) = some NameKind.globalImplicit := by decide +kernel
theorem gl_is_program_is_tuple_of : (defScope s_is_program).names.lookup ("is_tuple_of" : Str) = some NameKind.globalImplicit := by decide +kernel
theorem gl_is_program_known_behind_block : (defScope s_is_program).names.lookup ("known_behind_block" : Str) = some NameKind.globalImplicit := by decide +kernel
theorem gl_is_program_tuple : (defScope s_is_program).names.lookup ("tuple" : Str) = some NameKind.globalImplicit := by decide +kernel
theorem loc_is_program_known : Loc (defScope s_is_program) "known" := Or.inl (by decide +kernel)
theorem vis_is_program_known : Vis (defScope s_is_program) "known" := Or.inl (by decide +kernel)
theorem vis_is_program_thing : Vis (defScope s_is_program) "thing" := Or.inl (by decide +kernel)
abbrev s_is_whole : Stmt := top 13
theorem sc_is_whole : FnScope ["thing"] ["thing"] (defScope s_is_whole) := ⟨rfl, rfl, rfl, by decide +kernel, rfl, by decide +kernel, by decide +kernel⟩
theorem gl_is_whole_bool : (defScope s_is_whole).names.lookup ("bool" : Str) = some NameKind.globalImplicit := by decide +kernel
theorem gl_is_whole_int : (defScope s_is_whole).names.lookup ("int" : Str) = some NameKind.globalImplicit := by decide +kernel
theorem gl_is_whole_isinstance : (defScope s_is_whole).names.lookup ("isinstance" : Str) = some NameKind.globalImplicit := by decide +kernel
theorem vis_is_whole_thing : Vis (defScope s_is_whole) "thing" := Or.inl (by decide +kernel)
abbrev s_is_whole_from : Stmt := top 14
theorem sc_is_whole_from : FnScope ["thing", "low", "high"] ["thing", "low", "high"] (defScope s_is_whole_from) := ⟨rfl, rfl, rfl, by decide +kernel, rfl, by decide +kernel, by decide +kernel⟩
theorem gl_is_whole_from_is_whole : (defScope s_is_whole_from).names.lookup ("is_whole" : Str) = some NameKind.globalImplicit := by decide +kernel
theorem vis_is_whole_from_high : Vis (defScope s_is_whole_from) "high" := Or.inl (by decide +kernel)
theorem vis_is_whole_from_low : Vis (defScope s_is_whole_from) "low" := Or.inl (by decide +kernel)
theorem vis_is_whole_from_thing : Vis (defScope s_is_whole_from) "thing" := Or.inl (by decide +kernel)
abbrev s_is_tuple_of : Stmt := top 15
theorem sc_is_tuple_of : FnScope ["thing", "many"] ["thing", "many"] (defScope s_is_tuple_of) := ⟨rfl, rfl, rfl, by decide +kernel, rfl, by decide +kernel, by decide +kernel⟩
theorem gl_is_tuple_of_isinstance : (defScope s_is_tuple_of).names.lookup ("isinstance" : Str) = some NameKind.globalImplicit := by decide +kernel
theorem gl_is_tuple_of_len : (defScope s_is_tuple_of).names.lookup ("len" : Str) = some NameKind.globalImplicit := by decide +kernel
theorem gl_is_tuple_of_tuple : (defScope s_is_tuple_of).names.lookup ("tuple" : Str) = some NameKind.globalImplicit := by decide +kernel
theorem vis_is_tuple_of_many : Vis (defScope s_is_tuple_of) "many" := Or.inl (by decide +kernel)
theorem vis_is_tuple_of_thing : Vis (defScope s_is_tuple_of) "thing" := Or.inl (by decide +kernel)
abbrev s_is_name : Stmt := top 16
theorem sc_is_name : FnScope ["thing"] ["thing"] (defScope s_is_name) := ⟨rfl, rfl, rfl, by decide +kernel, rfl, by decide +kernel, by decide +kernel⟩
theorem gl_is_name_MOST_LETTERS : (defScope s_is_name).names.lookup ("MOST_LETTERS" : Str) = some NameKind.globalImplicit := by decide +kernel
theorem gl_is_name_all : (defScope s_is_name).names.lookup ("all" : Str) = some NameKind.globalImplicit := by decide +kernel
theorem gl_is_name_isinstance : (defScope s_is_name).names.lookup ("isinstance" : Str) = some NameKind.globalImplicit := by decide +kernel
theorem gl_is_name_len : (defScope s_is_name).names.lookup ("len" : Str) = some NameKind.globalImplicit := by decide +kernel
theorem gl_is_name_str : (defScope s_is_name).names.lookup ("str" : Str) = some NameKind.globalImplicit := by decide +kernel
theorem vis_is_name_thing : Vis (defScope s_is_name) "thing" := Or.inl (by decide +kernel)
abbrev s_are_rising_rows : Stmt := top 17
theorem sc_are_rising_rows : FnScope ["thing", "is_row"] ["thing", "is_row"] (defScope s_are_rising_rows) := ⟨rfl, rfl, rfl, by decide +kernel, rfl, by decide +kernel, by decide +kernel⟩
theorem gl_are_rising_rows_all : (defScope s_are_rising_rows).names.lookup ("all" : Str) = some NameKind.globalImplicit := by decide +kernel
theorem gl_are_rising_rows_isinstance : (defScope s_are_rising_rows).names.lookup ("isinstance" : Str) = some NameKind.globalImplicit := by decide +kernel
theorem gl_are_rising_rows_tuple : (defScope s_are_rising_rows).names.lookup ("tuple" : Str) = some NameKind.globalImplicit := by decide +kernel
theorem gl_are_rising_rows_zip : (defScope s_are_rising_rows).names.lookup ("zip" : Str) = some NameKind.globalImplicit := by decide +kernel
theorem vis_are_rising_rows_thing : Vis (defScope s_are_rising_rows) "thing" := Or.inl (by decide +kernel)
abbrev s_are_ins : Stmt := top 18
theorem sc_are_ins : FnScope ["thing"] ["thing"] (defScope s_are_ins) := ⟨rfl, rfl, rfl, by decide +kernel, rfl, by decide +kernel, by decide +kernel⟩
theorem gl_are_ins_MOST_INS : (defScope s_are_ins).names.lookup ("MOST_INS" : Str) = some NameKind.globalImplicit := by decide +kernel
theorem gl_are_ins_are_rising_rows : (defScope s_are_ins).names.lookup ("are_rising_rows" : Str) = some NameKind.globalImplicit := by decide +kernel
theorem gl_are_ins_is_in : (defScope s_are_ins).names.lookup ("is_in" : Str) = some NameKind.globalImplicit := by decide +kernel
theorem gl_are_ins_len : (defScope s_are_ins).names.lookup ("len" : Str) = some NameKind.globalImplicit := by decide +kernel
theorem vis_are_ins_thing : Vis (defScope s_are_ins) "thing" := Or.inl (by decide +kernel)
abbrev s_is_in : Stmt := top 19
theorem sc_is_in : FnScope ["thing"] ["thing"] (defScope s_is_in) := ⟨rfl, rfl, rfl, by decide +kernel, rfl, by decide +kernel, by decide +kernel⟩
theorem gl_is_in_GREATEST_IN : (defScope s_is_in).names.lookup ("GREATEST_IN" : Str) = some NameKind.globalImplicit := by decide +kernel
theorem gl_is_in_LEAST_IN : (defScope s_is_in).names.lookup ("LEAST_IN" : Str) = some NameKind.globalImplicit := by decide +kernel
theorem gl_is_in_is_name : (defScope s_is_in).names.lookup ("is_name" : Str) = some NameKind.globalImplicit := by decide +kernel
theorem gl_is_in_is_tuple_of : (defScope s_is_in).names.lookup ("is_tuple_of" : Str) = some NameKind.globalImplicit := by decide +kernel
theorem gl_is_in_is_whole_from : (defScope s_is_in).names.lookup ("is_whole_from" : Str) = some NameKind.globalImplicit := by decide +kernel
theorem vis_is_in_thing : Vis (defScope s_is_in) "thing" := Or.inl (by decide +kernel)
abbrev s_is_block : Stmt := top 20
theorem sc_is_block : FnScope ["thing", "levels"] ["thing", "levels"] (defScope s_is_block) := ⟨rfl, rfl, rfl, by decide +kernel, rfl, by decide +kernel, by decide +kernel⟩
theorem gl_is_block_MOST_DEEDS : (defScope s_is_block).names.lookup ("MOST_DEEDS" : Str) = some NameKind.globalImplicit := by decide +kernel
theorem gl_is_block_all : (defScope s_is_block).names.lookup ("all" : Str) = some NameKind.globalImplicit := by decide +kernel
theorem gl_is_block_isinstance : (defScope s_is_block).names.lookup ("isinstance" : Str) = some NameKind.globalImplicit := by decide +kernel
theorem gl_is_block_len : (defScope s_is_block).names.lookup ("len" : Str) = some NameKind.globalImplicit := by decide +kernel
theorem gl_is_block_tuple : (defScope s_is_block).names.lookup ("tuple" : Str) = some NameKind.globalImplicit := by decide +kernel
theorem vis_is_block_levels : Vis (defScope s_is_block) "levels" := Or.inr <| Or.inl (by decide +kernel)
theorem vis_is_block_thing : Vis (defScope s_is_block) "thing" := Or.inl (by decide +kernel)
abbrev s_is_deed : Stmt := top 21
theorem sc_is_deed : FnScope ["thing", "levels"] ["thing", "levels"] (defScope s_is_deed) := ⟨rfl, rfl, rfl, by decide +kernel, rfl, by decide +kernel, by decide +kernel⟩
theorem gl_is_deed_DEEPEST_TERM : (defScope s_is_deed).names.lookup ("DEEPEST_TERM" : Str) = some NameKind.globalImplicit := by decide +kernel
theorem gl_is_deed_MOST_ROUNDS : (defScope s_is_deed).names.lookup ("MOST_ROUNDS" : Str) = some NameKind.globalImplicit := by decide +kernel
theorem gl_is_deed_is_block : (defScope s_is_deed).names.lookup ("is_block" : Str) = some NameKind.globalImplicit := by decide +kernel
theorem gl_is_deed_is_name : (defScope s_is_deed).names.lookup ("is_name" : Str) = some NameKind.globalImplicit := by decide +kernel
theorem gl_is_deed_is_term : (defScope s_is_deed).names.lookup ("is_term" : Str) = some NameKind.globalImplicit := by decide +kernel
theorem gl_is_deed_is_tuple_of : (defScope s_is_deed).names.lookup ("is_tuple_of" : Str) = some NameKind.globalImplicit := by decide +kernel
theorem gl_is_deed_is_whole_from : (defScope s_is_deed).names.lookup ("is_whole_from" : Str) = some NameKind.globalImplicit := by decide +kernel
theorem vis_is_deed_levels : Vis (defScope s_is_deed) "levels" := Or.inl (by decide +kernel)
theorem vis_is_deed_thing : Vis (defScope s_is_deed) "thing" := Or.inl (by decide +kernel)
abbrev s_is_term : Stmt := top 22
theorem sc_is_term : FnScope ["thing", "levels"] ["thing", "levels"] (defScope s_is_term) := ⟨rfl, rfl, rfl, by decide +kernel, rfl, by decide +kernel, by decide +kernel⟩
theorem gl_is_term_WIDE : (defScope s_is_term).names.lookup ("WIDE" : Str) = some NameKind.globalImplicit := by decide +kernel
theorem gl_is_term_WORDS : (defScope s_is_term).names.lookup ("WORDS" : Str) = some NameKind.globalImplicit := by decide +kernel
theorem gl_is_term_is_name : (defScope s_is_term).names.lookup ("is_name" : Str) = some NameKind.globalImplicit := by decide +kernel
theorem gl_is_term_is_term : (defScope s_is_term).names.lookup ("is_term" : Str) = some NameKind.globalImplicit := by decide +kernel
theorem gl_is_term_is_tuple_of : (defScope s_is_term).names.lookup ("is_tuple_of" : Str) = some NameKind.globalImplicit := by decide +kernel
theorem gl_is_term_is_whole_from : (defScope s_is_term).names.lookup ("is_whole_from" : Str) = some NameKind.globalImplicit := by decide +kernel
theorem vis_is_term_levels : Vis (defScope s_is_term) "levels" := Or.inl (by decide +kernel)
theorem vis_is_term_thing : Vis (defScope s_is_term) "thing" := Or.inl (by decide +kernel)
abbrev s_known_behind_block : Stmt := top 23
theorem sc_known_behind_block : FnScope ["block", "known", "deed"] ["block", "known"] (defScope s_known_behind_block) := ⟨rfl, rfl, rfl, by decide +kernel, rfl, by decide +kernel, by decide +kernel⟩
theorem gl_known_behind_block_known_behind_deed : (defScope s_known_behind_block).names.lookup ("known_behind_deed" : Str) = some NameKind.globalImplicit := by decide +kernel
theorem loc_known_behind_block_deed : Loc (defScope s_known_behind_block) "deed" := Or.inl (by decide +kernel)
theorem loc_known_behind_block_known : Loc (defScope s_known_behind_block) "known" := Or.inl (by decide +kernel)
theorem vis_known_behind_block_block : Vis (defScope s_known_behind_block) "block" := Or.inl (by decide +kernel)
theorem vis_known_behind_block_deed : Vis (defScope s_known_behind_block) "deed" := Or.inl (by decide +kernel)
theorem vis_known_behind_block_known : Vis (defScope s_known_behind_block) "known" := Or.inl (by decide +kernel)
abbrev s_known_behind_deed : Stmt := top 24
theorem sc_known_behind_deed : FnScope ["deed", "known", "ends"] ["deed", "known"] (defScope s_known_behind_deed) := ⟨rfl, rfl, rfl, by decide +kernel, rfl, by decide +kernel, by decide +kernel⟩
theorem cell_known_behind_deed_ends : (defScope s_known_behind_deed).names.lookup ("ends" : Str) = some NameKind.cell := by decide +kernel
theorem gl_known_behind_deed_blocks_of : (defScope s_known_behind_deed).names.lookup ("blocks_of" : Str) = some NameKind.globalImplicit := by decide +kernel
theorem gl_known_behind_deed_has_known_names : (defScope s_known_behind_deed).names.lookup ("has_known_names" : Str) = some NameKind.globalImplicit := by decide +kernel
theorem gl_known_behind_deed_term_of : (defScope s_known_behind_deed).names.lookup ("term_of" : Str) = some NameKind.globalImplicit := by decide +kernel
theorem gl_known_behind_deed_tuple : (defScope s_known_behind_deed).names.lookup ("tuple" : Str) = some NameKind.globalImplicit := by decide +kernel
theorem loc_known_behind_deed_ends : Loc (defScope s_known_behind_deed) "ends" := Or.inr (by decide +kernel)
theorem vis_known_behind_deed_deed : Vis (defScope s_known_behind_deed) "deed" := Or.inl (by decide +kernel)
theorem vis_known_behind_deed_ends : Vis (defScope s_known_behind_deed) "ends" := Or.inr <| Or.inl (by decide +kernel)
theorem vis_known_behind_deed_known : Vis (defScope s_known_behind_deed) "known" := Or.inr <| Or.inl (by decide +kernel)
abbrev s_has_known_names : Stmt := top 25
theorem sc_has_known_names : FnScope ["term", "known"] ["term", "known"] (defScope s_has_known_names) := ⟨rfl, rfl, rfl, by decide +kernel, rfl, by decide +kernel, by decide +kernel⟩
theorem gl_has_known_names_has_known_names : (defScope s_has_known_names).names.lookup ("has_known_names" : Str) = some NameKind.globalImplicit := by decide +kernel
theorem vis_has_known_names_known : Vis (defScope s_has_known_names) "known" := Or.inl (by decide +kernel)
theorem vis_has_known_names_term : Vis (defScope s_has_known_names) "term" := Or.inl (by decide +kernel)
abbrev s_term_of : Stmt := top 26
theorem sc_term_of : FnScope ["deed"] ["deed"] (defScope s_term_of) := ⟨rfl, rfl, rfl, by decide +kernel, rfl, by decide +kernel, by decide +kernel⟩
theorem vis_term_of_deed : Vis (defScope s_term_of) "deed" := Or.inl (by decide +kernel)
abbrev s_blocks_of : Stmt := top 27
theorem sc_blocks_of : FnScope ["deed"] ["deed"] (defScope s_blocks_of) := ⟨rfl, rfl, rfl, by decide +kernel, rfl, by decide +kernel, by decide +kernel⟩
theorem vis_blocks_of_deed : Vis (defScope s_blocks_of) "deed" := Or.inl (by decide +kernel)
abbrev s_law_cell : Stmt := top 29
theorem sc_law_cell : FnScope ["_law_script", "_law_k"] ["_law_script", "_law_k"] (defScope s_law_cell) := ⟨rfl, rfl, rfl, by decide +kernel, rfl, by decide +kernel, by decide +kernel⟩
theorem gl_law_cell_len : (defScope s_law_cell).names.lookup ("len" : Str) = some NameKind.globalImplicit := by decide +kernel
theorem vis_law_cell__law_k : Vis (defScope s_law_cell) "_law_k" := Or.inl (by decide +kernel)
theorem vis_law_cell__law_script : Vis (defScope s_law_cell) "_law_script" := Or.inl (by decide +kernel)
abbrev s_law_pick : Stmt := top 30
theorem sc_law_pick : FnScope ["_law_script", "_law_k", "_law_many", "_law_drawn"] ["_law_script", "_law_k", "_law_many"] (defScope s_law_pick) := ⟨rfl, rfl, rfl, by decide +kernel, rfl, by decide +kernel, by decide +kernel⟩
theorem gl_law_pick__law_cell : (defScope s_law_pick).names.lookup ("_law_cell" : Str) = some NameKind.globalImplicit := by decide +kernel
theorem loc_law_pick__law_drawn : Loc (defScope s_law_pick) "_law_drawn" := Or.inl (by decide +kernel)
theorem vis_law_pick__law_drawn : Vis (defScope s_law_pick) "_law_drawn" := Or.inl (by decide +kernel)
theorem vis_law_pick__law_k : Vis (defScope s_law_pick) "_law_k" := Or.inl (by decide +kernel)
theorem vis_law_pick__law_many : Vis (defScope s_law_pick) "_law_many" := Or.inl (by decide +kernel)
theorem vis_law_pick__law_script : Vis (defScope s_law_pick) "_law_script" := Or.inl (by decide +kernel)
abbrev s_law_sum : Stmt := top 31
theorem sc_law_sum : FnScope ["_law_script", "_law_at", "_law_known", "_law_deep", "_law_way", "_law_words", "_law_one"] ["_law_script", "_law_at", "_law_known", "_law_deep"] (defScope s_law_sum) := ⟨rfl, rfl, rfl, by decide +kernel, rfl, by decide +kernel, by decide +kernel⟩
theorem gl_law_sum__law_pick : (defScope s_law_sum).names.lookup ("_law_pick" : Str) = some NameKind.globalImplicit := by decide +kernel
theorem gl_law_sum__law_sum : (defScope s_law_sum).names.lookup ("_law_sum" : Str) = some NameKind.globalImplicit := by decide +kernel
theorem gl_law_sum_len : (defScope s_law_sum).names.lookup ("len" : Str) = some NameKind.globalImplicit := by decide +kernel
theorem loc_law_sum__law_one : Loc (defScope s_law_sum) "_law_one" := Or.inl (by decide +kernel)
theorem loc_law_sum__law_way : Loc (defScope s_law_sum) "_law_way" := Or.inl (by decide +kernel)
theorem loc_law_sum__law_words : Loc (defScope s_law_sum) "_law_words" := Or.inl (by decide +kernel)
theorem vis_law_sum__law_at : Vis (defScope s_law_sum) "_law_at" := Or.inl (by decide +kernel)
theorem vis_law_sum__law_deep : Vis (defScope s_law_sum) "_law_deep" := Or.inl (by decide +kernel)
theorem vis_law_sum__law_known : Vis (defScope s_law_sum) "_law_known" := Or.inl (by decide +kernel)
theorem vis_law_sum__law_one : Vis (defScope s_law_sum) "_law_one" := Or.inl (by decide +kernel)
theorem vis_law_sum__law_script : Vis (defScope s_law_sum) "_law_script" := Or.inl (by decide +kernel)
theorem vis_law_sum__law_way : Vis (defScope s_law_sum) "_law_way" := Or.inl (by decide +kernel)
theorem vis_law_sum__law_words : Vis (defScope s_law_sum) "_law_words" := Or.inl (by decide +kernel)
abbrev s_law_counted : Stmt := top 32
theorem sc_law_counted : FnScope ["_law_script", "_law_at", "_law_known", "_law_body", "_law_deep", "_law_most", "_law_name", "_law_goal", "_law_more"] ["_law_script", "_law_at", "_law_known", "_law_body", "_law_deep"] (defScope s_law_counted) := ⟨rfl, rfl, rfl, by decide +kernel, rfl, by decide +kernel, by decide +kernel⟩
theorem gl_law_counted__law_pick : (defScope s_law_counted).names.lookup ("_law_pick" : Str) = some NameKind.globalImplicit := by decide +kernel
theorem gl_law_counted__law_sum : (defScope s_law_counted).names.lookup ("_law_sum" : Str) = some NameKind.globalImplicit := by decide +kernel
theorem gl_law_counted_len : (defScope s_law_counted).names.lookup ("len" : Str) = some NameKind.globalImplicit := by decide +kernel
theorem loc_law_counted__law_goal : Loc (defScope s_law_counted) "_law_goal" := Or.inl (by decide +kernel)
theorem loc_law_counted__law_more : Loc (defScope s_law_counted) "_law_more" := Or.inl (by decide +kernel)
theorem loc_law_counted__law_most : Loc (defScope s_law_counted) "_law_most" := Or.inl (by decide +kernel)
theorem loc_law_counted__law_name : Loc (defScope s_law_counted) "_law_name" := Or.inl (by decide +kernel)
theorem vis_law_counted__law_at : Vis (defScope s_law_counted) "_law_at" := Or.inl (by decide +kernel)
theorem vis_law_counted__law_body : Vis (defScope s_law_counted) "_law_body" := Or.inl (by decide +kernel)
theorem vis_law_counted__law_deep : Vis (defScope s_law_counted) "_law_deep" := Or.inl (by decide +kernel)
theorem vis_law_counted__law_goal : Vis (defScope s_law_counted) "_law_goal" := Or.inl (by decide +kernel)
theorem vis_law_counted__law_known : Vis (defScope s_law_counted) "_law_known" := Or.inl (by decide +kernel)
theorem vis_law_counted__law_more : Vis (defScope s_law_counted) "_law_more" := Or.inl (by decide +kernel)
theorem vis_law_counted__law_most : Vis (defScope s_law_counted) "_law_most" := Or.inl (by decide +kernel)
theorem vis_law_counted__law_name : Vis (defScope s_law_counted) "_law_name" := Or.inl (by decide +kernel)
theorem vis_law_counted__law_script : Vis (defScope s_law_counted) "_law_script" := Or.inl (by decide +kernel)
abbrev s_law_block : Stmt := top 33
theorem sc_law_block : FnScope ["_law_script", "_law_at", "_law_known", "_law_deep", "_law_deeds", "_law_k", "_law_base", "_law_way", "_law_name", "_law_first", "_law_mine", "_law_second", "_law_yours", "_law_body"] ["_law_script", "_law_at", "_law_known", "_law_deep"] (defScope s_law_block) := ⟨rfl, rfl, rfl, by decide +kernel, rfl, by decide +kernel, by decide +kernel⟩
theorem cell_law_block__law_known : (defScope s_law_block).names.lookup ("_law_known" : Str) = some NameKind.cell := by decide +kernel
theorem gl_law_block__law_block : (defScope s_law_block).names.lookup ("_law_block" : Str) = some NameKind.globalImplicit := by decide +kernel
theorem gl_law_block__law_counted : (defScope s_law_block).names.lookup ("_law_counted" : Str) = some NameKind.globalImplicit := by decide +kernel
theorem gl_law_block__law_pick : (defScope s_law_block).names.lookup ("_law_pick" : Str) = some NameKind.globalImplicit := by decide +kernel
theorem gl_law_block__law_sum : (defScope s_law_block).names.lookup ("_law_sum" : Str) = some NameKind.globalImplicit := by decide +kernel
theorem gl_law_block_range : (defScope s_law_block).names.lookup ("range" : Str) = some NameKind.globalImplicit := by decide +kernel
theorem gl_law_block_tuple : (defScope s_law_block).names.lookup ("tuple" : Str) = some NameKind.globalImplicit := by decide +kernel
theorem loc_law_block__law_base : Loc (defScope s_law_block) "_law_base" := Or.inl (by decide +kernel)
theorem loc_law_block__law_body : Loc (defScope s_law_block) "_law_body" := Or.inl (by decide +kernel)
theorem loc_law_block__law_deeds : Loc (defScope s_law_block) "_law_deeds" := Or.inl (by decide +kernel)
theorem loc_law_block__law_first : Loc (defScope s_law_block) "_law_first" := Or.inl (by decide +kernel)
theorem loc_law_block__law_k : Loc (defScope s_law_block) "_law_k" := Or.inl (by decide +kernel)
theorem loc_law_block__law_known : Loc (defScope s_law_block) "_law_known" := Or.inr (by decide +kernel)
theorem loc_law_block__law_mine : Loc (defScope s_law_block) "_law_mine" := Or.inl (by decide +kernel)
theorem loc_law_block__law_name : Loc (defScope s_law_block) "_law_name" := Or.inl (by decide +kernel)
theorem loc_law_block__law_second : Loc (defScope s_law_block) "_law_second" := Or.inl (by decide +kernel)
theorem loc_law_block__law_way : Loc (defScope s_law_block) "_law_way" := Or.inl (by decide +kernel)
theorem loc_law_block__law_yours : Loc (defScope s_law_block) "_law_yours" := Or.inr (by decide +kernel)
theorem vis_law_block__law_at : Vis (defScope s_law_block) "_law_at" := Or.inl (by decide +kernel)
theorem vis_law_block__law_base : Vis (defScope s_law_block) "_law_base" := Or.inl (by decide +kernel)
theorem vis_law_block__law_body : Vis (defScope s_law_block) "_law_body" := Or.inl (by decide +kernel)
theorem vis_law_block__law_deeds : Vis (defScope s_law_block) "_law_deeds" := Or.inl (by decide +kernel)
theorem vis_law_block__law_deep : Vis (defScope s_law_block) "_law_deep" := Or.inl (by decide +kernel)
theorem vis_law_block__law_first : Vis (defScope s_law_block) "_law_first" := Or.inl (by decide +kernel)
theorem vis_law_block__law_k : Vis (defScope s_law_block) "_law_k" := Or.inl (by decide +kernel)
theorem vis_law_block__law_known : Vis (defScope s_law_block) "_law_known" := Or.inr <| Or.inl (by decide +kernel)
theorem vis_law_block__law_mine : Vis (defScope s_law_block) "_law_mine" := Or.inl (by decide +kernel)
theorem vis_law_block__law_name : Vis (defScope s_law_block) "_law_name" := Or.inl (by decide +kernel)
theorem vis_law_block__law_script : Vis (defScope s_law_block) "_law_script" := Or.inl (by decide +kernel)
theorem vis_law_block__law_second : Vis (defScope s_law_block) "_law_second" := Or.inl (by decide +kernel)
theorem vis_law_block__law_way : Vis (defScope s_law_block) "_law_way" := Or.inl (by decide +kernel)
abbrev s_law_program : Stmt := top 34
theorem sc_law_program : FnScope ["_law_script", "_law_at", "_law_ins", "_law_k", "_law_low"] ["_law_script", "_law_at"] (defScope s_law_program) := ⟨rfl, rfl, rfl, by decide +kernel, rfl, by decide +kernel, by decide +kernel⟩
theorem gl_law_program__law_block : (defScope s_law_program).names.lookup ("_law_block" : Str) = some NameKind.globalImplicit := by decide +kernel
theorem gl_law_program__law_pick : (defScope s_law_program).names.lookup ("_law_pick" : Str) = some NameKind.globalImplicit := by decide +kernel
theorem gl_law_program_range : (defScope s_law_program).names.lookup ("range" : Str) = some NameKind.globalImplicit := by decide +kernel
theorem gl_law_program_tuple : (defScope s_law_program).names.lookup ("tuple" : Str) = some NameKind.globalImplicit := by decide +kernel
theorem loc_law_program__law_ins : Loc (defScope s_law_program) "_law_ins" := Or.inl (by decide +kernel)
theorem loc_law_program__law_k : Loc (defScope s_law_program) "_law_k" := Or.inl (by decide +kernel)
theorem loc_law_program__law_low : Loc (defScope s_law_program) "_law_low" := Or.inl (by decide +kernel)
theorem vis_law_program__law_at : Vis (defScope s_law_program) "_law_at" := Or.inl (by decide +kernel)
theorem vis_law_program__law_ins : Vis (defScope s_law_program) "_law_ins" := Or.inl (by decide +kernel)
theorem vis_law_program__law_k : Vis (defScope s_law_program) "_law_k" := Or.inl (by decide +kernel)
theorem vis_law_program__law_low : Vis (defScope s_law_program) "_law_low" := Or.inl (by decide +kernel)
theorem vis_law_program__law_script : Vis (defScope s_law_program) "_law_script" := Or.inl (by decide +kernel)
abbrev s_law_bad : Stmt := top 36
theorem sc_law_bad : FnScope ["_law_program_here", "_law_cell_here", "_law_ins", "_law_block_here", "_law_plain", "_law_some", "_law_deeds", "_law_sums", "_law_last"] ["_law_program_here", "_law_cell_here"] (defScope s_law_bad) := ⟨rfl, rfl, rfl, by decide +kernel, rfl, by decide +kernel, by decide +kernel⟩
theorem gl_law_bad_list : (defScope s_law_bad).names.lookup ("list" : Str) = some NameKind.globalImplicit := by decide +kernel
theorem loc_law_bad__law_block_here : Loc (defScope s_law_bad) "_law_block_here" := Or.inr (by decide +kernel)
theorem loc_law_bad__law_deeds : Loc (defScope s_law_bad) "_law_deeds" := Or.inl (by decide +kernel)
theorem loc_law_bad__law_ins : Loc (defScope s_law_bad) "_law_ins" := Or.inr (by decide +kernel)
theorem loc_law_bad__law_last : Loc (defScope s_law_bad) "_law_last" := Or.inl (by decide +kernel)
theorem loc_law_bad__law_plain : Loc (defScope s_law_bad) "_law_plain" := Or.inl (by decide +kernel)
theorem loc_law_bad__law_some : Loc (defScope s_law_bad) "_law_some" := Or.inl (by decide +kernel)
theorem loc_law_bad__law_sums : Loc (defScope s_law_bad) "_law_sums" := Or.inl (by decide +kernel)
theorem vis_law_bad__law_block_here : Vis (defScope s_law_bad) "_law_block_here" := Or.inr <| Or.inl (by decide +kernel)
theorem vis_law_bad__law_cell_here : Vis (defScope s_law_bad) "_law_cell_here" := Or.inl (by decide +kernel)
theorem vis_law_bad__law_deeds : Vis (defScope s_law_bad) "_law_deeds" := Or.inl (by decide +kernel)
theorem vis_law_bad__law_ins : Vis (defScope s_law_bad) "_law_ins" := Or.inr <| Or.inl (by decide +kernel)
theorem vis_law_bad__law_last : Vis (defScope s_law_bad) "_law_last" := Or.inl (by decide +kernel)
theorem vis_law_bad__law_plain : Vis (defScope s_law_bad) "_law_plain" := Or.inl (by decide +kernel)
theorem vis_law_bad__law_program_here : Vis (defScope s_law_bad) "_law_program_here" := Or.inl (by decide +kernel)
theorem vis_law_bad__law_some : Vis (defScope s_law_bad) "_law_some" := Or.inl (by decide +kernel)
theorem vis_law_bad__law_sums : Vis (defScope s_law_bad) "_law_sums" := Or.inl (by decide +kernel)
abbrev s_law_once : Stmt := top 37
theorem sc_law_once : FnScope ["_law_script", "_law_program_here", "_law_many", "_law_ins", "_law_deed", "_law_expr", "_law_k", "_law_block_here"] ["_law_script"] (defScope s_law_once) := ⟨rfl, rfl, rfl, by decide +kernel, rfl, by decide +kernel, by decide +kernel⟩
theorem gl_law_once__law_bad : (defScope s_law_once).names.lookup ("_law_bad" : Str) = some NameKind.globalImplicit := by decide +kernel
theorem gl_law_once__law_pick : (defScope s_law_once).names.lookup ("_law_pick" : Str) = some NameKind.globalImplicit := by decide +kernel
theorem gl_law_once__law_program : (defScope s_law_once).names.lookup ("_law_program" : Str) = some NameKind.globalImplicit := by decide +kernel
theorem gl_law_once_is_program : (defScope s_law_once).names.lookup ("is_program" : Str) = some NameKind.globalImplicit := by decide +kernel
theorem gl_law_once_range : (defScope s_law_once).names.lookup ("range" : Str) = some NameKind.globalImplicit := by decide +kernel
theorem gl_law_once_tuple : (defScope s_law_once).names.lookup ("tuple" : Str) = some NameKind.globalImplicit := by decide +kernel
theorem loc_law_once__law_block_here : Loc (defScope s_law_once) "_law_block_here" := Or.inl (by decide +kernel)
theorem loc_law_once__law_deed : Loc (defScope s_law_once) "_law_deed" := Or.inl (by decide +kernel)
theorem loc_law_once__law_expr : Loc (defScope s_law_once) "_law_expr" := Or.inl (by decide +kernel)
theorem loc_law_once__law_ins : Loc (defScope s_law_once) "_law_ins" := Or.inl (by decide +kernel)
theorem loc_law_once__law_k : Loc (defScope s_law_once) "_law_k" := Or.inl (by decide +kernel)
theorem loc_law_once__law_many : Loc (defScope s_law_once) "_law_many" := Or.inl (by decide +kernel)
theorem loc_law_once__law_program_here : Loc (defScope s_law_once) "_law_program_here" := Or.inl (by decide +kernel)
theorem vis_law_once__law_block_here : Vis (defScope s_law_once) "_law_block_here" := Or.inl (by decide +kernel)
theorem vis_law_once__law_deed : Vis (defScope s_law_once) "_law_deed" := Or.inl (by decide +kernel)
theorem vis_law_once__law_expr : Vis (defScope s_law_once) "_law_expr" := Or.inl (by decide +kernel)
theorem vis_law_once__law_ins : Vis (defScope s_law_once) "_law_ins" := Or.inl (by decide +kernel)
theorem vis_law_once__law_many : Vis (defScope s_law_once) "_law_many" := Or.inl (by decide +kernel)
theorem vis_law_once__law_program_here : Vis (defScope s_law_once) "_law_program_here" := Or.inl (by decide +kernel)
theorem vis_law_once__law_script : Vis (defScope s_law_once) "_law_script" := Or.inl (by decide +kernel)
abbrev s_law : Stmt := top 38
theorem sc_law : FnScope ["_law_script", "_law_turn"] ["_law_script"] (defScope s_law) := ⟨rfl, rfl, rfl, by decide +kernel, rfl, by decide +kernel, by decide +kernel⟩
theorem gl_law__law_once : (defScope s_law).names.lookup ("_law_once" : Str) = some NameKind.globalImplicit := by decide +kernel
theorem gl_law_range : (defScope s_law).names.lookup ("range" : Str) = some NameKind.globalImplicit := by decide +kernel
theorem loc_law__law_turn : Loc (defScope s_law) "_law_turn" := Or.inr (by decide +kernel)
theorem vis_law__law_script : Vis (defScope s_law) "_law_script" := Or.inl (by decide +kernel)
/-! ### the readings of loops and comprehensions, folded -/
abbrev ForW (J : It) (g : TG) (tb : TS) (D : Ends) (σ : St) (H : Hp) : Prop := ∃ W : Nat → Nat → St → Hp → Prop, (∃ m, W 0 m σ H) ∧ ∀ i m σ H, W i m σ H →
  (J.stop i H ∧ D.nx σ H) ∨ (J.go i H ∧ ∃ N : St → Hp → Prop, (∀ σ' H', N σ' H' → ∃ m', m' < m ∧ W (i + 1) m' σ' H') ∧ ∀ x H', J.yld i H x H' → g x σ H' fun σ2 H2 => tb { D with nx := N, ct := N, bk := D.nx } σ2 H2)
theorem tFor_tup {K : PySem.W.Frag} {tl : TE} {g : TG} {tb : TS} {D : Ends} {σ : St} {H : Hp} : tFor (iTup K tl) g tb D σ H = tl σ H fun x H1 => ∃ a, x = .ref a ∧ (∃ xs, SqT K H1 a xs) ∧ ForW (Itt K a) g tb D σ H1 := rfl
theorem tFor_list {K : PySem.W.Frag} {tl : TE} {g : TG} {tb : TS} {D : Ends} {σ : St} {H : Hp} : tFor (iList K tl) g tb D σ H = tl σ H fun x H1 => ∃ a, x = .ref a ∧ (∃ xs, SqL K H1 a xs) ∧ ForW (Itl K a) g tb D σ H1 := rfl
theorem tFor_rng1 {ta : TA} {g : TG} {tb : TS} {D : Ends} {σ : St} {H : Hp} : tFor (iRng1 ta) g tb D σ H = ta σ H fun vs H1 => ∃ j : Int, vs = [.int j] ∧ -(2 ^ 62) ≤ j ∧ j < 2 ^ 62 ∧ ForW (Itr 0 j.toNat) g tb D σ H1 := rfl
theorem tComp_tup {K : PySem.W.Frag} {tl : TE} {g : TG} {tt : TT} {te : TE} {mp : List (Option Nat)} {σ : St} {H : Hp} {Q : VK} : tComp (iTup K tl) g tt te mp σ H Q = tl σ H fun x H1 => ∃ a, x = .ref a ∧ (∃ xs, SqT K H1 a xs) ∧ CompW (Itt K a) g tt te Q (subσ mp σ) H1 := rfl
theorem tComp_list {K : PySem.W.Frag} {tl : TE} {g : TG} {tt : TT} {te : TE} {mp : List (Option Nat)} {σ : St} {H : Hp} {Q : VK} : tComp (iList K tl) g tt te mp σ H Q = tl σ H fun x H1 => ∃ a, x = .ref a ∧ (∃ xs, SqL K H1 a xs) ∧ CompW (Itl K a) g tt te Q (subσ mp σ) H1 := rfl
theorem tComp_str {tl : TE} {g : TG} {tt : TT} {te : TE} {mp : List (Option Nat)} {σ : St} {H : Hp} {Q : VK} : tComp (iStr tl) g tt te mp σ H Q = tl σ H fun x H1 => ∃ z, x = .str z ∧ CompW (Its z) g tt te Q (subσ mp σ) H1 := rfl
theorem comp_str {z : Str} {g : TG} {tt : TT} {te : TE} {σ : St} {H : Hp} {Q : VK} (Pv : Nat → List V → St → Hp → Prop) (h0 : Pv 0 [] σ H) (hz : z.cps.size < sizeLine) (hy : ∀ i ys σ H, Pv i ys σ H → ys.length ≤ i)
    (hs : ∀ i ys c σ H, z.cps[i]? = some c → Pv i ys σ H → g (.str ⟨#[c]⟩) σ H fun σ2 H2 => tt σ2 H2 fun b H3 => if b = true then te σ2 H3 (fun v H4 => Pv (i + 1) (ys ++ [v]) σ2 H4) else Pv (i + 1) ys σ2 H3)
    (hd : ∀ ys σ H, Pv z.cps.size ys σ H → ∀ p, H p = none → Q (.ref p) (upd H p (.lst ys))) : CompW (Its z) g tt te Q σ H := by
  refine ⟨fun i m ys σ H => m = z.cps.size - i ∧ i ≤ z.cps.size ∧ Pv i ys σ H, ⟨z.cps.size, by simp, Nat.zero_le _, h0⟩, ?_⟩
  rintro i m ys σ H ⟨rfl, hi, p⟩
  have hyl := hy i ys σ H p
  by_cases hlt : i < z.cps.size
  · refine .inr ⟨hlt, by omega, Pv (i + 1), fun ys' σ' H' p' => ⟨z.cps.size - (i + 1), by omega, rfl, hlt, p'⟩, fun x H' y => ?_⟩
    obtain ⟨e, c, hc, y⟩ := y
    subst e y
    exact hs i ys c σ _ hc p
  · have e : i = z.cps.size := by omega
    subst e
    exact .inl ⟨rfl, by omega, hd ys σ H p⟩
/-! ### programs as data -/
inductive Wd where
  | add | sub | mul | quo | less | same | min | max
  deriving DecidableEq
def Wd.str : Wd → Str
  | .add => "add" | .sub => "sub" | .mul => "mul" | .quo => "quo" | .less => "less" | .same => "same" | .min => "min" | .max => "max"
inductive T where
  | num (i : Int) | nm (x : Str) | op (w : Wd) (a b : T)
def T.enc : T → Dm
  | .num i => .tup [.str "num", .int i]
  | .nm x => .tup [.str "name", .str x]
  | .op w a b => .tup [.str w.str, a.enc, b.enc]
/-- so deep at most, of these names, its numbers in the wide room -/
def T.ok (g : List Str) : Nat → T → Prop
  | 0, _ => False
  | _ + 1, .num i => -32768 ≤ i ∧ i ≤ 32767
  | _ + 1, .nm x => x ∈ g
  | n + 1, .op _ a b => T.ok g n a ∧ T.ok g n b
theorem T.ok.mono {g g' : List Str} (hg : ∀ x ∈ g, x ∈ g') : ∀ {n m : Nat} {t : T}, T.ok g n t → n ≤ m → T.ok g' m t
  | 0, _, _, h, _ => h.elim
  | n + 1, 0, _, _, h => absurd h (by omega)
  | n + 1, m + 1, .num i, h, _ => h
  | n + 1, m + 1, .nm x, h, _ => hg x h
  | n + 1, m + 1, .op w a b, h, hm => ⟨T.ok.mono hg h.1 (by omega), T.ok.mono hg h.2 (by omega)⟩
inductive D where
  | set (x : Str) (t : T) | ite (t : T) (b c : List D) | whl (t : T) (m : Int) (b : List D)
mutual
def D.enc : D → Dm
  | .set x t => .tup [.str "set", .str x, t.enc]
  | .ite t b c => .tup [.str "if", t.enc, .tup (encB b), .tup (encB c)]
  | .whl t m b => .tup [.str "while", t.enc, .int m, .tup (encB b)]
def encB : List D → List Dm
  | [] => []
  | d :: r => d.enc :: encB r
end
theorem encB_append : ∀ (b c : List D), encB (b ++ c) = encB b ++ encB c
  | [], c => by simp [encB]
  | d :: b, c => by rw [List.cons_append, encB, encB, encB_append b c, List.cons_append]
theorem encB_length : ∀ b : List D, (encB b).length = b.length
  | [] => by simp [encB]
  | d :: b => by rw [encB, List.length_cons, List.length_cons, encB_length b]
def pool : List Str := ["a", "b", "c", "dd"]
/-- blocks so deep at most -/
def okB : Nat → List D → Prop
  | 0, _ => False
  | n + 1, b => b.length ≤ 6 ∧ ∀ d ∈ b, match d with
    | .set x t => x ∈ pool ∧ t.ok pool 5
    | .ite t b c => t.ok pool 5 ∧ okB n b ∧ okB n c
    | .whl t m b => t.ok pool 5 ∧ 0 ≤ m ∧ m ≤ 20 ∧ okB n b
abbrev okD (n : Nat) (d : D) : Prop := match d with
  | .set x t => x ∈ pool ∧ t.ok pool 5
  | .ite t b c => t.ok pool 5 ∧ okB n b ∧ okB n c
  | .whl t m b => t.ok pool 5 ∧ 0 ≤ m ∧ m ≤ 20 ∧ okB n b
/-! what is known, as the program tells it -/
def T.knows (p : List Str) : T → Bool
  | .num _ => true
  | .nm x => p.contains x
  | .op _ a b => a.knows p && b.knows p
mutual
def kbD (p : List Str) : D → Option (List Str)
  | .set x t => if t.knows p then some (p ++ [x]) else none
  | .ite t b c => if t.knows p then (match kbB p b, kbB p c with | some q, some r => some (q.filter fun x => r.contains x) | _, _ => none) else none
  | .whl t _ b => if t.knows p then (match kbB p b with | some _ => some p | none => none) else none
def kbB (p : List Str) : List D → Option (List Str)
  | [] => some p
  | d :: r => match kbD p d with
    | some q => kbB q r
    | none => none
end
theorem kbB_append (p : List Str) : ∀ (b c : List D), kbB p (b ++ c) = match kbB p b with | some q => kbB q c | none => none
  | [], c => by simp [kbB]
  | d :: b, c => by
    rw [List.cons_append, kbB, kbB]
    cases kbD p d with
    | none => rfl
    | some q => exact kbB_append q b c
def Sub (g p : List Str) : Prop := ∀ x ∈ g, x ∈ p
theorem Sub.refl (g : List Str) : Sub g g := fun _ h => h
theorem Sub.trans {a b c : List Str} (h : Sub a b) (k : Sub b c) : Sub a c := fun x hx => k x (h x hx)
theorem T.ok.knows {g p : List Str} (hg : Sub g p) : ∀ {n : Nat} {t : T}, T.ok g n t → t.knows p = true
  | 0, _, h => h.elim
  | n + 1, .num i, _ => rfl
  | n + 1, .nm x, h => by simpa [T.knows] using hg x h
  | n + 1, .op w a b, h => by simp [T.knows, T.ok.knows hg h.1, T.ok.knows hg h.2]
/-- with g known ahead, a block is gone through, and g' is known behind -/
def Knows (g : List Str) (b : List D) (g' : List Str) : Prop := ∀ p, Sub g p → ∃ q, kbB p b = some q ∧ Sub g' q ∧ Sub p q
def KnowsD (g : List Str) (d : D) (g' : List Str) : Prop := ∀ p, Sub g p → ∃ q, kbD p d = some q ∧ Sub g' q ∧ Sub p q
theorem Knows.nil (g : List Str) : Knows g [] g := fun p h => ⟨p, by simp [kbB], h, Sub.refl p⟩
theorem Knows.snoc {g g1 g2 : List Str} {b : List D} {d : D} (h : Knows g b g1) (k : KnowsD g1 d g2) : Knows g (b ++ [d]) g2 := fun p hp => by
  obtain ⟨q, e, s1, s2⟩ := h p hp
  obtain ⟨r, e2, s3, s4⟩ := k q s1
  refine ⟨r, ?_, s3, s2.trans s4⟩
  rw [kbB_append, e]
  simp [kbB, e2]
theorem KnowsD.set {g g' : List Str} {x : Str} {t : T} {n : Nat} (ht : t.ok g n) (hs : ∀ y ∈ g', y ∈ g ∨ y = x) : KnowsD g (.set x t) g' := fun p hp => by
  refine ⟨p ++ [x], by simp [kbD, ht.knows hp], fun y hy => ?_, fun y hy => List.mem_append_left _ hy⟩
  rcases hs y hy with z | z
  · exact List.mem_append_left _ (hp y z)
  · exact List.mem_append_right _ (by simp [z])
theorem KnowsD.ite {g m y g' : List Str} {t : T} {b c : List D} {n : Nat} (ht : t.ok g n) (hb : Knows g b m) (hc : Knows g c y) (hs : ∀ x ∈ g', x ∈ m ∧ x ∈ y) : KnowsD g (.ite t b c) g' := fun p hp => by
  obtain ⟨q, e, s1, s2⟩ := hb p hp
  obtain ⟨r, e2, s3, s4⟩ := hc p hp
  refine ⟨q.filter fun x => r.contains x, by simp [kbD, ht.knows hp, e, e2], fun x hx => ?_, fun x hx => ?_⟩
  · exact List.mem_filter.mpr ⟨s1 x (hs x hx).1, by simpa using s3 x (hs x hx).2⟩
  · exact List.mem_filter.mpr ⟨s2 x hx, by simpa using s4 x hx⟩
theorem KnowsD.whl {g g1 : List Str} {t : T} {m : Int} {b : List D} {n : Nat} (ht : t.ok g n) (hb : Knows g b g1) : KnowsD g (.whl t m b) g := fun p hp => by
  obtain ⟨q, e, s1, s2⟩ := hb p hp
  exact ⟨p, by simp [kbD, ht.knows hp, e], hp, Sub.refl p⟩
theorem Knows.sub {g g1 : List Str} {b : List D} (h : Knows g b g1) : Knows g b g := fun p hp => by
  obtain ⟨q, e, s1, s2⟩ := h p hp
  exact ⟨q, e, hp.trans s2, s2⟩
theorem Knows.weak {g g1 g2 : List Str} {b : List D} (h : Knows g b g1) (k : Sub g2 g1) : Knows g b g2 := fun p hp => by
  obtain ⟨q, e, s1, s2⟩ := h p hp
  exact ⟨q, e, k.trans s1, s2⟩
/-! ### small facts for the readings -/
theorem atI_lt {xs : List V} {k : Int} (h0 : 0 ≤ k) (h : k < (xs.length : Int)) : ∃ v, xs[k.toNat]? = some v ∧ atI xs k = some v := by
  have hk : k.toNat < xs.length := by omega
  have ek : k = ((k.toNat : Nat) : Int) := by omega
  refine ⟨xs[k.toNat], List.getElem?_eq_getElem hk, ?_⟩
  have q : atI xs ((k.toNat : Nat) : Int) = some xs[k.toNat] := atI_nat (List.getElem?_eq_getElem hk)
  rw [← ek] at q
  exact q
theorem atI_map {α : Type} {c : α → V} {ns : List α} {k : Int} (h0 : 0 ≤ k) (h : k < (ns.length : Int)) : ∃ v ∈ ns, atI (ns.map c) k = some (c v) := by
  obtain ⟨v, e1, e2⟩ := atI_lt (xs := ns.map c) h0 (by rw [List.length_map]; exact h)
  rw [List.getElem?_map] at e1
  cases e : ns[k.toNat]? with
  | none => rw [e] at e1; cases e1
  | some i => rw [e] at e1; cases e1; exact ⟨i, List.mem_of_getElem? e, e2⟩
theorem okInts (ns : List Int) : (ns.map V.int).all okV = true := by simp [okV]
theorem okStrs {g : List Str} (h : Sub g pool) : (g.map V.str).all okV = true := by
  simp only [List.all_map, List.all_eq_true]
  intro x hx
  have := h x hx
  simp only [pool, List.mem_cons, List.not_mem_nil, or_false] at this
  rcases this with rfl | rfl | rfl | rfl <;> decide +kernel
theorem zl (n : Nat) (h : n ≤ 1000) : n ≤ sizeLine := Nat.le_of_lt (small1000 h)
theorem lenL {K : PySem.W.Frag} {H : Hp} {a : Addr} {xs : List V} (h : SqL K H a xs) : LenOf K (.ref a) H xs.length := .inl ⟨a, xs, rfl, .inl h, rfl⟩
theorem lenT {K : PySem.W.Frag} {H : Hp} {a : Addr} {xs : List V} (h : SqT K H a xs) : LenOf K (.ref a) H xs.length := .inl ⟨a, xs, rfl, .inr h, rfl⟩
theorem eqNil {K : PySem.W.Frag} {H : Hp} {a p : Addr} {xs : List V} (h : SqL K H a xs) (ho : xs.all okV = true) (hp : SqL K H p []) : EqOf K (.ref a) (.ref p) H xs.isEmpty := .inr (.inl ⟨a, p, xs, [], rfl, rfl, h, hp, ho, rfl, (eqL_nil xs).symm⟩)
theorem cxOf_K (CX : CXT) (P : Program) (w : World) (K : PySem.W.Frag) (mg : Str → Option Value) (base : Heap) (N : List Str) (qual : Str) (scope : Scope) (f : Addr) (cd : Value) (A : Around) (outer : List Env) (s : Shared) (H : Hp) (E : XK) : (cxOf CX P w K mg base N qual scope f cd A outer s H E).K = K := rfl
theorem cxOf_nox_K (CX : CXT) (P : Program) (w : World) (K : PySem.W.Frag) (mg : Str → Option Value) (base : Heap) (N : List Str) (qual : Str) (scope : Scope) (f : Addr) (cd : Value) (A : Around) (outer : List Env) (s : Shared) (H : Hp) (E : XK) : (cxOf CX P w K mg base N qual scope f cd A outer s H E).nox.K = K := rfl
theorem cxComp_K (X : Cx) (N' : List Str) (scope : Scope) (cl : List (Str × Addr)) (C : Addr) (s₀ : Shared) (H₀ : Hp) (ex : List Addr) : (cxComp X N' scope cl C s₀ H₀ ex).K = X.K := rfl
theorem tFor_enum {K : PySem.W.Frag} {ta : TA} {g : TG} {tb : TS} {D : Ends} {σ : St} {H : Hp} : tFor (iEnum K ta) g tb D σ H = ta σ H fun vs H1 => ∃ a, vs = [.ref a] ∧ (∃ xs, SqL K H1 a xs) ∧ ForW (Ite K a) g tb D σ H1 := rfl
theorem tFor_zip {K : PySem.W.Frag} {ta : TA} {g : TG} {tb : TS} {D : Ends} {σ : St} {H : Hp} : tFor (iZip K ta) g tb D σ H = ta σ H fun vs H1 => ∃ a b, vs = [.ref a, .ref b] ∧ (∃ xs, SqL K H1 a xs) ∧ (∃ ys, SqL K H1 b ys) ∧ ForW (Itz K a b) g tb D σ H1 := rfl
theorem tFor_rng2 {ta : TA} {g : TG} {tb : TS} {D : Ends} {σ : St} {H : Hp} : tFor (iRng2 ta) g tb D σ H = ta σ H fun vs H1 => ∃ i j : Int, vs = [.int i, .int j] ∧ (-(2 ^ 62) ≤ i ∧ i < 2 ^ 62 ∧ -(2 ^ 62) ≤ j ∧ j < 2 ^ 62) ∧ ForW (Itr i (j - i).toNat) g tb D σ H1 := rfl
theorem tComp_seq {K : PySem.W.Frag} {tl : TE} {g : TG} {tt : TT} {te : TE} {mp : List (Option Nat)} {σ : St} {H : Hp} {Q : VK} : tComp (iSeq K tl) g tt te mp σ H Q = tl σ H fun x H1 => ∃ a, x = .ref a ∧ (((∃ xs, SqL K H1 a xs) ∧ CompW (Itl K a) g tt te Q (subσ mp σ) H1) ∨ ((∃ xs, SqT K H1 a xs) ∧ CompW (Itt K a) g tt te Q (subσ mp σ) H1)) := rfl
theorem cxOf_prog (CX : CXT) (P : Program) (w : World) (K : PySem.W.Frag) (mg : Str → Option Value) (base : Heap) (N : List Str) (qual : Str) (scope : Scope) (f : Addr) (cd : Value) (A : Around) (outer : List Env) (s : Shared) (H : Hp) (E : XK) : (cxOf CX P w K mg base N qual scope f cd A outer s H E).prog = P := rfl
theorem cxOf_w (CX : CXT) (P : Program) (w : World) (K : PySem.W.Frag) (mg : Str → Option Value) (base : Heap) (N : List Str) (qual : Str) (scope : Scope) (f : Addr) (cd : Value) (A : Around) (outer : List Env) (s : Shared) (H : Hp) (E : XK) : (cxOf CX P w K mg base N qual scope f cd A outer s H E).w = w := rfl
theorem cxOf_nox_prog (CX : CXT) (P : Program) (w : World) (K : PySem.W.Frag) (mg : Str → Option Value) (base : Heap) (N : List Str) (qual : Str) (scope : Scope) (f : Addr) (cd : Value) (A : Around) (outer : List Env) (s : Shared) (H : Hp) (E : XK) : (cxOf CX P w K mg base N qual scope f cd A outer s H E).nox.prog = P := rfl
theorem cxOf_nox_w (CX : CXT) (P : Program) (w : World) (K : PySem.W.Frag) (mg : Str → Option Value) (base : Heap) (N : List Str) (qual : Str) (scope : Scope) (f : Addr) (cd : Value) (A : Around) (outer : List Env) (s : Shared) (H : Hp) (E : XK) : (cxOf CX P w K mg base N qual scope f cd A outer s H E).nox.w = w := rfl
theorem cxOf_mg (CX : CXT) (P : Program) (w : World) (K : PySem.W.Frag) (mg : Str → Option Value) (base : Heap) (N : List Str) (qual : Str) (scope : Scope) (f : Addr) (cd : Value) (A : Around) (outer : List Env) (s : Shared) (H : Hp) (E : XK) : (cxOf CX P w K mg base N qual scope f cd A outer s H E).mg = mg := rfl
theorem cxOf_nox_mg (CX : CXT) (P : Program) (w : World) (K : PySem.W.Frag) (mg : Str → Option Value) (base : Heap) (N : List Str) (qual : Str) (scope : Scope) (f : Addr) (cd : Value) (A : Around) (outer : List Env) (s : Shared) (H : Hp) (E : XK) : (cxOf CX P w K mg base N qual scope f cd A outer s H E).nox.mg = mg := rfl
theorem cxOf_base (CX : CXT) (P : Program) (w : World) (K : PySem.W.Frag) (mg : Str → Option Value) (base : Heap) (N : List Str) (qual : Str) (scope : Scope) (f : Addr) (cd : Value) (A : Around) (outer : List Env) (s : Shared) (H : Hp) (E : XK) : (cxOf CX P w K mg base N qual scope f cd A outer s H E).base = base := rfl
theorem cxOf_nox_base (CX : CXT) (P : Program) (w : World) (K : PySem.W.Frag) (mg : Str → Option Value) (base : Heap) (N : List Str) (qual : Str) (scope : Scope) (f : Addr) (cd : Value) (A : Around) (outer : List Env) (s : Shared) (H : Hp) (E : XK) : (cxOf CX P w K mg base N qual scope f cd A outer s H E).nox.base = base := rfl
theorem cxComp_prog (X : Cx) (N' : List Str) (scope : Scope) (cl : List (Str × Addr)) (C : Addr) (s₀ : Shared) (H₀ : Hp) (ex : List Addr) : (cxComp X N' scope cl C s₀ H₀ ex).prog = X.prog := rfl
theorem cxComp_w (X : Cx) (N' : List Str) (scope : Scope) (cl : List (Str × Addr)) (C : Addr) (s₀ : Shared) (H₀ : Hp) (ex : List Addr) : (cxComp X N' scope cl C s₀ H₀ ex).w = X.w := rfl
theorem cxComp_mg (X : Cx) (N' : List Str) (scope : Scope) (cl : List (Str × Addr)) (C : Addr) (s₀ : Shared) (H₀ : Hp) (ex : List Addr) : (cxComp X N' scope cl C s₀ H₀ ex).mg = X.mg := rfl
theorem cxComp_base (X : Cx) (N' : List Str) (scope : Scope) (cl : List (Str × Addr)) (C : Addr) (s₀ : Shared) (H₀ : Hp) (ex : List Addr) : (cxComp X N' scope cl C s₀ H₀ ex).base = X.base := rfl
theorem tComp_zipT {K : PySem.W.Frag} {ta : TA} {g : TG} {tt : TT} {te : TE} {mp : List (Option Nat)} {σ : St} {H : Hp} {Q : VK} : tComp (iZipT K ta) g tt te mp σ H Q = ta σ H fun vs H1 => ∃ a b, vs = [.ref a, .ref b] ∧ (∃ xs, SqT K H1 a xs) ∧ (∃ ys, SqT K H1 b ys) ∧ CompW (Itzt K a b) g tt te Q (subσ mp σ) H1 := rfl
local macro_rules | `(tactic| walk_at "rd") => `(tactic| simp only [tSeq, tIfS, tTest, tOp, tVar, tC, tAsg, gName, gTup, gCons, gNil, tRet, tRetN, tDrop, tNext, tCB, tCons, tNil, tCall, tUn, rU, rI0, rI, tAnd, tOr, tNot, tB, tAndV, tOrV, tNotV, tIf, tIfT, tKGet, tChain, tDGet, tDGet1, sDPut, tDNewK, tDisp, tPairs, tCont, tSl, tNoPart, tPart, rSlT, tChain3, qSortS, qEqDL, qNeDL, tFor_enum, tFor_zip, tFor_rng2, tComp_seq, qSetI, qSortSet, cxOf_prog, cxOf_w, cxOf_nox_prog, cxOf_nox_w, cxOf_mg, cxOf_base, cxOf_nox_mg, cxOf_nox_base, cxComp_prog, cxComp_w, cxComp_mg, cxComp_base, tComp_zipT, tCallL, rSlA, rSlL, tDX, tDXs, tTup, tLst, tBM,
  qEq, qNe, qIn, qNotIn, qIsN, qNotN, qIsB, qNotB, qLen, qInst, qEqD, qNeD, qMinL, qMaxL, qSortI, rIx, rIxL, rIxT, rIxS, rCat, rCatT2, rRep, rRepT, rLeS, rLtS, rAppend, rExtend, tNever, tBreak, tYes,
  tFor_tup, tFor_list, tFor_rng1, tComp_tup, tComp_list, tComp_str, L2.start, cxOf_K, cxOf_nox_K, cxComp_K, List.map_cons, List.map_nil, List.length_cons, List.length_nil, List.replicate_succ, List.replicate_zero, Nat.reduceAdd, Nat.reduceSub, Nat.zero_add, Nat.add_zero, Nat.sub_zero, Nat.sub_self, Nat.add_sub_cancel,
  List.getElem?_cons_zero, List.getElem?_cons_succ, List.set_cons_zero, List.set_cons_succ, List.cons_append, List.nil_append, List.append_nil, List.cons.injEq, Option.some.injEq, V.int.injEq, V.ref.injEq, V.str.injEq, V.bl.injEq, V.ty.injEq,
  reduceCtorEq, false_and, and_false, and_true, true_and, exists_false, exists_const, false_or, or_false, exists_eq_left, exists_eq_left', exists_eq_right, exists_eq_right', exists_and_left, decide_eq_true_eq, Bool.not_eq_true', Bool.decide_eq_true, exists_eq, true_or, or_true, Bool.false_eq_true, if_true, if_false, Bool.true_eq_false, Bool.not_true, Bool.not_false, decide_true, decide_false, List.isEmpty_cons, List.isEmpty_nil, Bool.true_and, Bool.false_and, bne_self_eq_false, beq_self_eq_true])
section
variable {P : Program} {w : World} {K : PySem.W.Frag} {mg : Str → Option Value} {base : Heap} {f : Addr} {fd : FuncData}
def spCell (K : PySem.W.Frag) : Sp := fun vs H Q _ => ∃ (a : Addr) (ns : List Int) (k : Int), vs = [.ref a, .int k] ∧ SqL K H a (ns.map V.int) ∧ 0 ≤ k ∧ ∀ (i : Int) (H' : Hp), Same H H' → Q (.int i) H'
theorem ok_cell (F : Fun K "_law_cell" "_law_cell" s_law_cell f fd) (b_len : mg "len" = none) : FnOk P w K mg base CX0 1 f fd ["_law_script", "_law_k"] (spCell K) := by
  refine F.ok sc_law_cell (fun vs H Q E h => ?_) (fun cdv A outer s H vs Q E hr h => ?_)
  · obtain ⟨a, ns, k, rfl, _⟩ := h
    rfl
  obtain ⟨a, ns, k, rfl, hS, h0, q⟩ := h
  refine ⟨_, (pss_cons (ps_if (pt_cmpR op_lt (pe_var (i := 1) rfl vis_law_cell__law_k db__law_k cd__law_k) (pe_cB gLen gl_law_cell_len b_len bt_len (pa_c (pe_var (i := 0) rfl vis_law_cell__law_script db__law_script cd__law_script) pa_nil) nn_len db_len) (nomark _)) (pss_one (ps_ret (pe_ix ix_list (pe_var (i := 0) rfl vis_law_cell__law_script db__law_script cd__law_script) (pe_var (i := 1) rfl vis_law_cell__law_k db__law_k cd__law_k) (fun _ _ => rfl)))) pss_nil)
  (pss_cons (ps_if (pt_cmpR (gEq hr.units) (pe_var (i := 0) rfl vis_law_cell__law_script db__law_script cd__law_script) (pe_lst pa_nil) (nomark _)) (pss_one (ps_ret pe_int)) pss_nil)
  (pss_one (ps_ret (pe_op op_add (pe_op op_mul (pe_ix ix_list (pe_var (i := 0) rfl vis_law_cell__law_script db__law_script cd__law_script) (pe_op op_mod (pe_var (i := 1) rfl vis_law_cell__law_k db__law_k cd__law_k) (pe_cB gLen gl_law_cell_len b_len bt_len (pa_c (pe_var (i := 0) rfl vis_law_cell__law_script db__law_script cd__law_script) pa_nil) nn_len db_len)) (fun _ _ => rfl)) pe_int) (pe_var (i := 1) rfl vis_law_cell__law_k db__law_k cd__law_k)))))), ?_⟩
  walk_at "rd"
  refine ⟨_, lenL hS, ?_⟩
  rw [List.length_map]
  split
  · rename_i hk
    obtain ⟨i, _, e⟩ := atI_map (c := V.int) h0 hk
    exact ⟨_, hS, _, e, q i H (Same.refl _)⟩
  · refine ⟨Nat.zero_le _, fun p hp => ?_⟩
    have s1 := same_new hp (.lst [])
    refine ⟨_, eqNil (s1.seq hS) (okInts ns) (SqL.of upd_same), ?_⟩
    split
    · exact q 0 _ s1
    · rename_i hne
      have hl : 0 < (ns.length : Int) := by
        cases ns with
        | nil => exact absurd rfl hne
        | cons a r => simp only [List.length_cons]; omega
      obtain ⟨i, _, e⟩ := atI_map (c := V.int) (ns := ns) (k := k % (ns.length : Int)) (Int.emod_nonneg _ (by omega)) (Int.emod_lt_of_pos _ hl)
      exact ⟨_, lenL (s1.seq hS), by rw [List.length_map]; exact hl, _, s1.seq hS, _, by rw [List.length_map]; exact e, i, rfl, .inr ⟨by decide, by decide⟩, q _ _ s1⟩
def spPick (K : PySem.W.Frag) : Sp := fun vs H Q _ => ∃ (a : Addr) (ns : List Int) (k m : Int), vs = [.ref a, .int k, .int m] ∧ SqL K H a (ns.map V.int) ∧ 0 ≤ k ∧ 0 < m ∧ ∀ (i : Int) (H' : Hp), 0 ≤ i → i < m → Same H H' → Q (.int i) H'
theorem ok_pick (F : Fun K "_law_pick" "_law_pick" s_law_pick f fd) (c_law_cell : Callee P w K mg base "_law_cell" ["_law_script", "_law_k"] 1 (spCell K)) : FnOk P w K mg base CX0 2 f fd ["_law_script", "_law_k", "_law_many"] (spPick K) := by
  refine F.ok sc_law_pick (fun vs H Q E h => ?_) (fun cdv A outer s H vs Q E hr h => ?_)
  · obtain ⟨a, ns, k, m, rfl, _⟩ := h
    rfl
  obtain ⟨a, ns, k, m, rfl, hS, h0, hm, q⟩ := h
  refine ⟨_, (pss_cons (ps_set (i := 3) sc_law_pick.nd rfl loc_law_pick__law_drawn (pe_op op_mod (pe_op op_mul (pe_op op_add (pe_cc c_law_cell hr (by omega) (pa_c (pe_var (i := 0) rfl vis_law_pick__law_script db__law_script cd__law_script) (pa_c (pe_var (i := 1) rfl vis_law_pick__law_k db__law_k cd__law_k) pa_nil)) gl_law_pick__law_cell db__law_cell) (pe_op op_mul pe_int (pe_op op_add (pe_var (i := 1) rfl vis_law_pick__law_k db__law_k cd__law_k) pe_int))) pe_int) pe_int) (swaps_plain rfl))
  (pss_one (ps_ret (pe_op op_mod (pe_op op_mod (pe_op op_add (pe_op op_mul (pe_var (i := 3) rfl vis_law_pick__law_drawn db__law_drawn cd__law_drawn) (pe_var (i := 3) rfl vis_law_pick__law_drawn db__law_drawn cd__law_drawn)) (pe_op op_fdiv (pe_var (i := 3) rfl vis_law_pick__law_drawn db__law_drawn cd__law_drawn) pe_int)) pe_int) (pe_var (i := 2) rfl vis_law_pick__law_many db__law_many cd__law_many))))), ?_⟩
  walk_at "rd"
  refine ⟨a, ns, k, rfl, hS, h0, fun i H' s1 => ?_⟩
  walk_at "rd"
  refine ⟨.inl ⟨by decide, by decide⟩, .inr ⟨by decide, by decide⟩, by decide, ?_⟩
  have e1 : 0 ≤ (i + 6151 * (k + 1)) * 40692 % 2147483399 := Int.emod_nonneg _ (by decide)
  have e2 : (i + 6151 * (k + 1)) * 40692 % 2147483399 < 2147483399 := Int.emod_lt_of_pos _ (by decide)
  refine ⟨.inl ⟨by omega, by omega⟩, ⟨by decide, by decide⟩, by decide, hm, q _ _ (Int.emod_nonneg _ (by omega)) (Int.emod_lt_of_pos _ hm) s1⟩
/-- a def of the text, for the callers -/
structure Df (K : PySem.W.Frag) (mg : Str → Option Value) (x : Str) (st : Stmt) (ps : List Str) (f : Addr) (fd : FuncData) : Prop where
  F : Fun K x x st f fd
  m : mg x = some (.ref f)
  b : Binds K fd ps []
theorem Df.callee {x : Str} {st : Stmt} {ps : List Str} {k : Nat} {sp : Sp} (d : Df K mg x st ps f fd) (h : FnOk P w K mg base CX0 k f fd ps sp) : Callee P w K mg base x ps k sp := ⟨f, fd, h, d.m, d.F.kp, d.b⟩
theorem inV_strs (x : Str) : ∀ g : List Str, inV (.str x) (g.map V.str) = g.contains x
  | [] => rfl
  | y :: g => by
    have ih := inV_strs x g
    unfold inV at ih ⊢
    rw [List.map_cons, List.any_cons, ih, List.contains_cons]
    have e : eqV (.str y) (.str x) = (x == y) := by
      show (y == x) = (x == y)
      rw [Bool.eq_iff_iff, beq_iff_eq, beq_iff_eq]
      exact eq_comm
    rw [e]
theorem flat_strs (g : List Str) : (g.map V.str).all flatV = true := by simp [flatV]
theorem same_upd {H H' : Hp} {p : Addr} {o : HO} (s : Same H H') (h : H p = none) : Same H (upd H' p o) := fun b u q => by rw [upd_ne (ne_of_none q h)]; exact s b u q
end
end SR


set_option Elab.async false
set_option linter.all false
set_option maxRecDepth 100000
set_option maxHeartbeats 0
namespace SR
open PySem L2
local macro_rules | `(tactic| walk_at "rd") => `(tactic| simp only [tSeq, tIfS, tTest, tOp, tVar, tC, tAsg, gName, gTup, gCons, gNil, tRet, tRetN, tDrop, tNext, tCB, tCons, tNil, tCall, tUn, rU, rI0, rI, tAnd, tOr, tNot, tB, tAndV, tOrV, tNotV, tIf, tIfT, tKGet, tChain, tDGet, tDGet1, sDPut, tDNewK, tDisp, tPairs, tCont, tSl, tNoPart, tPart, rSlT, tChain3, qSortS, qEqDL, qNeDL, tFor_enum, tFor_zip, tFor_rng2, tComp_seq, qSetI, qSortSet, cxOf_prog, cxOf_w, cxOf_nox_prog, cxOf_nox_w, cxOf_mg, cxOf_base, cxOf_nox_mg, cxOf_nox_base, cxComp_prog, cxComp_w, cxComp_mg, cxComp_base, tComp_zipT, tCallL, rSlA, rSlL, tDX, tDXs, tTup, tLst, tBM,
  qEq, qNe, qIn, qNotIn, qIsN, qNotN, qIsB, qNotB, qLen, qInst, qEqD, qNeD, qMinL, qMaxL, qSortI, rIx, rIxL, rIxT, rIxS, rCat, rCatT2, rRep, rRepT, rLeS, rLtS, rAppend, rExtend, tNever, tBreak, tYes,
  tFor_tup, tFor_list, tFor_rng1, tComp_tup, tComp_list, tComp_str, L2.start, cxOf_K, cxOf_nox_K, cxComp_K, List.map_cons, List.map_nil, List.length_cons, List.length_nil, List.replicate_succ, List.replicate_zero, Nat.reduceAdd, Nat.reduceSub, Nat.zero_add, Nat.add_zero, Nat.sub_zero, Nat.sub_self, Nat.add_sub_cancel,
  List.getElem?_cons_zero, List.getElem?_cons_succ, List.set_cons_zero, List.set_cons_succ, List.cons_append, List.nil_append, List.append_nil, List.cons.injEq, Option.some.injEq, V.int.injEq, V.ref.injEq, V.str.injEq, V.bl.injEq, V.ty.injEq,
  reduceCtorEq, false_and, and_false, and_true, true_and, exists_false, exists_const, false_or, or_false, exists_eq_left, exists_eq_left', exists_eq_right, exists_eq_right', exists_and_left, decide_eq_true_eq, Bool.not_eq_true', Bool.decide_eq_true, exists_eq, true_or, or_true, Bool.false_eq_true, if_true, if_false, Bool.true_eq_false, Bool.not_true, Bool.not_false, decide_true, decide_false, List.isEmpty_cons, List.isEmpty_nil, Bool.true_and, Bool.false_and, bne_self_eq_false, beq_self_eq_true])
section
variable {P : Program} {w : World} {K : PySem.W.Frag} {mg : Str → Option Value} {base : Heap} {f : Addr} {fd : FuncData}
/-- a sum of known names and numbers, so deep at most -/
def spSum (K : PySem.W.Frag) (n : Nat) : Sp := fun vs H Q _ => ∃ (a : Addr) (ns : List Int) (k : Int) (kn : Addr) (g : List Str) (d : Nat), vs = [.ref a, .int k, .ref kn, .int d] ∧ SqL K H a (ns.map V.int) ∧ 0 ≤ k ∧ H kn = some (.lst (g.map V.str)) ∧ Sub g pool ∧ 1 ≤ d ∧ d ≤ n ∧
  ∀ (r : V) (H' : Hp) (t : T), Same H H' → Dt H' r t.enc → t.ok g d → Q r H'
theorem ok_sum {n : Nat} (F : Fun K "_law_sum" "_law_sum" s_law_sum f fd) (b_len : mg "len" = none) (c_law_pick : Callee P w K mg base "_law_pick" ["_law_script", "_law_k", "_law_many"] 2 (spPick K))
    (c_law_sum : Callee P w K mg base "_law_sum" ["_law_script", "_law_at", "_law_known", "_law_deep"] (n + 3) (spSum K n)) : FnOk P w K mg base CX0 (n + 4) f fd ["_law_script", "_law_at", "_law_known", "_law_deep"] (spSum K (n + 1)) := by
  refine F.ok sc_law_sum (fun vs H Q E h => ?_) (fun cdv A outer s H vs Q E hr h => ?_)
  · obtain ⟨a, ns, k, kn, g, d, rfl, _⟩ := h
    rfl
  obtain ⟨a, ns, k, kn, g, d, rfl, hS, h0, hk, hg, hd1, hd2, q⟩ := h
  refine ⟨_, (pss_cons (ps_set (i := 4) sc_law_sum.nd rfl loc_law_sum__law_way (pe_cc c_law_pick hr (by omega) (pa_c (pe_var (i := 0) rfl vis_law_sum__law_script db__law_script cd__law_script) (pa_c (pe_var (i := 1) rfl vis_law_sum__law_at db__law_at cd__law_at) (pa_c pe_int pa_nil))) gl_law_sum__law_pick db__law_pick) (swaps_plain rfl))
  (pss_cons (ps_if (PW.pt (pw_or (pt_cmpR op_eqI (pe_var (i := 3) rfl vis_law_sum__law_deep db__law_deep cd__law_deep) pe_int (nomark _)) (pw_or1 (pt_cmpR op_lt (pe_var (i := 4) rfl vis_law_sum__law_way db__law_way cd__law_way) pe_int (nomark _))))) (pss_cons (ps_if (PW.pt (pw_and (pt_cmpR (gNe hr.units) (pe_var (i := 2) rfl vis_law_sum__law_known db__law_known cd__law_known) (pe_lst pa_nil) (nomark _)) (pw_and1 (pt_cmpR op_gt (pe_cc c_law_pick hr (by omega) (pa_c (pe_var (i := 0) rfl vis_law_sum__law_script db__law_script cd__law_script) (pa_c (pe_op op_add (pe_var (i := 1) rfl vis_law_sum__law_at db__law_at cd__law_at) pe_int) (pa_c pe_int pa_nil))) gl_law_sum__law_pick db__law_pick) pe_int (nomark _))))) (pss_one (ps_ret (pe_tup (pa_c pe_str (pa_c (pe_ix ix_list (pe_var (i := 2) rfl vis_law_sum__law_known db__law_known cd__law_known) (pe_cc c_law_pick hr (by omega) (pa_c (pe_var (i := 0) rfl vis_law_sum__law_script db__law_script cd__law_script) (pa_c (pe_op op_add (pe_var (i := 1) rfl vis_law_sum__law_at db__law_at cd__law_at) pe_int) (pa_c (pe_cB gLen gl_law_sum_len b_len bt_len (pa_c (pe_var (i := 2) rfl vis_law_sum__law_known db__law_known cd__law_known) pa_nil) nn_len db_len) pa_nil))) gl_law_sum__law_pick db__law_pick) (fun _ _ => rfl)) pa_nil))))) pss_nil)
  (pss_one (ps_ret (pe_tup (pa_c pe_str (pa_c (pe_ix ix_list (pe_lst (pa_c pe_int (pa_c pe_int (pa_c (pe_un un_neg pe_int) (pa_c pe_int (pa_c pe_int (pa_c pe_int (pa_c (pe_un un_neg pe_int) (pa_c pe_int (pa_c (pe_un un_neg pe_int) (pa_c pe_int (pa_c pe_int (pa_c (pe_un un_neg pe_int) pa_nil))))))))))))) (pe_cc c_law_pick hr (by omega) (pa_c (pe_var (i := 0) rfl vis_law_sum__law_script db__law_script cd__law_script) (pa_c (pe_op op_add (pe_var (i := 1) rfl vis_law_sum__law_at db__law_at cd__law_at) pe_int) (pa_c pe_int pa_nil))) gl_law_sum__law_pick db__law_pick) (fun _ _ => rfl)) pa_nil)))))) pss_nil)
  (pss_cons (ps_set (i := 5) sc_law_sum.nd rfl loc_law_sum__law_words (pe_lst (pa_c pe_str (pa_c pe_str (pa_c pe_str (pa_c pe_str (pa_c pe_str (pa_c pe_str (pa_c pe_str (pa_c pe_str (pa_c pe_str (pa_c pe_str pa_nil))))))))))) (swaps_plain rfl))
  (pss_cons (ps_set (i := 6) sc_law_sum.nd rfl loc_law_sum__law_one (pe_cc c_law_sum hr (by omega) (pa_c (pe_var (i := 0) rfl vis_law_sum__law_script db__law_script cd__law_script) (pa_c (pe_op op_add (pe_op op_mul pe_int (pe_var (i := 1) rfl vis_law_sum__law_at db__law_at cd__law_at)) pe_int) (pa_c (pe_var (i := 2) rfl vis_law_sum__law_known db__law_known cd__law_known) (pa_c (pe_op op_sub (pe_var (i := 3) rfl vis_law_sum__law_deep db__law_deep cd__law_deep) pe_int) pa_nil)))) gl_law_sum__law_sum db__law_sum) (swaps_plain rfl))
  (pss_one (ps_ret (pe_tup (pa_c (pe_ix ix_list (pe_var (i := 5) rfl vis_law_sum__law_words db__law_words cd__law_words) (pe_cc c_law_pick hr (by omega) (pa_c (pe_var (i := 0) rfl vis_law_sum__law_script db__law_script cd__law_script) (pa_c (pe_op op_add (pe_var (i := 1) rfl vis_law_sum__law_at db__law_at cd__law_at) pe_int) (pa_c pe_int pa_nil))) gl_law_sum__law_pick db__law_pick) (fun _ _ => rfl)) (pa_c (pe_var (i := 6) rfl vis_law_sum__law_one db__law_one cd__law_one) (pa_c (pe_cc c_law_sum hr (by omega) (pa_c (pe_var (i := 0) rfl vis_law_sum__law_script db__law_script cd__law_script) (pa_c (pe_op op_add (pe_op op_mul pe_int (pe_var (i := 1) rfl vis_law_sum__law_at db__law_at cd__law_at)) pe_int) (pa_c (pe_var (i := 2) rfl vis_law_sum__law_known db__law_known cd__law_known) (pa_c (pe_op op_sub (pe_var (i := 3) rfl vis_law_sum__law_deep db__law_deep cd__law_deep) pe_int) pa_nil)))) gl_law_sum__law_sum db__law_sum) pa_nil)))))))))), ?_⟩
  walk_at "rd"
  refine ⟨a, ns, k, 10, rfl, hS, h0, by decide, fun i H1 i0 i1 s1 => ?_⟩
  walk_at "rd"
  have leaf : ∀ (H1 : Hp), Same H H1 → 0 ≤ sizeLine ∧ ∀ (p : Addr), H1 p = none → ∃ b, (scal (V.ref kn) (V.ref p) = true ∧ b = decide (kn = p) ∨ ∃ x, SqL K (upd H1 p (HO.lst [])) kn x ∧ ∃ x_1, SqL K (upd H1 p (HO.lst [])) p x_1 ∧ x.all okV = true ∧ x_1.all okV = true ∧ b = eqL x x_1) ∧
      if b = false then spPick K [V.ref a, V.int (k + 1), V.int 3] (upd H1 p (HO.lst [])) (fun x H1 => ∃ i, x = V.int i ∧ if 0 < i then ∃ x, LenOf K (V.ref kn) H1 x ∧ spPick K [V.ref a, V.int (k + 2), V.int ↑x] H1 (fun y H2 => ∃ x x_1, y = V.int x_1 ∧ SqL K H2 kn x ∧ ∃ x_2, atI x x_1 = some x_2 ∧ 2 ≤ sizeLine ∧ ∀ (p : Addr), H2 p = none → Q (V.ref p) (upd H2 p (HO.tup [V.str (Str.ofString "name"), x_2]))) E0
        else 12 ≤ sizeLine ∧ ∀ (p : Addr), H1 p = none → spPick K [V.ref a, V.int (k + 3), V.int 12] (upd H1 p (HO.lst [V.int 0, V.int 1, V.int (-1), V.int 2, V.int 3, V.int 7, V.int (-8), V.int 100, V.int (-129), V.int 300, V.int 32767, V.int (-32768)])) (fun y H2 => ∃ x x_1, y = V.int x_1 ∧ SqL K H2 p x ∧ ∃ x_2, atI x x_1 = some x_2 ∧ 2 ≤ sizeLine ∧ ∀ (p : Addr), H2 p = none → Q (V.ref p) (upd H2 p (HO.tup [V.str (Str.ofString "num"), x_2]))) E0) E0
      else 12 ≤ sizeLine ∧ ∀ (p_1 : Addr), upd H1 p (HO.lst []) p_1 = none → spPick K [V.ref a, V.int (k + 3), V.int 12] (upd (upd H1 p (HO.lst [])) p_1 (HO.lst [V.int 0, V.int 1, V.int (-1), V.int 2, V.int 3, V.int 7, V.int (-8), V.int 100, V.int (-129), V.int 300, V.int 32767, V.int (-32768)])) (fun y H2 => ∃ x x_1, y = V.int x_1 ∧ SqL K H2 p_1 x ∧ ∃ x_2, atI x x_1 = some x_2 ∧ 2 ≤ sizeLine ∧ ∀ (p : Addr), H2 p = none → Q (V.ref p) (upd H2 p (HO.tup [V.str (Str.ofString "num"), x_2]))) E0 := by
    intro H1 s1
    have num : ∀ (H2 : Hp) (p : Addr), Same H H2 → H2 p = none → spPick K [V.ref a, V.int (k + 3), V.int 12] (upd H2 p (HO.lst [V.int 0, V.int 1, V.int (-1), V.int 2, V.int 3, V.int 7, V.int (-8), V.int 100, V.int (-129), V.int 300, V.int 32767, V.int (-32768)])) (fun y H2 => ∃ x x_1, y = V.int x_1 ∧ SqL K H2 p x ∧ ∃ x_2, atI x x_1 = some x_2 ∧ 2 ≤ sizeLine ∧ ∀ (p : Addr), H2 p = none → Q (V.ref p) (upd H2 p (HO.tup [V.str (Str.ofString "num"), x_2]))) E0 := by
      intro H2 p s2 hp
      have s3 := same_new hp (HO.lst [V.int 0, V.int 1, V.int (-1), V.int 2, V.int 3, V.int 7, V.int (-8), V.int 100, V.int (-129), V.int 300, V.int 32767, V.int (-32768)])
      refine ⟨a, ns, k + 3, 12, rfl, (s2.trans s3).seq hS, by omega, by decide, fun j H3 j0 j1 s4 => ?_⟩
      obtain ⟨v, hv, e⟩ := atI_map (c := V.int) (ns := [0, 1, -1, 2, 3, 7, -8, 100, -129, 300, 32767, -32768]) (k := j) j0 j1
      refine ⟨_, _, rfl, SqL.of (s4 _ _ upd_same), _, e, zl 2 (by decide), fun r hr' => ?_⟩
      refine q _ _ (.num v) ((s2.trans s3).trans (s4.trans (same_new hr' _))) (.tup upd_same (.cons (.str _) (.cons (.int _) .nil))) ?_
      obtain ⟨d', rfl⟩ : ∃ d', d = d' + 1 := ⟨d - 1, by omega⟩
      show -32768 ≤ v ∧ v ≤ 32767
      simp only [List.mem_cons, List.not_mem_nil, or_false] at hv
      omega
    refine ⟨Nat.zero_le _, fun p hp => ?_⟩
    have s2 := same_new hp (HO.lst [])
    have hk2 : (upd H1 p (HO.lst [])) kn = some (.lst (g.map V.str)) := s2 _ _ (s1 _ _ hk)
    refine ⟨_, .inr ⟨_, SqL.of hk2, _, SqL.of upd_same, okStrs hg, rfl, (eqL_nil _).symm⟩, ?_⟩
    split
    · rename_i hne
      refine ⟨a, ns, k + 1, 3, rfl, (s1.trans s2).seq hS, by omega, by decide, fun j H3 j0 j1 s3 => ?_⟩
      refine ⟨_, rfl, ?_⟩
      have s03 := (s1.trans s2).trans s3
      split
      · have hk3 := s3 _ _ hk2
        refine ⟨_, lenL (SqL.of hk3), ?_⟩
        have hl : 0 < ((g.map V.str).length : Int) := by
          cases g with
          | nil => exact absurd rfl (Bool.eq_false_iff.mp hne)
          | cons x r => simp only [List.map_cons, List.length_cons]; omega
        refine ⟨a, ns, k + 2, _, rfl, s03.seq hS, by omega, hl, fun m H4 m0 m1 s4 => ?_⟩
        obtain ⟨v, hv, e⟩ := atI_map (c := V.str) (ns := g) (k := m) m0 (by rw [List.length_map] at m1; exact m1)
        refine ⟨_, _, rfl, SqL.of (s4 _ _ hk3), _, e, zl 2 (by decide), fun r hr' => ?_⟩
        refine q _ _ (.nm v) (s03.trans (s4.trans (same_new hr' _))) (.tup upd_same (.cons (.str _) (.cons (.str _) .nil))) ?_
        obtain ⟨d', rfl⟩ : ∃ d', d = d' + 1 := ⟨d - 1, by omega⟩
        exact hv
      · exact ⟨zl 12 (by decide), fun p2 hp2 => num _ p2 s03 hp2⟩
    · exact ⟨zl 12 (by decide), fun p2 hp2 => num _ p2 (s1.trans s2) hp2⟩
  split
  · exact leaf H1 s1
  · split
    · exact leaf H1 s1
    · rename_i hd _
      refine ⟨zl 10 (by decide), fun p hp => ⟨.inl ⟨by decide, by decide⟩, ?_⟩⟩
      have s2 := same_new hp (HO.lst [V.str "add", V.str "sub", V.str "mul", V.str "quo", V.str "less", V.str "same", V.str "min", V.str "max", V.str "add", V.str "less"])
      have s02 := s1.trans s2
      have ed : ((d : Int) - 1) = ((d - 1 : Nat) : Int) := by omega
      have hd3 : 2 ≤ d := by omega
      rw [ed]
      refine ⟨a, ns, _, kn, g, d - 1, rfl, s02.seq hS, by omega, s02 _ _ hk, hg, by omega, by omega, fun r1 H2 t1 s3 d1 k1 => ?_⟩
      have s03 := s02.trans s3
      refine ⟨a, ns, k + 4, 10, rfl, s03.seq hS, by omega, by decide, fun j H3 j0 j1 s4 => ?_⟩
      have s04 := s03.trans s4
      obtain ⟨v, hv, e⟩ := atI_map (c := fun w : Wd => V.str w.str) (ns := [.add, .sub, .mul, .quo, .less, .same, .min, .max, .add, .less]) (k := j) j0 j1
      refine ⟨_, _, rfl, SqL.of (s4 _ _ (s3 _ _ upd_same)), _, e, .inl ⟨by decide, by decide⟩, ?_⟩
      refine ⟨a, ns, _, kn, g, d - 1, rfl, s04.seq hS, by omega, s04 _ _ hk, hg, by omega, by omega, fun r2 H4 t2 s5 d2 k2 => ?_⟩
      refine ⟨zl 3 (by decide), fun p3 hp3 => ?_⟩
      have s6 := same_new hp3 (HO.tup [V.str v.str, r1, r2])
      refine q _ _ (.op v t1 t2) (s04.trans (s5.trans s6)) (.tup upd_same (.cons (.str _) (.cons (d1.kp (s4.trans (s5.trans s6)).kp) (.cons (d2.kp s6.kp) .nil)))) ?_
      obtain ⟨d', rfl⟩ : ∃ d', d = d' + 1 := ⟨d - 1, by omega⟩
      exact ⟨k1, k2⟩
theorem none_sum {k : Nat} : FnOk P w K mg base CX0 k f fd ["_law_script", "_law_at", "_law_known", "_law_deep"] (spSum K 0) := by
  have no : ∀ vs H Q E, ¬ spSum K 0 vs H Q E := fun vs H Q E h => by
    obtain ⟨a, ns, k, kn, g, d, _, _, _, _, _, h1, h2, _⟩ := h
    omega
  exact ⟨fun vs H Q E h => absurd h (no vs H Q E), fun A outer s H args us vs Q E _ _ _ _ h => absurd h (no vs H Q E)⟩
theorem all_sum (d : Df K mg "_law_sum" s_law_sum ["_law_script", "_law_at", "_law_known", "_law_deep"] f fd) (b_len : mg "len" = none) (c_law_pick : Callee P w K mg base "_law_pick" ["_law_script", "_law_k", "_law_many"] 2 (spPick K)) :
    ∀ n : Nat, Callee P w K mg base "_law_sum" ["_law_script", "_law_at", "_law_known", "_law_deep"] (n + 3) (spSum K n)
  | 0 => d.callee none_sum
  | n + 1 => d.callee (ok_sum d.F b_len c_law_pick (all_sum d b_len c_law_pick n))
/-- a while: with the body handed in -/
def spCounted (K : PySem.W.Frag) : Sp := fun vs H Q _ => ∃ (a : Addr) (ns : List Int) (k : Int) (kn : Addr) (g g1 : List Str) (rb : V) (b : List D) (d : Nat) (di : Int), vs = [.ref a, .int k, .ref kn, rb, .int di] ∧ SqL K H a (ns.map V.int) ∧ 0 ≤ k ∧ H kn = some (.lst (g.map V.str)) ∧ Sub g pool ∧ g ≠ [] ∧
  Dt H rb (.tup (encB b)) ∧ okB d b ∧ b.length ≤ 4 ∧ b ≠ [] ∧ Knows g b g1 ∧ 1 ≤ d ∧ ∀ (r : V) (H' : Hp) (e : D), Same H H' → Dt H' r e.enc → okD d e → KnowsD g e g → Q r H'
theorem way_int {Hy C : Int → Prop} {G : Prop} (h1 : (∀ x, Hy x → C x) → G) (h2 : ∀ x, Hy x → C x) : G := h1 h2
theorem ok_counted (F : Fun K "_law_counted" "_law_counted" s_law_counted f fd) (b_len : mg "len" = none) (c_law_pick : Callee P w K mg base "_law_pick" ["_law_script", "_law_k", "_law_many"] 2 (spPick K))
    (c_law_sum : Callee P w K mg base "_law_sum" ["_law_script", "_law_at", "_law_known", "_law_deep"] 6 (spSum K 3)) : FnOk P w K mg base CX0 7 f fd ["_law_script", "_law_at", "_law_known", "_law_body", "_law_deep"] (spCounted K) := by
  refine F.ok sc_law_counted (fun vs H Q E h => ?_) (fun cdv A outer s H vs Q E hr h => ?_)
  · obtain ⟨a, ns, k, kn, g, g1, rb, b, d, di, rfl, _⟩ := h
    rfl
  obtain ⟨a, ns, k, kn, g, g1, rb, b, d, di, rfl, hS, h0, hk, hg, hne, hb, hob, hbl, hbn, hkn, hd1, q⟩ := h
  refine ⟨_, (pss_cons (ps_set (i := 5) sc_law_counted.nd rfl loc_law_counted__law_most (pe_ix ix_list (pe_lst (pa_c pe_int (pa_c pe_int (pa_c pe_int (pa_c pe_int (pa_c pe_int pa_nil)))))) (pe_cc c_law_pick hr (by omega) (pa_c (pe_var (i := 0) rfl vis_law_counted__law_script db__law_script cd__law_script) (pa_c (pe_var (i := 1) rfl vis_law_counted__law_at db__law_at cd__law_at) (pa_c pe_int pa_nil))) gl_law_counted__law_pick db__law_pick) (fun _ _ => rfl)) (swaps_plain rfl))
  (pss_cons (ps_if (pt_cmpR op_lt (pe_var (i := 4) rfl vis_law_counted__law_deep db__law_deep cd__law_deep) pe_int (nomark _)) (pss_one (ps_set (i := 5) sc_law_counted.nd rfl loc_law_counted__law_most (pe_op op_mod (pe_var (i := 5) rfl vis_law_counted__law_most db__law_most cd__law_most) pe_int) (swaps_plain rfl))) pss_nil)
  (pss_cons (ps_if (pt_cmpR op_eqI (pe_cc c_law_pick hr (by omega) (pa_c (pe_var (i := 0) rfl vis_law_counted__law_script db__law_script cd__law_script) (pa_c (pe_op op_add (pe_var (i := 1) rfl vis_law_counted__law_at db__law_at cd__law_at) pe_int) (pa_c pe_int pa_nil))) gl_law_counted__law_pick db__law_pick) pe_int (nomark _)) (pss_one (ps_ret (pe_tup (pa_c pe_str (pa_c (pe_cc c_law_sum hr (by omega) (pa_c (pe_var (i := 0) rfl vis_law_counted__law_script db__law_script cd__law_script) (pa_c (pe_op op_add (pe_var (i := 1) rfl vis_law_counted__law_at db__law_at cd__law_at) pe_int) (pa_c (pe_var (i := 2) rfl vis_law_counted__law_known db__law_known cd__law_known) (pa_c pe_int pa_nil)))) gl_law_counted__law_sum db__law_sum) (pa_c (pe_var (i := 5) rfl vis_law_counted__law_most db__law_most cd__law_most) (pa_c (pe_var (i := 3) rfl vis_law_counted__law_body db__law_body cd__law_body) pa_nil))))))) pss_nil)
  (pss_cons (ps_set (i := 6) sc_law_counted.nd rfl loc_law_counted__law_name (pe_tup (pa_c pe_str (pa_c (pe_ix ix_list (pe_var (i := 2) rfl vis_law_counted__law_known db__law_known cd__law_known) (pe_cc c_law_pick hr (by omega) (pa_c (pe_var (i := 0) rfl vis_law_counted__law_script db__law_script cd__law_script) (pa_c (pe_op op_add (pe_var (i := 1) rfl vis_law_counted__law_at db__law_at cd__law_at) pe_int) (pa_c (pe_cB gLen gl_law_counted_len b_len bt_len (pa_c (pe_var (i := 2) rfl vis_law_counted__law_known db__law_known cd__law_known) pa_nil) nn_len db_len) pa_nil))) gl_law_counted__law_pick db__law_pick) (fun _ _ => rfl)) pa_nil))) (swaps_plain rfl))
  (pss_cons (ps_set (i := 7) sc_law_counted.nd rfl loc_law_counted__law_goal (pe_tup (pa_c pe_str (pa_c (pe_ix ix_list (pe_lst (pa_c (pe_un un_neg pe_int) (pa_c pe_int (pa_c pe_int (pa_c pe_int pa_nil))))) (pe_cc c_law_pick hr (by omega) (pa_c (pe_var (i := 0) rfl vis_law_counted__law_script db__law_script cd__law_script) (pa_c (pe_op op_add (pe_var (i := 1) rfl vis_law_counted__law_at db__law_at cd__law_at) pe_int) (pa_c pe_int pa_nil))) gl_law_counted__law_pick db__law_pick) (fun _ _ => rfl)) pa_nil))) (swaps_plain rfl))
  (pss_cons (ps_set (i := 8) sc_law_counted.nd rfl loc_law_counted__law_more (pe_tup (pa_c pe_str (pa_c (pe_ix ix_tup (pe_var (i := 6) rfl vis_law_counted__law_name db__law_name cd__law_name) pe_int (fun _ _ => rfl)) (pa_c (pe_tup (pa_c pe_str (pa_c (pe_var (i := 6) rfl vis_law_counted__law_name db__law_name cd__law_name) (pa_c (pe_tup (pa_c pe_str (pa_c (pe_op op_add pe_int (pe_cc c_law_pick hr (by omega) (pa_c (pe_var (i := 0) rfl vis_law_counted__law_script db__law_script cd__law_script) (pa_c (pe_op op_add (pe_var (i := 1) rfl vis_law_counted__law_at db__law_at cd__law_at) pe_int) (pa_c pe_int pa_nil))) gl_law_counted__law_pick db__law_pick)) pa_nil))) pa_nil)))) pa_nil)))) (swaps_plain rfl))
  (pss_one (ps_ret (pe_tup (pa_c pe_str (pa_c (pe_tup (pa_c pe_str (pa_c (pe_var (i := 6) rfl vis_law_counted__law_name db__law_name cd__law_name) (pa_c (pe_var (i := 7) rfl vis_law_counted__law_goal db__law_goal cd__law_goal) pa_nil)))) (pa_c (pe_var (i := 5) rfl vis_law_counted__law_most db__law_most cd__law_most) (pa_c (pe_op op_catT2 (pe_var (i := 3) rfl vis_law_counted__law_body db__law_body cd__law_body) (pe_tup (pa_c (pe_var (i := 8) rfl vis_law_counted__law_more db__law_more cd__law_more) pa_nil))) pa_nil))))))))))))), ?_⟩
  walk_at "rd"
  have hl : 0 < ((g.map V.str).length : Int) := by
    cases g with
    | nil => exact absurd rfl hne
    | cons x r => simp only [List.map_cons, List.length_cons]; omega
  refine ⟨zl 5 (by decide), fun p hp => ?_⟩
  have s1 := same_new hp (HO.lst [V.int 0, V.int 1, V.int 3, V.int 6, V.int 20])
  refine ⟨a, ns, k, 5, rfl, s1.seq hS, h0, by decide, fun i H2 i0 i1 s2 => ?_⟩
  have s02 := s1.trans s2
  obtain ⟨v, hv, e⟩ := atI_map (c := V.int) (ns := [0, 1, 3, 6, 20]) (k := i) i0 i1
  have hv2 : 0 ≤ v ∧ v ≤ 20 := by
    simp only [List.mem_cons, List.not_mem_nil, or_false] at hv
    omega
  refine ⟨_, _, rfl, SqL.of (s2 _ _ upd_same), _, e, ?_⟩
  obtain ⟨ab, xs, rfl, hab, hda⟩ := hb.tupI
  have hxl : xs.length = b.length := by rw [hda.length, encB_length]
  have hxs : xs ≠ [] := fun z => hbn (List.length_eq_zero_iff.mp (by rw [← hxl, z]; rfl))
  refine way_int (Hy := fun mv => 0 ≤ mv ∧ mv ≤ 20) (C := ?cc) ?kk ?_
  case kk =>
    intro key
    split
    · refine ⟨_, rfl, by decide, ?_⟩
      have hv3 : 0 ≤ v % 4 ∧ v % 4 ≤ 20 := by omega
      generalize v % 4 = mv at hv3 ⊢
      exact key mv hv3
    · exact key v hv2
  intro mv hv3
  refine ⟨a, ns, k + 1, 4, rfl, s02.seq hS, by omega, by decide, fun j H3 j0 j1 s3 => ?_⟩
  refine ⟨_, rfl, ?_⟩
  have s03 := s02.trans s3
  split
  · refine ⟨a, ns, k + 2, kn, g, 2, rfl, s03.seq hS, by omega, s03 _ _ hk, hg, by decide, by decide, fun r1 H4 t1 s4 d1 k1 => ?_⟩
    refine ⟨zl 4 (by decide), fun p2 hp2 => ?_⟩
    exact q _ _ (.whl t1 _ b) (s03.trans (s4.trans (same_new hp2 _))) (.tup upd_same (.cons (.str _) (.cons (d1.kp (same_new hp2 _).kp) (.cons (.int _) (.cons (hb.kp (s03.trans (s4.trans (same_new hp2 _))).kp) .nil))))) ⟨k1.mono hg (by decide), by omega, by omega, hob⟩ (KnowsD.whl k1 hkn)
  · have hk3 := s03 _ _ hk
    refine ⟨_, lenL (SqL.of hk3), ?_⟩
    refine ⟨a, ns, k + 3, _, rfl, s03.seq hS, by omega, hl, fun m H4 m0 m1 s4 => ?_⟩
    obtain ⟨x, hx, e⟩ := atI_map (c := V.str) (ns := g) (k := m) m0 (by rw [List.length_map] at m1; exact m1)
    refine ⟨_, _, rfl, SqL.of (s4 _ _ hk3), _, e, zl 2 (by decide), fun pn hpn => ?_⟩
    have s5 := same_new hpn (HO.tup [V.str "name", V.str x])
    refine ⟨zl 4 (by decide), fun pg hpg => ?_⟩
    have s6 := same_new hpg (HO.lst [V.int (-2), V.int 1, V.int 3, V.int 5])
    have s06 := s03.trans (s4.trans (s5.trans s6))
    refine ⟨a, ns, k + 4, 4, rfl, s06.seq hS, by omega, by decide, fun l H5 l0 l1 s7 => ?_⟩
    obtain ⟨gv, hgv, e2⟩ := atI_map (c := V.int) (ns := [-2, 1, 3, 5]) (k := l) l0 l1
    have hgv2 : -32768 ≤ gv ∧ gv ≤ 32767 := by
      simp only [List.mem_cons, List.not_mem_nil, or_false] at hgv
      omega
    refine ⟨_, _, rfl, SqL.of (s7 _ _ upd_same), _, e2, zl 2 (by decide), fun pl hpl => ?_⟩
    have s8 := same_new hpl (HO.tup [V.str "num", V.int gv])
    have s68 := s6.trans (s7.trans s8)
    have s08 := s03.trans (s4.trans (s5.trans s68))
    refine ⟨_, SqT.of (s68 _ _ upd_same), V.str x, rfl, ?_⟩
    refine ⟨a, ns, k + 5, 3, rfl, s08.seq hS, by omega, by decide, fun z H6 z0 z1 s9 => ?_⟩
    refine ⟨_, rfl, zl 2 (by decide), fun p1 h1 => ⟨zl 3 (by decide), fun p2 h2 => ⟨zl 3 (by decide), fun p3 h3 => ⟨zl 3 (by decide), fun p4 h4 => ⟨zl 1 (by decide), fun p5 h5 => ?_⟩⟩⟩⟩⟩
    have u1 := same_new h1 (HO.tup [V.str "num", V.int (1 + z)])
    have u2 := same_new h2 (HO.tup [V.str "add", V.ref pn, V.ref p1])
    have u3 := same_new h3 (HO.tup [V.str "set", V.str x, V.ref p2])
    have u4 := same_new h4 (HO.tup [V.str "less", V.ref pn, V.ref pl])
    have u5 := same_new h5 (HO.tup [V.ref p3])
    have u05 := s08.trans (s9.trans (u1.trans (u2.trans (u3.trans (u4.trans u5)))))
    refine ⟨ab, rfl, xs, SqT.of (u05 _ _ hab), [V.ref p3], SqT.of upd_same, by rw [List.length_singleton]; exact zl _ (by omega), fun h => absurd h hxs, fun _ h => absurd h (by simp), fun _ _ p6 h6 => ⟨zl 4 (by decide), fun p7 h7 => ?_⟩⟩
    have u6 := same_new h6 (HO.tup (xs ++ [V.ref p3]))
    have u67 := u6.trans (same_new h7 (HO.tup [V.str "while", V.ref p4, V.int mv, V.ref p6]))
    have u57 := u5.trans u67
    have dn : Dt (upd H4 pn (HO.tup [V.str "name", V.str x])) (.ref pn) (T.nm x).enc := .tup upd_same (.cons (.str _) (.cons (.str _) .nil))
    have dl : Dt (upd H5 pl (HO.tup [V.str "num", V.int gv])) (.ref pl) (T.num gv).enc := .tup upd_same (.cons (.str _) (.cons (.int _) .nil))
    have dz : Dt (upd H6 p1 (HO.tup [V.str "num", V.int (1 + z)])) (.ref p1) (T.num (1 + z)).enc := .tup upd_same (.cons (.str _) (.cons (.int _) .nil))
    have s9u := s9.trans u1
    have da : Dt _ (.ref p2) (T.op .add (.nm x) (.num (1 + z))).enc := .tup (upd_same (H := upd H6 p1 (HO.tup [V.str "num", V.int (1 + z)]))) (.cons (.str _) (.cons (dn.kp (s68.trans (s9u.trans u2)).kp) (.cons (dz.kp u2.kp) .nil)))
    have ds : Dt _ (.ref p3) (D.set x (T.op .add (.nm x) (.num (1 + z)))).enc := .tup upd_same (.cons (.str _) (.cons (.str _) (.cons (da.kp u3.kp) .nil)))
    have de : Dt _ (.ref p4) (T.op .less (.nm x) (.num gv)).enc := .tup upd_same (.cons (.str _) (.cons (dn.kp (s68.trans (s9u.trans (u2.trans (u3.trans u4)))).kp) (.cons (dl.kp (s9u.trans (u2.trans (u3.trans u4))).kp) .nil)))
    have dB : Dt _ (.ref p6) (.tup (encB b ++ [(D.set x (T.op .add (.nm x) (.num (1 + z)))).enc])) := .tup upd_same ((hda.kp (u05.trans u6).kp).append (.cons (ds.kp (u4.trans (u5.trans u6)).kp) .nil))
    rw [show encB b ++ [(D.set x (T.op .add (.nm x) (.num (1 + z)))).enc] = encB (b ++ [D.set x (T.op .add (.nm x) (.num (1 + z)))]) by rw [encB_append, encB, encB]] at dB
    have hz : -32768 ≤ 1 + z ∧ 1 + z ≤ 32767 := by omega
    refine q _ _ (.whl (.op .less (.nm x) (.num gv)) _ (b ++ [D.set x (T.op .add (.nm x) (.num (1 + z)))])) (u05.trans u67) (.tup upd_same (.cons (.str _) (.cons (de.kp u57.kp) (.cons (.int _) (.cons (dB.kp (same_new h7 _).kp) .nil))))) ⟨⟨hg x hx, hgv2⟩, by omega, by omega, ?_⟩ (KnowsD.whl (n := 2) ⟨hx, hgv2⟩ (hkn.sub.snoc (KnowsD.set (n := 2) (g' := g) ⟨hx, hz⟩ fun y hy => .inl hy)))
    obtain ⟨d', rfl⟩ : ∃ d', d = d' + 1 := ⟨d - 1, by omega⟩
    refine ⟨by rw [List.length_append, List.length_singleton]; omega, fun c hc => ?_⟩
    rcases List.mem_append.mp hc with hc | hc
    · exact hob.2 c hc
    · have ec : c = D.set x (T.op .add (.nm x) (.num (1 + z))) := by simpa using hc
      subst ec
      exact ⟨hg x hx, ⟨hg x hx, hz⟩⟩
def cgrow : Nat → Nat
  | 1 => 1 | 2 => 2 | 3 => 6 | _ => 0
def pgrow : Nat → Nat
  | 3 => 2 | _ => 1
theorem pg1 (d : Nat) : 1 ≤ pgrow d := by unfold pgrow; split <;> decide
theorem pgc {d j : Nat} (h1 : 1 ≤ d) (h3 : d ≤ 3) (hj : j ≤ d) : j * pgrow d ≤ cgrow d := by
  have : d = 1 ∨ d = 2 ∨ d = 3 := by omega
  rcases this with rfl | rfl | rfl <;> simp only [pgrow, cgrow] <;> omega
theorem cgp {d : Nat} (h1 : 2 ≤ d) (h3 : d ≤ 3) : cgrow (d - 1) ≤ pgrow d := by
  have : d = 2 ∨ d = 3 := by omega
  rcases this with rfl | rfl <;> decide
theorem cg6 (d : Nat) : cgrow d ≤ 6 := by unfold cgrow; split <;> decide
theorem way_on {Hy C : Hp → Prop} {G : Prop} (h1 : (∀ Hx, Hy Hx → C Hx) → G) (h2 : ∀ Hx, Hy Hx → C Hx) : G := h1 h2
def spBlock (K : PySem.W.Frag) (n : Nat) : Sp := fun vs H Q _ => ∃ (a : Addr) (ns : List Int) (k : Int) (kn : Addr) (g : List Str) (d : Nat), vs = [.ref a, .int k, .ref kn, .int d] ∧ SqL K H a (ns.map V.int) ∧ 0 ≤ k ∧ H kn = some (.lst (g.map V.str)) ∧ Sub g pool ∧ 1 ≤ d ∧ d ≤ n ∧ d ≤ 3 ∧ g.length + 100 * d ≤ 900 ∧
  ∀ (r rb rk : Addr) (H' : Hp) (b : List D) (g' : List Str), Same H H' → H' r = some (.tup [.ref rb, .ref rk]) → Dt H' (.ref rb) (.tup (encB b)) → H' rk = some (.lst (g'.map V.str)) → okB d b → b.length ≤ d → b ≠ [] → Knows g b g' → Sub g' pool → g'.length ≤ g.length + cgrow d → (rk = kn ∨ H rk = none) → Q (.ref r) H'
def CInv (U3 : Hp) (kc : Addr) (g' : List Str) (x : Str) (i : Nat) (ys : List V) (σ' : St) (H' : Hp) : Prop := H' = U3 ∧ (∃ t, σ' = [t, some (.ref kc)]) ∧ ((i = 0 ∧ ys = []) ∨ (i = 1 ∧ ys = (if g'.contains x then [] else [x]).map V.str))
def FInv (U2 : Hp) (rk2 : Addr) (g1 g2 : List Str) (i : Nat) (ys : List V) (σ' : St) (H' : Hp) : Prop := H' = U2 ∧ (∃ t, σ' = [t, some (.ref rk2)]) ∧ ys = ((g1.take i).filter fun x => g2.contains x).map V.str
def BInv (H : Hp) (kn a : Addr) (k : Int) (d : Nat) (pd : Addr) (g : List Str) (j : Nat) (σ : St) (Hc : Hp) : Prop :=
  ∃ (kc : Addr) (vs : List V) (b : List D) (g' : List Str) (x5 x6 x7 x8 x9 x10 x11 x12 x13 : Option V), σ = [some (.ref a), some (.int k), some (.ref kc), some (.int d), some (.ref pd), x5, x6, x7, x8, x9, x10, x11, x12, x13] ∧
    Same H Hc ∧ Hc pd = some (.lst vs) ∧ DtA Hc vs (encB b) ∧ Hc kc = some (.lst (g'.map V.str)) ∧ kc ≠ pd ∧ Knows g b g' ∧ Sub g' pool ∧ b.length = j ∧ (∀ e ∈ b, okD (d - 1) e) ∧ g'.length ≤ g.length + j * pgrow d ∧ (kc = kn ∨ H kc = none)
theorem ok_block {n : Nat} (F : Fun K "_law_block" "_law_block" s_law_block f fd) (b_range : mg "range" = none) (b_tuple : mg "tuple" = none) (c_law_pick : Callee P w K mg base "_law_pick" ["_law_script", "_law_k", "_law_many"] 2 (spPick K))
    (c_law_sum : Callee P w K mg base "_law_sum" ["_law_script", "_law_at", "_law_known", "_law_deep"] 6 (spSum K 3)) (c_law_counted : Callee P w K mg base "_law_counted" ["_law_script", "_law_at", "_law_known", "_law_body", "_law_deep"] 7 (spCounted K))
    (c_law_block : Callee P w K mg base "_law_block" ["_law_script", "_law_at", "_law_known", "_law_deep"] (n + 7) (spBlock K n)) : FnOk P w K mg base CX0 (n + 8) f fd ["_law_script", "_law_at", "_law_known", "_law_deep"] (spBlock K (n + 1)) := by
  refine F.ok sc_law_block (fun vs H Q E h => ?_) (fun cdv A outer s H vs Q E hr h => ?_)
  · obtain ⟨a, ns, k, kn, g, d, rfl, _⟩ := h
    rfl
  obtain ⟨a, ns, k, kn, g, d, rfl, hS, h0, hk, hg, hd1, hd2, hd3, hgb, q⟩ := h
  refine ⟨_, (pss_cons (ps_set (i := 4) sc_law_block.nd rfl loc_law_block__law_deeds (pe_lst pa_nil) (swaps_plain rfl))
  (pss_cons (ps_for PassesOwn.never rfl (pi_range1 gl_law_block_range b_range (pa_c (pe_op op_add pe_int (pe_cc c_law_pick hr (by omega) (pa_c (pe_var (i := 0) rfl vis_law_block__law_script db__law_script cd__law_script) (pa_c (pe_var (i := 1) rfl vis_law_block__law_at db__law_at cd__law_at) (pa_c (pe_var (i := 3) rfl vis_law_block__law_deep db__law_deep cd__law_deep) pa_nil))) gl_law_block__law_pick db__law_pick)) pa_nil)) (pg_name (i := 5) sc_law_block.nd rfl loc_law_block__law_k)
  (pss_cons (ps_set (i := 6) sc_law_block.nd rfl loc_law_block__law_base (pe_op op_add (pe_op op_mul pe_int (pe_var (i := 1) rfl vis_law_block__law_at db__law_at cd__law_at)) (pe_op op_mul pe_int (pe_op op_add (pe_var (i := 5) rfl vis_law_block__law_k db__law_k cd__law_k) pe_int))) (swaps_plain rfl))
  (pss_cons (ps_set (i := 7) sc_law_block.nd rfl loc_law_block__law_way (pe_cc c_law_pick hr (by omega) (pa_c (pe_var (i := 0) rfl vis_law_block__law_script db__law_script cd__law_script) (pa_c (pe_var (i := 6) rfl vis_law_block__law_base db__law_base cd__law_base) (pa_c pe_int pa_nil))) gl_law_block__law_pick db__law_pick) (swaps_plain rfl))
  (pss_one (ps_if (PW.pt (pw_or (pt_cmpR op_lt (pe_var (i := 7) rfl vis_law_block__law_way db__law_way cd__law_way) pe_int (nomark _)) (pw_or (pt_cmpR op_eqI (pe_var (i := 3) rfl vis_law_block__law_deep db__law_deep cd__law_deep) pe_int (nomark _)) (pw_or1 (pt_cmpR (gEq hr.units) (pe_var (i := 2) rfl vis_law_block__law_known db__law_known cd__law_known) (pe_lst pa_nil) (nomark _)))))) (pss_cons (ps_set (i := 8) sc_law_block.nd rfl loc_law_block__law_name (pe_ix ix_list (pe_lst (pa_c pe_str (pa_c pe_str (pa_c pe_str (pa_c pe_str pa_nil))))) (pe_cc c_law_pick hr (by omega) (pa_c (pe_var (i := 0) rfl vis_law_block__law_script db__law_script cd__law_script) (pa_c (pe_op op_add (pe_var (i := 6) rfl vis_law_block__law_base db__law_base cd__law_base) pe_int) (pa_c pe_int pa_nil))) gl_law_block__law_pick db__law_pick) (fun _ _ => rfl)) (swaps_plain rfl))
  (pss_cons (ps_expr (pe_bm PySem.F.plainAttrs_list PySem.F.slot_list_append PySem.F.type_list_append mt_append (pe_var (i := 4) rfl vis_law_block__law_deeds db__law_deeds cd__law_deeds) (pa_c (pe_tup (pa_c pe_str (pa_c (pe_var (i := 8) rfl vis_law_block__law_name db__law_name cd__law_name) (pa_c (pe_cc c_law_sum hr (by omega) (pa_c (pe_var (i := 0) rfl vis_law_block__law_script db__law_script cd__law_script) (pa_c (pe_op op_add (pe_var (i := 6) rfl vis_law_block__law_base db__law_base cd__law_base) pe_int) (pa_c (pe_var (i := 2) rfl vis_law_block__law_known db__law_known cd__law_known) (pa_c pe_int pa_nil)))) gl_law_block__law_sum db__law_sum) pa_nil)))) pa_nil)) (swaps_plain rfl))
  (pss_one (ps_set (i := 2) sc_law_block.nd rfl loc_law_block__law_known (pe_op op_cat (pe_var (i := 2) rfl vis_law_block__law_known db__law_known cd__law_known) (pe_comp ["_law_one", "_law_known"] [none, some 2] rfl (CompS.of (by rfl)) (pi_list (pe_lst (pa_c (pe_var (i := 8) rfl vis_law_block__law_name db__law_name cd__law_name) pa_nil))) (fun _ _ _ _ _ => (pg_name (i := 0) (show List.Nodup (["_law_one", "_law_known"] : List Str) from by decide +kernel) rfl (Or.inl rfl))) (fun _ _ _ _ _ => (pif_one (pt_cmpR (opK (r := qNotIn) (K := K) (gNotIn hr.units) rfl) (pe_var (i := 0) rfl (by first | exact Or.inl rfl | exact Or.inr (Or.inl rfl) | exact Or.inr (Or.inr rfl)) db__law_one cd__law_one) (pe_var (i := 1) rfl (by first | exact Or.inl rfl | exact Or.inr (Or.inl rfl) | exact Or.inr (Or.inr rfl)) db__law_known cd__law_known) (by with_unfolding_all rfl)))) (fun _ _ _ _ _ => (pe_var (i := 0) rfl (by first | exact Or.inl rfl | exact Or.inr (Or.inl rfl) | exact Or.inr (Or.inr rfl)) db__law_one cd__law_one)))) (swaps_plain rfl))))) (pss_one (ps_if (pt_cmpR op_lt (pe_var (i := 7) rfl vis_law_block__law_way db__law_way cd__law_way) pe_int (nomark _)) (pss_cons (ps_asg (pe_cc c_law_block hr (by omega) (pa_c (pe_var (i := 0) rfl vis_law_block__law_script db__law_script cd__law_script) (pa_c (pe_op op_add (pe_var (i := 6) rfl vis_law_block__law_base db__law_base cd__law_base) pe_int) (pa_c (pe_var (i := 2) rfl vis_law_block__law_known db__law_known cd__law_known) (pa_c (pe_op op_sub (pe_var (i := 3) rfl vis_law_block__law_deep db__law_deep cd__law_deep) pe_int) pa_nil)))) gl_law_block__law_block db__law_block) (pg_tup (n := 2) rfl (pgs_cons (pg_name (i := 9) sc_law_block.nd rfl loc_law_block__law_first) (pgs_cons (pg_name (i := 10) sc_law_block.nd rfl loc_law_block__law_mine) pgs_nil))))
  (pss_cons (ps_asg (pe_cc c_law_block hr (by omega) (pa_c (pe_var (i := 0) rfl vis_law_block__law_script db__law_script cd__law_script) (pa_c (pe_op op_add (pe_var (i := 6) rfl vis_law_block__law_base db__law_base cd__law_base) pe_int) (pa_c (pe_var (i := 2) rfl vis_law_block__law_known db__law_known cd__law_known) (pa_c (pe_op op_sub (pe_var (i := 3) rfl vis_law_block__law_deep db__law_deep cd__law_deep) pe_int) pa_nil)))) gl_law_block__law_block db__law_block) (pg_tup (n := 2) rfl (pgs_cons (pg_name (i := 11) sc_law_block.nd rfl loc_law_block__law_second) (pgs_cons (pg_name (i := 12) sc_law_block.nd rfl loc_law_block__law_yours) pgs_nil))))
  (pss_cons (ps_expr (pe_bm PySem.F.plainAttrs_list PySem.F.slot_list_append PySem.F.type_list_append mt_append (pe_var (i := 4) rfl vis_law_block__law_deeds db__law_deeds cd__law_deeds) (pa_c (pe_tup (pa_c pe_str (pa_c (pe_cc c_law_sum hr (by omega) (pa_c (pe_var (i := 0) rfl vis_law_block__law_script db__law_script cd__law_script) (pa_c (pe_op op_add (pe_var (i := 6) rfl vis_law_block__law_base db__law_base cd__law_base) pe_int) (pa_c (pe_var (i := 2) rfl vis_law_block__law_known db__law_known cd__law_known) (pa_c pe_int pa_nil)))) gl_law_block__law_sum db__law_sum) (pa_c (pe_var (i := 9) rfl vis_law_block__law_first db__law_first cd__law_first) (pa_c (pe_var (i := 11) rfl vis_law_block__law_second db__law_second cd__law_second) pa_nil))))) pa_nil)) (swaps_plain rfl))
  (pss_one (ps_set (i := 2) sc_law_block.nd rfl loc_law_block__law_known (pe_comp ["_law_one", "_law_yours"] [none, some 12] rfl (CompS.of (by rfl)) (pi_list (pe_var (i := 10) rfl vis_law_block__law_mine db__law_mine cd__law_mine)) (fun _ _ _ _ _ => (pg_name (i := 0) (show List.Nodup (["_law_one", "_law_yours"] : List Str) from by decide +kernel) rfl (Or.inl rfl))) (fun _ _ _ _ _ => (pif_one (pt_cmpR (opK (r := qIn) (K := K) (gIn hr.units) rfl) (pe_var (i := 0) rfl (by first | exact Or.inl rfl | exact Or.inr (Or.inl rfl) | exact Or.inr (Or.inr rfl)) db__law_one cd__law_one) (pe_var (i := 1) rfl (by first | exact Or.inl rfl | exact Or.inr (Or.inl rfl) | exact Or.inr (Or.inr rfl)) db__law_yours cd__law_yours) (by with_unfolding_all rfl)))) (fun _ _ _ _ _ => (pe_var (i := 0) rfl (by first | exact Or.inl rfl | exact Or.inr (Or.inl rfl) | exact Or.inr (Or.inr rfl)) db__law_one cd__law_one))) (swaps_cell cell_law_block__law_known)))))) (pss_cons (ps_set (i := 13) sc_law_block.nd rfl loc_law_block__law_body (pe_ix ix_tup (pe_cc c_law_block hr (by omega) (pa_c (pe_var (i := 0) rfl vis_law_block__law_script db__law_script cd__law_script) (pa_c (pe_op op_add (pe_var (i := 6) rfl vis_law_block__law_base db__law_base cd__law_base) pe_int) (pa_c (pe_var (i := 2) rfl vis_law_block__law_known db__law_known cd__law_known) (pa_c (pe_op op_sub (pe_var (i := 3) rfl vis_law_block__law_deep db__law_deep cd__law_deep) pe_int) pa_nil)))) gl_law_block__law_block db__law_block) pe_int (fun _ _ => rfl)) (swaps_plain rfl))
  (pss_one (ps_expr (pe_bm PySem.F.plainAttrs_list PySem.F.slot_list_append PySem.F.type_list_append mt_append (pe_var (i := 4) rfl vis_law_block__law_deeds db__law_deeds cd__law_deeds) (pa_c (pe_cc c_law_counted hr (by omega) (pa_c (pe_var (i := 0) rfl vis_law_block__law_script db__law_script cd__law_script) (pa_c (pe_op op_add (pe_var (i := 6) rfl vis_law_block__law_base db__law_base cd__law_base) pe_int) (pa_c (pe_var (i := 2) rfl vis_law_block__law_known db__law_known cd__law_known) (pa_c (pe_var (i := 13) rfl vis_law_block__law_body db__law_body cd__law_body) (pa_c (pe_var (i := 3) rfl vis_law_block__law_deep db__law_deep cd__law_deep) pa_nil))))) gl_law_block__law_counted db__law_counted) pa_nil)) (swaps_plain rfl)))))))))))
  (pss_one (ps_ret (pe_tup (pa_c (pe_cT call_tuple_of gl_law_block_tuple b_tuple bt_tuple (pa_c (pe_var (i := 4) rfl vis_law_block__law_deeds db__law_deeds cd__law_deeds) pa_nil) nn_tuple db_tuple) (pa_c (pe_var (i := 2) rfl vis_law_block__law_known db__law_known cd__law_known) pa_nil))))))), ?_⟩
  walk_at "rd"
  refine ⟨Nat.zero_le _, fun pd hpd => ?_⟩
  have s1 := same_new hpd (HO.lst [])
  refine ⟨a, ns, k, d, rfl, s1.seq hS, h0, by omega, fun i H2 i0 i1 s2 => ?_⟩
  have hnk : kn ≠ pd := ne_of_none hk hpd
  refine ⟨_, rfl, by omega, by omega, ?_⟩
  refine for_range (lo := 0) (n := (1 + i).toNat) (BInv H kn a k d pd g) ?start ?step ?done
  case start => exact ⟨kn, [], [], g, none, none, none, none, none, none, none, none, none, rfl, s1.trans s2, s2 _ _ upd_same, .nil, (s1.trans s2) _ _ hk, hnk, Knows.nil g, hg, rfl, fun e he => absurd he (by simp), by omega, .inl rfl⟩
  case done =>
    rintro σ Hc ⟨kc, vs, b, g', x5, x6, x7, x8, x9, x10, x11, x12, x13, rfl, sc, hv, dv, hkc, hne, hkn, hg', hbl, hok, hgl, hkf⟩
    walk_at "rd"
    refine ⟨vs, .inl ⟨SqL.of hv, fun pb hpb => ⟨zl 2 (by decide), fun pr hpr => ?_⟩⟩⟩
    have sa := same_new hpb (HO.tup vs)
    have sb := same_new hpr (HO.tup [V.ref pb, V.ref kc])
    refine q pr pb kc _ b g' (sc.trans (sa.trans sb)) upd_same (.tup (sb _ _ upd_same) (dv.kp (sa.trans sb).kp)) (sb _ _ (sa _ _ hkc)) ?_ (by omega) (fun z => by rw [z] at hbl; simp at hbl; omega) hkn hg' (Nat.le_trans hgl (Nat.add_le_add_left (pgc hd1 hd3 (by omega)) _)) hkf
    obtain ⟨d', rfl⟩ : ∃ d', d = d' + 1 := ⟨d - 1, by omega⟩
    exact ⟨by omega, fun e he => hok e he⟩
  case step =>
    rintro j σ Hc hj ⟨kc, vs, b, g', x5, x6, x7, x8, x9, x10, x11, x12, x13, rfl, sc, hv, dv, hkc, hne, hkn, hg', hbl, hok, hgl, hkf⟩
    have hjd : j < d := by omega
    have hg7 : g'.length ≤ g.length + 6 := Nat.le_trans hgl (Nat.add_le_add_left (Nat.le_trans (pgc hd1 hd3 (Nat.le_of_lt hjd)) (cg6 d)) _)
    have hvl : vs.length = j := by rw [dv.length, encB_length, hbl]
    walk_at "rd"
    refine ⟨.inl ⟨by decide, by decide⟩, .inl ⟨by decide, by decide⟩, ?_⟩
    refine ⟨a, ns, _, 7, rfl, sc.seq hS, by omega, by decide, fun wy H3 w0 w1 s3 => ?_⟩
    walk_at "rd"
    refine way_on (Hy := fun Hx => Same H3 Hx) (C := ?cc) ?kk ?_
    case kk =>
      intro key
      split
      · generalize hH : H3 = H3n
        exact key H3n (hH ▸ Same.refl _)
      · split
        · exact key H3 (Same.refl _)
        · rename_i hd0
          refine ⟨Nat.zero_le _, fun pe hpe => ?_⟩
          have se := same_new hpe (HO.lst [])
          refine ⟨_, eqNil (SqL.of (se _ _ (s3 _ _ hkc))) (okStrs hg') (SqL.of upd_same), ?_⟩
          replace s3 := s3.trans se
          generalize upd H3 pe (HO.lst []) = H3e at s3 se ⊢
          split
          · exact key H3e se
          · rename_i hne2
            split
            · skip
              have hd4 : 2 ≤ d := by
                have : ¬ (d : Int) = 1 := hd0
                omega
              have ed : ((d : Int) - 1) = ((d - 1 : Nat) : Int) := by omega
              rw [ed]
              refine ⟨a, ns, _, kc, g', d - 1, rfl, (sc.trans s3).seq hS, by omega, s3 _ _ hkc, hg', by omega, by omega, by omega, by omega, fun r1 rb1 rk1 H4 b1 g1 s4 hr1 db1 hk1 ob1 lb1 nb1 kn1 sp1 gl1 kf1 => ?_⟩
              refine ⟨_, rfl, _, SqT.of hr1, rfl, _, _, rfl, _, _, rfl, rfl, ?_⟩
              have s34 := s3.trans s4
              refine ⟨a, ns, _, kc, g', d - 1, rfl, (sc.trans s34).seq hS, by omega, s34 _ _ hkc, hg', by omega, by omega, by omega, by omega, fun r2 rb2 rk2 H5 b2 g2 s5 hr2 db2 hk2 ob2 lb2 nb2 kn2 sp2 gl2 kf2 => ?_⟩
              have s35 := s34.trans s5
              refine ⟨_, rfl, _, SqT.of hr2, rfl, _, _, rfl, _, _, rfl, rfl, .inl ⟨rfl, _, SqL.of (s35 _ _ hv)⟩, ?_⟩
              refine ⟨a, ns, _, kc, g', 2, rfl, (sc.trans s35).seq hS, by omega, s35 _ _ hkc, hg', by decide, by decide, fun r3 H6 t3 s6 d3 k3 => ?_⟩
              refine ⟨zl 4 (by decide), fun pt hpt => ?_⟩
              have s7 := same_new hpt (HO.tup [V.str "if", r3, V.ref rb1, V.ref rb2])
              have s57 := s5.trans (s6.trans s7)
              have s67 := s6.trans s7
              have dt : Dt _ (.ref pt) (D.ite t3 b1 b2).enc := .tup upd_same (.cons (.str _) (.cons (d3.kp s7.kp) (.cons (db1.kp s57.kp) (.cons (db2.kp s67.kp) .nil))))
              have s37 := s34.trans s57
              have n1 : rk1 ≠ pd := by
                rcases kf1 with z | z
                · rw [z]; exact hne
                · intro y; rw [y, s3 _ _ hv] at z; cases z
              have n2 : rk2 ≠ pd := by
                rcases kf2 with z | z
                · rw [z]; exact hne
                · intro y; rw [y, s34 _ _ hv] at z; cases z
              have m1 := s57 _ _ hk1
              have m2 := s67 _ _ hk2
              generalize upd H6 pt (HO.tup [V.str "if", r3, V.ref rb1, V.ref rb2]) = U at s7 s57 s67 dt s37 m1 m2 ⊢
              have hv7 := s37 _ _ hv
              refine ⟨vs, hv7, by rw [hvl]; exact small1000 (by omega), ?_⟩
              have k8 : Kp U (upd U pd (HO.lst (vs ++ [V.ref pt]))) := Kp.set hv7
              have w1 : (upd U pd (HO.lst (vs ++ [V.ref pt]))) rk1 = some (.lst (g1.map V.str)) := by rw [upd_ne n1]; exact m1
              have w2 : (upd U pd (HO.lst (vs ++ [V.ref pt]))) rk2 = some (.lst (g2.map V.str)) := by rw [upd_ne n2]; exact m2
              have vU2 : (upd U pd (HO.lst (vs ++ [V.ref pt]))) pd = some (.lst (vs ++ [V.ref pt])) := upd_same
              have sU2 : Same H (upd U pd (HO.lst (vs ++ [V.ref pt]))) := same_upd (sc.trans s37) hpd
              generalize upd U pd (HO.lst (vs ++ [V.ref pt])) = U2 at k8 w1 w2 vU2 sU2 ⊢
              refine ⟨_, rfl, ⟨_, SqL.of w1⟩, ?_⟩
              have hg1 : g1.length ≤ 900 := by
                have := cg6 (d - 1)
                omega
              refine comp_list (K := K) (a := rk1) (xs := g1.map V.str) (FInv U2 rk2 g1 g2) ⟨rfl, ⟨none, rfl⟩, by simp⟩ (by rw [List.length_map]; exact small1000 (by omega)) ?_ ?_ ?_ ?_
              · rintro i ys σ' H' ⟨_, _, rfl⟩
                rw [List.length_map]
                exact Nat.le_trans (List.length_filter_le _ _) (by rw [List.length_take]; omega)
              · rintro i ys σ' H' _ ⟨rfl, _, _⟩
                exact SqL.of w1
              · rintro i ys v σ' H' hxi ⟨rfl, ⟨t, rfl⟩, rfl⟩
                rw [List.getElem?_map] at hxi
                cases hx : g1[i]? with
                | none => rw [hx] at hxi; cases hxi
                | some x =>
                  rw [hx] at hxi
                  have ev : V.str x = v := by simpa using hxi
                  subst ev
                  walk_at "rd"
                  refine ⟨inV (.str x) (g2.map V.str), .inl ⟨rk2, _, rfl, .inl (SqL.of w2), rfl, flat_strs g2, rfl⟩, ?_⟩
                  rw [inV_strs]
                  have et : g1.take (i + 1) = g1.take i ++ [x] := by rw [List.take_add_one, hx]; rfl
                  cases hc : g2.contains x with
                  | true => exact ⟨rfl, ⟨_, rfl⟩, by rw [et, List.filter_append, List.map_append, List.filter_cons, hc]; rfl⟩
                  | false => exact ⟨rfl, ⟨_, rfl⟩, by rw [et, List.filter_append, List.map_append, List.filter_cons, hc]; simp⟩
              · rintro ys σ' H' ⟨rfl, _, rfl⟩ pc hpc
                rw [List.length_map, List.take_length]
                have sa := same_new hpc (HO.lst ((g1.filter fun x => g2.contains x).map V.str))
                have hnp : pc ≠ pd := fun z => by rw [z, vU2] at hpc; cases hpc
                have hlf : (g1.filter fun x => g2.contains x).length ≤ g1.length := List.length_filter_le _ _
                refine ⟨pc, vs ++ [V.ref pt], b ++ [D.ite t3 b1 b2], g1.filter fun x => g2.contains x, _, _, _, _, _, _, _, _, _, rfl, sU2.trans sa, sa _ _ vU2, ?_, upd_same, hnp, hkn.snoc (KnowsD.ite k3 kn1 kn2 ?_), ?_, by rw [List.length_append, List.length_singleton, hbl], ?_, ?_, .inr (sU2.free hpc)⟩
                · rw [encB_append]
                  exact (dv.kp (s37.kp.trans (k8.trans sa.kp))).append (.cons (dt.kp (k8.trans sa.kp)) .nil)
                · intro y hy
                  have := List.mem_filter.mp hy
                  exact ⟨this.1, by simpa using this.2⟩
                · exact fun y hy => sp1 y (List.mem_filter.mp hy).1
                · intro c hc
                  rcases List.mem_append.mp hc with hc | hc
                  · exact hok c hc
                  · have ec : c = D.ite t3 b1 b2 := by simpa using hc
                    subst ec
                    exact ⟨k3.mono hg' (by decide), ob1, ob2⟩
                · rw [Nat.succ_mul]
                  have := cgp hd4 hd3
                  omega
            · skip
              have hd4 : 2 ≤ d := by
                have : ¬ (d : Int) = 1 := hd0
                omega
              have ed : ((d : Int) - 1) = ((d - 1 : Nat) : Int) := by omega
              rw [ed]
              have hgn : g' ≠ [] := fun z => hne2 (by rw [z]; rfl)
              refine ⟨a, ns, _, kc, g', d - 1, rfl, (sc.trans s3).seq hS, by omega, s3 _ _ hkc, hg', by omega, by omega, by omega, by omega, fun r1 rb1 rk1 H4 b1 g1 s4 hr1 db1 hk1 ob1 lb1 nb1 kn1 sp1 gl1 kf1 => ?_⟩
              have s34 := s3.trans s4
              refine ⟨_, rfl, _, SqT.of hr1, _, rfl, .inl ⟨rfl, _, SqL.of (s34 _ _ hv)⟩, ?_⟩
              refine ⟨a, ns, _, kc, g', g1, _, b1, d - 1, d, rfl, (sc.trans s34).seq hS, by omega, s34 _ _ hkc, hg', hgn, db1, ob1, by omega, nb1, kn1, by omega, fun r2 H5 e2 s5 de2 oe2 ke2 => ?_⟩
              have s35 := s34.trans s5
              refine ⟨vs, s35 _ _ hv, by rw [hvl]; exact small1000 (by omega), ?_⟩
              have k8 : Kp H5 (upd H5 pd (HO.lst (vs ++ [r2]))) := Kp.set (s35 _ _ hv)
              refine ⟨kc, vs ++ [r2], b ++ [e2], g', _, _, _, _, _, _, _, _, _, rfl, same_upd (sc.trans s35) hpd, upd_same, ?_, by rw [upd_ne hne]; exact s35 _ _ hkc, hne, hkn.snoc ke2, hg', by rw [List.length_append, List.length_singleton, hbl], ?_, ?_, hkf⟩
              · rw [encB_append]
                exact (dv.kp (s35.kp.trans k8)).append (.cons (de2.kp k8) .nil)
              · intro c hc
                rcases List.mem_append.mp hc with hc | hc
                · exact hok c hc
                · have ec : c = e2 := by simpa using hc
                  subst ec
                  exact oe2
              · rw [Nat.succ_mul]
                omega
    intro Hx sx
    replace s3 := s3.trans sx
    refine ⟨zl 4 (by decide), fun pm hpm => ?_⟩
    have s4 := same_new hpm (HO.lst [V.str "a", V.str "b", V.str "c", V.str "dd"])
    refine ⟨a, ns, _, 4, rfl, ((sc.trans s3).trans s4).seq hS, by omega, by decide, fun m H4 m0 m1 s5 => ?_⟩
    obtain ⟨x, hx, e⟩ := atI_map (c := V.str) (ns := pool) (k := m) m0 m1
    have s35 := s3.trans (s4.trans s5)
    refine ⟨_, _, rfl, SqL.of (s5 _ _ upd_same), _, e, .inl ⟨rfl, _, SqL.of (s35 _ _ hv)⟩, ?_⟩
    refine ⟨a, ns, _, kc, g', 3, rfl, (sc.trans s35).seq hS, by omega, s35 _ _ hkc, hg', by decide, by decide, fun r1 H5 t1 s6 d1 k1 => ?_⟩
    refine ⟨zl 3 (by decide), fun pt hpt => ?_⟩
    have s7 := same_new hpt (HO.tup [V.str "set", V.str x, r1])
    have dt : Dt _ (.ref pt) (D.set x t1).enc := .tup upd_same (.cons (.str _) (.cons (.str _) (.cons (d1.kp s7.kp) .nil)))
    have s37 := s35.trans (s6.trans s7)
    generalize upd H5 pt (HO.tup [V.str "set", V.str x, r1]) = U at s7 dt s37 ⊢
    have hv7 := s37 _ _ hv
    refine ⟨vs, hv7, by rw [hvl]; exact small1000 (by omega), zl 1 (by decide), fun pl hpl => ?_⟩
    have k8 : Kp U (upd U pd (HO.lst (vs ++ [V.ref pt]))) := Kp.set hv7
    have kU2 : (upd U pd (HO.lst (vs ++ [V.ref pt]))) kc = some (.lst (g'.map V.str)) := by rw [upd_ne hne]; exact s37 _ _ hkc
    have vU2 : (upd U pd (HO.lst (vs ++ [V.ref pt]))) pd = some (.lst (vs ++ [V.ref pt])) := upd_same
    have sU2 : Same H (upd U pd (HO.lst (vs ++ [V.ref pt]))) := same_upd (sc.trans s37) hpd
    generalize upd U pd (HO.lst (vs ++ [V.ref pt])) = U2 at k8 kU2 vU2 sU2 hpl ⊢
    have s9 := same_new hpl (HO.lst [V.str x])
    have hU3 : (upd U2 pl (HO.lst [V.str x])) pl = some (.lst [V.str x]) := upd_same
    generalize upd U2 pl (HO.lst [V.str x]) = U3 at s9 hU3 ⊢
    refine ⟨⟨_, SqL.of hU3⟩, ?_⟩
    refine comp_list (K := K) (a := pl) (xs := [V.str x]) (CInv U3 kc g' x) ⟨rfl, ⟨none, rfl⟩, .inl ⟨rfl, rfl⟩⟩ (small1000 (by show 1 ≤ 1000; decide)) ?_ ?_ ?_ ?_
    · rintro i ys σ' H' ⟨_, _, h⟩
      rcases h with ⟨rfl, rfl⟩ | ⟨rfl, rfl⟩
      · exact Nat.le_refl _
      · split <;> simp
    · rintro i ys σ' H' _ ⟨rfl, _, _⟩
      exact SqL.of hU3
    · rintro i ys v σ' H' hxi ⟨rfl, ⟨t, rfl⟩, h⟩
      rcases h with ⟨rfl, rfl⟩ | ⟨rfl, rfl⟩
      · have ev : V.str x = v := by simpa using hxi
        subst ev
        walk_at "rd"
        refine ⟨!inV (.str x) (g'.map V.str), .inl ⟨kc, _, rfl, .inl (SqL.of (s9 _ _ kU2)), rfl, flat_strs g', rfl⟩, ?_⟩
        rw [inV_strs]
        cases hc : g'.contains x with
        | true => exact ⟨rfl, ⟨_, rfl⟩, .inr ⟨rfl, by rw [hc]; rfl⟩⟩
        | false => exact ⟨rfl, ⟨_, rfl⟩, .inr ⟨rfl, by rw [hc]; rfl⟩⟩
      · simp at hxi
    · rintro ys σ' H' ⟨rfl, _, h⟩ pc hpc
      rcases h with ⟨h, _⟩ | ⟨_, rfl⟩
      · exact absurd h (by simp)
      have sa := same_new hpc (HO.lst ((if g'.contains x then [] else [x]).map V.str))
      refine ⟨_, rfl, _, sa _ _ (s9 _ _ kU2), _, upd_same, ?_, fun pk hpk => ?_⟩
      · have e1 : ((if g'.contains x then [] else [x]).map V.str).length ≤ 1 := by split <;> simp
        rw [List.length_map]
        exact zl _ (by omega)
      · have sb := same_new hpk (HO.lst (g'.map V.str ++ (if g'.contains x then [] else [x]).map V.str))
        have s9b := s9.trans (sa.trans sb)
        have hnp : pk ≠ pd := fun z => by
          have := (s9.trans sa) _ _ vU2
          rw [← z, hpk] at this
          cases this
        refine ⟨pk, vs ++ [V.ref pt], b ++ [D.set x t1], g' ++ (if g'.contains x then [] else [x]), _, _, _, _, _, _, _, _, _, rfl, sU2.trans s9b, s9b _ _ vU2, ?_, ?_, hnp, hkn.snoc (KnowsD.set k1 ?_), ?_, by rw [List.length_append, List.length_singleton, hbl], ?_, ?_, .inr ((sU2.trans (s9.trans sa)).free hpk)⟩
        · rw [encB_append]
          exact (dv.kp (s37.kp.trans (k8.trans s9b.kp))).append (.cons (dt.kp (k8.trans s9b.kp)) .nil)
        · rw [upd_same, List.map_append]
        · intro y hy
          rcases List.mem_append.mp hy with hy | hy
          · exact .inl hy
          · cases hc : g'.contains x with
            | true => rw [hc] at hy; simp at hy
            | false => rw [hc] at hy; simp at hy; exact .inr hy
        · intro y hy
          rcases List.mem_append.mp hy with hy | hy
          · exact hg' y hy
          · cases hc : g'.contains x with
            | true => rw [hc] at hy; simp at hy
            | false => rw [hc] at hy; simp at hy; rw [hy]; exact hx
        · intro c hc
          rcases List.mem_append.mp hc with hc | hc
          · exact hok c hc
          · have ec : c = D.set x t1 := by simpa using hc
            subst ec
            exact ⟨hx, k1.mono hg' (by decide)⟩
        · have e1 : (if g'.contains x then [] else [x]).length ≤ 1 := by split <;> simp
          rw [List.length_append, Nat.succ_mul]
          have := pg1 d
          omega
theorem none_block {k : Nat} : FnOk P w K mg base CX0 k f fd ["_law_script", "_law_at", "_law_known", "_law_deep"] (spBlock K 0) := by
  have no : ∀ vs H Q E, ¬ spBlock K 0 vs H Q E := fun vs H Q E h => by
    obtain ⟨a, ns, k, kn, g, d, _, _, _, _, _, h1, h2, _⟩ := h
    omega
  exact ⟨fun vs H Q E h => absurd h (no vs H Q E), fun A outer s H args us vs Q E _ _ _ _ h => absurd h (no vs H Q E)⟩
theorem all_block (dd : Df K mg "_law_block" s_law_block ["_law_script", "_law_at", "_law_known", "_law_deep"] f fd) (b_range : mg "range" = none) (b_tuple : mg "tuple" = none) (c_law_pick : Callee P w K mg base "_law_pick" ["_law_script", "_law_k", "_law_many"] 2 (spPick K))
    (c_law_sum : Callee P w K mg base "_law_sum" ["_law_script", "_law_at", "_law_known", "_law_deep"] 6 (spSum K 3)) (c_law_counted : Callee P w K mg base "_law_counted" ["_law_script", "_law_at", "_law_known", "_law_body", "_law_deep"] 7 (spCounted K)) :
    ∀ n : Nat, Callee P w K mg base "_law_block" ["_law_script", "_law_at", "_law_known", "_law_deep"] (n + 7) (spBlock K n)
  | 0 => dd.callee none_block
  | n + 1 => dd.callee (ok_block dd.F b_range b_tuple c_law_pick c_law_sum c_law_counted (all_block dd b_range b_tuple c_law_pick c_law_sum c_law_counted n))
/-! ### a drawn program -/
abbrev Rw := Str × Int × Int
def rowEnc (r : Rw) : Dm := .tup [.str r.1, .int r.2.1, .int r.2.2]
def pair : List Str := ["a", "b"]
def PInv (H : Hp) (a : Addr) (k : Int) (pi : Addr) (j : Nat) (σ : St) (Hc : Hp) : Prop := ∃ (vs : List V) (rows : List Rw) (x3 x4 : Option V), σ = [some (.ref a), some (.int k), some (.ref pi), x3, x4] ∧ Same H Hc ∧ Hc pi = some (.lst vs) ∧ DtA Hc vs (rows.map rowEnc) ∧ rows.length = j ∧ rows.map (·.1) = pair.take j ∧ ∀ r ∈ rows, -6 ≤ r.2.1 ∧ r.2.1 ≤ r.2.2 ∧ r.2.2 ≤ 8
def QInv (U : Hp) (rows : List Rw) (i : Nat) (ys : List V) (σ' : St) (H' : Hp) : Prop := H' = U ∧ (∃ t, σ' = [t]) ∧ ys = (rows.take i).map fun r => V.str r.1
structure okRows (rows : List Rw) : Prop where
  len : rows.length ≤ 2
  nm : rows.map (·.1) = pair.take rows.length
  lo : ∀ r ∈ rows, -6 ≤ r.2.1 ∧ r.2.1 ≤ r.2.2 ∧ r.2.2 ≤ 8
def spProgram (K : PySem.W.Frag) : Sp := fun vs H Q _ => ∃ (a : Addr) (ns : List Int) (k : Int), vs = [.ref a, .int k] ∧ SqL K H a (ns.map V.int) ∧ 0 ≤ k ∧
  ∀ (r ri rb : Addr) (H' : Hp) (rows : List Rw) (b : List D) (g' : List Str), Same H H' → H' r = some (.tup [.ref ri, .ref rb]) → Dt H' (.ref ri) (.tup (rows.map rowEnc)) → Dt H' (.ref rb) (.tup (encB b)) → okRows rows → okB 3 b → b.length ≤ 3 → b ≠ [] → Knows (rows.map (·.1)) b g' → Q (.ref r) H'
theorem ok_program (F : Fun K "_law_program" "_law_program" s_law_program f fd) (b_range : mg "range" = none) (b_tuple : mg "tuple" = none) (c_law_pick : Callee P w K mg base "_law_pick" ["_law_script", "_law_k", "_law_many"] 2 (spPick K))
    (c_law_block : Callee P w K mg base "_law_block" ["_law_script", "_law_at", "_law_known", "_law_deep"] 10 (spBlock K 3)) : FnOk P w K mg base CX0 11 f fd ["_law_script", "_law_at"] (spProgram K) := by
  refine F.ok sc_law_program (fun vs H Q E h => ?_) (fun cdv A outer s H vs Q E hr h => ?_)
  · obtain ⟨a, ns, k, rfl, _⟩ := h
    rfl
  obtain ⟨a, ns, k, rfl, hS, h0, q⟩ := h
  refine ⟨_, (pss_cons (ps_set (i := 2) sc_law_program.nd rfl loc_law_program__law_ins (pe_lst pa_nil) (swaps_plain rfl))
  (pss_cons (ps_for PassesOwn.never rfl (pi_range1 gl_law_program_range b_range (pa_c (pe_cc c_law_pick hr (by omega) (pa_c (pe_var (i := 0) rfl vis_law_program__law_script db__law_script cd__law_script) (pa_c (pe_var (i := 1) rfl vis_law_program__law_at db__law_at cd__law_at) (pa_c pe_int pa_nil))) gl_law_program__law_pick db__law_pick) pa_nil)) (pg_name (i := 3) sc_law_program.nd rfl loc_law_program__law_k)
  (pss_cons (ps_set (i := 4) sc_law_program.nd rfl loc_law_program__law_low (pe_op op_sub (pe_cc c_law_pick hr (by omega) (pa_c (pe_var (i := 0) rfl vis_law_program__law_script db__law_script cd__law_script) (pa_c (pe_op op_add (pe_op op_add (pe_var (i := 1) rfl vis_law_program__law_at db__law_at cd__law_at) pe_int) (pe_op op_mul pe_int (pe_var (i := 3) rfl vis_law_program__law_k db__law_k cd__law_k))) (pa_c pe_int pa_nil))) gl_law_program__law_pick db__law_pick) pe_int) (swaps_plain rfl))
  (pss_one (ps_expr (pe_bm PySem.F.plainAttrs_list PySem.F.slot_list_append PySem.F.type_list_append mt_append (pe_var (i := 2) rfl vis_law_program__law_ins db__law_ins cd__law_ins) (pa_c (pe_tup (pa_c (pe_ix ix_list (pe_lst (pa_c pe_str (pa_c pe_str pa_nil))) (pe_var (i := 3) rfl vis_law_program__law_k db__law_k cd__law_k) (fun _ _ => rfl)) (pa_c (pe_var (i := 4) rfl vis_law_program__law_low db__law_low cd__law_low) (pa_c (pe_op op_add (pe_var (i := 4) rfl vis_law_program__law_low db__law_low cd__law_low) (pe_cc c_law_pick hr (by omega) (pa_c (pe_var (i := 0) rfl vis_law_program__law_script db__law_script cd__law_script) (pa_c (pe_op op_add (pe_op op_add (pe_var (i := 1) rfl vis_law_program__law_at db__law_at cd__law_at) pe_int) (pe_op op_mul pe_int (pe_var (i := 3) rfl vis_law_program__law_k db__law_k cd__law_k))) (pa_c pe_int pa_nil))) gl_law_program__law_pick db__law_pick)) pa_nil)))) pa_nil)) (swaps_plain rfl)))))
  (pss_one (ps_ret (pe_tup (pa_c (pe_cT call_tuple_of gl_law_program_tuple b_tuple bt_tuple (pa_c (pe_var (i := 2) rfl vis_law_program__law_ins db__law_ins cd__law_ins) pa_nil) nn_tuple db_tuple) (pa_c (pe_ix ix_tup (pe_cc c_law_block hr (by omega) (pa_c (pe_var (i := 0) rfl vis_law_program__law_script db__law_script cd__law_script) (pa_c (pe_op op_add (pe_var (i := 1) rfl vis_law_program__law_at db__law_at cd__law_at) pe_int) (pa_c (pe_comp ["_law_row"] [none] rfl (CompS.of (by rfl)) (pi_list (pe_var (i := 2) rfl vis_law_program__law_ins db__law_ins cd__law_ins)) (fun _ _ _ _ _ => (pg_name (i := 0) (show List.Nodup (["_law_row"] : List Str) from by decide +kernel) rfl (Or.inl rfl))) (fun _ _ _ _ _ => pif_nil) (fun _ _ _ _ _ => (pe_ix (ixK (r := rIxT) (K := K) ix_tup rfl) (pe_var (i := 0) rfl (by first | exact Or.inl rfl | exact Or.inr (Or.inl rfl) | exact Or.inr (Or.inr rfl)) db__law_row cd__law_row) pe_int (fun _ _ => rfl)))) (pa_c pe_int pa_nil)))) gl_law_program__law_block db__law_block) pe_int (fun _ _ => rfl)) pa_nil))))))), ?_⟩
  walk_at "rd"
  refine ⟨Nat.zero_le _, fun pi hpi => ?_⟩
  have s1 := same_new hpi (HO.lst [])
  refine ⟨a, ns, k, 3, rfl, s1.seq hS, h0, by decide, fun i H2 i0 i1 s2 => ?_⟩
  refine ⟨_, rfl, by omega, by omega, ?_⟩
  refine for_range (lo := 0) (n := i.toNat) (PInv H a k pi) ?start ?step ?done
  case start => exact ⟨[], [], none, none, rfl, s1.trans s2, s2 _ _ upd_same, .nil, rfl, rfl, fun r hr => absurd hr (by simp)⟩
  case step =>
    rintro j σ Hc hj ⟨vs, rows, x3, x4, rfl, sc, hv, dv, hl, hnm, hlo⟩
    have hvl : vs.length = j := by rw [dv.length, List.length_map, hl]
    walk_at "rd"
    refine ⟨.inl ⟨by decide, by decide⟩, ?_⟩
    refine ⟨a, ns, _, 13, rfl, sc.seq hS, by omega, by decide, fun lo H3 l0 l1 s3 => ?_⟩
    walk_at "rd"
    refine ⟨.inl ⟨rfl, _, SqL.of (s3 _ _ hv)⟩, zl 2 (by decide), fun pm hpm => ?_⟩
    have s4 := same_new hpm (HO.lst [V.str "a", V.str "b"])
    have hj2 : j = 0 ∨ j = 1 := by omega
    obtain ⟨x, ex, et⟩ : ∃ x : Str, atI (pair.map V.str) (0 + (j : Int)) = some (V.str x) ∧ pair.take (j + 1) = pair.take j ++ [x] := by
      rcases hj2 with rfl | rfl
      · exact ⟨"a", rfl, rfl⟩
      · exact ⟨"b", rfl, rfl⟩
    refine ⟨_, SqL.of upd_same, _, ex, .inl ⟨by decide, by decide⟩, ?_⟩
    refine ⟨a, ns, _, 3, rfl, ((sc.trans s3).trans s4).seq hS, by omega, by decide, fun z H4 z0 z1 s5 => ?_⟩
    refine ⟨_, rfl, zl 3 (by decide), fun pt hpt => ?_⟩
    have s6 := same_new hpt (HO.tup [V.str x, V.int (lo - 6), V.int (lo - 6 + z)])
    have dt : Dt (upd H4 pt (HO.tup [V.str x, V.int (lo - 6), V.int (lo - 6 + z)])) (.ref pt) (rowEnc (x, lo - 6, lo - 6 + z)) := .tup upd_same (.cons (.str _) (.cons (.int _) (.cons (.int _) .nil)))
    have s36 := s3.trans (s4.trans (s5.trans s6))
    generalize upd H4 pt (HO.tup [V.str x, V.int (lo - 6), V.int (lo - 6 + z)]) = U at s6 dt s36 ⊢
    refine ⟨vs, s36 _ _ hv, by rw [hvl]; exact small1000 (by omega), ?_⟩
    have k8 : Kp U (upd U pi (HO.lst (vs ++ [V.ref pt]))) := Kp.set (s36 _ _ hv)
    refine ⟨vs ++ [V.ref pt], rows ++ [(x, lo - 6, lo - 6 + z)], _, _, rfl, same_upd (sc.trans s36) hpi, upd_same, ?_, by rw [List.length_append, List.length_singleton, hl], ?_, ?_⟩
    · rw [List.map_append]
      exact (dv.kp (s36.kp.trans k8)).append (.cons (dt.kp k8) .nil)
    · rw [List.map_append, hnm, et]; rfl
    · intro r hr'
      rcases List.mem_append.mp hr' with hr' | hr'
      · exact hlo r hr'
      · have er : r = (x, lo - 6, lo - 6 + z) := by simpa using hr'
        subst er
        show -6 ≤ lo - 6 ∧ lo - 6 ≤ lo - 6 + z ∧ lo - 6 + z ≤ 8
        omega
  case done =>
    rintro σ Hc ⟨vs, rows, x3, x4, rfl, sc, hv, dv, hl, hnm, hlo⟩
    walk_at "rd"
    have hvl : vs.length = i.toNat := by rw [dv.length, List.length_map, hl]
    refine ⟨vs, .inl ⟨SqL.of hv, fun pb hpb => ?_⟩⟩
    have sa := same_new hpb (HO.tup vs)
    have dti : Dt _ (.ref pb) (.tup (rows.map rowEnc)) := .tup upd_same (dv.kp sa.kp)
    have hv2 := sa _ _ hv
    have dvU := dv.kp sa.kp
    generalize upd Hc pb (HO.tup vs) = U at sa dti hv2 dvU ⊢
    refine ⟨⟨_, SqL.of hv2⟩, ?_⟩
    refine comp_list (K := K) (a := pi) (xs := vs) (QInv U rows) ⟨rfl, ⟨none, rfl⟩, rfl⟩ (by rw [hvl]; exact small1000 (by omega)) ?_ ?_ ?_ ?_
    · rintro i ys σ' H' ⟨_, _, rfl⟩
      rw [List.length_map, List.length_take]
      omega
    · rintro i ys σ' H' _ ⟨rfl, _, _⟩
      exact SqL.of hv2
    · rintro i' ys v σ' H' hxi ⟨rfl, ⟨t, rfl⟩, rfl⟩
      obtain ⟨d, hd, dd⟩ := dvU.get hxi
      rw [List.getElem?_map] at hd
      cases hr' : rows[i']? with
      | none => rw [hr'] at hd; cases hd
      | some r =>
        rw [hr'] at hd
        have ed : rowEnc r = d := by simpa using hd
        subst ed
        obtain ⟨pa, xs, rfl, hpa, da⟩ := dd.tupI
        rcases da with _ | ⟨d1, _ | ⟨d3, _ | ⟨d5, _ | _⟩⟩⟩
        · cases d1
          walk_at "rd"
          refine ⟨_, SqT.of hpa, _, rfl, rfl, ⟨_, rfl⟩, ?_⟩
          rw [List.take_add_one, hr', List.map_append]
          rfl
    · rintro ys σ' H' ⟨rfl, _, rfl⟩ pc hpc
      rw [show vs.length = rows.length by rw [hvl, hl], List.take_length]
      have sb := same_new hpc (HO.lst (rows.map fun r => V.str r.1))
      have hsub : Sub (rows.map (·.1)) pool := by
        rw [hnm]
        intro y hy
        have := List.mem_of_mem_take hy
        simp only [pair, List.mem_cons, List.not_mem_nil, or_false] at this
        rcases this with rfl | rfl <;> decide +kernel
      refine ⟨a, ns, k + 9, pc, rows.map (·.1), 3, rfl, (sc.trans (sa.trans sb)).seq hS, by omega, ?_, hsub, by decide, by decide, by decide, by rw [List.length_map]; omega, fun r rb rk H5 b g' s5 hr' db hkk ob lb nb kn sp gl kf => ?_⟩
      · rw [upd_same, List.map_map]; rfl
      · refine ⟨_, rfl, _, SqT.of hr', _, rfl, zl 2 (by decide), fun pr hpr => ?_⟩
        have sc2 := same_new hpr (HO.tup [V.ref pb, V.ref rb])
        exact q pr pb rb _ rows b g' (sc.trans (sa.trans (sb.trans (s5.trans sc2)))) upd_same (dti.kp (sb.trans (s5.trans sc2)).kp) (db.kp sc2.kp) ⟨by omega, by rw [hnm, hl], hlo⟩ ob lb nb kn
end
end SR


set_option Elab.async false
set_option linter.all false
set_option maxRecDepth 100000
set_option maxHeartbeats 0
namespace SR
open PySem L2
local macro_rules | `(tactic| walk_at "rd") => `(tactic| simp only [tSeq, tIfS, tTest, tOp, tVar, tC, tAsg, gName, gTup, gCons, gNil, tRet, tRetN, tDrop, tNext, tCB, tCons, tNil, tCall, tUn, rU, rI0, rI, tAnd, tOr, tNot, tB, tAndV, tOrV, tNotV, tIf, tIfT, tKGet, tChain, tDGet, tDGet1, sDPut, tDNewK, tDisp, tPairs, tCont, tSl, tNoPart, tPart, rSlT, tChain3, qSortS, qEqDL, qNeDL, tFor_enum, tFor_zip, tFor_rng2, tComp_seq, qSetI, qSortSet, cxOf_prog, cxOf_w, cxOf_nox_prog, cxOf_nox_w, cxOf_mg, cxOf_base, cxOf_nox_mg, cxOf_nox_base, cxComp_prog, cxComp_w, cxComp_mg, cxComp_base, tComp_zipT, tCallL, rSlA, rSlL, tDX, tDXs, tTup, tLst, tBM,
  qEq, qNe, qIn, qNotIn, qIsN, qNotN, qIsB, qNotB, qLen, qInst, qEqD, qNeD, qMinL, qMaxL, qSortI, rIx, rIxL, rIxT, rIxS, rCat, rCatT2, rRep, rRepT, rLeS, rLtS, rAppend, rExtend, tNever, tBreak, tYes,
  tFor_tup, tFor_list, tFor_rng1, tComp_tup, tComp_list, tComp_str, L2.start, cxOf_K, cxOf_nox_K, cxComp_K, List.map_cons, List.map_nil, List.length_cons, List.length_nil, List.replicate_succ, List.replicate_zero, Nat.reduceAdd, Nat.reduceSub, Nat.zero_add, Nat.add_zero, Nat.sub_zero, Nat.sub_self, Nat.add_sub_cancel,
  List.getElem?_cons_zero, List.getElem?_cons_succ, List.set_cons_zero, List.set_cons_succ, List.cons_append, List.nil_append, List.append_nil, List.cons.injEq, Option.some.injEq, V.int.injEq, V.ref.injEq, V.str.injEq, V.bl.injEq, V.ty.injEq,
  reduceCtorEq, false_and, and_false, and_true, true_and, exists_false, exists_const, false_or, or_false, exists_eq_left, exists_eq_left', exists_eq_right, exists_eq_right', exists_and_left, decide_eq_true_eq, Bool.not_eq_true', Bool.decide_eq_true, exists_eq, true_or, or_true, Bool.false_eq_true, if_true, if_false, Bool.true_eq_false, Bool.not_true, Bool.not_false, decide_true, decide_false, List.isEmpty_cons, List.isEmpty_nil, Bool.true_and, Bool.false_and, bne_self_eq_false, beq_self_eq_true])
section
variable {P : Program} {w : World} {K : PySem.W.Frag} {mg : Str → Option Value} {base : Heap} {f : Addr} {fd : FuncData}
/-! ### what the program asks of things, on data -/
def tyD : Dm → String
  | .non => "NoneType" | .bl _ => "bool" | .int _ => "int" | .str _ => "str" | .tup _ => "tuple" | .lst => "list"
theorem tyOf {H : Hp} {v : V} {d : Dm} (h : Dt H v d) : TyOf K H v (.type (tyD d)) := by
  cases h with
  | non => exact .non
  | bl b => exact .bl b
  | int i => exact .int i
  | str x => exact .str x
  | tup e _ => exact .tup e
  | lst e => exact .lst e
def isT : Dm → Bool
  | .tup _ => true
  | _ => false
def isI : Dm → Bool
  | .int _ => true
  | .bl _ => true
  | _ => false
def isB : Dm → Bool
  | .bl _ => true
  | _ => false
def isS : Dm → Bool
  | .str _ => true
  | _ => false
theorem inst_tuple {H : Hp} {v : V} {d : Dm} (h : Dt H v d) : ∃ t, TyOf K H v t ∧ PySem.W.kitOne K t (.type "tuple") = some (isT d) := ⟨_, tyOf h, by cases d <;> rfl⟩
theorem inst_int {H : Hp} {v : V} {d : Dm} (h : Dt H v d) : ∃ t, TyOf K H v t ∧ PySem.W.kitOne K t (.type "int") = some (isI d) := ⟨_, tyOf h, by cases d <;> rfl⟩
theorem inst_bool {H : Hp} {v : V} {d : Dm} (h : Dt H v d) : ∃ t, TyOf K H v t ∧ PySem.W.kitOne K t (.type "bool") = some (isB d) := ⟨_, tyOf h, by cases d <;> rfl⟩
theorem inst_str {H : Hp} {v : V} {d : Dm} (h : Dt H v d) : ∃ t, TyOf K H v t ∧ PySem.W.kitOne K t (.type "str") = some (isS d) := ⟨_, tyOf h, by cases d <;> rfl⟩
def isWhole : Dm → Bool
  | .int _ => true
  | _ => false
def isFrom (d : Dm) (lo hi : Int) : Bool := match d with
  | .int i => decide (lo ≤ i) && decide (i ≤ hi)
  | _ => false
def isTup (d : Dm) (n : Int) : Bool := match d with
  | .tup ds => decide ((ds.length : Int) = n)
  | _ => false
def spB1 (g : Dm → Bool) : Sp := fun vs H Q _ => ∃ v d, vs = [v] ∧ Dt H v d ∧ ∀ H', Same H H' → Q (.bl (g d)) H'
theorem ok_is_whole (F : Fun K "is_whole" "is_whole" s_is_whole f fd) (b_isinstance : mg "isinstance" = none) (b_int : mg "int" = none) (b_bool : mg "bool" = none) : FnOk P w K mg base CX0 1 f fd ["thing"] (spB1 isWhole) := by
  refine F.ok sc_is_whole (fun vs H Q E h => ?_) (fun cdv A outer s H vs Q E hr h => ?_)
  · obtain ⟨v, d, rfl, _⟩ := h
    rfl
  obtain ⟨v, d, rfl, hd, q⟩ := h
  refine ⟨_, (pss_one (ps_ret (pe_and (pe_cB gInst gl_is_whole_isinstance b_isinstance bt_isinstance (pa_c (pe_var (i := 0) rfl vis_is_whole_thing db_thing cd_thing) (pa_c (pe_bltn (v := V.ty "int") gl_is_whole_int b_int bt_int rfl nn_int db_int) pa_nil)) nn_isinstance db_isinstance) (pe_one (pe_not (pe_cB gInst gl_is_whole_isinstance b_isinstance bt_isinstance (pa_c (pe_var (i := 0) rfl vis_is_whole_thing db_thing cd_thing) (pa_c (pe_bltn (v := V.ty "bool") gl_is_whole_bool b_bool bt_bool rfl nn_bool db_bool) pa_nil)) nn_isinstance db_isinstance)))))), ?_⟩
  walk_at "rd"
  refine ⟨_, _, ⟨rfl, rfl⟩, _, inst_int hd, ?_⟩
  have q' := q H (Same.refl _)
  cases d with
  | int i => exact ⟨_, _, ⟨rfl, rfl⟩, _, inst_bool hd, q'⟩
  | bl b => exact ⟨_, _, ⟨rfl, rfl⟩, _, inst_bool hd, q'⟩
  | non => exact q'
  | str x => exact q'
  | tup ds => exact q'
  | lst => exact q'
def spFrom : Sp := fun vs H Q _ => ∃ v d lo hi, vs = [v, .int lo, .int hi] ∧ Dt H v d ∧ ∀ H', Same H H' → Q (.bl (isFrom d lo hi)) H'
theorem ok_is_whole_from (F : Fun K "is_whole_from" "is_whole_from" s_is_whole_from f fd) (c_is_whole : Callee P w K mg base "is_whole" ["thing"] 1 (spB1 isWhole)) : FnOk P w K mg base CX0 2 f fd ["thing", "low", "high"] spFrom := by
  refine F.ok sc_is_whole_from (fun vs H Q E h => ?_) (fun cdv A outer s H vs Q E hr h => ?_)
  · obtain ⟨v, d, lo, hi, rfl, _⟩ := h
    rfl
  obtain ⟨v, d, lo, hi, rfl, hd, q⟩ := h
  refine ⟨_, (pss_one (ps_ret (pe_and (pe_cc c_is_whole hr (by omega) (pa_c (pe_var (i := 0) rfl vis_is_whole_from_thing db_thing cd_thing) pa_nil) gl_is_whole_from_is_whole db_is_whole) (pe_and (pe_cmpR op_le (pe_var (i := 1) rfl vis_is_whole_from_low db_low cd_low) (pe_var (i := 0) rfl vis_is_whole_from_thing db_thing cd_thing) (nomark _)) (pe_one (pe_cmpR op_le (pe_var (i := 0) rfl vis_is_whole_from_thing db_thing cd_thing) (pe_var (i := 2) rfl vis_is_whole_from_high db_high cd_high) (nomark _))))))), ?_⟩
  walk_at "rd"
  refine ⟨v, d, rfl, hd, fun H1 s1 => ?_⟩
  have q' := q H1 s1
  cases hd with
  | int i =>
    walk_at "rd"
    simp only [isWhole, if_true]
    replace q' : Q (.bl (decide (lo ≤ i) && decide (i ≤ hi))) H1 := q'
    split
    · rename_i hlo
      rw [decide_eq_true hlo, Bool.true_and] at q'
      exact q'
    · rename_i hlo
      rw [decide_eq_false hlo, Bool.false_and] at q'
      exact q'
  | _ => exact ⟨_, rfl, q'⟩
def spTupOf : Sp := fun vs H Q _ => ∃ v d n, vs = [v, .int n] ∧ Dt H v d ∧ ∀ H', Same H H' → Q (.bl (isTup d n)) H'
theorem ok_is_tuple_of (F : Fun K "is_tuple_of" "is_tuple_of" s_is_tuple_of f fd) (b_isinstance : mg "isinstance" = none) (b_len : mg "len" = none) (b_tuple : mg "tuple" = none) : FnOk P w K mg base CX0 1 f fd ["thing", "many"] spTupOf := by
  refine F.ok sc_is_tuple_of (fun vs H Q E h => ?_) (fun cdv A outer s H vs Q E hr h => ?_)
  · obtain ⟨v, d, n, rfl, _⟩ := h
    rfl
  obtain ⟨v, d, n, rfl, hd, q⟩ := h
  refine ⟨_, (pss_one (ps_ret (pe_and (pe_cB gInst gl_is_tuple_of_isinstance b_isinstance bt_isinstance (pa_c (pe_var (i := 0) rfl vis_is_tuple_of_thing db_thing cd_thing) (pa_c (pe_bltn (v := V.ty "tuple") gl_is_tuple_of_tuple b_tuple bt_tuple rfl nn_tuple db_tuple) pa_nil)) nn_isinstance db_isinstance) (pe_one (pe_cmpR op_eqI (pe_cB gLen gl_is_tuple_of_len b_len bt_len (pa_c (pe_var (i := 0) rfl vis_is_tuple_of_thing db_thing cd_thing) pa_nil) nn_len db_len) (pe_var (i := 1) rfl vis_is_tuple_of_many db_many cd_many) (nomark _)))))), ?_⟩
  walk_at "rd"
  refine ⟨_, _, ⟨rfl, rfl⟩, _, inst_tuple hd, ?_⟩
  have q' := q H (Same.refl _)
  cases hd with
  | tup e r =>
    refine ⟨_, lenT (SqT.of e), ?_⟩
    rw [r.length]
    exact q'
  | _ => exact q'
/-! names -/
def letter (c : Nat) : Bool := !(Builtin.Str.occurrences ("abcdefghijklmnopqrstuvwxyz" : Str) ⟨#[c]⟩ 0 ("abcdefghijklmnopqrstuvwxyz" : Str).length 1).isEmpty
def isNameS (z : Str) : Bool := decide (1 ≤ z.length) && decide (z.length ≤ 2) && z.cps.toList.all letter
def isName : Dm → Bool
  | .str z => isNameS z
  | _ => false
def NInv (H : Hp) (z : Str) (i : Nat) (ys : List V) (σ' : St) (H' : Hp) : Prop := H' = H ∧ (∃ t, σ' = [t]) ∧ ys = ((z.cps.toList.take i).map letter).map V.bl
mutual
def smallD : Dm → Prop
  | .str z => z.length ≤ 1000
  | .tup ds => smallA ds ∧ ds.length ≤ 1000
  | _ => True
def smallA : List Dm → Prop
  | [] => True
  | d :: r => smallD d ∧ smallA r
end
theorem smallA.get : ∀ {ds : List Dm} {i : Nat} {d : Dm}, smallA ds → ds[i]? = some d → smallD d
  | [], _, _, _, e => by simp at e
  | x :: r, 0, d, h, e => by
    simp at e; subst e
    rw [smallA] at h
    exact h.1
  | x :: r, i + 1, d, h, e => by
    rw [smallA] at h
    exact smallA.get h.2 (by simpa using e)
def spName : Sp := fun vs H Q _ => ∃ v d, vs = [v] ∧ Dt H v d ∧ smallD d ∧ ∀ H', Same H H' → Q (.bl (isName d)) H'
theorem ok_is_name (F : Fun K "is_name" "is_name" s_is_name f fd) (b_isinstance : mg "isinstance" = none) (b_len : mg "len" = none) (b_str : mg "str" = none) (b_all : mg "all" = none) (g_MOST_LETTERS : GC mg "MOST_LETTERS" (.int 2)) (g_LETTERS : GC mg "LETTERS" (.str "abcdefghijklmnopqrstuvwxyz")) :
    FnOk P w K mg base CX0 1 f fd ["thing"] spName := by
  refine F.ok sc_is_name (fun vs H Q E h => ?_) (fun cdv A outer s H vs Q E hr h => ?_)
  · obtain ⟨v, d, rfl, _⟩ := h
    rfl
  obtain ⟨v, d, rfl, hd, hz, q⟩ := h
  refine ⟨_, (pss_cons (ps_if (PW.pt (pw_or (pt_not (pt_val (pe_cB gInst gl_is_name_isinstance b_isinstance bt_isinstance (pa_c (pe_var (i := 0) rfl vis_is_name_thing db_thing cd_thing) (pa_c (pe_bltn (v := V.ty "str") gl_is_name_str b_str bt_str rfl nn_str db_str) pa_nil)) nn_isinstance db_isinstance))) (pw_or (pt_cmpR op_lt (pe_cB gLen gl_is_name_len b_len bt_len (pa_c (pe_var (i := 0) rfl vis_is_name_thing db_thing cd_thing) pa_nil) nn_len db_len) pe_int (nomark _)) (pw_or1 (pt_cmpR op_gt (pe_cB gLen gl_is_name_len b_len bt_len (pa_c (pe_var (i := 0) rfl vis_is_name_thing db_thing cd_thing) pa_nil) nn_len db_len) (pe_gc g_MOST_LETTERS gl_is_name_MOST_LETTERS db_MOST_LETTERS) (nomark _)))))) (pss_one (ps_ret pe_bl)) pss_nil)
  (pss_one (ps_ret (pe_cB (call_all rfl) gl_is_name_all b_all bt_all (pa_c (pe_comp ["sign"] [none] rfl (CompS.of (by rfl)) (pi_str (pe_var (i := 0) rfl vis_is_name_thing db_thing cd_thing)) (fun _ _ _ _ _ => (pg_name (i := 0) (show List.Nodup (["sign"] : List Str) from by decide +kernel) rfl (Or.inl rfl))) (fun _ _ _ _ _ => pif_nil) (fun _ _ _ _ _ => (pe_cmpR (opK (r := qIn) (K := K) (gIn hr.units) rfl) (pe_var (i := 0) rfl (by first | exact Or.inl rfl | exact Or.inr (Or.inl rfl) | exact Or.inr (Or.inr rfl)) db_sign cd_sign) (pe_gc g_LETTERS rfl db_LETTERS) (by with_unfolding_all rfl)))) pa_nil) nn_all db_all)))), ?_⟩
  walk_at "rd"
  refine ⟨_, _, ⟨rfl, rfl⟩, _, inst_str hd, ?_⟩
  cases hd with
  | str z =>
    have hz' : z.length ≤ 1000 := by rw [smallD] at hz; exact hz
    have q' : ∀ H', Same H H' → Q (.bl (isNameS z)) H' := q
    have hl : LenOf K (.str z) H z.length := .inr ⟨z, rfl, zl _ hz', rfl⟩
    refine ⟨_, hl, ?_⟩
    split
    · rename_i h1
      have e : isNameS z = false := by
        unfold isNameS
        rw [decide_eq_false (by omega), Bool.false_and, Bool.false_and]
      exact e ▸ q' H (Same.refl _)
    · rename_i h1
      refine ⟨_, hl, ?_⟩
      split
      · rename_i h2
        have e : isNameS z = false := by
          unfold isNameS
          rw [decide_eq_false (p := z.length ≤ 2) (by omega), Bool.and_false, Bool.false_and]
        exact e ▸ q' H (Same.refl _)
      · rename_i h2
        have e : isNameS z = z.cps.toList.all letter := by
          unfold isNameS
          rw [decide_eq_true (by omega), decide_eq_true (by omega), Bool.true_and, Bool.true_and]
        have hcs : z.cps.size = z.length := rfl
        refine ⟨_, rfl, ?_⟩
        refine comp_str (z := z) (NInv H z) ⟨rfl, ⟨none, rfl⟩, rfl⟩ (small1000 (by omega)) ?_ ?_ ?_
        · rintro i ys σ' H' ⟨_, _, rfl⟩
          rw [List.length_map, List.length_map, List.length_take]
          omega
        · rintro i ys c σ' H' hc ⟨rfl, ⟨t, rfl⟩, rfl⟩
          walk_at "rd"
          refine ⟨letter c, .inr (.inl ⟨_, _, rfl, rfl, rfl⟩), rfl, ⟨_, rfl⟩, ?_⟩
          have hc' : z.cps.toList[i]? = some c := by simpa using hc
          rw [List.take_add_one, hc', List.map_append, List.map_append]
          rfl
        · rintro ys σ' H' ⟨rfl, _, rfl⟩ p hp
          walk_at "rd"
          have et : z.cps.toList.take z.cps.size = z.cps.toList := List.take_of_length_le (by simp)
          rw [et]
          refine ⟨z.cps.toList.map letter, SqL.of upd_same, ?_⟩
          have e2 : (z.cps.toList.map letter).all id = isNameS z := by
            rw [e, List.all_map]; rfl
          rw [e2]
          exact q' _ (same_new hp _)
  | _ => exact q H (Same.refl _)
/-! what comes in -/
theorem isTup_inv {d : Dm} {n : Nat} (h : isTup d (n : Int) = true) : ∃ ds, d = .tup ds ∧ ds.length = n := by
  cases d with
  | tup ds =>
    have := of_decide_eq_true (show decide ((ds.length : Int) = n) = true from h)
    exact ⟨ds, rfl, by omega⟩
  | _ => exact absurd (show false = true from h) Bool.false_ne_true
theorem len2 {ds : List Dm} (h : ds.length = 2) : ∃ a b, ds = [a, b] := by
  match ds, h with
  | [a, b], _ => exact ⟨a, b, rfl⟩
theorem len3 {ds : List Dm} (h : ds.length = 3) : ∃ a b c, ds = [a, b, c] := by
  match ds, h with
  | [a, b, c], _ => exact ⟨a, b, c, rfl⟩
theorem len4 {ds : List Dm} (h : ds.length = 4) : ∃ a b c d, ds = [a, b, c, d] := by
  match ds, h with
  | [a, b, c, d], _ => exact ⟨a, b, c, d, rfl⟩
theorem tup2 {H : Hp} {v : V} {a b : Dm} (h : Dt H v (.tup [a, b])) : ∃ p x y, v = .ref p ∧ H p = some (.tup [x, y]) ∧ Dt H x a ∧ Dt H y b := by
  obtain ⟨p, xs, rfl, e, r⟩ := h.tupI
  rcases r with _ | ⟨r1, _ | ⟨r2, _ | _⟩⟩
  exact ⟨p, _, _, rfl, e, r1, r2⟩
theorem tup3 {H : Hp} {v : V} {a b c : Dm} (h : Dt H v (.tup [a, b, c])) : ∃ p x y z, v = .ref p ∧ H p = some (.tup [x, y, z]) ∧ Dt H x a ∧ Dt H y b ∧ Dt H z c := by
  obtain ⟨p, xs, rfl, e, r⟩ := h.tupI
  rcases r with _ | ⟨r1, _ | ⟨r2, _ | ⟨r3, _ | _⟩⟩⟩
  exact ⟨p, _, _, _, rfl, e, r1, r2, r3⟩
theorem tup4 {H : Hp} {v : V} {a b c d : Dm} (h : Dt H v (.tup [a, b, c, d])) : ∃ p x y z u, v = .ref p ∧ H p = some (.tup [x, y, z, u]) ∧ Dt H x a ∧ Dt H y b ∧ Dt H z c ∧ Dt H u d := by
  obtain ⟨p, xs, rfl, e, r⟩ := h.tupI
  rcases r with _ | ⟨r1, _ | ⟨r2, _ | ⟨r3, _ | ⟨r4, _ | _⟩⟩⟩⟩
  exact ⟨p, _, _, _, _, rfl, e, r1, r2, r3, r4⟩
def isIn (d : Dm) : Bool := match d with
  | .tup [x, .int l, h] => isName x && isFrom (.int l) (-99) 99 && isFrom h l 99
  | _ => false
def spIn : Sp := fun vs H Q _ => ∃ v d, vs = [v] ∧ Dt H v d ∧ smallD d ∧ ∀ H', Same H H' → Q (.bl (isIn d)) H'
theorem isIn_no {d : Dm} (h : isTup d 3 = false) : isIn d = false := by
  unfold isIn
  split
  · exact absurd (show true = false from h) (by decide)
  · rfl
theorem ok_is_in (F : Fun K "is_in" "is_in" s_is_in f fd) (c_is_tuple_of : Callee P w K mg base "is_tuple_of" ["thing", "many"] 1 spTupOf) (c_is_name : Callee P w K mg base "is_name" ["thing"] 1 spName) (c_is_whole_from : Callee P w K mg base "is_whole_from" ["thing", "low", "high"] 2 spFrom)
    (g_LEAST_IN : GC mg "LEAST_IN" (.int (-99))) (g_GREATEST_IN : GC mg "GREATEST_IN" (.int 99)) : FnOk P w K mg base CX0 3 f fd ["thing"] spIn := by
  refine F.ok sc_is_in (fun vs H Q E h => ?_) (fun cdv A outer s H vs Q E hr h => ?_)
  · obtain ⟨v, d, rfl, _⟩ := h
    rfl
  obtain ⟨v, d, rfl, hd, hz, q⟩ := h
  refine ⟨_, (pss_cons (ps_if (PW.pt (pw_or (pt_not (pt_val (pe_cc c_is_tuple_of hr (by omega) (pa_c (pe_var (i := 0) rfl vis_is_in_thing db_thing cd_thing) (pa_c pe_int pa_nil)) gl_is_in_is_tuple_of db_is_tuple_of))) (pw_or1 (pt_not (pt_val (pe_cc c_is_name hr (by omega) (pa_c (pe_ix ix_tup (pe_var (i := 0) rfl vis_is_in_thing db_thing cd_thing) pe_int (fun _ _ => rfl)) pa_nil) gl_is_in_is_name db_is_name)))))) (pss_one (ps_ret pe_bl)) pss_nil)
  (pss_one (ps_ret (pe_and (pe_cc c_is_whole_from hr (by omega) (pa_c (pe_ix ix_tup (pe_var (i := 0) rfl vis_is_in_thing db_thing cd_thing) pe_int (fun _ _ => rfl)) (pa_c (pe_gc g_LEAST_IN gl_is_in_LEAST_IN db_LEAST_IN) (pa_c (pe_gc g_GREATEST_IN gl_is_in_GREATEST_IN db_GREATEST_IN) pa_nil))) gl_is_in_is_whole_from db_is_whole_from) (pe_one (pe_cc c_is_whole_from hr (by omega) (pa_c (pe_ix ix_tup (pe_var (i := 0) rfl vis_is_in_thing db_thing cd_thing) pe_int (fun _ _ => rfl)) (pa_c (pe_ix ix_tup (pe_var (i := 0) rfl vis_is_in_thing db_thing cd_thing) pe_int (fun _ _ => rfl)) (pa_c (pe_gc g_GREATEST_IN gl_is_in_GREATEST_IN db_GREATEST_IN) pa_nil))) gl_is_in_is_whole_from db_is_whole_from)))))), ?_⟩
  walk_at "rd"
  refine ⟨v, d, 3, rfl, hd, fun H1 s1 => ?_⟩
  walk_at "rd"
  cases ht : isTup d 3 with
  | false =>
    simp only [if_true]
    exact isIn_no ht ▸ q H1 s1
  | true =>
    obtain ⟨ds, rfl, hl⟩ := isTup_inv (n := 3) ht
    obtain ⟨e0, e1, e2, rfl⟩ := len3 hl
    simp only [Bool.true_eq_false, if_false]
    simp only [smallD, smallA] at hz
    replace hz := hz.1
    obtain ⟨p, x0, x1, x2, rfl, hp, t0, t1, t2⟩ := tup3 (hd.kp s1.kp)
    refine ⟨_, rfl, _, SqT.of hp, _, rfl, x0, e0, rfl, t0, hz.1, fun H2 s2 => ⟨_, rfl, ?_⟩⟩
    have q2 := q H2 (s1.trans s2)
    cases hn : isName e0 with
    | false =>
      simp only [if_true]
      have e : isIn (.tup [e0, e1, e2]) = false := by
        unfold isIn
        split
        · rename_i heq
          cases heq
          rw [hn]; rfl
        · rfl
      exact e ▸ q2
    | true =>
      simp only [Bool.true_eq_false, if_false]
      refine ⟨_, rfl, _, SqT.of (s2 _ _ hp), _, rfl, x1, e1, _, _, rfl, t1.kp s2.kp, fun H3 s3 => ⟨_, rfl, ?_⟩⟩
      have q3 := q H3 (s1.trans (s2.trans s3))
      cases t1 with
      | int l =>
        cases hf : isFrom (.int l) (-99) 99 with
        | false =>
          simp only [Bool.false_eq_true, if_false]
          have e : isIn (.tup [e0, .int l, e2]) = false := by
            show (isName e0 && isFrom (.int l) (-99) 99 && isFrom e2 l 99) = false
            rw [hf, Bool.and_false, Bool.false_and]
          exact e ▸ q3
        | true =>
          simp only [if_true]
          refine ⟨_, rfl, _, SqT.of (s3 _ _ (s2 _ _ hp)), _, rfl, _, rfl, _, SqT.of (s3 _ _ (s2 _ _ hp)), _, rfl, x2, e2, l, 99, rfl, t2.kp (s2.trans s3).kp, fun H4 s4 => ?_⟩
          have e : isIn (.tup [e0, .int l, e2]) = isFrom e2 l 99 := by
            show (isName e0 && isFrom (.int l) (-99) 99 && isFrom e2 l 99) = _
            rw [hf, hn]; rfl
          exact e ▸ q H4 (s1.trans (s2.trans (s3.trans s4)))
      | _ =>
        simp only [isFrom, Bool.false_eq_true, if_false]
        exact q3
/-! sums -/
def eqS (d : Dm) (z : Str) : Bool := match d with
  | .str x => decide (x = z)
  | _ => false
theorem eq_of {H : Hp} {x : V} {d : Dm} {z : Str} (h : Dt H x d) : EqOf K x (.str z) H (eqS d z) := by
  cases h with
  | str y => exact .inl ⟨rfl, by show decide (y = z) = decide (V.str y = V.str z); simp⟩
  | tup e _ => exact .inr (.inr ⟨_, _, rfl, rfl, .inr ⟨_, SqT.of e⟩, rfl⟩)
  | lst e => exact .inr (.inr ⟨_, _, rfl, rfl, .inl ⟨_, SqL.of e⟩, rfl⟩)
  | non => exact .inl ⟨rfl, by simp [eqS]⟩
  | bl b => exact .inl ⟨rfl, by simp [eqS]⟩
  | int i => exact .inl ⟨rfl, by simp [eqS]⟩
def words : List Str := ["add", "sub", "mul", "quo", "less", "same", "min", "max"]
def inW (d : Dm) : Bool := match d with
  | .str x => words.contains x
  | _ => false
theorem notin_of {H : Hp} {x : V} {d : Dm} {a : Addr} (h : Dt H x d) (hw : SqT K H a (words.map V.str)) : NotInOf K x (.ref a) H (!inW d) := by
  have inS : ∀ (z : Str) (g : List Str), inV (.str z) (g.map V.str) = g.contains z := inV_strs
  have inO : ∀ (v : V), (∀ z, v ≠ .str z) → flatV v = true → ∀ g : List Str, inV v (g.map V.str) = false := by
    intro v hv hf g
    induction g with
    | nil => rfl
    | cons y g ih =>
      unfold inV at ih ⊢
      rw [List.map_cons, List.any_cons, ih, Bool.or_false]
      cases v with
      | str z => exact absurd rfl (hv z)
      | _ => first | rfl | exact absurd hf (by decide)
  cases h with
  | str z => exact .inl ⟨a, _, rfl, .inr hw, rfl, flat_strs words, by rw [inS]; rfl⟩
  | non => exact .inl ⟨a, _, rfl, .inr hw, rfl, flat_strs words, by rw [inO _ (fun z y => by cases y) rfl]; rfl⟩
  | bl b => exact .inl ⟨a, _, rfl, .inr hw, rfl, flat_strs words, by rw [inO _ (fun z y => by cases y) rfl]; rfl⟩
  | int i => exact .inl ⟨a, _, rfl, .inr hw, rfl, flat_strs words, by rw [inO _ (fun z y => by cases y) rfl]; rfl⟩
  | tup e _ => exact .inr (.inr ⟨_, a, _, rfl, rfl, .inr ⟨_, SqT.of e⟩, hw, fun v hv => by obtain ⟨z, _, rfl⟩ := List.mem_map.mp hv; exact ⟨z, rfl⟩, rfl⟩)
  | lst e => exact .inr (.inr ⟨_, a, _, rfl, rfl, .inl ⟨_, SqL.of e⟩, hw, fun v hv => by obtain ⟨z, _, rfl⟩ := List.mem_map.mp hv; exact ⟨z, rfl⟩, rfl⟩)
def isTerm : Nat → Dm → Bool
  | 0, _ => false
  | n + 1, d => match d with
    | .tup [h, x] => if eqS h "num" then isFrom x (-32768) 32767 else eqS h "name" && isName x
    | .tup [h, a, b] => inW h && isTerm n a && isTerm n b
    | _ => false
def spTerm (n : Nat) : Sp := fun vs H Q _ => ∃ v d, ∃ m : Nat, vs = [v, .int m] ∧ Dt H v d ∧ smallD d ∧ m < n ∧ ∀ H', Same H H' → Q (.bl (isTerm m d)) H'
theorem isTerm_no {n : Nat} {d : Dm} (h2 : isTup d 2 = false) (h3 : isTup d 3 = false) : isTerm (n + 1) d = false := by
  unfold isTerm
  split
  · exact absurd (show true = false from h2) (by decide)
  · exact absurd (show true = false from h3) (by decide)
  · rfl
theorem ok_is_term {n : Nat} (F : Fun K "is_term" "is_term" s_is_term f fd) (c_is_tuple_of : Callee P w K mg base "is_tuple_of" ["thing", "many"] 1 spTupOf) (c_is_name : Callee P w K mg base "is_name" ["thing"] 1 spName) (c_is_whole_from : Callee P w K mg base "is_whole_from" ["thing", "low", "high"] 2 spFrom)
    (c_is_term : Callee P w K mg base "is_term" ["thing", "levels"] (n + 2) (spTerm n)) {aw : Addr} {ai : Addr} (g_WIDE : GC mg "WIDE" (.ref ai)) (hI : ∀ H, SqT K H ai [.int (-32768), .int 32767]) (g_WORDS : GC mg "WORDS" (.ref aw)) (hW : ∀ H, SqT K H aw (words.map V.str)) :
    FnOk P w K mg base CX0 (n + 3) f fd ["thing", "levels"] (spTerm (n + 1)) := by
  refine F.ok sc_is_term (fun vs H Q E h => ?_) (fun cdv A outer s H vs Q E hr h => ?_)
  · obtain ⟨v, d, m, rfl, _⟩ := h
    rfl
  obtain ⟨v, d, m, rfl, hd, hz, hm, q⟩ := h
  refine ⟨_, (pss_cons (ps_if (pt_cmpR op_lt (pe_var (i := 1) rfl vis_is_term_levels db_levels cd_levels) pe_int (nomark _)) (pss_one (ps_ret pe_bl)) pss_nil)
  (pss_cons (ps_if (pt_val (pe_cc c_is_tuple_of hr (by omega) (pa_c (pe_var (i := 0) rfl vis_is_term_thing db_thing cd_thing) (pa_c pe_int pa_nil)) gl_is_term_is_tuple_of db_is_tuple_of)) (pss_cons (ps_if (pt_cmpR (gEq hr.units) (pe_ix ix_tup (pe_var (i := 0) rfl vis_is_term_thing db_thing cd_thing) pe_int (fun _ _ => rfl)) pe_str (nomark _)) (pss_one (ps_ret (pe_cc c_is_whole_from hr (by omega) (pa_c (pe_ix ix_tup (pe_var (i := 0) rfl vis_is_term_thing db_thing cd_thing) pe_int (fun _ _ => rfl)) (pa_c (pe_ix ix_tup (pe_gc g_WIDE gl_is_term_WIDE db_WIDE) pe_int (fun _ _ => rfl)) (pa_c (pe_ix ix_tup (pe_gc g_WIDE gl_is_term_WIDE db_WIDE) pe_int (fun _ _ => rfl)) pa_nil))) gl_is_term_is_whole_from db_is_whole_from))) pss_nil)
  (pss_one (ps_ret (pe_and (pe_cmpR (gEq hr.units) (pe_ix ix_tup (pe_var (i := 0) rfl vis_is_term_thing db_thing cd_thing) pe_int (fun _ _ => rfl)) pe_str (nomark _)) (pe_one (pe_cc c_is_name hr (by omega) (pa_c (pe_ix ix_tup (pe_var (i := 0) rfl vis_is_term_thing db_thing cd_thing) pe_int (fun _ _ => rfl)) pa_nil) gl_is_term_is_name db_is_name)))))) pss_nil)
  (pss_cons (ps_if (PW.pt (pw_or (pt_not (pt_val (pe_cc c_is_tuple_of hr (by omega) (pa_c (pe_var (i := 0) rfl vis_is_term_thing db_thing cd_thing) (pa_c pe_int pa_nil)) gl_is_term_is_tuple_of db_is_tuple_of))) (pw_or1 (pt_cmpR (gNotIn hr.units) (pe_ix ix_tup (pe_var (i := 0) rfl vis_is_term_thing db_thing cd_thing) pe_int (fun _ _ => rfl)) (pe_gc g_WORDS gl_is_term_WORDS db_WORDS) (by with_unfolding_all rfl))))) (pss_one (ps_ret pe_bl)) pss_nil)
  (pss_one (ps_ret (pe_and (pe_cc c_is_term hr (by omega) (pa_c (pe_ix ix_tup (pe_var (i := 0) rfl vis_is_term_thing db_thing cd_thing) pe_int (fun _ _ => rfl)) (pa_c (pe_op op_sub (pe_var (i := 1) rfl vis_is_term_levels db_levels cd_levels) pe_int) pa_nil)) gl_is_term_is_term db_is_term) (pe_one (pe_cc c_is_term hr (by omega) (pa_c (pe_ix ix_tup (pe_var (i := 0) rfl vis_is_term_thing db_thing cd_thing) pe_int (fun _ _ => rfl)) (pa_c (pe_op op_sub (pe_var (i := 1) rfl vis_is_term_levels db_levels cd_levels) pe_int) pa_nil)) gl_is_term_is_term db_is_term)))))))), ?_⟩
  walk_at "rd"
  split
  · rename_i h1
    have e : m = 0 := by omega
    subst e
    exact q H (Same.refl _)
  · rename_i h1
    obtain ⟨k, rfl⟩ : ∃ k, m = k + 1 := ⟨m - 1, by omega⟩
    refine ⟨v, d, 2, rfl, hd, fun H1 s1 => ⟨_, rfl, ?_⟩⟩
    cases h2 : isTup d 2 with
    | true =>
      obtain ⟨ds, rfl, hl⟩ := isTup_inv (n := 2) h2
      obtain ⟨e0, e1, rfl⟩ := len2 hl
      simp only [if_true]
      simp only [smallD, smallA] at hz
      replace hz := hz.1
      obtain ⟨p, x0, x1, rfl, hp, t0, t1⟩ := tup2 (hd.kp s1.kp)
      refine ⟨_, rfl, _, SqT.of hp, _, rfl, _, eq_of t0, ?_⟩
      have q0 : ∀ H', Same H H' → Q (.bl (if eqS e0 "num" then isFrom e1 (-32768) 32767 else eqS e0 "name" && isName e1)) H' := q
      split
      · rename_i hn
        rw [hn] at q0
        exact ⟨_, rfl, _, SqT.of hp, _, rfl, _, hI _, _, rfl, _, hI _, _, rfl, x1, e1, _, _, rfl, t1, fun H2 s2 => q0 H2 (s1.trans s2)⟩
      · rename_i hn
        rw [if_neg hn] at q0
        refine ⟨_, rfl, _, SqT.of hp, _, rfl, _, eq_of t0, ?_⟩
        split
        · rename_i hm2
          rw [hm2, Bool.true_and] at q0
          exact ⟨_, rfl, _, SqT.of hp, _, rfl, x1, e1, rfl, t1, hz.2.1, fun H2 s2 => q0 H2 (s1.trans s2)⟩
        · rename_i hm2
          rw [Bool.eq_false_iff.mpr hm2, Bool.false_and] at q0
          exact q0 H1 s1
    | false =>
      simp only [Bool.false_eq_true, if_false]
      refine ⟨v, d, 3, rfl, hd.kp s1.kp, fun H2 s2 => ⟨_, rfl, ?_⟩⟩
      cases h3 : isTup d 3 with
      | false =>
        simp only [Bool.not_false, if_true]
        exact isTerm_no (n := k) h2 h3 ▸ q H2 (s1.trans s2)
      | true =>
        obtain ⟨ds, rfl, hl⟩ := isTup_inv (n := 3) h3
        obtain ⟨e0, e1, e2, rfl⟩ := len3 hl
        simp only [Bool.true_eq_false, if_false]
        simp only [smallD, smallA] at hz
        replace hz := hz.1
        obtain ⟨p, x0, x1, x2, rfl, hp, t0, t1, t2⟩ := tup3 (hd.kp (s1.trans s2).kp)
        have q0 : ∀ H', Same H H' → Q (.bl (inW e0 && isTerm k e1 && isTerm k e2)) H' := q
        refine ⟨_, rfl, _, SqT.of hp, _, rfl, _, notin_of t0 (hW _), ?_⟩
        cases hw : inW e0 with
        | false =>
          rw [hw, Bool.false_and, Bool.false_and] at q0
          exact q0 H2 (s1.trans s2)
        | true =>
          rw [hw, Bool.true_and] at q0
          simp only [Bool.not_true, Bool.false_eq_true, if_false]
          have ek : (((k + 1 : Nat) : Int) - 1) = (k : Int) := by omega
          rw [ek]
          refine ⟨_, rfl, _, SqT.of hp, _, rfl, x1, e1, k, rfl, t1, hz.2.1, by omega, fun H3 s3 => ⟨_, rfl, ?_⟩⟩
          split
          · rename_i h4
            rw [h4, Bool.true_and] at q0
            exact ⟨_, rfl, _, SqT.of (s3 _ _ hp), _, rfl, x2, e2, k, rfl, t2.kp s3.kp, hz.2.2.1, by omega, fun H4 s4 => q0 H4 (s1.trans (s2.trans (s3.trans s4)))⟩
          · rename_i h4
            rw [Bool.eq_false_iff.mpr h4, Bool.false_and] at q0
            exact q0 H3 (s1.trans (s2.trans s3))
/-! deeds and blocks -/
def isDeedW (blk : Dm → Bool) (d : Dm) : Bool := match d with
  | .tup [h, x, t] => eqS h "set" && isName x && isTerm 5 t
  | .tup [h, t, x, b] => isTerm 5 t && blk b && (if eqS h "if" then blk x else eqS h "while" && isFrom x 0 20)
  | _ => false
def isBlock : Nat → Dm → Bool
  | 0, _ => false
  | n + 1, d => match d with
    | .tup ds => decide (ds.length ≤ 6) && ds.all (isDeedW (isBlock n))
    | _ => false
def isDeed (m : Nat) (d : Dm) : Bool := isDeedW (isBlock m) d
def spBlk (n : Nat) : Sp := fun vs H Q _ => ∃ v d, ∃ m : Nat, vs = [v, .int m] ∧ Dt H v d ∧ smallD d ∧ m < n ∧ ∀ H', Same H H' → Q (.bl (isBlock m d)) H'
def spDeed (n : Nat) : Sp := fun vs H Q _ => ∃ v d, ∃ m : Nat, vs = [v, .int ((m : Int) + 1)] ∧ Dt H v d ∧ smallD d ∧ m < n ∧ ∀ H', Same H H' → Q (.bl (isDeed m d)) H'
theorem isDeed3 (m : Nat) (h x t : Dm) : isDeed m (.tup [h, x, t]) = (eqS h "set" && isName x && isTerm 5 t) := rfl
theorem isDeed4 (m : Nat) (h t x b : Dm) : isDeed m (.tup [h, t, x, b]) = (isTerm 5 t && isBlock m b && (if eqS h "if" then isBlock m x else eqS h "while" && isFrom x 0 20)) := rfl
theorem isDeed_no {m : Nat} {d : Dm} (h3 : isTup d 3 = false) (h4 : isTup d 4 = false) : isDeed m d = false := by
  cases d with
  | tup ds =>
    match ds, h3, h4 with
    | [], _, _ => rfl
    | [_], _, _ => rfl
    | [_, _], _, _ => rfl
    | [_, _, _], h3, _ => exact absurd (show true = false from h3) (by decide)
    | [_, _, _, _], _, h4 => exact absurd (show true = false from h4) (by decide)
    | _ :: _ :: _ :: _ :: _ :: _, _, _ => rfl
  | _ => rfl
theorem ok_is_deed {n : Nat} (F : Fun K "is_deed" "is_deed" s_is_deed f fd) (c_is_tuple_of : Callee P w K mg base "is_tuple_of" ["thing", "many"] 1 spTupOf) (c_is_name : Callee P w K mg base "is_name" ["thing"] 1 spName) (c_is_whole_from : Callee P w K mg base "is_whole_from" ["thing", "low", "high"] 2 spFrom)
    (c_is_term : Callee P w K mg base "is_term" ["thing", "levels"] 8 (spTerm 6)) (c_is_block : Callee P w K mg base "is_block" ["thing", "levels"] (2 * n + 8) (spBlk n)) (g_DEEPEST_TERM : GC mg "DEEPEST_TERM" (.int 5)) (g_MOST_ROUNDS : GC mg "MOST_ROUNDS" (.int 20)) :
    FnOk P w K mg base CX0 (2 * n + 9) f fd ["thing", "levels"] (spDeed n) := by
  refine F.ok sc_is_deed (fun vs H Q E h => ?_) (fun cdv A outer s H vs Q E hr h => ?_)
  · obtain ⟨v, d, m, rfl, _⟩ := h
    rfl
  obtain ⟨v, d, m, rfl, hd, hz, hm, q⟩ := h
  refine ⟨_, (pss_cons (ps_if (pt_val (pe_cc c_is_tuple_of hr (by omega) (pa_c (pe_var (i := 0) rfl vis_is_deed_thing db_thing cd_thing) (pa_c pe_int pa_nil)) gl_is_deed_is_tuple_of db_is_tuple_of)) (pss_one (ps_ret (pe_and (pe_cmpR (gEq hr.units) (pe_ix ix_tup (pe_var (i := 0) rfl vis_is_deed_thing db_thing cd_thing) pe_int (fun _ _ => rfl)) pe_str (nomark _)) (pe_and (pe_cc c_is_name hr (by omega) (pa_c (pe_ix ix_tup (pe_var (i := 0) rfl vis_is_deed_thing db_thing cd_thing) pe_int (fun _ _ => rfl)) pa_nil) gl_is_deed_is_name db_is_name) (pe_one (pe_cc c_is_term hr (by omega) (pa_c (pe_ix ix_tup (pe_var (i := 0) rfl vis_is_deed_thing db_thing cd_thing) pe_int (fun _ _ => rfl)) (pa_c (pe_gc g_DEEPEST_TERM gl_is_deed_DEEPEST_TERM db_DEEPEST_TERM) pa_nil)) gl_is_deed_is_term db_is_term)))))) pss_nil)
  (pss_cons (ps_if (PW.pt (pw_or (pt_not (pt_val (pe_cc c_is_tuple_of hr (by omega) (pa_c (pe_var (i := 0) rfl vis_is_deed_thing db_thing cd_thing) (pa_c pe_int pa_nil)) gl_is_deed_is_tuple_of db_is_tuple_of))) (pw_or (pt_not (pt_val (pe_cc c_is_term hr (by omega) (pa_c (pe_ix ix_tup (pe_var (i := 0) rfl vis_is_deed_thing db_thing cd_thing) pe_int (fun _ _ => rfl)) (pa_c (pe_gc g_DEEPEST_TERM gl_is_deed_DEEPEST_TERM db_DEEPEST_TERM) pa_nil)) gl_is_deed_is_term db_is_term))) (pw_or1 (pt_not (pt_val (pe_cc c_is_block hr (by omega) (pa_c (pe_ix ix_tup (pe_var (i := 0) rfl vis_is_deed_thing db_thing cd_thing) pe_int (fun _ _ => rfl)) (pa_c (pe_op op_sub (pe_var (i := 1) rfl vis_is_deed_levels db_levels cd_levels) pe_int) pa_nil)) gl_is_deed_is_block db_is_block))))))) (pss_one (ps_ret pe_bl)) pss_nil)
  (pss_cons (ps_if (pt_cmpR (gEq hr.units) (pe_ix ix_tup (pe_var (i := 0) rfl vis_is_deed_thing db_thing cd_thing) pe_int (fun _ _ => rfl)) pe_str (nomark _)) (pss_one (ps_ret (pe_cc c_is_block hr (by omega) (pa_c (pe_ix ix_tup (pe_var (i := 0) rfl vis_is_deed_thing db_thing cd_thing) pe_int (fun _ _ => rfl)) (pa_c (pe_op op_sub (pe_var (i := 1) rfl vis_is_deed_levels db_levels cd_levels) pe_int) pa_nil)) gl_is_deed_is_block db_is_block))) pss_nil)
  (pss_one (ps_ret (pe_and (pe_cmpR (gEq hr.units) (pe_ix ix_tup (pe_var (i := 0) rfl vis_is_deed_thing db_thing cd_thing) pe_int (fun _ _ => rfl)) pe_str (nomark _)) (pe_one (pe_cc c_is_whole_from hr (by omega) (pa_c (pe_ix ix_tup (pe_var (i := 0) rfl vis_is_deed_thing db_thing cd_thing) pe_int (fun _ _ => rfl)) (pa_c pe_int (pa_c (pe_gc g_MOST_ROUNDS gl_is_deed_MOST_ROUNDS db_MOST_ROUNDS) pa_nil))) gl_is_deed_is_whole_from db_is_whole_from)))))))), ?_⟩
  walk_at "rd"
  refine ⟨v, d, 3, rfl, hd, fun H1 s1 => ⟨_, rfl, ?_⟩⟩
  have em : ((m : Int) + 1 - 1) = (m : Int) := by omega
  cases h3 : isTup d 3 with
  | true =>
    obtain ⟨ds, rfl, hl⟩ := isTup_inv (n := 3) h3
    obtain ⟨e0, e1, e2, rfl⟩ := len3 hl
    simp only [if_true]
    simp only [smallD, smallA] at hz
    replace hz := hz.1
    obtain ⟨p, x0, x1, x2, rfl, hp, t0, t1, t2⟩ := tup3 (hd.kp s1.kp)
    have q0 : ∀ H', Same H H' → Q (.bl (eqS e0 "set" && isName e1 && isTerm 5 e2)) H' := fun H' s' => isDeed3 m e0 e1 e2 ▸ q H' s'
    refine ⟨_, rfl, _, SqT.of hp, _, rfl, _, eq_of t0, ?_⟩
    split
    · rename_i h4
      rw [h4, Bool.true_and] at q0
      refine ⟨_, rfl, _, SqT.of hp, _, rfl, x1, e1, rfl, t1, hz.2.1, fun H2 s2 => ⟨_, rfl, ?_⟩⟩
      split
      · rename_i h5
        rw [h5, Bool.true_and] at q0
        exact ⟨_, rfl, _, SqT.of (s2 _ _ hp), _, rfl, x2, e2, 5, rfl, t2.kp s2.kp, hz.2.2.1, by decide, fun H3 s3 => q0 H3 (s1.trans (s2.trans s3))⟩
      · rename_i h5
        rw [Bool.eq_false_iff.mpr h5, Bool.false_and] at q0
        exact q0 H2 (s1.trans s2)
    · rename_i h4
      rw [Bool.eq_false_iff.mpr h4, Bool.false_and, Bool.false_and] at q0
      exact q0 H1 s1
  | false =>
    simp only [Bool.false_eq_true, if_false]
    refine ⟨v, d, 4, rfl, hd.kp s1.kp, fun H2 s2 => ⟨_, rfl, ?_⟩⟩
    cases h4 : isTup d 4 with
    | false =>
      simp only [if_true]
      exact isDeed_no (m := m) h3 h4 ▸ q H2 (s1.trans s2)
    | true =>
      obtain ⟨ds, rfl, hl⟩ := isTup_inv (n := 4) h4
      obtain ⟨e0, e1, e2, e3, rfl⟩ := len4 hl
      simp only [Bool.true_eq_false, if_false]
      simp only [smallD, smallA] at hz
      replace hz := hz.1
      obtain ⟨p, x0, x1, x2, x3, rfl, hp, t0, t1, t2, t3⟩ := tup4 (hd.kp (s1.trans s2).kp)
      have q0 : ∀ H', Same H H' → Q (.bl (isTerm 5 e1 && isBlock m e3 && (if eqS e0 "if" then isBlock m e2 else eqS e0 "while" && isFrom e2 0 20))) H' := fun H' s' => isDeed4 m e0 e1 e2 e3 ▸ q H' s'
      rw [em]
      refine ⟨_, rfl, _, SqT.of hp, _, rfl, x1, e1, 5, rfl, t1, hz.2.1, by decide, fun H3 s3 => ⟨_, rfl, ?_⟩⟩
      have s03 := s1.trans (s2.trans s3)
      cases h5 : isTerm 5 e1 with
      | false =>
        rw [h5, Bool.false_and, Bool.false_and] at q0
        exact q0 H3 s03
      | true =>
        rw [h5, Bool.true_and] at q0
        simp only [Bool.true_eq_false, if_false]
        refine ⟨_, rfl, _, SqT.of (s3 _ _ hp), _, rfl, x3, e3, m, rfl, t3.kp s3.kp, hz.2.2.2.1, hm, fun H4 s4 => ⟨_, rfl, ?_⟩⟩
        have s04 := s03.trans s4
        have hp4 := s4 _ _ (s3 _ _ hp)
        cases h6 : isBlock m e3 with
        | false =>
          rw [h6, Bool.false_and] at q0
          exact q0 H4 s04
        | true =>
          rw [h6, Bool.true_and] at q0
          simp only [Bool.true_eq_false, if_false]
          refine ⟨_, rfl, _, SqT.of hp4, _, rfl, _, eq_of (t0.kp (s3.trans s4).kp), ?_⟩
          split
          · rename_i h7
            rw [if_pos h7] at q0
            exact ⟨_, rfl, _, SqT.of hp4, _, rfl, x2, e2, m, rfl, t2.kp (s3.trans s4).kp, hz.2.2.1, hm, fun H5 s5 => q0 H5 (s04.trans s5)⟩
          · rename_i h7
            rw [if_neg h7] at q0
            refine ⟨_, rfl, _, SqT.of hp4, _, rfl, _, eq_of (t0.kp (s3.trans s4).kp), ?_⟩
            split
            · rename_i h8
              rw [h8, Bool.true_and] at q0
              exact ⟨_, rfl, _, SqT.of hp4, _, rfl, x2, e2, _, _, rfl, t2.kp (s3.trans s4).kp, fun H5 s5 => q0 H5 (s04.trans s5)⟩
            · rename_i h8
              rw [Bool.eq_false_iff.mpr h8, Bool.false_and] at q0
              exact q0 H4 s04
/-! a block -/
def KInv (H : Hp) (m : Nat) (ds : List Dm) (i : Nat) (ys : List V) (σ' : St) (H' : Hp) : Prop := Same H H' ∧ (∃ t, σ' = [t, some (.int ((m : Int) + 1))]) ∧ ys = ((ds.take i).map (isDeed m)).map V.bl
theorem ok_is_block {n : Nat} (F : Fun K "is_block" "is_block" s_is_block f fd) (b_isinstance : mg "isinstance" = none) (b_len : mg "len" = none) (b_tuple : mg "tuple" = none) (b_all : mg "all" = none) (g_MOST_DEEDS : GC mg "MOST_DEEDS" (.int 6))
    (c_is_deed : Callee P w K mg base "is_deed" ["thing", "levels"] (2 * n + 9) (spDeed n)) : FnOk P w K mg base CX0 (2 * n + 10) f fd ["thing", "levels"] (spBlk (n + 1)) := by
  refine F.ok sc_is_block (fun vs H Q E h => ?_) (fun cdv A outer s H vs Q E hr h => ?_)
  · obtain ⟨v, d, m, rfl, _⟩ := h
    rfl
  obtain ⟨v, d, m, rfl, hd, hz, hm, q⟩ := h
  refine ⟨_, (pss_cons (ps_if (PW.pt (pw_or (pt_cmpR op_lt (pe_var (i := 1) rfl vis_is_block_levels db_levels cd_levels) pe_int (nomark _)) (pw_or (pt_not (pt_val (pe_cB gInst gl_is_block_isinstance b_isinstance bt_isinstance (pa_c (pe_var (i := 0) rfl vis_is_block_thing db_thing cd_thing) (pa_c (pe_bltn (v := V.ty "tuple") gl_is_block_tuple b_tuple bt_tuple rfl nn_tuple db_tuple) pa_nil)) nn_isinstance db_isinstance))) (pw_or1 (pt_cmpR op_gt (pe_cB gLen gl_is_block_len b_len bt_len (pa_c (pe_var (i := 0) rfl vis_is_block_thing db_thing cd_thing) pa_nil) nn_len db_len) (pe_gc g_MOST_DEEDS gl_is_block_MOST_DEEDS db_MOST_DEEDS) (nomark _)))))) (pss_one (ps_ret pe_bl)) pss_nil)
  (pss_one (ps_ret (pe_cB (call_all rfl) gl_is_block_all b_all bt_all (pa_c (pe_comp ["deed", "levels"] [none, some 1] rfl (CompS.of (by rfl)) (pi_tup (pe_var (i := 0) rfl vis_is_block_thing db_thing cd_thing)) (fun _ _ _ _ _ => (pg_name (i := 0) (show List.Nodup (["deed", "levels"] : List Str) from by decide +kernel) rfl (Or.inl rfl))) (fun _ _ _ _ _ => pif_nil) (fun _ _ _ _ _ => (pe_cc c_is_deed hr (by omega) (pa_c (pe_var (i := 0) rfl (by first | exact Or.inl rfl | exact Or.inr (Or.inl rfl) | exact Or.inr (Or.inr rfl)) db_deed cd_deed) (pa_c (pe_var (i := 1) rfl (by first | exact Or.inl rfl | exact Or.inr (Or.inl rfl) | exact Or.inr (Or.inr rfl)) db_levels cd_levels) pa_nil)) rfl db_is_deed))) pa_nil) nn_all db_all)))), ?_⟩
  walk_at "rd"
  split
  · rename_i h1
    have e : m = 0 := by omega
    subst e
    exact q H (Same.refl _)
  · rename_i h1
    obtain ⟨k, rfl⟩ : ∃ k, m = k + 1 := ⟨m - 1, by omega⟩
    refine ⟨_, _, ⟨rfl, rfl⟩, _, inst_tuple hd, ?_⟩
    cases hd with
    | @tup pa xs ds e r =>
      simp only [isT, Bool.true_eq_false, if_false]
      refine ⟨_, lenT (SqT.of e), ?_⟩
      rw [r.length]
      have q0 : ∀ H', Same H H' → Q (.bl (decide (ds.length ≤ 6) && ds.all (isDeed k))) H' := q
      split
      · rename_i h6
        rw [decide_eq_false (by omega), Bool.false_and] at q0
        exact q0 H (Same.refl _)
      · rename_i h6
        rw [decide_eq_true (by omega), Bool.true_and] at q0
        have hdz : smallA ds := by rw [smallD] at hz; exact hz.1
        refine ⟨_, rfl, ⟨_, SqT.of e⟩, ?_⟩
        refine comp_tup (K := K) (a := pa) (xs := xs) (KInv H k ds) ⟨Same.refl _, ⟨none, rfl⟩, rfl⟩ (by rw [r.length]; exact small1000 (by omega)) ?_ ?_ ?_ ?_
        · rintro i ys σ' H' ⟨_, _, rfl⟩
          rw [List.length_map, List.length_map, List.length_take]
          omega
        · rintro i ys σ' H' _ ⟨s1, _, _⟩
          exact SqT.of (s1 _ _ e)
        · rintro i ys v σ' H' hxi ⟨s1, ⟨t, rfl⟩, rfl⟩
          obtain ⟨d, hd, dd⟩ := r.get hxi
          walk_at "rd"
          refine ⟨v, d, k, rfl, dd.kp s1.kp, hdz.get hd, by omega, fun H2 s2 => ⟨s1.trans s2, ⟨_, rfl⟩, ?_⟩⟩
          rw [List.take_add_one, hd, List.map_append, List.map_append]
          rfl
        · rintro ys σ' H' ⟨s1, _, rfl⟩ p hp
          have et : ds.take xs.length = ds := by rw [r.length, List.take_length]
          rw [et]
          refine ⟨_, rfl, ds.map (isDeed k), SqL.of upd_same, ?_⟩
          have e2 : (ds.map (isDeed k)).all id = ds.all (isDeed k) := by rw [List.all_map]; rfl
          rw [e2]
          exact q0 _ (s1.trans (same_new hp _))
    | _ => exact q H (Same.refl _)
/-! what comes in, all of it -/
def rowName : Dm → Str
  | .tup (.str x :: _) => x
  | _ => ""
def ris : Str → List Dm → Bool
  | _, [] => true
  | b, r :: rest => isIn r && decide (b.cps.toList < (rowName r).cps.toList) && ris (rowName r) rest
def areIns (d : Dm) : Bool := match d with
  | .tup rows => decide (rows.length ≤ 4) && ris "" rows
  | _ => false
theorem isIn_shape {d : Dm} (h : isIn d = true) : ∃ (x : Str) (l : Int) (y : Dm), d = .tup [.str x, .int l, y] := by
  unfold isIn at h
  split at h
  · rename_i x l y
    cases x with
    | str z => exact ⟨z, l, y, rfl⟩
    | _ => exact absurd (show false = true by simpa [isName] using h) Bool.false_ne_true
  · cases h
end
end SR


set_option Elab.async false
set_option linter.all false
set_option maxRecDepth 100000
set_option maxHeartbeats 0
namespace SR
open PySem L2
local macro_rules | `(tactic| walk_at "rd") => `(tactic| simp only [tSeq, tIfS, tTest, tOp, tVar, tC, tAsg, gName, gTup, gCons, gNil, tRet, tRetN, tDrop, tNext, tCB, tCons, tNil, tCall, tUn, rU, rI0, rI, tAnd, tOr, tNot, tB, tAndV, tOrV, tNotV, tIf, tIfT, tKGet, tChain, tDGet, tDGet1, sDPut, tDNewK, tDisp, tPairs, tCont, tSl, tNoPart, tPart, rSlT, tChain3, qSortS, qEqDL, qNeDL, tFor_enum, tFor_zip, tFor_rng2, tComp_seq, qSetI, qSortSet, cxOf_prog, cxOf_w, cxOf_nox_prog, cxOf_nox_w, cxOf_mg, cxOf_base, cxOf_nox_mg, cxOf_nox_base, cxComp_prog, cxComp_w, cxComp_mg, cxComp_base, tComp_zipT, tCallL, rSlA, rSlL, tDX, tDXs, tTup, tLst, tBM,
  qEq, qNe, qIn, qNotIn, qIsN, qNotN, qIsB, qNotB, qLen, qInst, qEqD, qNeD, qMinL, qMaxL, qSortI, rIx, rIxL, rIxT, rIxS, rCat, rCatT2, rRep, rRepT, rLeS, rLtS, rAppend, rExtend, tNever, tBreak, tYes,
  tFor_tup, tFor_list, tFor_rng1, tComp_tup, tComp_list, tComp_str, L2.start, cxOf_K, cxOf_nox_K, cxComp_K, List.map_cons, List.map_nil, List.length_cons, List.length_nil, List.replicate_succ, List.replicate_zero, Nat.reduceAdd, Nat.reduceSub, Nat.zero_add, Nat.add_zero, Nat.sub_zero, Nat.sub_self, Nat.add_sub_cancel,
  List.getElem?_cons_zero, List.getElem?_cons_succ, List.set_cons_zero, List.set_cons_succ, List.cons_append, List.nil_append, List.append_nil, List.cons.injEq, Option.some.injEq, V.int.injEq, V.ref.injEq, V.str.injEq, V.bl.injEq, V.ty.injEq,
  reduceCtorEq, false_and, and_false, and_true, true_and, exists_false, exists_const, false_or, or_false, exists_eq_left, exists_eq_left', exists_eq_right, exists_eq_right', exists_and_left, decide_eq_true_eq, Bool.not_eq_true', Bool.decide_eq_true, exists_eq, true_or, or_true, Bool.false_eq_true, if_true, if_false, Bool.true_eq_false, Bool.not_true, Bool.not_false, decide_true, decide_false, List.isEmpty_cons, List.isEmpty_nil, Bool.true_and, Bool.false_and, bne_self_eq_false, beq_self_eq_true])
section
variable {P : Program} {w : World} {K : PySem.W.Frag} {mg : Str → Option Value} {base : Heap} {f : Addr} {fd : FuncData}
def risP : List Dm → Bool
  | r :: r' :: rest => decide ((rowName r).cps.toList < (rowName r').cps.toList) && risP (r' :: rest)
  | _ => true
def rowsOk (d : Dm) : Bool := match d with
  | .tup rows => rows.all isIn && risP rows
  | _ => false
theorem ris_all : ∀ {b : Str} {rows : List Dm}, ris b rows = true → ∀ r ∈ rows, isIn r = true
  | _, [], _, r, h => by cases h
  | b, x :: rest, hr, r, h => by
    rw [ris, Bool.and_eq_true, Bool.and_eq_true] at hr
    rcases List.mem_cons.mp h with rfl | h
    · exact hr.1.1
    · exact ris_all hr.2 r h
def zipB (ds : List Dm) : List Bool := List.zipWith (fun r r' => decide ((rowName r).cps.toList < (rowName r').cps.toList)) ds ds.tail
theorem zipB_all : ∀ ds : List Dm, risP ds = (zipB ds).all id
  | [] => rfl
  | [_] => rfl
  | r :: r' :: rest => by
    have := zipB_all (r' :: rest)
    rw [risP, this]
    rfl
theorem ris_eq : ∀ {b : Str} {ds : List Dm}, (∀ r ∈ ds, isIn r = true) → ris b ds = ((match ds with | [] => true | r :: _ => decide (b.cps.toList < (rowName r).cps.toList)) && risP ds)
  | b, [], _ => rfl
  | b, [r], h => by
    rw [ris, h r (by simp)]
    simp [ris, risP]
  | b, r :: r' :: rest, h => by
    have i := ris_eq (b := rowName r) (ds := r' :: rest) fun x hx => h x (List.mem_cons_of_mem _ hx)
    rw [ris, h r (by simp), i, risP]
    simp
theorem isIn_pos {r : Dm} (h : isIn r = true) : decide (("" : Str).cps.toList < (rowName r).cps.toList) = true := by
  obtain ⟨x, l, y, rfl⟩ := isIn_shape h
  have hx : isNameS x = true := by
    have h' : (isName (.str x) && isFrom (.int l) (-99) 99 && isFrom y l 99) = true := h
    rw [Bool.and_eq_true, Bool.and_eq_true] at h'
    exact h'.1.1
  have hl : 1 ≤ x.length := by
    unfold isNameS at hx
    rw [Bool.and_eq_true, Bool.and_eq_true] at hx
    exact of_decide_eq_true hx.1.1
  show decide (([] : List Nat) < x.cps.toList) = true
  rw [decide_eq_true_eq]
  have : 0 < x.cps.toList.length := by rw [Array.length_toList]; exact hl
  cases hc : x.cps.toList with
  | nil => rw [hc] at this; cases this
  | cons a l => exact List.nil_lt_cons a l
theorem areIns_eq (rows : List Dm) : areIns (.tup rows) = (rowsOk (.tup rows) && decide (rows.length ≤ 4)) := by
  show (decide (rows.length ≤ 4) && ris "" rows) = (rows.all isIn && risP rows && decide (rows.length ≤ 4))
  cases ha : rows.all isIn with
  | true =>
    have all : ∀ r ∈ rows, isIn r = true := List.all_eq_true.mp ha
    rw [ris_eq all]
    cases rows with
    | nil => rfl
    | cons r rest =>
      dsimp only
      rw [isIn_pos (all r (by simp))]
      cases decide ((r :: rest).length ≤ 4) <;> cases risP (r :: rest) <;> rfl
  | false =>
    have : ris "" rows = false := by
      cases hr : ris "" rows with
      | false => rfl
      | true =>
        have := List.all_eq_true.mpr (fun r hr' => ris_all hr r hr')
        rw [ha] at this
        cases this
    rw [this]
    cases decide (rows.length ≤ 4) <;> rfl
def RowI (H : Hp) (fi : Addr) (ds : List Dm) (i : Nat) (ys : List V) (σ' : St) (H' : Hp) : Prop := Same H H' ∧ (∃ t, σ' = [t, some (.ref fi)]) ∧ ys = ((ds.take i).map isIn).map V.bl
def ZipI (H : Hp) (ds : List Dm) (i : Nat) (ys : List V) (σ' : St) (H' : Hp) : Prop := Same H H' ∧ (∃ t u, σ' = [t, u]) ∧ ys = ((zipB ds).take i).map V.bl
def spRows (P : Program) (w : World) (K : PySem.W.Frag) (mg : Str → Option Value) (base : Heap) : Sp := fun vs H Q _ => ∃ v d fi, vs = [v, .ref fi] ∧ Dt H v d ∧ smallD d ∧ Held P w K mg base 3 fi spIn ∧ ∀ H', Same H H' → Q (.bl (rowsOk d)) H'
theorem ok_are_rising_rows (F : Fun K "are_rising_rows" "are_rising_rows" s_are_rising_rows f fd) (b_isinstance : mg "isinstance" = none) (b_tuple : mg "tuple" = none) (b_all : mg "all" = none) (b_zip : mg "zip" = none) : FnOk P w K mg base CX0 4 f fd ["thing", "is_row"] (spRows P w K mg base) := by
  refine F.ok sc_are_rising_rows (fun vs H Q E h => ?_) (fun cdv A outer s H vs Q E hr h => ?_)
  · obtain ⟨v, d, fi, rfl, _⟩ := h
    rfl
  obtain ⟨v, d, fi, rfl, hd, hz, hH, q⟩ := h
  refine ⟨_, (pss_cons (ps_if (PW.pt (pw_or (pt_not (pt_val (pe_cB gInst gl_are_rising_rows_isinstance b_isinstance bt_isinstance (pa_c (pe_var (i := 0) rfl vis_are_rising_rows_thing db_thing cd_thing) (pa_c (pe_bltn (v := V.ty "tuple") gl_are_rising_rows_tuple b_tuple bt_tuple rfl nn_tuple db_tuple) pa_nil)) nn_isinstance db_isinstance))) (pw_or1 (pt_not (pt_val (pe_cB (call_all rfl) gl_are_rising_rows_all b_all bt_all (pa_c (pe_comp ["row", "is_row"] [none, some 1] rfl (CompS.of (by rfl)) (pi_tup (pe_var (i := 0) rfl vis_are_rising_rows_thing db_thing cd_thing)) (fun _ _ _ _ _ => (pg_name (i := 0) (show List.Nodup (["row", "is_row"] : List Str) from by decide +kernel) rfl (Or.inl rfl))) (fun _ _ _ _ _ => pif_nil) (fun _ _ _ _ _ => (pe_callLK (P := P) (w := w) (K := K) (mg := mg) (base := base) (i := 1) (k := 3) rfl rfl rfl rfl rfl rfl (by first | exact Or.inl rfl | exact Or.inr (Or.inl rfl) | exact Or.inr (Or.inr rfl)) hr (by omega) (pa_c (pe_var (i := 0) rfl (by first | exact Or.inl rfl | exact Or.inr (Or.inl rfl) | exact Or.inr (Or.inr rfl)) db_row cd_row) pa_nil) db_is_row cd_is_row))) pa_nil) nn_all db_all)))))) (pss_one (ps_ret pe_bl)) pss_nil)
  (pss_one (ps_ret (pe_cB (call_all rfl) gl_are_rising_rows_all b_all bt_all (pa_c (pe_comp ["one", "other"] [none, none] rfl (CompS.of (by rfl)) (pi_zipT gl_are_rising_rows_zip b_zip (pa_c (pe_var (i := 0) rfl vis_are_rising_rows_thing db_thing cd_thing) (pa_c (pe_slice sl_tupA (pe_var (i := 0) rfl vis_are_rising_rows_thing db_thing cd_thing) (po_some pe_int) po_none) pa_nil))) (fun _ _ _ _ _ => (pg_tupK (n := 2) (K := K) rfl rfl (pgs_cons (pg_name (i := 0) (show List.Nodup (["one", "other"] : List Str) from by decide +kernel) rfl (Or.inl rfl)) (pgs_cons (pg_name (i := 1) (show List.Nodup (["one", "other"] : List Str) from by decide +kernel) rfl (Or.inl rfl)) pgs_nil)))) (fun _ _ _ _ _ => pif_nil) (fun _ _ _ _ _ => (pe_cmpR gLtS (pe_ix (ixK (r := rIxT) (K := K) ix_tup rfl) (pe_var (i := 0) rfl (by first | exact Or.inl rfl | exact Or.inr (Or.inl rfl) | exact Or.inr (Or.inr rfl)) db_one cd_one) pe_int (fun _ _ => rfl)) (pe_ix (ixK (r := rIxT) (K := K) ix_tup rfl) (pe_var (i := 1) rfl (by first | exact Or.inl rfl | exact Or.inr (Or.inl rfl) | exact Or.inr (Or.inr rfl)) db_other cd_other) pe_int (fun _ _ => rfl)) (nomark _)))) pa_nil) nn_all db_all)))), ?_⟩
  walk_at "rd"
  refine ⟨_, _, ⟨rfl, rfl⟩, _, inst_tuple hd, ?_⟩
  cases hd with
  | @tup pa xs ds e r =>
    simp only [isT, Bool.true_eq_false, if_false]
    have hzz := hz
    rw [smallD] at hzz
    obtain ⟨hdz, hlen⟩ := hzz
    have hxl : xs.length = ds.length := r.length
    refine ⟨_, rfl, ⟨_, SqT.of e⟩, ?_⟩
    refine comp_tup (K := K) (a := pa) (xs := xs) (RowI H fi ds) ⟨Same.refl _, ⟨none, rfl⟩, rfl⟩ (small1000 (by omega)) ?_ ?_ ?_ ?_
    · rintro i ys σ' H' ⟨_, _, rfl⟩
      rw [List.length_map, List.length_map, List.length_take]
      omega
    · rintro i ys σ' H' _ ⟨s1, _, _⟩
      exact SqT.of (s1 _ _ e)
    · rintro i ys v σ' H' hxi ⟨s1, ⟨t, rfl⟩, rfl⟩
      obtain ⟨d, hd', dd⟩ := r.get hxi
      walk_at "rd"
      refine ⟨spIn, hH, v, d, rfl, dd.kp s1.kp, hdz.get hd', fun H2 s2 => ⟨s1.trans s2, ⟨_, rfl⟩, ?_⟩⟩
      rw [List.take_add_one, hd', List.map_append, List.map_append]
      rfl
    rintro ys σ' H1 ⟨s1, _, rfl⟩ pl hpl
    rw [hxl, List.take_length]
    have u1 := s1.trans (same_new hpl (HO.lst ((ds.map isIn).map V.bl)))
    have e1 : upd H1 pl (HO.lst ((ds.map isIn).map V.bl)) pl = _ := upd_same
    generalize upd H1 pl (HO.lst ((ds.map isIn).map V.bl)) = U1 at u1 e1 ⊢
    refine ⟨_, rfl, ds.map isIn, SqL.of e1, ?_⟩
    have hall : (ds.map isIn).all id = ds.all isIn := by rw [List.all_map]; rfl
    have q0 : ∀ H', Same H H' → Q (.bl (ds.all isIn && risP ds)) H' := q
    rw [hall]
    cases ha : ds.all isIn with
    | false =>
      rw [if_pos rfl]
      rw [ha, Bool.false_and] at q0
      exact q0 _ u1
    | true =>
      rw [if_neg (by decide)]
      rw [ha, Bool.true_and, zipB_all] at q0
      have all : ∀ r ∈ ds, isIn r = true := List.all_eq_true.mp ha
      have zc : ∀ (H1 : Hp) (b : Addr), Same H H1 → H1 b = some (.tup xs.tail) → CompW (Itzt K pa b) (gTup K 2 (gCons (gName 0) (gCons (gName 1) gNil))) tYes (tOp rLtS (tOp (rIxT K) (tVar 0) (tC (V.int 0))) (tOp (rIxT K) (tVar 1) (tC (V.int 0)))) (fun x H1 => ∃ p, x = V.ref p ∧ ∃ x, SqL K H1 p (List.map V.bl x) ∧ Q (V.bl (x.all id)) H1) (subσ [none, none] [some (V.ref pa), some (V.ref fi)]) H1 := by
        intro H1 b s1 eb
        have zl1 : (zipB ds).length = xs.tail.length := by
          unfold zipB
          rw [List.length_zipWith, List.length_tail, List.length_tail, hxl]
          omega
        refine comp_zipT (xs := xs) (ys := xs.tail) (by simp) (ZipI H1 ds) ⟨Same.refl _, ⟨none, none, rfl⟩, rfl⟩ (small1000 (by rw [List.length_tail]; omega)) ?_ ?_ ?_ ?_
        · rintro i ys σ' H' ⟨_, _, rfl⟩
          rw [List.length_map, List.length_take]
          omega
        · rintro i ys σ' H' _ ⟨s2, _, _⟩
          exact ⟨SqT.of (s2 _ _ (s1 _ _ e)), SqT.of (s2 _ _ eb)⟩
        · rintro i zs x y σ' H' T hx hy ⟨s2, ⟨t, u, rfl⟩, rfl⟩ hT
          have hy' : xs[i + 1]? = some y := by rw [List.getElem?_tail] at hy; exact hy
          obtain ⟨d, hd', dd⟩ := r.get hx
          obtain ⟨d2, hd2, dd2⟩ := r.get hy'
          obtain ⟨x', l, y', rfl⟩ := isIn_shape (all d (List.mem_of_getElem? hd'))
          obtain ⟨x2, l2, y2, rfl⟩ := isIn_shape (all d2 (List.mem_of_getElem? hd2))
          have s3 := s1.trans (s2.trans (same_new hT (HO.tup [x, y])))
          obtain ⟨p, v0, v1, v2, rfl, hp, t0, t1, t2⟩ := tup3 (dd.kp s3.kp)
          obtain ⟨p', w0, w1, w2, rfl, hp', r0, r1, r2⟩ := tup3 (dd2.kp s3.kp)
          cases t0
          cases r0
          walk_at "rd"
          refine ⟨_, SqT.of upd_same, rfl, _, _, rfl, _, _, rfl, rfl, _, rfl, _, SqT.of hp, _, rfl, _, rfl, _, SqT.of hp', _, rfl, _, rfl, _, rfl, s2.trans (same_new hT _), ⟨_, _, rfl⟩, ?_⟩
          have ez : (zipB ds)[i]? = some (decide (x'.cps.toList < x2.cps.toList)) := by
            unfold zipB
            rw [List.getElem?_zipWith, hd', List.getElem?_tail, hd2]
            rfl
          rw [List.take_add_one, ez, List.map_append]
          rfl
        · rintro zs σ' H' ⟨s2, _, rfl⟩ p hp
          rw [← zl1, List.take_length]
          exact ⟨_, rfl, zipB ds, SqL.of upd_same, q0 _ (s1.trans (s2.trans (same_new hp _)))⟩
      have e2 := u1 _ _ e
      refine ⟨_, rfl, xs, SqT.of e2, ?_⟩
      cases xs with
      | nil => exact .inl ⟨⟨rfl, rfl⟩, _, _, ⟨rfl, rfl⟩, ⟨_, SqT.of e2⟩, ⟨_, SqT.of e2⟩, zc _ _ u1 e2⟩
      | cons x0 xr =>
        refine .inr ⟨fun z => ?_, fun p hp => ?_⟩
        · have := z.1
          rw [show (some (1 : Int)) = some ((1 : Nat) : Int) from rfl, HT.sIx_nat, List.length_cons] at this
          omega
        · have ec : cutV (x0 :: xr) (some 1) none = xr := by
            unfold cutV
            rw [show (some (1 : Int)) = some ((1 : Nat) : Int) from rfl, HT.sIx_nat, HT.sIx_none, List.length_cons, show min 1 (xr.length + 1) = 1 by omega]
            simp
          rw [ec]
          have s3 := u1.trans (same_new hp (HO.tup xr))
          exact ⟨_, _, ⟨rfl, rfl⟩, ⟨_, SqT.of (s3 _ _ e)⟩, ⟨_, SqT.of upd_same⟩, zc _ _ s3 upd_same⟩
  | _ => exact q H (Same.refl _)
def spAre : Sp := fun vs H Q _ => ∃ v d, vs = [v] ∧ Dt H v d ∧ smallD d ∧ ∀ H', Same H H' → Q (.bl (areIns d)) H'
theorem ok_are_ins {fi : Addr} (F : Fun K "are_ins" "are_ins" s_are_ins f fd) (b_len : mg "len" = none) (g_MOST_INS : GC mg "MOST_INS" (.int 4)) (g_is_in : GC mg "is_in" (.ref fi)) (hH : Held P w K mg base 3 fi spIn) (c_are_rising_rows : Callee P w K mg base "are_rising_rows" ["thing", "is_row"] 4 (spRows P w K mg base)) : FnOk P w K mg base CX0 5 f fd ["thing"] spAre := by
  refine F.ok sc_are_ins (fun vs H Q E h => ?_) (fun cdv A outer s H vs Q E hr h => ?_)
  · obtain ⟨v, d, rfl, _⟩ := h
    rfl
  obtain ⟨v, d, rfl, hd, hz, q⟩ := h
  refine ⟨_, (pss_one (ps_ret (pe_and (pe_cc c_are_rising_rows hr (by omega) (pa_c (pe_var (i := 0) rfl vis_are_ins_thing db_thing cd_thing) (pa_c (pe_gc g_is_in gl_are_ins_is_in db_is_in) pa_nil)) gl_are_ins_are_rising_rows db_are_rising_rows) (pe_one (pe_cmpR op_le (pe_cB gLen gl_are_ins_len b_len bt_len (pa_c (pe_var (i := 0) rfl vis_are_ins_thing db_thing cd_thing) pa_nil) nn_len db_len) (pe_gc g_MOST_INS gl_are_ins_MOST_INS db_MOST_INS) (nomark _)))))), ?_⟩
  walk_at "rd"
  refine ⟨v, d, fi, rfl, hd, hz, hH, fun H1 s1 => ⟨_, rfl, ?_⟩⟩
  cases hk : rowsOk d with
  | false =>
    rw [if_neg (by decide)]
    have e : areIns d = false := by
      cases d with
      | tup rows => rw [areIns_eq, hk]; rfl
      | _ => rfl
    rw [e] at q
    exact q H1 s1
  | true =>
    rw [if_pos rfl]
    cases hd with
    | @tup pa xs ds e r =>
      refine ⟨_, lenT (SqT.of (s1 _ _ e)), ?_⟩
      rw [areIns_eq, hk, Bool.true_and] at q
      rw [r.length]
      have e4 : decide (((ds.length : Nat) : Int) ≤ 4) = decide (ds.length ≤ 4) := by
        by_cases h : ds.length ≤ 4
        · rw [decide_eq_true h, decide_eq_true (by omega)]
        · rw [decide_eq_false h, decide_eq_false (by omega)]
      rw [e4]
      exact q H1 s1
    | _ => cases hk
end
end SR


set_option Elab.async false
set_option linter.all false
set_option maxRecDepth 100000
set_option maxHeartbeats 0
namespace SR
open PySem L2
local macro_rules | `(tactic| walk_at "rd") => `(tactic| simp only [tSeq, tIfS, tTest, tOp, tVar, tC, tAsg, gName, gTup, gCons, gNil, tRet, tRetN, tDrop, tNext, tCB, tCons, tNil, tCall, tUn, rU, rI0, rI, tAnd, tOr, tNot, tB, tAndV, tOrV, tNotV, tIf, tIfT, tKGet, tChain, tDGet, tDGet1, sDPut, tDNewK, tDisp, tPairs, tCont, tSl, tNoPart, tPart, rSlT, tChain3, qSortS, qEqDL, qNeDL, tFor_enum, tFor_zip, tFor_rng2, tComp_seq, qSetI, qSortSet, cxOf_prog, cxOf_w, cxOf_nox_prog, cxOf_nox_w, cxOf_mg, cxOf_base, cxOf_nox_mg, cxOf_nox_base, cxComp_prog, cxComp_w, cxComp_mg, cxComp_base, tComp_zipT, tCallL, rSlA, rSlL, tDX, tDXs, tTup, tLst, tBM,
  qEq, qNe, qIn, qNotIn, qIsN, qNotN, qIsB, qNotB, qLen, qInst, qEqD, qNeD, qMinL, qMaxL, qSortI, rIx, rIxL, rIxT, rIxS, rCat, rCatT2, rRep, rRepT, rLeS, rLtS, rAppend, rExtend, tNever, tBreak, tYes,
  tFor_tup, tFor_list, tFor_rng1, tComp_tup, tComp_list, tComp_str, L2.start, cxOf_K, cxOf_nox_K, cxComp_K, List.map_cons, List.map_nil, List.length_cons, List.length_nil, List.replicate_succ, List.replicate_zero, Nat.reduceAdd, Nat.reduceSub, Nat.zero_add, Nat.add_zero, Nat.sub_zero, Nat.sub_self, Nat.add_sub_cancel,
  List.getElem?_cons_zero, List.getElem?_cons_succ, List.set_cons_zero, List.set_cons_succ, List.cons_append, List.nil_append, List.append_nil, List.cons.injEq, Option.some.injEq, V.int.injEq, V.ref.injEq, V.str.injEq, V.bl.injEq, V.ty.injEq,
  reduceCtorEq, false_and, and_false, and_true, true_and, exists_false, exists_const, false_or, or_false, exists_eq_left, exists_eq_left', exists_eq_right, exists_eq_right', exists_and_left, decide_eq_true_eq, Bool.not_eq_true', Bool.decide_eq_true, exists_eq, true_or, or_true, Bool.false_eq_true, if_true, if_false, Bool.true_eq_false, Bool.not_true, Bool.not_false, decide_true, decide_false, List.isEmpty_cons, List.isEmpty_nil, Bool.true_and, Bool.false_and, bne_self_eq_false, beq_self_eq_true])
section
variable {P : Program} {w : World} {K : PySem.W.Frag} {mg : Str → Option Value} {base : Heap} {f : Addr} {fd : FuncData}
/-! what is known behind -/
def D.term : D → T
  | .set _ t => t
  | .ite t _ _ => t
  | .whl t _ _ => t
def spTermOf : Sp := fun vs H Q _ => ∃ v e, vs = [v] ∧ Dt H v (D.enc e) ∧ ∀ x, Dt H x e.term.enc → Q x H
theorem ok_term_of (F : Fun K "term_of" "term_of" s_term_of f fd) : FnOk P w K mg base CX0 1 f fd ["deed"] spTermOf := by
  refine F.ok sc_term_of (fun vs H Q E h => ?_) (fun cdv A outer s H vs Q E hr h => ?_)
  · obtain ⟨v, d, rfl, _⟩ := h
    rfl
  obtain ⟨v, e, rfl, hd, q⟩ := h
  refine ⟨_, (pss_cons (ps_if (pt_cmpR (gEq hr.units) (pe_ix ix_tup (pe_var (i := 0) rfl vis_term_of_deed db_deed cd_deed) pe_int (fun _ _ => rfl)) pe_str (nomark _)) (pss_one (ps_ret (pe_ix ix_tup (pe_var (i := 0) rfl vis_term_of_deed db_deed cd_deed) pe_int (fun _ _ => rfl)))) pss_nil)
  (pss_one (ps_ret (pe_ix ix_tup (pe_var (i := 0) rfl vis_term_of_deed db_deed cd_deed) pe_int (fun _ _ => rfl))))), ?_⟩
  walk_at "rd"
  cases e with
  | set x t =>
    rw [D.enc] at hd
    obtain ⟨p, x0, x1, x2, rfl, hp, t0, t1, t2⟩ := tup3 hd
    refine ⟨_, rfl, _, SqT.of hp, _, rfl, _, eq_of t0, ?_⟩
    rw [if_pos (show eqS (.str "set") "set" = true from by decide +kernel)]
    exact ⟨_, rfl, _, SqT.of hp, _, rfl, q _ t2⟩
  | ite t b c =>
    rw [D.enc] at hd
    obtain ⟨p, x0, x1, x2, x3, rfl, hp, t0, t1, t2, t3⟩ := tup4 hd
    refine ⟨_, rfl, _, SqT.of hp, _, rfl, _, eq_of t0, ?_⟩
    rw [if_neg (show ¬ eqS (.str "if") "set" = true from by decide +kernel)]
    exact ⟨_, rfl, _, SqT.of hp, _, rfl, q _ t1⟩
  | whl t m b =>
    rw [D.enc] at hd
    obtain ⟨p, x0, x1, x2, x3, rfl, hp, t0, t1, t2, t3⟩ := tup4 hd
    refine ⟨_, rfl, _, SqT.of hp, _, rfl, _, eq_of t0, ?_⟩
    rw [if_neg (show ¬ eqS (.str "while") "set" = true from by decide +kernel)]
    exact ⟨_, rfl, _, SqT.of hp, _, rfl, q _ t1⟩
def D.isIte : D → Bool
  | .ite _ _ _ => true
  | _ => false
def D.blocks : D → List (Int × List D)
  | .set _ _ => []
  | .ite _ b c => [(1, b), (2, c)]
  | .whl _ _ b => [(1, b)]
def blkEnc (p : Int × List D) : Dm := .tup [.int p.1, .tup (encB p.2)]
def spBlocksOf : Sp := fun vs H Q _ => ∃ v e, vs = [v] ∧ Dt H v (D.enc e) ∧ ∀ (r : Addr) (H' : Hp) (xs : List V), Same H H' → H' r = some (.lst xs) → DtA H' xs (e.blocks.map blkEnc) → Q (.ref r) H'
theorem ok_blocks_of (F : Fun K "blocks_of" "blocks_of" s_blocks_of f fd) : FnOk P w K mg base CX0 1 f fd ["deed"] spBlocksOf := by
  refine F.ok sc_blocks_of (fun vs H Q E h => ?_) (fun cdv A outer s H vs Q E hr h => ?_)
  · obtain ⟨v, d, rfl, _⟩ := h
    rfl
  obtain ⟨v, e, rfl, hd, q⟩ := h
  refine ⟨_, (pss_cons (ps_if (pt_cmpR (gEq hr.units) (pe_ix ix_tup (pe_var (i := 0) rfl vis_blocks_of_deed db_deed cd_deed) pe_int (fun _ _ => rfl)) pe_str (nomark _)) (pss_one (ps_ret (pe_lst (pa_c (pe_tup (pa_c pe_int (pa_c (pe_ix ix_tup (pe_var (i := 0) rfl vis_blocks_of_deed db_deed cd_deed) pe_int (fun _ _ => rfl)) pa_nil))) (pa_c (pe_tup (pa_c pe_int (pa_c (pe_ix ix_tup (pe_var (i := 0) rfl vis_blocks_of_deed db_deed cd_deed) pe_int (fun _ _ => rfl)) pa_nil))) pa_nil))))) pss_nil)
  (pss_cons (ps_if (pt_cmpR (gEq hr.units) (pe_ix ix_tup (pe_var (i := 0) rfl vis_blocks_of_deed db_deed cd_deed) pe_int (fun _ _ => rfl)) pe_str (nomark _)) (pss_one (ps_ret (pe_lst (pa_c (pe_tup (pa_c pe_int (pa_c (pe_ix ix_tup (pe_var (i := 0) rfl vis_blocks_of_deed db_deed cd_deed) pe_int (fun _ _ => rfl)) pa_nil))) pa_nil)))) pss_nil)
  (pss_one (ps_ret (pe_lst pa_nil))))), ?_⟩
  walk_at "rd"
  cases e with
  | set x t =>
    rw [D.enc] at hd
    obtain ⟨p, x0, x1, x2, rfl, hp, t0, t1, t2⟩ := tup3 hd
    refine ⟨_, rfl, _, SqT.of hp, _, rfl, _, eq_of t0, ?_⟩
    rw [if_neg (show ¬ eqS (.str "set") "if" = true from by decide +kernel)]
    refine ⟨_, rfl, _, SqT.of hp, _, rfl, _, eq_of t0, ?_⟩
    rw [if_neg (show ¬ eqS (.str "set") "while" = true from by decide +kernel)]
    exact ⟨Nat.zero_le _, fun r hr' => q r _ [] (same_new hr' _) upd_same .nil⟩
  | ite t b c =>
    rw [D.enc] at hd
    obtain ⟨p, x0, x1, x2, x3, rfl, hp, t0, t1, t2, t3⟩ := tup4 hd
    refine ⟨_, rfl, _, SqT.of hp, _, rfl, _, eq_of t0, ?_⟩
    rw [if_pos (show eqS (.str "if") "if" = true from by decide +kernel)]
    refine ⟨_, rfl, _, SqT.of hp, _, rfl, zl 2 (by decide), fun p1 h1 => ?_⟩
    have s1 := same_new h1 (HO.tup [V.int 1, x2])
    refine ⟨_, rfl, _, SqT.of (s1 _ _ hp), _, rfl, zl 2 (by decide), fun p2 h2 => ⟨zl 2 (by decide), fun r hr' => ?_⟩⟩
    have s2 := same_new h2 (HO.tup [V.int 2, x3])
    have s3 := same_new hr' (HO.lst [V.ref p1, V.ref p2])
    refine q r _ _ (s1.trans (s2.trans s3)) upd_same (.cons (.tup (s3 _ _ (s2 _ _ upd_same)) (.cons (.int 1) (.cons (t2.kp (s1.trans (s2.trans s3)).kp) .nil))) (.cons (.tup (s3 _ _ upd_same) (.cons (.int 2) (.cons (t3.kp (s1.trans (s2.trans s3)).kp) .nil))) .nil))
  | whl t m b =>
    rw [D.enc] at hd
    obtain ⟨p, x0, x1, x2, x3, rfl, hp, t0, t1, t2, t3⟩ := tup4 hd
    refine ⟨_, rfl, _, SqT.of hp, _, rfl, _, eq_of t0, ?_⟩
    rw [if_neg (show ¬ eqS (.str "while") "if" = true from by decide +kernel)]
    refine ⟨_, rfl, _, SqT.of hp, _, rfl, _, eq_of t0, ?_⟩
    rw [if_pos (show eqS (.str "while") "while" = true from by decide +kernel)]
    refine ⟨_, rfl, _, SqT.of hp, _, rfl, zl 2 (by decide), fun p1 h1 => ⟨zl 1 (by decide), fun r hr' => ?_⟩⟩
    have s1 := same_new h1 (HO.tup [V.int 1, x3])
    have s3 := same_new hr' (HO.lst [V.ref p1])
    exact q r _ _ (s1.trans s3) upd_same (.cons (.tup (s3 _ _ upd_same) (.cons (.int 1) (.cons (t3.kp (s1.trans s3).kp) .nil))) .nil)
/-! names of a sum -/
def T.deep : T → Nat
  | .op _ a b => max a.deep b.deep + 1
  | _ => 1
theorem Wd.ne (w : Wd) : eqS (.str w.str) "num" = false ∧ eqS (.str w.str) "name" = false := by cases w <;> decide +kernel
def spHas (n : Nat) : Sp := fun vs H Q _ => ∃ (v : V) (t : T) (k : Addr) (p : List Str), vs = [v, .ref k] ∧ Dt H v t.enc ∧ H k = some (.tup (p.map V.str)) ∧ t.deep ≤ n ∧ Q (.bl (t.knows p)) H
theorem ok_has {n : Nat} (F : Fun K "has_known_names" "has_known_names" s_has_known_names f fd) (c_has_known_names : Callee P w K mg base "has_known_names" ["term", "known"] (n + 1) (spHas n)) : FnOk P w K mg base CX0 (n + 2) f fd ["term", "known"] (spHas (n + 1)) := by
  refine F.ok sc_has_known_names (fun vs H Q E h => ?_) (fun cdv A outer s H vs Q E hr h => ?_)
  · obtain ⟨v, t, k, p, rfl, _⟩ := h
    rfl
  obtain ⟨v, t, k, p, rfl, hd, hk, hn, q⟩ := h
  refine ⟨_, (pss_cons (ps_if (pt_cmpR (gEq hr.units) (pe_ix ix_tup (pe_var (i := 0) rfl vis_has_known_names_term db_term cd_term) pe_int (fun _ _ => rfl)) pe_str (nomark _)) (pss_one (ps_ret pe_bl)) pss_nil)
  (pss_cons (ps_if (pt_cmpR (gEq hr.units) (pe_ix ix_tup (pe_var (i := 0) rfl vis_has_known_names_term db_term cd_term) pe_int (fun _ _ => rfl)) pe_str (nomark _)) (pss_one (ps_ret (pe_cmpR (gIn hr.units) (pe_ix ix_tup (pe_var (i := 0) rfl vis_has_known_names_term db_term cd_term) pe_int (fun _ _ => rfl)) (pe_var (i := 1) rfl vis_has_known_names_known db_known cd_known) (by with_unfolding_all rfl)))) pss_nil)
  (pss_one (ps_ret (pe_and (pe_cc c_has_known_names hr (by omega) (pa_c (pe_ix ix_tup (pe_var (i := 0) rfl vis_has_known_names_term db_term cd_term) pe_int (fun _ _ => rfl)) (pa_c (pe_var (i := 1) rfl vis_has_known_names_known db_known cd_known) pa_nil)) gl_has_known_names_has_known_names db_has_known_names) (pe_one (pe_cc c_has_known_names hr (by omega) (pa_c (pe_ix ix_tup (pe_var (i := 0) rfl vis_has_known_names_term db_term cd_term) pe_int (fun _ _ => rfl)) (pa_c (pe_var (i := 1) rfl vis_has_known_names_known db_known cd_known) pa_nil)) gl_has_known_names_has_known_names db_has_known_names))))))), ?_⟩
  walk_at "rd"
  cases t with
  | num i =>
    rw [T.enc] at hd
    obtain ⟨a, x0, x1, rfl, hp, t0, t1⟩ := tup2 hd
    refine ⟨_, rfl, _, SqT.of hp, _, rfl, _, eq_of t0, ?_⟩
    rw [if_pos (show eqS (.str "num") "num" = true from by decide +kernel)]
    exact q
  | nm x =>
    rw [T.enc] at hd
    obtain ⟨a, x0, x1, rfl, hp, t0, t1⟩ := tup2 hd
    refine ⟨_, rfl, _, SqT.of hp, _, rfl, _, eq_of t0, ?_⟩
    rw [if_neg (show ¬ eqS (.str "name") "num" = true from by decide +kernel)]
    refine ⟨_, rfl, _, SqT.of hp, _, rfl, _, eq_of t0, ?_⟩
    rw [if_pos (show eqS (.str "name") "name" = true from by decide +kernel)]
    cases t1
    refine ⟨_, rfl, _, SqT.of hp, _, rfl, inV (.str x) (p.map V.str), .inl ⟨k, _, rfl, .inr (SqT.of hk), rfl, flat_strs p, rfl⟩, ?_⟩
    rw [inV_strs]
    exact q
  | op w a b =>
    rw [T.enc] at hd
    obtain ⟨ad, x0, x1, x2, rfl, hp, t0, t1, t2⟩ := tup3 hd
    refine ⟨_, rfl, _, SqT.of hp, _, rfl, _, eq_of t0, ?_⟩
    rw [if_neg (by rw [w.ne.1]; decide)]
    refine ⟨_, rfl, _, SqT.of hp, _, rfl, _, eq_of t0, ?_⟩
    rw [if_neg (by rw [w.ne.2]; decide)]
    have hab : a.deep ≤ n ∧ b.deep ≤ n := by
      simp only [T.deep] at hn
      omega
    have q' : Q (.bl (a.knows p && b.knows p)) H := q
    refine ⟨_, rfl, _, SqT.of hp, _, rfl, x1, a, k, p, rfl, t1, hk, hab.1, _, rfl, ?_⟩
    cases ha : a.knows p with
    | true =>
      rw [ha, Bool.true_and] at q'
      exact ⟨_, rfl, _, SqT.of hp, _, rfl, x2, b, k, p, rfl, t2, hk, hab.2, q'⟩
    | false =>
      rw [ha, Bool.false_and] at q'
      exact q'
mutual
def D.sz : D → Nat
  | .set _ _ => 1
  | .ite _ b c => szB b + szB c
  | .whl _ _ b => szB b
def szB : List D → Nat
  | [] => 0
  | d :: r => d.sz + szB r
end
mutual
def D.dp : D → Nat
  | .set _ _ => 0
  | .ite _ b c => max (dpB b) (dpB c) + 1
  | .whl _ _ b => dpB b + 1
def dpB : List D → Nat
  | [] => 0
  | d :: r => max d.dp (dpB r)
end
mutual
def D.tm : D → Nat
  | .set _ t => t.deep
  | .ite t b c => max t.deep (max (tmB b) (tmB c))
  | .whl t _ b => max t.deep (tmB b)
def tmB : List D → Nat
  | [] => 0
  | d :: r => max d.tm (tmB r)
end
mutual
theorem kbD_len {p q : List Str} : ∀ {e : D}, kbD p e = some q → q.length ≤ p.length + e.sz
  | .set x t, h => by
    rw [kbD] at h
    split at h
    · cases h; simp [D.sz]
    · cases h
  | .ite t b c, h => by
    rw [kbD] at h
    split at h
    · cases hb : kbB p b with
      | none => rw [hb] at h; cases h
      | some q1 =>
        cases hc : kbB p c with
        | none => rw [hb, hc] at h; cases h
        | some q2 =>
          rw [hb, hc] at h
          cases h
          have := kbB_len hb
          have h2 := List.length_filter_le (fun x => q2.contains x) q1
          simp only [D.sz]
          omega
    · cases h
  | .whl t m b, h => by
    rw [kbD] at h
    split at h
    · cases hb : kbB p b with
      | none => rw [hb] at h; cases h
      | some q1 => rw [hb] at h; cases h; omega
    · cases h
theorem kbB_len {p q : List Str} : ∀ {b : List D}, kbB p b = some q → q.length ≤ p.length + szB b
  | [], h => by rw [kbB] at h; cases h; omega
  | d :: r, h => by
    rw [kbB] at h
    cases hd : kbD p d with
    | none => rw [hd] at h; cases h
    | some q1 =>
      rw [hd] at h
      have h1 := kbD_len hd
      have h2 := kbB_len h
      simp only [szB]
      omega
end
/-- what a value of known_behind tells -/
def Res (H : Hp) (y : V) (o : Option (List Str)) : Prop := match o with
  | none => y = .non
  | some q => ∃ r, y = .ref r ∧ H r = some (.tup (q.map V.str))
theorem Res.kp {H H' : Hp} {y : V} {o : Option (List Str)} (h : Res H y o) (k : Kp H H') : Res H' y o := by
  cases o with
  | none => exact h
  | some q => obtain ⟨r, e, hr⟩ := h; exact ⟨r, e, k.t _ _ hr⟩
def spKD (n : Nat) : Sp := fun vs H Q _ => ∃ (v : V) (e : D) (k : Addr) (p : List Str), vs = [v, .ref k] ∧ Dt H v e.enc ∧ H k = some (.tup (p.map V.str)) ∧ e.dp ≤ n ∧ e.tm ≤ 5 ∧ p.length + e.sz ≤ 900 ∧ ∀ (y : V) (H' : Hp), Same H H' → Res H' y (kbD p e) → Q y H'
def spKB (n : Nat) : Sp := fun vs H Q _ => ∃ (v : V) (b : List D) (k : Addr) (p : List Str), vs = [v, .ref k] ∧ Dt H v (.tup (encB b)) ∧ H k = some (.tup (p.map V.str)) ∧ dpB b < n ∧ tmB b ≤ 5 ∧ p.length + szB b ≤ 900 ∧ ∀ (y : V) (H' : Hp), Same H H' → Res H' y (kbB p b) → Q y H'
def LInv (H : Hp) (pb : Addr) (p0 : List Str) (b : List D) (i : Nat) (σ : St) (Hc : Hp) : Prop := Same H Hc ∧ ∃ (kc : Addr) (p : List Str) (t : Option V), σ = [some (.ref pb), some (.ref kc), t] ∧ Hc kc = some (.tup (p.map V.str)) ∧ kbB p0 b = kbB p (b.drop i) ∧ p.length + szB (b.drop i) ≤ 900
theorem encB_get {b : List D} : ∀ {i : Nat} {d : Dm}, (encB b)[i]? = some d → ∃ e, b[i]? = some e ∧ d = e.enc := by
  induction b with
  | nil => intro i d h; simp [encB] at h
  | cons e r ih =>
    intro i d h
    rw [encB] at h
    cases i with
    | zero => simp at h; exact ⟨e, rfl, h.symm⟩
    | succ i => simp at h; obtain ⟨e', h1, h2⟩ := ih h; exact ⟨e', by simpa using h1, h2⟩
theorem dpB_mem {b : List D} {e : D} (h : e ∈ b) : e.dp ≤ dpB b ∧ e.tm ≤ tmB b := by
  induction b with
  | nil => cases h
  | cons d r ih =>
    simp only [dpB, tmB]
    rcases List.mem_cons.mp h with rfl | h
    · omega
    · have := ih h
      omega
theorem ok_kb {n : Nat} (F : Fun K "known_behind_block" "known_behind_block" s_known_behind_block f fd) (c_known_behind_deed : Callee P w K mg base "known_behind_deed" ["deed", "known"] (2 * n + 9) (spKD n)) : FnOk P w K mg base CX0 (2 * n + 10) f fd ["block", "known"] (spKB (n + 1)) := by
  refine F.ok sc_known_behind_block (fun vs H Q E h => ?_) (fun cdv A outer s H vs Q E hr h => ?_)
  · obtain ⟨v, b, k, p, rfl, _⟩ := h
    rfl
  obtain ⟨v, b, k, p, rfl, hd, hk, hdp, htm, hsz, q⟩ := h
  refine ⟨_, (pss_cons (ps_for PassesOwn.never rfl (pi_tup (pe_var (i := 0) rfl vis_known_behind_block_block db_block cd_block)) (pg_name (i := 2) sc_known_behind_block.nd rfl loc_known_behind_block_deed)
  (pss_cons (ps_set (i := 1) sc_known_behind_block.nd rfl loc_known_behind_block_known (pe_cc c_known_behind_deed hr (by omega) (pa_c (pe_var (i := 2) rfl vis_known_behind_block_deed db_deed cd_deed) (pa_c (pe_var (i := 1) rfl vis_known_behind_block_known db_known cd_known) pa_nil)) gl_known_behind_block_known_behind_deed db_known_behind_deed) (swaps_plain rfl))
  (pss_one (ps_if (pt_cmpR gIsN (pe_var (i := 1) rfl vis_known_behind_block_known db_known cd_known) pe_non (nomark _)) (pss_one (ps_ret pe_non)) pss_nil))))
  (pss_one (ps_ret (pe_var (i := 1) rfl vis_known_behind_block_known db_known cd_known)))), ?_⟩
  walk_at "rd"
  obtain ⟨pb, xs, rfl, hpb, hda⟩ := hd.tupI
  have hxl : xs.length = b.length := by rw [hda.length, encB_length]
  refine ⟨_, rfl, ⟨_, SqT.of hpb⟩, ?_⟩
  refine for_tup (K := K) (a := pb) (xs := xs) (LInv H pb p b) ⟨Same.refl _, k, p, none, rfl, hk, rfl, hsz⟩ ?_ ?_ ?_
  · rintro i σ H' _ ⟨s1, _⟩
    exact SqT.of (s1 _ _ hpb)
  · rintro i x σ H' hxi ⟨s1, kc, p1, t, rfl, hkc, hkb, hs1⟩
    obtain ⟨d, hd, dd⟩ := hda.get hxi
    obtain ⟨e, he, rfl⟩ := encB_get hd
    have hdrop : b.drop i = e :: b.drop (i + 1) := by
      have hi : i < b.length := (List.getElem?_eq_some_iff.mp he).1
      have hdi : b[i] = e := (List.getElem?_eq_some_iff.mp he).2
      rw [List.drop_eq_getElem_cons hi, hdi]
    rw [hdrop] at hkb hs1
    simp only [szB] at hs1
    have hmem := dpB_mem (List.mem_of_getElem? he)
    walk_at "rd"
    refine ⟨x, e, kc, p1, rfl, dd.kp s1.kp, hkc, by omega, by omega, by omega, fun y H2 s2 hres => ?_⟩
    walk_at "rd"
    cases hkd : kbD p1 e with
    | none =>
      rw [hkd] at hres
      have hy : y = .non := hres
      subst hy
      simp only [if_true]
      rw [kbB, hkd] at hkb
      exact q _ _ (s1.trans s2) (by rw [hkb]; rfl)
    | some q1 =>
      rw [hkd] at hres
      obtain ⟨r, rfl, hr'⟩ := hres
      rw [kbB, hkd] at hkb
      have hl := kbD_len hkd
      rw [if_neg (fun z => by cases z)]
      exact ⟨s1.trans s2, r, q1, _, rfl, hr', hkb, by omega⟩
  · rintro σ H' ⟨s1, kc, p1, t, rfl, hkc, hkb, hs1⟩
    walk_at "rd"
    rw [hxl, List.drop_length, kbB] at hkb
    exact q _ _ s1 (by rw [hkb]; exact ⟨kc, rfl, hkc⟩)
theorem none_kb {k : Nat} : FnOk P w K mg base CX0 k f fd ["block", "known"] (spKB 0) := by
  have no : ∀ vs H Q E, ¬ spKB 0 vs H Q E := fun vs H Q E h => by
    obtain ⟨v, b, k, p, _, _, _, h1, _⟩ := h
    omega
  exact ⟨fun vs H Q E h => absurd h (no vs H Q E), fun A outer s H args us vs Q E _ _ _ _ h => absurd h (no vs H Q E)⟩
def outs (p : List Str) (e : D) : List (Option (List Str)) := e.blocks.map fun x => kbB p x.2
inductive ResA (H : Hp) : List V → List (Option (List Str)) → Prop where
  | nil : ResA H [] []
  | cons {y : V} {ys : List V} {o : Option (List Str)} {os : List (Option (List Str))} : Res H y o → ResA H ys os → ResA H (y :: ys) (o :: os)
theorem ResA.kp {H H' : Hp} (k : Kp H H') : ∀ {ys : List V} {os : List (Option (List Str))}, ResA H ys os → ResA H' ys os
  | _, _, .nil => .nil
  | _, _, .cons r t => .cons (r.kp k) (ResA.kp k t)
theorem ResA.snoc {H : Hp} {y : V} {o : Option (List Str)} (h : Res H y o) : ∀ {ys : List V} {os : List (Option (List Str))}, ResA H ys os → ResA H (ys ++ [y]) (os ++ [o])
  | _, _, .nil => .cons h .nil
  | _, _, .cons r t => .cons r (ResA.snoc h t)
theorem ResA.length {H : Hp} : ∀ {ys : List V} {os : List (Option (List Str))}, ResA H ys os → ys.length = os.length
  | _, _, .nil => rfl
  | _, _, .cons _ t => by rw [List.length_cons, List.length_cons, ResA.length t]
theorem ResA.mem {H : Hp} : ∀ {ys : List V} {os : List (Option (List Str))}, ResA H ys os → (∀ v ∈ ys, v = .non ∨ ∃ a zs, v = .ref a ∧ SqT K H a zs) ∧ ys.any isN = os.any Option.isNone
  | _, _, .nil => ⟨fun v hv => (by cases hv), rfl⟩
  | y :: ys, o :: os, .cons r t => by
    obtain ⟨h1, h2⟩ := ResA.mem t
    cases o with
    | none =>
      have e : y = .non := r
      subst e
      exact ⟨fun v hv => (List.mem_cons.mp hv).elim (fun z => .inl z) (h1 v), by rw [List.any_cons, List.any_cons, h2]; rfl⟩
    | some q =>
      obtain ⟨a, rfl, ha⟩ := r
      exact ⟨fun v hv => (List.mem_cons.mp hv).elim (fun z => .inr ⟨a, _, z, SqT.of ha⟩) (h1 v), by rw [List.any_cons, List.any_cons, h2]; rfl⟩
def OInv (H : Hp) (kn : Addr) (p : List Str) (e : D) (i : Nat) (ys : List V) (σ' : St) (H' : Hp) : Prop := Same H H' ∧ (∃ t u, σ' = [t, u, some (.ref kn)]) ∧ ResA H' ys ((outs p e).take i)
def GInv (H : Hp) (pe : Addr) (q1 q2 : List Str) (i : Nat) (ys : List V) (σ' : St) (H' : Hp) : Prop := H' = H ∧ (∃ t, σ' = [t, some (.ref pe)]) ∧ ys = ((q1.take i).filter fun x => q2.contains x).map V.str
theorem blk_small {e : D} {x : Int × List D} (h : x ∈ e.blocks) : dpB x.2 < e.dp ∧ tmB x.2 ≤ e.tm ∧ szB x.2 ≤ e.sz := by
  cases e with
  | set y t => cases h
  | ite t b c =>
    simp only [D.blocks, List.mem_cons, List.not_mem_nil, or_false] at h
    simp only [D.dp, D.tm, D.sz]
    rcases h with rfl | rfl <;> (dsimp only; omega)
  | whl t m b =>
    simp only [D.blocks, List.mem_cons, List.not_mem_nil, or_false] at h
    simp only [D.dp, D.tm, D.sz]
    subst h
    dsimp only
    omega
theorem term_tm (e : D) : e.term.deep ≤ e.tm := by
  cases e <;> simp only [D.term, D.tm] <;> omega
theorem ok_kd {n : Nat} (F : Fun K "known_behind_deed" "known_behind_deed" s_known_behind_deed f fd) (b_tuple : mg "tuple" = none) (c_has_known_names : Callee P w K mg base "has_known_names" ["term", "known"] 6 (spHas 5)) (c_term_of : Callee P w K mg base "term_of" ["deed"] 1 spTermOf)
    (c_blocks_of : Callee P w K mg base "blocks_of" ["deed"] 1 spBlocksOf) (c_known_behind_block : Callee P w K mg base "known_behind_block" ["block", "known"] (2 * n + 8) (spKB n)) : FnOk P w K mg base CX0 (2 * n + 9) f fd ["deed", "known"] (spKD n) := by
  refine F.ok sc_known_behind_deed (fun vs H Q E h => ?_) (fun cdv A outer s H vs Q E hr h => ?_)
  · obtain ⟨v, b, k, p, rfl, _⟩ := h
    rfl
  obtain ⟨v, e, k, p, rfl, hd, hk, hdp, htm, hsz, q⟩ := h
  refine ⟨_, (pss_cons (ps_if (pt_not (pt_val (pe_cc c_has_known_names hr (by omega) (pa_c (pe_cc c_term_of hr (by omega) (pa_c (pe_var (i := 0) rfl vis_known_behind_deed_deed db_deed cd_deed) pa_nil) gl_known_behind_deed_term_of db_term_of) (pa_c (pe_var (i := 1) rfl vis_known_behind_deed_known db_known cd_known) pa_nil)) gl_known_behind_deed_has_known_names db_has_known_names))) (pss_one (ps_ret pe_non)) pss_nil)
  (pss_cons (ps_if (pt_cmpR (gEq hr.units) (pe_ix ix_tup (pe_var (i := 0) rfl vis_known_behind_deed_deed db_deed cd_deed) pe_int (fun _ _ => rfl)) pe_str (nomark _)) (pss_one (ps_ret (pe_op op_catT2 (pe_var (i := 1) rfl vis_known_behind_deed_known db_known cd_known) (pe_tup (pa_c (pe_ix ix_tup (pe_var (i := 0) rfl vis_known_behind_deed_deed db_deed cd_deed) pe_int (fun _ _ => rfl)) pa_nil))))) pss_nil)
  (pss_cons (ps_set (i := 2) sc_known_behind_deed.nd rfl loc_known_behind_deed_ends (pe_comp ["number", "block", "known"] [none, none, some 1] rfl (CompS.of (by rfl)) (pi_list (pe_cc c_blocks_of hr (by omega) (pa_c (pe_var (i := 0) rfl vis_known_behind_deed_deed db_deed cd_deed) pa_nil) gl_known_behind_deed_blocks_of db_blocks_of)) (fun _ _ _ _ _ => (pg_tupK (n := 2) (K := K) rfl rfl (pgs_cons (pg_name (i := 0) (show List.Nodup (["number", "block", "known"] : List Str) from by decide +kernel) rfl (Or.inl rfl)) (pgs_cons (pg_name (i := 1) (show List.Nodup (["number", "block", "known"] : List Str) from by decide +kernel) rfl (Or.inl rfl)) pgs_nil)))) (fun _ _ _ _ _ => pif_nil) (fun _ _ _ _ _ => (pe_cc c_known_behind_block hr (by omega) (pa_c (pe_var (i := 1) rfl (by first | exact Or.inl rfl | exact Or.inr (Or.inl rfl) | exact Or.inr (Or.inr rfl)) db_block cd_block) (pa_c (pe_var (i := 2) rfl (by first | exact Or.inl rfl | exact Or.inr (Or.inl rfl) | exact Or.inr (Or.inr rfl)) db_known cd_known) pa_nil)) rfl db_known_behind_block))) (swaps_cell cell_known_behind_deed_ends))
  (pss_cons (ps_if (pt_cmpR (gIn hr.units) pe_non (pe_var (i := 2) rfl vis_known_behind_deed_ends db_ends cd_ends) (by with_unfolding_all rfl)) (pss_one (ps_ret pe_non)) pss_nil)
  (pss_cons (ps_if (pt_cmpR (gEq hr.units) (pe_ix ix_tup (pe_var (i := 0) rfl vis_known_behind_deed_deed db_deed cd_deed) pe_int (fun _ _ => rfl)) pe_str (nomark _)) (pss_one (ps_ret (pe_cT call_tuple_of gl_known_behind_deed_tuple b_tuple bt_tuple (pa_c (pe_comp ["name", "ends"] [none, some 2] rfl (CompS.of (by rfl)) (pi_tup (pe_ix ix_list (pe_var (i := 2) rfl vis_known_behind_deed_ends db_ends cd_ends) pe_int (fun _ _ => rfl))) (fun _ _ _ _ _ => (pg_name (i := 0) (show List.Nodup (["name", "ends"] : List Str) from by decide +kernel) rfl (Or.inl rfl))) (fun _ _ _ _ _ => (pif_one (pt_cmpR (opK (r := qIn) (K := K) (gIn hr.units) rfl) (pe_var (i := 0) rfl (by first | exact Or.inl rfl | exact Or.inr (Or.inl rfl) | exact Or.inr (Or.inr rfl)) db_name cd_name) (pe_ix (ixK (r := rIxL) (K := K) ix_list rfl) (pe_var (i := 1) rfl (by first | exact Or.inl rfl | exact Or.inr (Or.inl rfl) | exact Or.inr (Or.inr rfl)) db_ends cd_ends) pe_int (fun _ _ => rfl)) (by with_unfolding_all rfl)))) (fun _ _ _ _ _ => (pe_var (i := 0) rfl (by first | exact Or.inl rfl | exact Or.inr (Or.inl rfl) | exact Or.inr (Or.inr rfl)) db_name cd_name))) pa_nil) nn_tuple db_tuple))) pss_nil)
  (pss_one (ps_ret (pe_var (i := 1) rfl vis_known_behind_deed_known db_known cd_known)))))))), ?_⟩
  walk_at "rd"
  refine ⟨v, e, rfl, hd, fun x dx => ?_⟩
  refine ⟨x, e.term, k, p, rfl, dx, hk, Nat.le_trans (term_tm e) htm, _, rfl, ?_⟩
  cases hkn : e.term.knows p with
  | false =>
    simp only [if_true]
    refine q _ _ (Same.refl _) ?_
    have : kbD p e = none := by
      cases e <;> (rw [kbD]; simp only [D.term] at hkn; rw [hkn]; rfl)
    rw [this]; rfl
  | true =>
    simp only [Bool.true_eq_false, if_false]
    by_cases hset : ∃ x t, e = .set x t
    · obtain ⟨x', t', rfl⟩ := hset
      have hkd : kbD p (.set x' t') = some (p ++ [x']) := by
        rw [kbD]; simp only [D.term] at hkn; rw [hkn]; rfl
      rw [hkd] at q
      rw [D.enc] at hd
      simp only [D.sz] at hsz
      obtain ⟨pv, x0, x1, x2, rfl, hp, t0, t1, t2⟩ := tup3 hd
      cases t1
      refine ⟨_, rfl, _, SqT.of hp, _, rfl, _, eq_of t0, ?_⟩
      rw [if_pos (show eqS (.str "set") "set" = true from by decide +kernel)]
      refine ⟨_, rfl, _, SqT.of hp, _, rfl, zl 1 (by decide), fun r hr' => ?_⟩
      have s1 := same_new hr' (HO.tup [V.str x'])
      refine ⟨_, SqT.of (s1 _ _ hk), _, SqT.of upd_same, by rw [List.length_map, List.length_singleton]; exact zl _ (by omega), fun h => ?_, fun _ h => absurd h (by simp), fun _ _ r2 h2 => ?_⟩
      · have hp0 : p = [] := by simpa using h
        subst hp0
        exact q _ _ s1 ⟨r, rfl, upd_same⟩
      · refine q _ _ (s1.trans (same_new h2 _)) ⟨r2, rfl, ?_⟩
        rw [upd_same, List.map_append]; rfl
    · have hns : ∃ (pv : Addr) (xs : List V) (x0 : V) (w0 : Str), v = .ref pv ∧ H pv = some (.tup xs) ∧ atI xs 0 = some x0 ∧ Dt H x0 (.str w0) ∧ eqS (.str w0) "set" = false ∧ eqS (.str w0) "if" = e.isIte := by
        cases e with
        | set x t => exact absurd ⟨x, t, rfl⟩ hset
        | ite t b c =>
          rw [D.enc] at hd
          obtain ⟨pv, x0, x1, x2, x3, rfl, hp, t0, _⟩ := tup4 hd
          exact ⟨pv, _, x0, "if", rfl, hp, rfl, t0, by decide +kernel, (show eqS (.str "if") "if" = true from by decide +kernel)⟩
        | whl t m b =>
          rw [D.enc] at hd
          obtain ⟨pv, x0, x1, x2, x3, rfl, hp, t0, _⟩ := tup4 hd
          exact ⟨pv, _, x0, "while", rfl, hp, rfl, t0, by decide +kernel, (show eqS (.str "while") "if" = false from by decide +kernel)⟩
      obtain ⟨pv, vs, x0, w0, rfl, hp, hx0, t0, w1, w2⟩ := hns
      refine ⟨_, rfl, _, SqT.of hp, _, hx0, _, eq_of t0, ?_⟩
      rw [if_neg (by rw [w1]; decide)]
      refine ⟨_, e, rfl, hd, fun r H1 xs s1 hr1 dxs => ⟨_, rfl, ⟨_, SqL.of hr1⟩, ?_⟩⟩
      have hxl : xs.length = e.blocks.length := by rw [dxs.length, List.length_map]
      have hbl : e.blocks.length ≤ 2 := by cases e <;> simp [D.blocks]
      refine comp_list (K := K) (a := r) (xs := xs) (OInv H1 k p e) ⟨Same.refl _, ⟨none, none, rfl⟩, by rw [List.take_zero]; exact .nil⟩ (by rw [hxl]; exact small1000 (by omega)) ?_ ?_ ?_ ?_
      · rintro i ys σ' H' ⟨_, _, hra⟩
        rw [hra.length, List.length_take]
        omega
      · rintro i ys σ' H' _ ⟨s2, _, _⟩
        exact SqL.of (s2 _ _ hr1)
      · rintro i ys v' σ' H' hxi ⟨s2, ⟨t, u, rfl⟩, hra⟩
        obtain ⟨d, hd', dd⟩ := dxs.get hxi
        rw [List.getElem?_map] at hd'
        cases hb : e.blocks[i]? with
        | none => rw [hb] at hd'; cases hd'
        | some bx =>
          rw [hb] at hd'
          have ed : blkEnc bx = d := by simpa using hd'
          subst ed
          obtain ⟨pp, y0, y1, rfl, hpp, u0, u1⟩ := tup2 (dd.kp s2.kp)
          have hsm := blk_small (List.mem_of_getElem? hb)
          walk_at "rd"
          refine ⟨_, SqT.of hpp, rfl, _, _, rfl, _, _, rfl, rfl, ?_⟩
          refine ⟨y1, bx.2, k, p, rfl, u1, s2 _ _ (s1 _ _ hk), by omega, by omega, by omega, fun y H3 s3 hres => ⟨s2.trans s3, ⟨_, _, rfl⟩, ?_⟩⟩
          have et : (outs p e).take (i + 1) = (outs p e).take i ++ [kbB p bx.2] := by
            rw [List.take_add_one]
            unfold outs
            rw [List.getElem?_map, hb]; rfl
          rw [et]
          exact (hra.kp s3.kp).snoc hres
      · rintro ys σ' H' ⟨s2, _, hra⟩ pe hpe
        have et : (outs p e).take xs.length = outs p e := by
          rw [hxl]
          exact List.take_of_length_le (by unfold outs; rw [List.length_map]; omega)
        rw [et] at hra
        have s3 := same_new hpe (HO.lst ys)
        have s03 := s1.trans (s2.trans s3)
        have hpe' : (upd H' pe (HO.lst ys)) pe = some (.lst ys) := upd_same
        have hra' := hra.kp s3.kp
        generalize upd H' pe (HO.lst ys) = U at s3 s03 hpe' hra' ⊢
        obtain ⟨hm1, hm2⟩ := ResA.mem (K := K) hra'
        refine ⟨_, .inr (.inr ⟨pe, ys, rfl, rfl, SqL.of hpe', hm1, rfl⟩), ?_⟩
        rw [hm2]
        cases e with
        | set x t => exact absurd ⟨x, t, rfl⟩ hset
        | whl t m b =>
          have hkd : kbD p (.whl t m b) = match kbB p b with | some _ => some p | none => none := by
            rw [kbD]; simp only [D.term] at hkn; rw [hkn]; rfl
          rw [hkd] at q
          cases hb : kbB p b with
          | none =>
            rw [hb] at q
            simp only [outs, D.blocks, List.map_cons, List.map_nil, hb, List.any_cons, Option.isNone_none, Bool.true_or, if_true]
            exact q _ _ s03 rfl
          | some q1 =>
            rw [hb] at q
            simp only [outs, D.blocks, List.map_cons, List.map_nil, hb, List.any_cons, List.any_nil, Option.isNone_some, Bool.or_false, Bool.false_eq_true, if_false]
            refine ⟨_, rfl, _, SqT.of (s03 _ _ hp), _, hx0, _, eq_of (t0.kp s03.kp), ?_⟩
            rw [if_neg (by rw [w2]; exact Bool.false_ne_true)]
            exact q _ _ s03 ⟨k, rfl, s03 _ _ hk⟩
        | ite t b c =>
          have hkd : kbD p (.ite t b c) = match kbB p b, kbB p c with | some q, some r => some (q.filter fun x => r.contains x) | _, _ => none := by
            rw [kbD]; simp only [D.term] at hkn; rw [hkn]; rfl
          rw [hkd] at q
          cases hb : kbB p b with
          | none =>
            rw [hb] at q
            simp only [outs, D.blocks, List.map_cons, List.map_nil, hb, List.any_cons, Option.isNone_none, Bool.true_or, if_true]
            exact q _ _ s03 rfl
          | some q1 =>
            cases hc : kbB p c with
            | none =>
              rw [hb, hc] at q
              simp only [outs, D.blocks, List.map_cons, List.map_nil, hb, hc, List.any_cons, Option.isNone_none, Option.isNone_some, Bool.true_or, Bool.or_true, if_true]
              exact q _ _ s03 rfl
            | some q2 =>
              rw [hb, hc] at q
              simp only [outs, D.blocks, List.map_cons, List.map_nil, hb, hc] at hra'
              simp only [outs, D.blocks, List.map_cons, List.map_nil, hb, hc, List.any_cons, List.any_nil, Option.isNone_some, Bool.or_false, Bool.false_eq_true, if_false]
              rcases hra' with _ | ⟨r1, _ | ⟨r2, _ | _⟩⟩
              obtain ⟨a1, rfl, m1⟩ := r1
              obtain ⟨a2, rfl, m2⟩ := r2
              refine ⟨_, rfl, _, SqT.of (s03 _ _ hp), _, hx0, _, eq_of (t0.kp s03.kp), ?_⟩
              rw [if_pos (by rw [w2]; rfl)]
              refine ⟨_, rfl, _, SqL.of hpe', _, rfl, _, rfl, ⟨_, SqT.of m1⟩, ?_⟩
              have hq1 : q1.length ≤ 900 := by
                have := kbB_len hb
                simp only [D.sz] at hsz
                omega
              refine comp_tup (K := K) (a := a1) (xs := q1.map V.str) (GInv U pe q1 q2) ⟨rfl, ⟨none, rfl⟩, rfl⟩ (by rw [List.length_map]; exact small1000 (by omega)) ?_ ?_ ?_ ?_
              · rintro i ys σ' H' ⟨_, _, rfl⟩
                rw [List.length_map]
                exact Nat.le_trans (List.length_filter_le _ _) (by rw [List.length_take]; omega)
              · rintro i ys σ' H' _ ⟨rfl, _, _⟩
                exact SqT.of m1
              · rintro i ys v σ' H' hxi ⟨rfl, ⟨t, rfl⟩, rfl⟩
                rw [List.getElem?_map] at hxi
                cases hx : q1[i]? with
                | none => rw [hx] at hxi; cases hxi
                | some x =>
                  rw [hx] at hxi
                  have ev : V.str x = v := by simpa using hxi
                  subst ev
                  walk_at "rd"
                  refine ⟨_, SqL.of hpe', _, rfl, inV (.str x) (q2.map V.str), .inl ⟨a2, _, rfl, .inr (SqT.of m2), rfl, flat_strs q2, rfl⟩, ?_⟩
                  rw [inV_strs]
                  have et : q1.take (i + 1) = q1.take i ++ [x] := by rw [List.take_add_one, hx]; rfl
                  cases hcn : q2.contains x with
                  | true => exact ⟨rfl, ⟨_, rfl⟩, by rw [et, List.filter_append, List.map_append, List.filter_cons, hcn]; rfl⟩
                  | false => exact ⟨rfl, ⟨_, rfl⟩, by rw [et, List.filter_append, List.map_append, List.filter_cons, hcn]; simp⟩
              · rintro ys σ' H' ⟨rfl, _, rfl⟩ pc hpc
                rw [List.length_map, List.take_length]
                have s4 := same_new hpc (HO.lst ((q1.filter fun x => q2.contains x).map V.str))
                refine ⟨_, rfl, _, .inl ⟨SqL.of upd_same, fun l hl => ?_⟩⟩
                exact q _ _ (s03.trans (s4.trans (same_new hl _))) ⟨l, rfl, upd_same⟩
/-! a program -/
def shape (d : Dm) : Bool := match d with
  | .tup [i, b] => areIns i && isBlock 3 b
  | _ => false
/-- what is_program tells of a thing -/
def Prog (d : Dm) (r : Bool) : Prop := (shape d = false ∧ r = false) ∨
  ∃ rows b, d = .tup [.tup rows, .tup (encB b)] ∧ shape d = true ∧ dpB b < 4 ∧ tmB b ≤ 5 ∧ szB b ≤ 800 ∧ r = (kbB (rows.map rowName) b).isSome
def spProg : Sp := fun vs H Q _ => ∃ v d r, vs = [v] ∧ Dt H v d ∧ smallD d ∧ Prog d r ∧ ∀ H', Same H H' → Q (.bl r) H'
def RInv (H : Hp) (rows : List Dm) (i : Nat) (ys : List V) (σ' : St) (H' : Hp) : Prop := H' = H ∧ (∃ t, σ' = [t]) ∧ ys = ((rows.take i).map rowName).map V.str
theorem ok_is_program (F : Fun K "is_program" "is_program" s_is_program f fd) (b_tuple : mg "tuple" = none) (c_is_tuple_of : Callee P w K mg base "is_tuple_of" ["thing", "many"] 1 spTupOf) (c_are_ins : Callee P w K mg base "are_ins" ["thing"] 5 spAre) (c_is_block : Callee P w K mg base "is_block" ["thing", "levels"] 16 (spBlk 4))
    (c_known_behind_block : Callee P w K mg base "known_behind_block" ["block", "known"] 16 (spKB 4)) (g_DEEPEST_BLOCK : GC mg "DEEPEST_BLOCK" (.int 3)) : FnOk P w K mg base CX0 17 f fd ["thing"] spProg := by
  refine F.ok sc_is_program (fun vs H Q E h => ?_) (fun cdv A outer s H vs Q E hr h => ?_)
  · obtain ⟨v, d, r, rfl, _⟩ := h
    rfl
  obtain ⟨v, d, r, rfl, hd, hz, hpr, q⟩ := h
  refine ⟨_, (pss_cons (ps_if (pt_not (pt_val (pe_cc c_is_tuple_of hr (by omega) (pa_c (pe_var (i := 0) rfl vis_is_program_thing db_thing cd_thing) (pa_c pe_int pa_nil)) gl_is_program_is_tuple_of db_is_tuple_of))) (pss_one (ps_ret pe_bl)) pss_nil)
  (pss_cons (ps_if (PW.pt (pw_or (pt_not (pt_val (pe_cc c_are_ins hr (by omega) (pa_c (pe_ix ix_tup (pe_var (i := 0) rfl vis_is_program_thing db_thing cd_thing) pe_int (fun _ _ => rfl)) pa_nil) gl_is_program_are_ins db_are_ins))) (pw_or1 (pt_not (pt_val (pe_cc c_is_block hr (by omega) (pa_c (pe_ix ix_tup (pe_var (i := 0) rfl vis_is_program_thing db_thing cd_thing) pe_int (fun _ _ => rfl)) (pa_c (pe_gc g_DEEPEST_BLOCK gl_is_program_DEEPEST_BLOCK db_DEEPEST_BLOCK) pa_nil)) gl_is_program_is_block db_is_block)))))) (pss_one (ps_ret pe_bl)) pss_nil)
  (pss_cons (ps_set (i := 1) sc_is_program.nd rfl loc_is_program_known (pe_cT call_tuple_of gl_is_program_tuple b_tuple bt_tuple (pa_c (pe_comp ["row"] [none] rfl (CompS.of (by rfl)) (pi_tup (pe_ix ix_tup (pe_var (i := 0) rfl vis_is_program_thing db_thing cd_thing) pe_int (fun _ _ => rfl))) (fun _ _ _ _ _ => (pg_name (i := 0) (show List.Nodup (["row"] : List Str) from by decide +kernel) rfl (Or.inl rfl))) (fun _ _ _ _ _ => pif_nil) (fun _ _ _ _ _ => (pe_ix (ixK (r := rIxT) (K := K) ix_tup rfl) (pe_var (i := 0) rfl (by first | exact Or.inl rfl | exact Or.inr (Or.inl rfl) | exact Or.inr (Or.inr rfl)) db_row cd_row) pe_int (fun _ _ => rfl)))) pa_nil) nn_tuple db_tuple) (swaps_plain rfl))
  (pss_one (ps_ret (pe_cmpR gNotN (pe_cc c_known_behind_block hr (by omega) (pa_c (pe_ix ix_tup (pe_var (i := 0) rfl vis_is_program_thing db_thing cd_thing) pe_int (fun _ _ => rfl)) (pa_c (pe_var (i := 1) rfl vis_is_program_known db_known cd_known) pa_nil)) gl_is_program_known_behind_block db_known_behind_block) pe_non (nomark _))))))), ?_⟩
  walk_at "rd"
  have rno : shape d = false → r = false := fun hs => by
    rcases hpr with ⟨_, e⟩ | ⟨_, _, _, e, _⟩
    · exact e
    · rw [hs] at e; cases e
  refine ⟨v, d, 2, rfl, hd, fun H1 s1 => ⟨_, rfl, ?_⟩⟩
  cases h2 : isTup d 2 with
  | false =>
    simp only [if_true]
    have hs : shape d = false := by
      unfold shape
      split
      · exact absurd (show true = false from h2) (by decide)
      · rfl
    exact rno hs ▸ q H1 s1
  | true =>
    obtain ⟨ds, rfl, hl⟩ := isTup_inv (n := 2) h2
    obtain ⟨e0, e1, rfl⟩ := len2 hl
    simp only [Bool.true_eq_false, if_false]
    simp only [smallD, smallA] at hz
    replace hz := hz.1
    obtain ⟨p, x0, x1, rfl, hp, t0, t1⟩ := tup2 (hd.kp s1.kp)
    refine ⟨_, rfl, _, SqT.of hp, _, rfl, x0, e0, rfl, t0, hz.1, fun H2 s2 => ⟨_, rfl, ?_⟩⟩
    cases ha : areIns e0 with
    | false =>
      simp only [if_true]
      have hs : shape (.tup [e0, e1]) = false := by show (areIns e0 && isBlock 3 e1) = false; rw [ha]; rfl
      exact rno hs ▸ q H2 (s1.trans s2)
    | true =>
      simp only [Bool.true_eq_false, if_false]
      refine ⟨_, rfl, _, SqT.of (s2 _ _ hp), _, rfl, x1, e1, 3, rfl, t1.kp s2.kp, hz.2.1, by decide, fun H3 s3 => ⟨_, rfl, ?_⟩⟩
      have s03 := s1.trans (s2.trans s3)
      cases hb : isBlock 3 e1 with
      | false =>
        simp only [if_true]
        have hs : shape (.tup [e0, e1]) = false := by show (areIns e0 && isBlock 3 e1) = false; rw [hb, Bool.and_false]
        exact rno hs ▸ q H3 s03
      | true =>
        simp only [Bool.true_eq_false, if_false]
        have hs : shape (.tup [e0, e1]) = true := by show (areIns e0 && isBlock 3 e1) = true; rw [ha, hb]; rfl
        rcases hpr with ⟨e, _⟩ | ⟨rows, b, e, _, hdp, htm, hsz, hr'⟩
        · rw [hs] at e; cases e
        cases e
        have hp3 := s3 _ _ (s2 _ _ hp)
        obtain ⟨pr, xs, rfl, hpr', hda⟩ := (t0.kp (s2.trans s3).kp).tupI
        have har : decide (rows.length ≤ 4) = true ∧ ris "" rows = true := by
          have : (decide (rows.length ≤ 4) && ris "" rows) = true := ha
          rwa [Bool.and_eq_true] at this
        have hrl : rows.length ≤ 4 := of_decide_eq_true har.1
        refine ⟨_, rfl, _, SqT.of hp3, _, rfl, _, rfl, ⟨_, SqT.of hpr'⟩, ?_⟩
        refine comp_tup (K := K) (a := pr) (xs := xs) (RInv H3 rows) ⟨rfl, ⟨none, rfl⟩, rfl⟩ (by rw [hda.length]; exact small1000 (by omega)) ?_ ?_ ?_ ?_
        · rintro i ys σ' H' ⟨_, _, rfl⟩
          rw [List.length_map, List.length_map, List.length_take]
          omega
        · rintro i ys σ' H' _ ⟨rfl, _, _⟩
          exact SqT.of hpr'
        · rintro i ys v σ' H' hxi ⟨rfl, ⟨t, rfl⟩, rfl⟩
          obtain ⟨d, hd', dd⟩ := hda.get hxi
          obtain ⟨x', l, y, rfl⟩ := isIn_shape (ris_all har.2 d (List.mem_of_getElem? hd'))
          obtain ⟨pq, v0, v1, v2, rfl, hpq, u0, u1, u2⟩ := tup3 dd
          cases u0
          walk_at "rd"
          refine ⟨_, SqT.of hpq, _, rfl, rfl, ⟨_, rfl⟩, ?_⟩
          rw [List.take_add_one, hd', List.map_append, List.map_append]
          rfl
        · rintro ys σ' H' ⟨rfl, _, rfl⟩ pc hpc
          rw [hda.length, List.take_length]
          have s4 := same_new hpc (HO.lst ((rows.map rowName).map V.str))
          refine ⟨_, rfl, _, .inl ⟨SqL.of upd_same, fun l hl' => ?_⟩⟩
          have s5 := same_new hl' (HO.tup ((rows.map rowName).map V.str))
          have s45 := s4.trans s5
          refine ⟨_, rfl, _, SqT.of (s45 _ _ hp3), _, rfl, x1, b, l, rows.map rowName, rfl, t1.kp (s2.trans (s3.trans s45)).kp, upd_same, by omega, htm, by rw [List.length_map]; omega, fun y H4 s6 hres => ?_⟩
          have fin : Q (.bl r) H4 := q H4 (s03.trans (s45.trans s6))
          show Q (.bl (!decide (y = V.non))) H4
          rw [hr'] at fin
          cases hk : kbB (rows.map rowName) b with
          | none =>
            rw [hk] at hres fin
            have hy : y = .non := hres
            subst hy
            exact fin
          | some q' =>
            rw [hk] at hres fin
            obtain ⟨r', rfl, _⟩ := hres
            exact fin
end
end SR


set_option Elab.async false
set_option linter.all false
set_option maxRecDepth 100000
set_option maxHeartbeats 0
namespace SR
open PySem L2
local macro_rules | `(tactic| walk_at "rd") => `(tactic| simp only [tSeq, tIfS, tTest, tOp, tVar, tC, tAsg, gName, gTup, gCons, gNil, tRet, tRetN, tDrop, tNext, tCB, tCons, tNil, tCall, tUn, rU, rI0, rI, tAnd, tOr, tNot, tB, tAndV, tOrV, tNotV, tIf, tIfT, tKGet, tChain, tDGet, tDGet1, sDPut, tDNewK, tDisp, tPairs, tCont, tSl, tNoPart, tPart, rSlT, tChain3, qSortS, qEqDL, qNeDL, tFor_enum, tFor_zip, tFor_rng2, tComp_seq, qSetI, qSortSet, cxOf_prog, cxOf_w, cxOf_nox_prog, cxOf_nox_w, cxOf_mg, cxOf_base, cxOf_nox_mg, cxOf_nox_base, cxComp_prog, cxComp_w, cxComp_mg, cxComp_base, tComp_zipT, tCallL, rSlA, rSlL, tDX, tDXs, tTup, tLst, tBM,
  qEq, qNe, qIn, qNotIn, qIsN, qNotN, qIsB, qNotB, qLen, qInst, qEqD, qNeD, qMinL, qMaxL, qSortI, rIx, rIxL, rIxT, rIxS, rCat, rCatT2, rRep, rRepT, rLeS, rLtS, rAppend, rExtend, tNever, tBreak, tYes,
  tFor_tup, tFor_list, tFor_rng1, tComp_tup, tComp_list, tComp_str, L2.start, cxOf_K, cxOf_nox_K, cxComp_K, List.map_cons, List.map_nil, List.length_cons, List.length_nil, List.replicate_succ, List.replicate_zero, Nat.reduceAdd, Nat.reduceSub, Nat.zero_add, Nat.add_zero, Nat.sub_zero, Nat.sub_self, Nat.add_sub_cancel,
  List.getElem?_cons_zero, List.getElem?_cons_succ, List.set_cons_zero, List.set_cons_succ, List.cons_append, List.nil_append, List.append_nil, List.cons.injEq, Option.some.injEq, V.int.injEq, V.ref.injEq, V.str.injEq, V.bl.injEq, V.ty.injEq,
  reduceCtorEq, false_and, and_false, and_true, true_and, exists_false, exists_const, false_or, or_false, exists_eq_left, exists_eq_left', exists_eq_right, exists_eq_right', exists_and_left, decide_eq_true_eq, Bool.not_eq_true', Bool.decide_eq_true, exists_eq, true_or, or_true, Bool.false_eq_true, if_true, if_false, Bool.true_eq_false, Bool.not_true, Bool.not_false, decide_true, decide_false, List.isEmpty_cons, List.isEmpty_nil, Bool.true_and, Bool.false_and, bne_self_eq_false, beq_self_eq_true])
local macro_rules | `(tactic| walk_at "rdb") => `(tactic| simp (config := { maxSteps := 2000000 }) only [tSeq, tIfS, tTest, tOp, tVar, tC, tAsg, gName, gTup, gCons, gNil, tRet, tRetN, tDrop, tNext, tCB, tCons, tNil, tCall, tUn, rU, rI0, rI, tAnd, tOr, tNot, tB, tAndV, tOrV, tNotV, tIf, tIfT, tKGet, tChain, tDGet, tDGet1, sDPut, tDNewK, tDisp, tPairs, tCont, tSl, tNoPart, tPart, rSlT, tChain3, qSortS, qEqDL, qNeDL, tFor_enum, tFor_zip, tFor_rng2, tComp_seq, qSetI, qSortSet, cxOf_prog, cxOf_w, cxOf_nox_prog, cxOf_nox_w, cxOf_mg, cxOf_base, cxOf_nox_mg, cxOf_nox_base, cxComp_prog, cxComp_w, cxComp_mg, cxComp_base, tComp_zipT, tCallL, rSlA, rSlL, tDX, tDXs, tTup, tLst, tBM,
  qEq, qNe, qIn, qNotIn, qIsN, qNotN, qIsB, qNotB, qLen, qInst, qEqD, qNeD, qMinL, qMaxL, qSortI, rIx, rIxL, rIxT, rIxS, rCat, rCatT2, rRep, rRepT, rLeS, rLtS, rAppend, rExtend, tNever, tBreak, tYes,
  tFor_tup, tFor_list, tFor_rng1, tComp_tup, tComp_list, tComp_str, L2.start, cxOf_K, cxOf_nox_K, cxComp_K, List.map_cons, List.map_nil, List.length_cons, List.length_nil, List.replicate_succ, List.replicate_zero, Nat.reduceAdd, Nat.reduceSub, Nat.zero_add, Nat.add_zero, Nat.sub_zero, Nat.sub_self, Nat.add_sub_cancel,
  List.getElem?_cons_zero, List.getElem?_cons_succ, List.set_cons_zero, List.set_cons_succ, List.cons_append, List.nil_append, List.append_nil, List.cons.injEq, Option.some.injEq, V.int.injEq, V.ref.injEq, V.str.injEq, V.bl.injEq, V.ty.injEq,
  reduceCtorEq, false_and, and_false, and_true, true_and, exists_false, exists_const, false_or, or_false, exists_eq_left, exists_eq_left', exists_eq_right, exists_eq_right', exists_and_left, decide_eq_true_eq, Bool.not_eq_true', Bool.decide_eq_true, exists_eq, true_or, or_true, Bool.false_eq_true, if_true, if_false, Bool.true_eq_false, Bool.not_true, Bool.not_false, decide_true, decide_false, List.isEmpty_cons, List.isEmpty_nil, Bool.true_and, Bool.false_and, bne_self_eq_false, beq_self_eq_true])
section
variable {P : Program} {w : World} {K : PySem.W.Frag} {mg : Str → Option Value} {base : Heap} {f : Addr} {fd : FuncData}
/-! ### a list that grows, as data -/
structure Ph (H0 H : Hp) (p : Addr) (ds : List Dm) : Prop where
  fresh : H0 p = none
  same : Same H0 H
  at_ : ∃ vs, H p = some (.lst vs) ∧ DtA H vs ds
theorem Ph.new {H0 H : Hp} {p : Addr} {vs : List V} {ds : List Dm} (s : Same H0 H) (hp : H p = none) (d : DtA H vs ds) : Ph H0 (upd H p (.lst vs)) p ds :=
  ⟨s.free hp, s.trans (same_new hp _), vs, upd_same, d.kp (same_new hp _).kp⟩
theorem Ph.go {H0 H H' : Hp} {p : Addr} {ds : List Dm} (h : Ph H0 H p ds) (s : Same H H') : Ph H0 H' p ds := by
  obtain ⟨f, s0, vs, e, d⟩ := h
  exact ⟨f, s0.trans s, vs, s _ _ e, d.kp s.kp⟩
theorem Ph.app {H0 H : Hp} {p : Addr} {ds : List Dm} {x : List V} {v : V} {d : Dm} (h : Ph H0 H p ds) (e : H p = some (.lst x)) (k : Dt H v d) : Ph H0 (upd H p (.lst (x ++ [v]))) p (ds ++ [d]) := by
  obtain ⟨f, s0, vs, e', dd⟩ := h
  rw [e] at e'
  cases e'
  exact ⟨f, same_upd s0 f, _, upd_same, (dd.append (.cons k .nil)).kp (Kp.set e)⟩
theorem Ph.ext {H0 H : Hp} {p : Addr} {ds es : List Dm} {x y : List V} (h : Ph H0 H p ds) (e : H p = some (.lst x)) (k : DtA H y es) : Ph H0 (upd H p (.lst (x ++ y))) p (ds ++ es) := by
  obtain ⟨f, s0, vs, e', dd⟩ := h
  rw [e] at e'
  cases e'
  exact ⟨f, same_upd s0 f, _, upd_same, (dd.append k).kp (Kp.set e)⟩
theorem Ph.ext2 {H0 H H' : Hp} {p p1 : Addr} {ds es : List Dm} {vs : List V} (h : Ph H0 H p ds) (s : Same H H') (k : DtA H' vs es) (hp : H' p1 = none) (z1 : ds.length ≤ 100) (z2 : es.length ≤ 100) :
    ∃ x, upd H' p1 (.lst vs) p = some (.lst x) ∧ upd H' p1 (.lst vs) p1 = some (.lst vs) ∧ x.length + vs.length ≤ sizeLine ∧ Ph H0 (upd (upd H' p1 (.lst vs)) p (.lst (x ++ vs))) p (ds ++ es) := by
  have h1 := (h.go s).go (same_new hp (HO.lst vs))
  obtain ⟨_, _, x, e, dd⟩ := id h1
  exact ⟨x, e, upd_same, Nat.le_of_lt (small1000 (by rw [dd.length, k.length]; omega)), h1.ext e (k.kp (same_new hp _).kp)⟩
theorem Ph.app2 {H0 H H' : Hp} {p : Addr} {ds : List Dm} {v : V} {d : Dm} (h : Ph H0 H p ds) (s : Same H H') (k : Dt H' v d) (z1 : ds.length ≤ 100) : ∃ x, H' p = some (.lst x) ∧ x.length < sizeLine ∧ Ph H0 (upd H' p (.lst (x ++ [v]))) p (ds ++ [d]) := by
  have h1 := h.go s
  obtain ⟨_, _, x, e, dd⟩ := id h1
  exact ⟨x, e, small1000 (by rw [dd.length]; omega), h1.app e k⟩
def DInv (H : Hp) (rest : St) (ds : List Dm) (F : Dm → Dm) (i : Nat) (ys : List V) (σ' : St) (H' : Hp) : Prop := Same H H' ∧ (∃ t, σ' = t :: rest) ∧ DtA H' ys ((ds.take i).map F)
theorem DInv.step {H : Hp} {rest : St} {ds : List Dm} {F : Dm → Dm} {xs : List V} {g : TG} {te : TE} (r : DtA H xs ds)
    (hs : ∀ (x : V) (dx : Dm) (t : Option V) (H' : Hp) (R : V → St → Hp → Prop) (R0 : St → Hp → Prop), dx ∈ ds → Same H H' → Dt H' x dx → (∀ v t' H2, Same H' H2 → Dt H2 v (F dx) → R v (t' :: rest) H2) → g x (t :: rest) H' fun σ2 H2 => tYes σ2 H2 fun b H3 => if b = true then te σ2 H3 (fun v H4 => R v σ2 H4) else R0 σ2 H3)
    (i : Nat) (ys : List V) (x : V) (σ : St) (H' : Hp) (hx : xs[i]? = some x) (h : DInv H rest ds F i ys σ H') : g x σ H' fun σ2 H2 => tYes σ2 H2 fun b H3 => if b = true then te σ2 H3 (fun v H4 => DInv H rest ds F (i + 1) (ys ++ [v]) σ2 H4) else DInv H rest ds F (i + 1) ys σ2 H3 := by
  obtain ⟨s, ⟨t, rfl⟩, d⟩ := h
  obtain ⟨dx, hd, dd⟩ := r.get hx
  refine hs x dx t H' _ _ (List.mem_of_getElem? hd) s (dd.kp s.kp) fun v t' H2 s2 dv => ⟨s.trans s2, ⟨t', rfl⟩, ?_⟩
  rw [List.take_add_one, hd, List.map_append]
  exact (d.kp s2.kp).append (.cons dv .nil)
theorem DInv.len {H : Hp} {rest : St} {ds : List Dm} {F : Dm → Dm} (i : Nat) (ys : List V) (σ' : St) (H' : Hp) (h : DInv H rest ds F i ys σ' H') : ys.length ≤ i := by
  rw [h.2.2.length, List.length_map, List.length_take]
  omega
theorem comp_datT {a : Addr} {xs : List V} {ds : List Dm} {g : TG} {te : TE} {H : Hp} {Q : VK} {t0 : Option V} {rest : St} (F : Dm → Dm) (e : H a = some (.tup xs)) (r : DtA H xs ds) (hn : ds.length ≤ 1000)
    (hs : ∀ (x : V) (dx : Dm) (t : Option V) (H' : Hp) (R : V → St → Hp → Prop) (R0 : St → Hp → Prop), dx ∈ ds → Same H H' → Dt H' x dx → (∀ v t' H2, Same H' H2 → Dt H2 v (F dx) → R v (t' :: rest) H2) → g x (t :: rest) H' fun σ2 H2 => tYes σ2 H2 fun b H3 => if b = true then te σ2 H3 (fun v H4 => R v σ2 H4) else R0 σ2 H3)
    (hd : ∀ ys H' l, Same H H' → DtA H' ys (ds.map F) → H' l = none → Q (.ref l) (upd H' l (.lst ys))) : CompW (Itt K a) g tYes te Q (t0 :: rest) H := by
  refine comp_tup (K := K) (a := a) (xs := xs) (DInv H rest ds F) ⟨Same.refl _, ⟨_, rfl⟩, .nil⟩ (small1000 (by rw [r.length]; exact hn)) DInv.len ?_ (DInv.step r hs) ?_
  · rintro i ys σ' H' _ ⟨s, _⟩
    exact SqT.of (s _ _ e)
  · rintro ys σ' H' ⟨s, _, d⟩ l hl
    rw [r.length, List.take_length] at d
    exact hd ys H' l s d hl
theorem comp_datL {a : Addr} {xs : List V} {ds : List Dm} {g : TG} {te : TE} {H : Hp} {Q : VK} {t0 : Option V} {rest : St} (F : Dm → Dm) (e : H a = some (.lst xs)) (r : DtA H xs ds) (hn : ds.length ≤ 1000)
    (hs : ∀ (x : V) (dx : Dm) (t : Option V) (H' : Hp) (R : V → St → Hp → Prop) (R0 : St → Hp → Prop), dx ∈ ds → Same H H' → Dt H' x dx → (∀ v t' H2, Same H' H2 → Dt H2 v (F dx) → R v (t' :: rest) H2) → g x (t :: rest) H' fun σ2 H2 => tYes σ2 H2 fun b H3 => if b = true then te σ2 H3 (fun v H4 => R v σ2 H4) else R0 σ2 H3)
    (hd : ∀ ys H' l, Same H H' → DtA H' ys (ds.map F) → H' l = none → Q (.ref l) (upd H' l (.lst ys))) : CompW (Itl K a) g tYes te Q (t0 :: rest) H := by
  refine comp_list (K := K) (a := a) (xs := xs) (DInv H rest ds F) ⟨Same.refl _, ⟨_, rfl⟩, .nil⟩ (small1000 (by rw [r.length]; exact hn)) DInv.len ?_ (DInv.step r hs) ?_
  · rintro i ys σ' H' _ ⟨s, _⟩
    exact SqL.of (s _ _ e)
  · rintro ys σ' H' ⟨s, _, d⟩ l hl
    rw [r.length, List.take_length] at d
    exact hd ys H' l s d hl
theorem Ph.list {H0 H : Hp} {p : Addr} {ds : List Dm} (h : Ph H0 H p ds) : tyV K "list" (.ref p) H := by
  obtain ⟨_, _, vs, e, _⟩ := h
  exact .inl ⟨rfl, _, SqL.of e⟩
def plainD : Dm := .tup [.str "num", .int 1]
def rho (rows bd : List Dm) : Nat → Dm
  | 2 => .tup rows
  | 3 => .tup bd
  | 4 => plainD
  | _ => .non
def rho3 (rows bd : List Dm) (d : Dm) : Nat → Dm
  | 0 => d
  | 1 => .tup bd
  | 2 => .tup rows
  | _ => .non
def someD (rows bd : List Dm) : List Dm :=
  [.lst, .tup [.tup rows], .tup [.tup rows, .tup bd, .tup []], .non, .int 0, .tup [.tup rows, .lst], .tup [.lst, .tup bd], .tup [.tup (rows ++ [.non]), .tup bd],
    .tup [.tup (rows ++ [.tup [.str "zz", .int 0]]), .tup bd], .tup [.tup (rows ++ [.tup [.str "zzz", .int 0, .int 1]]), .tup bd], .tup [.tup (rows ++ [.tup [.str "zz", .int 2, .int 1]]), .tup bd],
    .tup [.tup (rows ++ [.tup [.str "zz", .int 0, .int 100]]), .tup bd], .tup [.tup (rows ++ [.tup [.str "zz", .int (-100), .int 0]]), .tup bd], .tup [.tup (rows ++ [.tup [.str "zz", .bl true, .int 1]]), .tup bd],
    .tup [.tup [.tup [.str "b", .int 0, .int 1], .tup [.str "a", .int 0, .int 1]], .tup bd], .tup [.tup [.tup [.str "a", .int 0, .int 1], .tup [.str "a", .int 0, .int 1]], .tup bd]]
def xs' (d : Dm) : Dm := .tup [.str "set", .str "x", d]
def deedsD : List Dm :=
  [.tup [.str "set", .str "x"], .tup [.str "set", .str "A", plainD], .tup [.str "set", .str "xyz", plainD], xs' (.tup [.str "num", .int 32768]), .tup [.str "go", .str "x", plainD], .non,
    xs' (.tup [.str "num", .bl true]), xs' (.tup [.str "name", .str "q"]), xs' (.tup [.str "add", plainD]), xs' .non, xs' (.tup [.str "add", plainD, plainD, plainD]), xs' (.tup [.str "pow", plainD, plainD]), .lst,
    .tup [.str "if", plainD, .tup []], .tup [.str "if", .tup [.str "name", .str "q"], .tup [], .tup []], .tup [.str "while", plainD, .int 21, .tup []], .tup [.str "while", plainD, .int (-1), .tup []], .tup [.str "while", plainD, .int 1, .lst],
    .tup [.str "if", plainD, .tup [.tup [.str "set", .str "q", plainD]], .tup []]]
def lastD : Dm := xs' (.tup [.str "name", .str "q"])
def badD (rows bd : List Dm) (d : Dm) : Prop := d ∈ someD rows bd ∨ ∃ k x, deedsD[k]? = some x ∧ d = .tup [.tup rows, .tup (x :: (if k = 18 then [lastD] else []))]
theorem dat_at {H : Hp} {xs : List V} {ds : List Dm} {k : Int} (d : DtA H xs ds) (h0 : 0 ≤ k) (h : k < (ds.length : Int)) : ∃ v, atI xs k = some v ∧ ∃ x, ds[k.toNat]? = some x ∧ Dt H v x := by
  obtain ⟨v, e, a⟩ := atI_lt (xs := xs) h0 (by rw [d.length]; exact h)
  obtain ⟨x, ex, dx⟩ := d.get e
  exact ⟨v, a, x, ex, dx⟩
theorem env0 {ρ : Nat → Dm} {σ : St} {H : Hp} : Env ρ σ H [] [] := ⟨fun _ h => (by cases h), fun _ h => (by cases h)⟩
theorem env1 {ρ : Nat → Dm} {σ : St} {H : Hp} {v : V} {k : Nat} (e : σ[k]? = some (some v)) (d : Dt H v (ρ k)) : Env ρ σ H [k] [] := ⟨fun i h => by rw [List.mem_singleton] at h; subst h; exact ⟨v, e, d⟩, fun _ h => (by cases h)⟩
theorem envB {σ : St} {H : Hp} {vi vb vp : V} {rows bd : List Dm} (d2 : Dt H vi (.tup rows)) (d3 : Dt H vb (.tup bd)) (d4 : Dt H vp plainD) (l1 : rows.length ≤ 10) (l2 : bd.length ≤ 10) (e2 : σ[2]? = some (some vi)) (e3 : σ[3]? = some (some vb)) (e4 : σ[4]? = some (some vp)) : Env (rho rows bd) σ H [2, 3, 4] [2, 3] := by
  refine ⟨fun i h => ?_, fun i h => ?_⟩
  · simp only [List.mem_cons, List.not_mem_nil, or_false] at h
    rcases h with rfl | rfl | rfl
    · exact ⟨_, e2, d2⟩
    · exact ⟨_, e3, d3⟩
    · exact ⟨_, e4, d4⟩
  · simp only [List.mem_cons, List.not_mem_nil, or_false] at h
    rcases h with rfl | rfl
    · exact ⟨rows, rfl, by omega⟩
    · exact ⟨bd, rfl, by omega⟩
theorem env3 {H : Hp} {x vb vi : V} {rows bd : List Dm} {dx : Dm} (d0 : Dt H x dx) (d1 : Dt H vb (.tup bd)) (d2 : Dt H vi (.tup rows)) (l1 : rows.length ≤ 10) : Env (rho3 rows bd dx) [some x, some vb, some vi] H [0, 1, 2] [2] := by
  refine ⟨fun i h => ?_, fun i h => ?_⟩
  · simp only [List.mem_cons, List.not_mem_nil, or_false] at h
    rcases h with rfl | rfl | rfl
    · exact ⟨_, rfl, d0⟩
    · exact ⟨_, rfl, d1⟩
    · exact ⟨_, rfl, d2⟩
  · rw [List.mem_singleton] at h
    subst h
    exact ⟨rows, rfl, by omega⟩
def spBad (K : PySem.W.Frag) : Sp := fun vs H Q _ => ∃ (p : Addr) (vi vb : V) (rows bd : List Dm) (c : Int), vs = [.ref p, .int c] ∧ H p = some (.tup [vi, vb]) ∧ Dt H vi (.tup rows) ∧ Dt H vb (.tup bd) ∧ rows.length ≤ 10 ∧ bd.length ≤ 10 ∧ 0 ≤ c ∧ ∀ r H' d, Same H H' → Dt H' r d → badD rows bd d → Q r H'
theorem ok_law_bad (F : Fun K "_law_bad" "_law_bad" s_law_bad f fd) (b_list : mg "list" = none) : FnOk P w K mg base CX0 1 f fd ["_law_program_here", "_law_cell_here"] (spBad K) := by
  refine F.ok sc_law_bad (fun vs H Q E h => ?_) (fun cdv A outer s H vs Q E hr h => ?_)
  · obtain ⟨p, vi, vb, rows, bd, c, rfl, _⟩ := h
    rfl
  obtain ⟨p, vi, vb, rows, bd, c, rfl, hp, hi, hb, l1, l2, hc, q⟩ := h
  have hl : rows.length ≤ 999 := by omega
  refine ⟨_, (pss_cons (ps_asg (pe_var (i := 0) rfl vis_law_bad__law_program_here db__law_program_here cd__law_program_here) (pg_tup (n := 2) rfl (pgs_cons (pg_name (i := 2) sc_law_bad.nd rfl loc_law_bad__law_ins) (pgs_cons (pg_name (i := 3) sc_law_bad.nd rfl loc_law_bad__law_block_here) pgs_nil))))
  (pss_cons (ps_set (i := 4) sc_law_bad.nd rfl loc_law_bad__law_plain (dx_tup (dxs_c dx_str (dxs_c dx_int dxs_nil))) (swaps_plain rfl))
  (pss_cons (ps_set (i := 5) sc_law_bad.nd rfl loc_law_bad__law_some (pe_lst (dxs_c (dx_lst (dxs_c (dx_var (pe_var (i := 2) rfl vis_law_bad__law_ins db__law_ins cd__law_ins)) (dxs_c (dx_var (pe_var (i := 3) rfl vis_law_bad__law_block_here db__law_block_here cd__law_block_here)) dxs_nil))) (dxs_c (dx_tup (dxs_c (dx_var (pe_var (i := 2) rfl vis_law_bad__law_ins db__law_ins cd__law_ins)) dxs_nil)) (dxs_c (dx_tup (dxs_c (dx_var (pe_var (i := 2) rfl vis_law_bad__law_ins db__law_ins cd__law_ins)) (dxs_c (dx_var (pe_var (i := 3) rfl vis_law_bad__law_block_here db__law_block_here cd__law_block_here)) (dxs_c (dx_tup dxs_nil) dxs_nil)))) (dxs_c dx_non (dxs_c dx_int (dxs_c (dx_tup (dxs_c (dx_var (pe_var (i := 2) rfl vis_law_bad__law_ins db__law_ins cd__law_ins)) (dxs_c (dx_lof gl_law_bad_list b_list (dx_var (pe_var (i := 3) rfl vis_law_bad__law_block_here db__law_block_here cd__law_block_here))) dxs_nil))) (dxs_c (dx_tup (dxs_c (dx_lof gl_law_bad_list b_list (dx_var (pe_var (i := 2) rfl vis_law_bad__law_ins db__law_ins cd__law_ins))) (dxs_c (dx_var (pe_var (i := 3) rfl vis_law_bad__law_block_here db__law_block_here cd__law_block_here)) dxs_nil))) dxs_nil)))))))) (swaps_plain rfl))
  (pss_cons (ps_expr (pe_bm PySem.F.plainAttrs_list PySem.F.slot_list_append PySem.F.type_list_append mt_append (pe_var (i := 5) rfl vis_law_bad__law_some db__law_some cd__law_some) (pa_c (dx_tup (dxs_c (dx_cat (dx_var (pe_var (i := 2) rfl vis_law_bad__law_ins db__law_ins cd__law_ins)) (dx_tup (dxs_c dx_non dxs_nil))) (dxs_c (dx_var (pe_var (i := 3) rfl vis_law_bad__law_block_here db__law_block_here cd__law_block_here)) dxs_nil))) pa_nil)) (swaps_plain rfl))
  (pss_cons (ps_expr (pe_bm PySem.F.plainAttrs_list PySem.F.slot_list_extend PySem.F.type_list_extend mt_extend (pe_var (i := 5) rfl vis_law_bad__law_some db__law_some cd__law_some) (pa_c (pe_lst (dxs_c (dx_tup (dxs_c (dx_cat (dx_var (pe_var (i := 2) rfl vis_law_bad__law_ins db__law_ins cd__law_ins)) (dx_tup (dxs_c (dx_tup (dxs_c dx_str (dxs_c dx_int dxs_nil))) dxs_nil))) (dxs_c (dx_var (pe_var (i := 3) rfl vis_law_bad__law_block_here db__law_block_here cd__law_block_here)) dxs_nil))) (dxs_c (dx_tup (dxs_c (dx_cat (dx_var (pe_var (i := 2) rfl vis_law_bad__law_ins db__law_ins cd__law_ins)) (dx_tup (dxs_c (dx_tup (dxs_c dx_str (dxs_c dx_int (dxs_c dx_int dxs_nil)))) dxs_nil))) (dxs_c (dx_var (pe_var (i := 3) rfl vis_law_bad__law_block_here db__law_block_here cd__law_block_here)) dxs_nil))) (dxs_c (dx_tup (dxs_c (dx_cat (dx_var (pe_var (i := 2) rfl vis_law_bad__law_ins db__law_ins cd__law_ins)) (dx_tup (dxs_c (dx_tup (dxs_c dx_str (dxs_c dx_int (dxs_c dx_int dxs_nil)))) dxs_nil))) (dxs_c (dx_var (pe_var (i := 3) rfl vis_law_bad__law_block_here db__law_block_here cd__law_block_here)) dxs_nil))) dxs_nil)))) pa_nil)) (swaps_plain rfl))
  (pss_cons (ps_expr (pe_bm PySem.F.plainAttrs_list PySem.F.slot_list_extend PySem.F.type_list_extend mt_extend (pe_var (i := 5) rfl vis_law_bad__law_some db__law_some cd__law_some) (pa_c (pe_comp ["_law_row", "_law_block_here", "_law_ins"] [none, some 3, some 2] rfl (CompS.of (by rfl)) (pi_tup (dx_tup (dxs_c (dx_tup (dxs_c dx_str (dxs_c dx_int (dxs_c dx_int dxs_nil)))) (dxs_c (dx_tup (dxs_c dx_str (dxs_c dx_neg (dxs_c dx_int dxs_nil)))) (dxs_c (dx_tup (dxs_c dx_str (dxs_c dx_bl (dxs_c dx_int dxs_nil)))) dxs_nil))))) (fun _ _ _ _ _ => (pg_name (i := 0) (show List.Nodup (["_law_row", "_law_block_here", "_law_ins"] : List Str) from by decide +kernel) rfl (Or.inl rfl))) (fun _ _ _ _ _ => pif_nil) (fun _ _ _ _ _ => (dx_tup (dxs_c (dx_cat (dx_var (pe_var (i := 2) rfl (by first | exact Or.inl rfl | exact Or.inr (Or.inl rfl) | exact Or.inr (Or.inr rfl)) db__law_ins cd__law_ins)) (dx_tup (dxs_c (dx_var (pe_var (i := 0) rfl (by first | exact Or.inl rfl | exact Or.inr (Or.inl rfl) | exact Or.inr (Or.inr rfl)) db__law_row cd__law_row)) dxs_nil))) (dxs_c (dx_var (pe_var (i := 1) rfl (by first | exact Or.inl rfl | exact Or.inr (Or.inl rfl) | exact Or.inr (Or.inr rfl)) db__law_block_here cd__law_block_here)) dxs_nil))))) pa_nil)) (swaps_plain rfl))
  (pss_cons (ps_expr (pe_bm PySem.F.plainAttrs_list PySem.F.slot_list_extend PySem.F.type_list_extend mt_extend (pe_var (i := 5) rfl vis_law_bad__law_some db__law_some cd__law_some) (pa_c (pe_lst (dxs_c (dx_tup (dxs_c (dx_tup (dxs_c (dx_tup (dxs_c dx_str (dxs_c dx_int (dxs_c dx_int dxs_nil)))) (dxs_c (dx_tup (dxs_c dx_str (dxs_c dx_int (dxs_c dx_int dxs_nil)))) dxs_nil))) (dxs_c (dx_var (pe_var (i := 3) rfl vis_law_bad__law_block_here db__law_block_here cd__law_block_here)) dxs_nil))) (dxs_c (dx_tup (dxs_c (dx_tup (dxs_c (dx_tup (dxs_c dx_str (dxs_c dx_int (dxs_c dx_int dxs_nil)))) (dxs_c (dx_tup (dxs_c dx_str (dxs_c dx_int (dxs_c dx_int dxs_nil)))) dxs_nil))) (dxs_c (dx_var (pe_var (i := 3) rfl vis_law_bad__law_block_here db__law_block_here cd__law_block_here)) dxs_nil))) dxs_nil))) pa_nil)) (swaps_plain rfl))
  (pss_cons (ps_set (i := 6) sc_law_bad.nd rfl loc_law_bad__law_deeds (pe_lst (dxs_c (dx_tup (dxs_c dx_str (dxs_c dx_str dxs_nil))) (dxs_c (dx_tup (dxs_c dx_str (dxs_c dx_str (dxs_c (dx_var (pe_var (i := 4) rfl vis_law_bad__law_plain db__law_plain cd__law_plain)) dxs_nil)))) (dxs_c (dx_tup (dxs_c dx_str (dxs_c dx_str (dxs_c (dx_var (pe_var (i := 4) rfl vis_law_bad__law_plain db__law_plain cd__law_plain)) dxs_nil)))) (dxs_c (dx_tup (dxs_c dx_str (dxs_c dx_str (dxs_c (dx_tup (dxs_c dx_str (dxs_c dx_int dxs_nil))) dxs_nil)))) dxs_nil))))) (swaps_plain rfl))
  (pss_cons (ps_expr (pe_bm PySem.F.plainAttrs_list PySem.F.slot_list_extend PySem.F.type_list_extend mt_extend (pe_var (i := 6) rfl vis_law_bad__law_deeds db__law_deeds cd__law_deeds) (pa_c (pe_lst (dxs_c (dx_tup (dxs_c dx_str (dxs_c dx_str (dxs_c (dx_var (pe_var (i := 4) rfl vis_law_bad__law_plain db__law_plain cd__law_plain)) dxs_nil)))) (dxs_c dx_non dxs_nil))) pa_nil)) (swaps_plain rfl))
  (pss_cons (ps_set (i := 7) sc_law_bad.nd rfl loc_law_bad__law_sums (pe_lst (dxs_c (dx_tup (dxs_c dx_str (dxs_c dx_bl dxs_nil))) (dxs_c (dx_tup (dxs_c dx_str (dxs_c dx_str dxs_nil))) (dxs_c (dx_tup (dxs_c dx_str (dxs_c (dx_var (pe_var (i := 4) rfl vis_law_bad__law_plain db__law_plain cd__law_plain)) dxs_nil))) (dxs_c dx_non dxs_nil))))) (swaps_plain rfl))
  (pss_cons (ps_expr (pe_bm PySem.F.plainAttrs_list PySem.F.slot_list_extend PySem.F.type_list_extend mt_extend (pe_var (i := 6) rfl vis_law_bad__law_deeds db__law_deeds cd__law_deeds) (pa_c (pe_comp ["_law_one"] [none] rfl (CompS.of (by rfl)) (pi_list (pe_var (i := 7) rfl vis_law_bad__law_sums db__law_sums cd__law_sums)) (fun _ _ _ _ _ => (pg_name (i := 0) (show List.Nodup (["_law_one"] : List Str) from by decide +kernel) rfl (Or.inl rfl))) (fun _ _ _ _ _ => pif_nil) (fun _ _ _ _ _ => (dx_tup (dxs_c dx_str (dxs_c dx_str (dxs_c (dx_var (pe_var (i := 0) rfl (by first | exact Or.inl rfl | exact Or.inr (Or.inl rfl) | exact Or.inr (Or.inr rfl)) db__law_one cd__law_one)) dxs_nil)))))) pa_nil)) (swaps_plain rfl))
  (pss_cons (ps_expr (pe_bm PySem.F.plainAttrs_list PySem.F.slot_list_extend PySem.F.type_list_extend mt_extend (pe_var (i := 6) rfl vis_law_bad__law_deeds db__law_deeds cd__law_deeds) (pa_c (pe_lst (dxs_c (dx_tup (dxs_c dx_str (dxs_c dx_str (dxs_c (dx_tup (dxs_c dx_str (dxs_c (dx_var (pe_var (i := 4) rfl vis_law_bad__law_plain db__law_plain cd__law_plain)) (dxs_c (dx_var (pe_var (i := 4) rfl vis_law_bad__law_plain db__law_plain cd__law_plain)) (dxs_c (dx_var (pe_var (i := 4) rfl vis_law_bad__law_plain db__law_plain cd__law_plain)) dxs_nil))))) dxs_nil)))) (dxs_c (dx_tup (dxs_c dx_str (dxs_c dx_str (dxs_c (dx_tup (dxs_c dx_str (dxs_c (dx_var (pe_var (i := 4) rfl vis_law_bad__law_plain db__law_plain cd__law_plain)) (dxs_c (dx_var (pe_var (i := 4) rfl vis_law_bad__law_plain db__law_plain cd__law_plain)) dxs_nil)))) dxs_nil)))) (dxs_c (dx_lst (dxs_c dx_str (dxs_c dx_str (dxs_c (dx_var (pe_var (i := 4) rfl vis_law_bad__law_plain db__law_plain cd__law_plain)) dxs_nil)))) dxs_nil)))) pa_nil)) (swaps_plain rfl))
  (pss_cons (ps_expr (pe_bm PySem.F.plainAttrs_list PySem.F.slot_list_extend PySem.F.type_list_extend mt_extend (pe_var (i := 6) rfl vis_law_bad__law_deeds db__law_deeds cd__law_deeds) (pa_c (pe_lst (dxs_c (dx_tup (dxs_c dx_str (dxs_c (dx_var (pe_var (i := 4) rfl vis_law_bad__law_plain db__law_plain cd__law_plain)) (dxs_c (dx_tup dxs_nil) dxs_nil)))) (dxs_c (dx_tup (dxs_c dx_str (dxs_c (dx_tup (dxs_c dx_str (dxs_c dx_str dxs_nil))) (dxs_c (dx_tup dxs_nil) (dxs_c (dx_tup dxs_nil) dxs_nil))))) (dxs_c (dx_tup (dxs_c dx_str (dxs_c (dx_var (pe_var (i := 4) rfl vis_law_bad__law_plain db__law_plain cd__law_plain)) (dxs_c dx_int (dxs_c (dx_tup dxs_nil) dxs_nil))))) (dxs_c (dx_tup (dxs_c dx_str (dxs_c (dx_var (pe_var (i := 4) rfl vis_law_bad__law_plain db__law_plain cd__law_plain)) (dxs_c dx_neg (dxs_c (dx_tup dxs_nil) dxs_nil))))) dxs_nil))))) pa_nil)) (swaps_plain rfl))
  (pss_cons (ps_expr (pe_bm PySem.F.plainAttrs_list PySem.F.slot_list_extend PySem.F.type_list_extend mt_extend (pe_var (i := 6) rfl vis_law_bad__law_deeds db__law_deeds cd__law_deeds) (pa_c (pe_lst (dxs_c (dx_tup (dxs_c dx_str (dxs_c (dx_var (pe_var (i := 4) rfl vis_law_bad__law_plain db__law_plain cd__law_plain)) (dxs_c dx_int (dxs_c (dx_lst dxs_nil) dxs_nil))))) dxs_nil)) pa_nil)) (swaps_plain rfl))
  (pss_cons (ps_expr (pe_bm PySem.F.plainAttrs_list PySem.F.slot_list_append PySem.F.type_list_append mt_append (pe_var (i := 6) rfl vis_law_bad__law_deeds db__law_deeds cd__law_deeds) (pa_c (dx_tup (dxs_c dx_str (dxs_c (dx_var (pe_var (i := 4) rfl vis_law_bad__law_plain db__law_plain cd__law_plain)) (dxs_c (dx_tup (dxs_c (dx_tup (dxs_c dx_str (dxs_c dx_str (dxs_c (dx_var (pe_var (i := 4) rfl vis_law_bad__law_plain db__law_plain cd__law_plain)) dxs_nil)))) dxs_nil)) (dxs_c (dx_tup dxs_nil) dxs_nil))))) pa_nil)) (swaps_plain rfl))
  (pss_cons (ps_if (pt_cmpR op_eqI (pe_op op_mod (pe_var (i := 1) rfl vis_law_bad__law_cell_here db__law_cell_here cd__law_cell_here) pe_int) pe_int (nomark _)) (pss_one (ps_ret (pe_ix ix_list (pe_var (i := 5) rfl vis_law_bad__law_some db__law_some cd__law_some) (pe_op op_mod (pe_op op_fdiv (pe_var (i := 1) rfl vis_law_bad__law_cell_here db__law_cell_here cd__law_cell_here) pe_int) pe_int) (fun _ _ => rfl)))) pss_nil)
  (pss_cons (ps_set (i := 8) sc_law_bad.nd rfl loc_law_bad__law_last (pe_ifExp (pt_cmpR op_eqI (pe_op op_mod (pe_op op_fdiv (pe_var (i := 1) rfl vis_law_bad__law_cell_here db__law_cell_here cd__law_cell_here) pe_int) pe_int) pe_int (nomark _)) (dx_tup (dxs_c (dx_tup (dxs_c dx_str (dxs_c dx_str (dxs_c (dx_tup (dxs_c dx_str (dxs_c dx_str dxs_nil))) dxs_nil)))) dxs_nil)) (dx_tup dxs_nil)) (swaps_plain rfl))
  (pss_one (ps_ret (pe_tup (pa_c (pe_var (i := 2) rfl vis_law_bad__law_ins db__law_ins cd__law_ins) (pa_c (pe_op op_catT2 (pe_tup (pa_c (pe_ix ix_list (pe_var (i := 6) rfl vis_law_bad__law_deeds db__law_deeds cd__law_deeds) (pe_op op_mod (pe_op op_fdiv (pe_var (i := 1) rfl vis_law_bad__law_cell_here db__law_cell_here cd__law_cell_here) pe_int) pe_int) (fun _ _ => rfl)) pa_nil)) (pe_var (i := 8) rfl vis_law_bad__law_last db__law_last cd__law_last)) pa_nil)))))))))))))))))))))), ?_⟩
  walk_at "rdb"
  refine ⟨_, SqT.of hp, rfl, _, _, rfl, _, _, rfl, rfl, rho rows bd, env0.fit rfl, fun vp H1 s1 d4 => ?_⟩
  have d4 : Dt H1 vp plainD := d4
  have d2 := hi.kp s1.kp
  have d3 := hb.kp s1.kp
  refine ⟨rho rows bd, (envB d2 d3 d4 l1 l2 rfl rfl rfl).fitA rfl, fun vs H2 s2 ds => ⟨?_, fun p5 hp5 => ?_⟩⟩
  · rw [ds.length, valA_len]; exact zl _ (by decide)
  have ph := Ph.new s2 hp5 ds
  clear ds s2
  generalize upd H2 p5 (HO.lst vs) = H3 at ph ⊢
  refine ⟨ph.list, rho rows bd, by first | exact (envB (d2.kp ph.same.kp) (d3.kp ph.same.kp) (d4.kp ph.same.kp) l1 l2 rfl rfl rfl).fit rfl | exact (envB (d2.kp ph.same.kp) (d3.kp ph.same.kp) (d4.kp ph.same.kp) l1 l2 rfl rfl rfl).fitA rfl, fun v4 H4 s4 k4 => ?_⟩
  obtain ⟨x5, e5, z5, ph⟩ := ph.app2 s4 k4 (by rw [valA_len]; decide)
  refine ⟨x5, e5, z5, ?_⟩
  generalize upd H4 p5 (HO.lst (x5 ++ [v4])) = H5 at ph ⊢
  refine ⟨ph.list, rho rows bd, by first | exact (envB (d2.kp ph.same.kp) (d3.kp ph.same.kp) (d4.kp ph.same.kp) l1 l2 rfl rfl rfl).fit rfl | exact (envB (d2.kp ph.same.kp) (d3.kp ph.same.kp) (d4.kp ph.same.kp) l1 l2 rfl rfl rfl).fitA rfl, fun vs6 H6 s6 k6 => ⟨by rw [k6.length, valA_len]; exact zl _ (by decide), fun p6 hp6 => ?_⟩⟩
  obtain ⟨x6, e6, f6, z6, ph⟩ := ph.ext2 s6 k6 hp6 (Nat.le_of_ble_eq_true rfl) (by rw [valA_len]; decide)
  refine ⟨x6, e6, vs6, f6, z6, ?_⟩
  clear e6 f6 k6 s6
  generalize upd (upd H6 p6 (HO.lst vs6)) p5 (HO.lst (x6 ++ vs6)) = H7 at ph ⊢
  refine ⟨ph.list, rho rows bd, env0.fit rfl, fun v8 H8 s8 k8 => ?_⟩
  have ph := ph.go s8
  have d28 := d2.kp ph.same.kp
  have d38 := d3.kp ph.same.kp
  cases k8 with
  | @tup p8 xs8 _ e8 r8 =>
    refine ⟨_, rfl, ⟨_, SqT.of e8⟩, ?_⟩
    refine comp_datT (t0 := none) (rest := [some vb, some vi]) (fun d => .tup [.tup (rows ++ [d]), .tup bd]) e8 r8 (by rw [valA_len]; decide) ?_ ?_
    · intro x dx t H' R R0 hdx s dd r1
      walk_at "rd"
      refine ⟨rho3 rows bd dx, (env3 dd (d38.kp s.kp) (d28.kp s.kp) l1).fit rfl, fun v H' s' dv => r1 _ _ _ s' dv⟩
    intro ys H9 l9 s9 k9 hl9
    obtain ⟨x9, e9, f9, z9, ph⟩ := ph.ext2 s9 k9 hl9 (Nat.le_of_ble_eq_true rfl) (Nat.le_of_ble_eq_true rfl)
    refine ⟨_, rfl, x9, e9, ys, f9, z9, ?_⟩
    clear e9 f9 k9 s9
    generalize upd (upd H9 l9 (HO.lst ys)) p5 (HO.lst (x9 ++ ys)) = Ha at ph ⊢
    refine ⟨ph.list, rho rows bd, (envB (d2.kp ph.same.kp) (d3.kp ph.same.kp) (d4.kp ph.same.kp) l1 l2 rfl rfl rfl).fitA rfl, fun vsa Hb sb ka => ⟨by rw [ka.length, valA_len]; exact zl _ (by decide), fun pa hpa => ?_⟩⟩
    obtain ⟨xa, ea, fa, za, ph⟩ := ph.ext2 sb ka hpa (Nat.le_of_ble_eq_true rfl) (by rw [valA_len]; decide)
    refine ⟨xa, ea, vsa, fa, za, ?_⟩
    clear ea fa ka sb
    generalize upd (upd Hb pa (HO.lst vsa)) p5 (HO.lst (xa ++ vsa)) = Hc at ph ⊢
    have phS : Ph H1 Hc p5 (someD rows bd) := ph
    clear ph
    have c2 := d2.kp phS.same.kp
    have c3 := d3.kp phS.same.kp
    have c4 := d4.kp phS.same.kp
    refine ⟨rho rows bd, (envB c2 c3 c4 l1 l2 rfl rfl rfl).fitA rfl, fun vsd Hd sd kd => ⟨by rw [kd.length, valA_len]; exact zl _ (by decide), fun p7 hp7 => ?_⟩⟩
    have pd := Ph.new sd hp7 kd
    clear kd sd
    generalize upd Hd p7 (HO.lst vsd) = He at pd ⊢
    refine ⟨pd.list, rho rows bd, by first | exact (envB (c2.kp pd.same.kp) (c3.kp pd.same.kp) (c4.kp pd.same.kp) l1 l2 rfl rfl rfl).fit rfl | exact (envB (c2.kp pd.same.kp) (c3.kp pd.same.kp) (c4.kp pd.same.kp) l1 l2 rfl rfl rfl).fitA rfl, fun vs1 Hf sf kf => ⟨by rw [kf.length, valA_len]; exact zl _ (by decide), fun q1 hq1 => ?_⟩⟩
    obtain ⟨x1, e1, f1, z1, pd⟩ := pd.ext2 sf kf hq1 (by rw [valA_len]; decide) (by rw [valA_len]; decide)
    refine ⟨x1, e1, vs1, f1, z1, ?_⟩
    clear e1 f1 kf sf
    generalize upd (upd Hf q1 (HO.lst vs1)) p7 (HO.lst (x1 ++ vs1)) = Hg at pd ⊢
    refine ⟨rho rows bd, by first | exact (envB (c2.kp pd.same.kp) (c3.kp pd.same.kp) (c4.kp pd.same.kp) l1 l2 rfl rfl rfl).fit rfl | exact (envB (c2.kp pd.same.kp) (c3.kp pd.same.kp) (c4.kp pd.same.kp) l1 l2 rfl rfl rfl).fitA rfl, fun vs2 Hh sh kh => ⟨by rw [kh.length, valA_len]; exact zl _ (by decide), fun p8' hp8' => ?_⟩⟩
    have pd := (pd.go sh).go (same_new hp8' (HO.lst vs2))
    have eh : upd Hh p8' (HO.lst vs2) p8' = _ := upd_same
    have kh := kh.kp (same_new hp8' (HO.lst vs2)).kp
    generalize upd Hh p8' (HO.lst vs2) = Hi at pd eh kh ⊢
    refine ⟨pd.list, ⟨_, SqL.of eh⟩, ?_⟩
    refine comp_datL (t0 := none) (rest := []) (fun d => .tup [.str "set", .str "x", d]) eh kh (by rw [valA_len]; decide) ?_ ?_
    · intro x dx t H' R R0 hdx s dd r1
      walk_at "rd"
      exact ⟨fun _ => dx, (env1 (k := 0) rfl dd).fit rfl, fun v H' s' dv => r1 _ _ _ s' dv⟩
    intro ys Hj lj sj kj hlj
    obtain ⟨xj, ej, fj, zj, pd⟩ := pd.ext2 sj kj hlj (Nat.le_of_ble_eq_true rfl) (Nat.le_of_ble_eq_true rfl)
    refine ⟨_, rfl, xj, ej, ys, fj, zj, ?_⟩
    clear ej fj kj sj
    generalize upd (upd Hj lj (HO.lst ys)) p7 (HO.lst (xj ++ ys)) = Hk at pd ⊢
    refine ⟨pd.list, rho rows bd, by first | exact (envB (c2.kp pd.same.kp) (c3.kp pd.same.kp) (c4.kp pd.same.kp) l1 l2 rfl rfl rfl).fit rfl | exact (envB (c2.kp pd.same.kp) (c3.kp pd.same.kp) (c4.kp pd.same.kp) l1 l2 rfl rfl rfl).fitA rfl, fun vsm Hl sm km => ⟨by rw [km.length, valA_len]; exact zl _ (by decide), fun qm hqm => ?_⟩⟩
    obtain ⟨xm, em, fm, zm, pd⟩ := pd.ext2 sm km hqm (Nat.le_of_ble_eq_true rfl) (by rw [valA_len]; decide)
    refine ⟨xm, em, vsm, fm, zm, ?_⟩
    clear em fm km sm
    generalize upd (upd Hl qm (HO.lst vsm)) p7 (HO.lst (xm ++ vsm)) = Hm at pd ⊢
    refine ⟨pd.list, rho rows bd, by first | exact (envB (c2.kp pd.same.kp) (c3.kp pd.same.kp) (c4.kp pd.same.kp) l1 l2 rfl rfl rfl).fit rfl | exact (envB (c2.kp pd.same.kp) (c3.kp pd.same.kp) (c4.kp pd.same.kp) l1 l2 rfl rfl rfl).fitA rfl, fun vso Hn so ko => ⟨by rw [ko.length, valA_len]; exact zl _ (by decide), fun qo hqo => ?_⟩⟩
    obtain ⟨xo, eo, fo, zo, pd⟩ := pd.ext2 so ko hqo (Nat.le_of_ble_eq_true rfl) (by rw [valA_len]; decide)
    refine ⟨xo, eo, vso, fo, zo, ?_⟩
    clear eo fo ko so
    generalize upd (upd Hn qo (HO.lst vso)) p7 (HO.lst (xo ++ vso)) = Ho at pd ⊢
    refine ⟨pd.list, rho rows bd, by first | exact (envB (c2.kp pd.same.kp) (c3.kp pd.same.kp) (c4.kp pd.same.kp) l1 l2 rfl rfl rfl).fit rfl | exact (envB (c2.kp pd.same.kp) (c3.kp pd.same.kp) (c4.kp pd.same.kp) l1 l2 rfl rfl rfl).fitA rfl, fun vsr Hq sr kr => ⟨by rw [kr.length, valA_len]; exact zl _ (by decide), fun qr hqr => ?_⟩⟩
    obtain ⟨xr, er, fr, zr, pd⟩ := pd.ext2 sr kr hqr (Nat.le_of_ble_eq_true rfl) (by rw [valA_len]; decide)
    refine ⟨xr, er, vsr, fr, zr, ?_⟩
    clear er fr kr sr
    generalize upd (upd Hq qr (HO.lst vsr)) p7 (HO.lst (xr ++ vsr)) = Hr at pd ⊢
    refine ⟨pd.list, rho rows bd, by first | exact (envB (c2.kp pd.same.kp) (c3.kp pd.same.kp) (c4.kp pd.same.kp) l1 l2 rfl rfl rfl).fit rfl | exact (envB (c2.kp pd.same.kp) (c3.kp pd.same.kp) (c4.kp pd.same.kp) l1 l2 rfl rfl rfl).fitA rfl, fun vz Hs ss ks => ?_⟩
    obtain ⟨xz, ez, zz, pd⟩ := pd.app2 ss ks (Nat.le_of_ble_eq_true rfl)
    refine ⟨xz, ez, zz, ?_⟩
    generalize upd Hs p7 (HO.lst (xz ++ [vz])) = Ht at pd ⊢
    have pD : Ph Hc Ht p7 deedsD := pd
    clear pd
    have sT : Same H Ht := s1.trans (phS.same.trans pD.same)
    have cd : CDiv c 2 := ⟨by decide, by decide⟩
    refine ⟨by decide, ?_⟩
    by_cases hev : c % 2 = 0
    · rw [if_pos hev]
      obtain ⟨_, _, xS, eS, dS⟩ := phS.go pD.same
      obtain ⟨v, ea, x, ex, dx⟩ := dat_at (k := c / 2 % 16) dS (by omega) (show c / 2 % 16 < 16 by omega)
      exact ⟨cd, by decide, _, SqL.of eS, _, ea, q _ _ _ sT dx (.inl (List.mem_of_getElem? ex))⟩
    · rw [if_neg hev]
      refine ⟨cd, by decide, ?_⟩
      have tail : ∀ (H' : Hp) (x : V) (dx : Dm) (vl : V) (ls : List Dm) (k : Nat), Same Ht H' → Dt H' x dx → Dt H' vl (.tup ls) → deedsD[k]? = some dx → ls = (if k = 18 then [lastD] else []) → 1 ≤ sizeLine ∧ ∀ p', H' p' = none → ∃ xl, vl = .ref xl ∧ ∃ x2, SqT K (upd H' p' (HO.tup [x])) p' x2 ∧ ∃ x3, SqT K (upd H' p' (HO.tup [x])) xl x3 ∧ x2.length + x3.length ≤ sizeLine ∧
          (x2 = [] → 2 ≤ sizeLine ∧ ∀ p1, upd H' p' (HO.tup [x]) p1 = none → Q (.ref p1) (upd (upd H' p' (HO.tup [x])) p1 (HO.tup [vi, .ref xl]))) ∧
          (x2 ≠ [] → x3 = [] → 2 ≤ sizeLine ∧ ∀ p1, upd H' p' (HO.tup [x]) p1 = none → Q (.ref p1) (upd (upd H' p' (HO.tup [x])) p1 (HO.tup [vi, .ref p']))) ∧
          (x2 ≠ [] → x3 ≠ [] → ∀ p1, upd H' p' (HO.tup [x]) p1 = none → 2 ≤ sizeLine ∧ ∀ p2, upd (upd H' p' (HO.tup [x])) p1 (HO.tup (x2 ++ x3)) p2 = none → Q (.ref p2) (upd (upd (upd H' p' (HO.tup [x])) p1 (HO.tup (x2 ++ x3))) p2 (HO.tup [vi, .ref p1]))) := by
        intro H' x dx vl ls k sH hx hv hk hls
        have hll : ls.length ≤ 1 := by rw [hls]; split <;> simp
        have di := hi.kp (sT.trans sH).kp
        refine ⟨zl 1 (by decide), fun p' hp' => ?_⟩
        have u1 := same_new hp' (HO.tup [x])
        have hv1 := hv.kp u1.kp
        cases hv1 with
        | @tup xl x3 _ e3 r3 =>
          have s1' := sH.trans u1
          refine ⟨xl, rfl, [x], SqT.of upd_same, x3, SqT.of e3, by rw [r3.length]; exact zl _ (by simp; omega), fun z => absurd z (by simp), fun _ z => ⟨zl 2 (by decide), fun p1 hp1 => ?_⟩, fun _ _ p1 hp1 => ⟨zl 2 (by decide), fun p2 hp2 => ?_⟩⟩
          · subst z
            have hn : ls = [] := by cases r3; rfl
            subst hn
            have u2 := same_new hp1 (HO.tup [vi, .ref p'])
            refine q _ _ (.tup [.tup rows, .tup [dx]]) (sT.trans (s1'.trans u2)) (.tup upd_same (.cons (di.kp (u1.trans u2).kp) (.cons (.tup (u2 _ _ upd_same) (.cons (hx.kp (u1.trans u2).kp) .nil)) .nil))) (.inr ⟨k, dx, hk, by rw [← hls]⟩)
          · have u2 := same_new hp1 (HO.tup ([x] ++ x3))
            have u3 := same_new hp2 (HO.tup [vi, .ref p1])
            refine q _ _ (.tup [.tup rows, .tup (dx :: ls)]) (sT.trans (s1'.trans (u2.trans u3))) (.tup upd_same (.cons (di.kp (u1.trans (u2.trans u3)).kp) (.cons (.tup (u3 _ _ upd_same) (.cons (hx.kp (u1.trans (u2.trans u3)).kp) (r3.kp (u2.trans u3).kp))) .nil))) (.inr ⟨k, dx, hk, by rw [← hls]⟩)
      have key : ∀ (H' : Hp), Same Ht H' → ∃ xD, SqL K H' p7 xD ∧ ∃ x, atI xD (c / 2 % 19) = some x ∧ ∃ dx, deedsD[(c / 2 % 19).toNat]? = some dx ∧ Dt H' x dx := fun H' sH => by
        obtain ⟨_, _, xD, eD, dD⟩ := pD.go sH
        obtain ⟨v, ea, x, ex, dx⟩ := dat_at (k := c / 2 % 19) dD (by omega) (show c / 2 % 19 < 19 by omega)
        exact ⟨_, SqL.of eD, _, ea, x, ex, dx⟩
      by_cases h18 : c / 2 % 19 = 18
      · rw [if_pos h18]
        refine ⟨rho rows bd, env0.fit rfl, fun vl H' sH dl => ⟨cd, by decide, ?_⟩⟩
        obtain ⟨xD, e1, x, e2, dx, e3, e4⟩ := key H' sH
        exact ⟨xD, e1, x, e2, tail H' x dx vl [lastD] _ sH e4 dl e3 (by rw [if_pos (by omega)])⟩
      · rw [if_neg h18]
        refine ⟨rho rows bd, env0.fit rfl, fun vl H' sH dl => ⟨cd, by decide, ?_⟩⟩
        obtain ⟨xD, e1, x, e2, dx, e3, e4⟩ := key H' sH
        exact ⟨xD, e1, x, e2, tail H' x dx vl [] _ sH e4 dl e3 (by rw [if_neg (by omega)])⟩
end
end SR


set_option Elab.async false
set_option linter.all false
set_option maxRecDepth 100000
set_option maxHeartbeats 0
namespace SR
open PySem L2
local macro_rules | `(tactic| walk_at "rd") => `(tactic| simp only [tSeq, tIfS, tTest, tOp, tVar, tC, tAsg, gName, gTup, gCons, gNil, tRet, tRetN, tDrop, tNext, tCB, tCons, tNil, tCall, tUn, rU, rI0, rI, tAnd, tOr, tNot, tB, tAndV, tOrV, tNotV, tIf, tIfT, tKGet, tChain, tDGet, tDGet1, sDPut, tDNewK, tDisp, tPairs, tCont, tSl, tNoPart, tPart, rSlT, tChain3, qSortS, qEqDL, qNeDL, tFor_enum, tFor_zip, tFor_rng2, tComp_seq, qSetI, qSortSet, cxOf_prog, cxOf_w, cxOf_nox_prog, cxOf_nox_w, cxOf_mg, cxOf_base, cxOf_nox_mg, cxOf_nox_base, cxComp_prog, cxComp_w, cxComp_mg, cxComp_base, tComp_zipT, tCallL, rSlA, rSlL, tDX, tDXs, tTup, tLst, tBM,
  qEq, qNe, qIn, qNotIn, qIsN, qNotN, qIsB, qNotB, qLen, qInst, qEqD, qNeD, qMinL, qMaxL, qSortI, rIx, rIxL, rIxT, rIxS, rCat, rCatT2, rRep, rRepT, rLeS, rLtS, rAppend, rExtend, tNever, tBreak, tYes,
  tFor_tup, tFor_list, tFor_rng1, tComp_tup, tComp_list, tComp_str, L2.start, cxOf_K, cxOf_nox_K, cxComp_K, List.map_cons, List.map_nil, List.length_cons, List.length_nil, List.replicate_succ, List.replicate_zero, Nat.reduceAdd, Nat.reduceSub, Nat.zero_add, Nat.add_zero, Nat.sub_zero, Nat.sub_self, Nat.add_sub_cancel,
  List.getElem?_cons_zero, List.getElem?_cons_succ, List.set_cons_zero, List.set_cons_succ, List.cons_append, List.nil_append, List.append_nil, List.cons.injEq, Option.some.injEq, V.int.injEq, V.ref.injEq, V.str.injEq, V.bl.injEq, V.ty.injEq,
  reduceCtorEq, false_and, and_false, and_true, true_and, exists_false, exists_const, false_or, or_false, exists_eq_left, exists_eq_left', exists_eq_right, exists_eq_right', exists_and_left, decide_eq_true_eq, Bool.not_eq_true', Bool.decide_eq_true, exists_eq, true_or, or_true, Bool.false_eq_true, if_true, if_false, Bool.true_eq_false, Bool.not_true, Bool.not_false, decide_true, decide_false, List.isEmpty_cons, List.isEmpty_nil, Bool.true_and, Bool.false_and, bne_self_eq_false, beq_self_eq_true])
section
/-! ### drawn programs are programs -/
theorem pool_name : ∀ x ∈ pool, isName (.str x) = true ∧ x.length ≤ 1000 := by
  intro x hx
  simp only [pool, List.mem_cons, List.not_mem_nil, or_false] at hx
  rcases hx with rfl | rfl | rfl | rfl <;> exact ⟨by decide +kernel, by decide +kernel⟩
theorem Wd.in_ (w : Wd) : inW (.str w.str) = true ∧ w.str.length ≤ 1000 := by cases w <;> exact ⟨by decide +kernel, by decide +kernel⟩
theorem term_ok : ∀ {n : Nat} {t : T}, T.ok pool n t → isTerm n t.enc = true
  | 0, _, h => h.elim
  | n + 1, .num i, h => by
    show (if eqS (.str "num") "num" then isFrom (.int i) (-32768) 32767 else eqS (.str "num") "name" && isName (.int i)) = true
    rw [if_pos (by decide +kernel)]
    show (decide (-32768 ≤ i) && decide (i ≤ 32767)) = true
    rw [decide_eq_true h.1, decide_eq_true h.2]
    rfl
  | n + 1, .nm x, h => by
    show (if eqS (.str "name") "num" then isFrom (.str x) (-32768) 32767 else eqS (.str "name") "name" && isName (.str x)) = true
    rw [if_neg (by decide +kernel), (pool_name x h).1]
    decide +kernel
  | n + 1, .op w a b, h => by
    show (inW (.str w.str) && isTerm n a.enc && isTerm n b.enc) = true
    rw [w.in_.1, term_ok h.1, term_ok h.2]
    rfl
theorem term_deep : ∀ {n : Nat} {t : T}, T.ok pool n t → t.deep ≤ n
  | 0, _, h => h.elim
  | n + 1, .num i, h => by show 1 ≤ n + 1; omega
  | n + 1, .nm x, h => by show 1 ≤ n + 1; omega
  | n + 1, .op w a b, h => by
    have := term_deep h.1
    have := term_deep h.2
    rw [T.deep]; omega
theorem term_small : ∀ {n : Nat} {t : T}, T.ok pool n t → smallD t.enc
  | 0, _, h => h.elim
  | n + 1, .num i, h => by
    simp only [T.enc, smallD, smallA]
    exact ⟨⟨by decide +kernel, trivial, trivial⟩, by simp⟩
  | n + 1, .nm x, h => by
    simp only [T.enc, smallD, smallA]
    exact ⟨⟨by decide +kernel, (pool_name x h).2, trivial⟩, by simp⟩
  | n + 1, .op w a b, h => by
    simp only [T.enc, smallD, smallA]
    exact ⟨⟨w.in_.2, term_small h.1, term_small h.2, trivial⟩, by simp⟩
theorem encB_mem : ∀ {b : List D} {x : Dm}, x ∈ encB b → ∃ d ∈ b, x = d.enc
  | [], x, h => by rw [encB] at h; cases h
  | d :: b, x, h => by
    rw [encB] at h
    rcases List.mem_cons.mp h with rfl | h
    · exact ⟨d, by simp, rfl⟩
    · obtain ⟨e, he, r⟩ := encB_mem h
      exact ⟨e, List.mem_cons_of_mem _ he, r⟩
theorem smallA_of : ∀ {ds : List Dm}, (∀ d ∈ ds, smallD d) → smallA ds
  | [], _ => by rw [smallA]; trivial
  | d :: r, h => by
    rw [smallA]
    exact ⟨h d (by simp), smallA_of fun x hx => h x (List.mem_cons_of_mem _ hx)⟩
theorem block_ok : ∀ {n : Nat} {b : List D}, okB n b → isBlock n (.tup (encB b)) = true ∧ dpB b < n ∧ tmB b ≤ 5 ∧ smallD (.tup (encB b))
  | 0, _, h => h.elim
  | n + 1, b, h => by
    obtain ⟨hl, hd⟩ := h
    have each : ∀ d ∈ b, isDeedW (isBlock n) d.enc = true ∧ d.dp ≤ n ∧ d.tm ≤ 5 ∧ smallD d.enc := by
      intro d hm
      have hd := hd d hm
      match d, hd with
      | .set x t, hd =>
        refine ⟨?_, ?_, ?_, ?_⟩
        · show (eqS (.str "set") "set" && isName (.str x) && isTerm 5 t.enc) = true
          rw [(pool_name x hd.1).1, term_ok hd.2]
          decide +kernel
        · rw [D.dp]; omega
        · rw [D.tm]; exact term_deep hd.2
        · simp only [D.enc, smallD, smallA]
          exact ⟨⟨by decide +kernel, (pool_name x hd.1).2, term_small hd.2, trivial⟩, by simp⟩
      | .ite t b1 c1, hd =>
        obtain ⟨i1, i2, i3, i4⟩ := block_ok hd.2.1
        obtain ⟨j1, j2, j3, j4⟩ := block_ok hd.2.2
        have td := term_deep hd.1
        refine ⟨?_, ?_, ?_, ?_⟩
        · show (isTerm 5 t.enc && isBlock n (.tup (encB c1)) && (if eqS (.str "if") "if" then isBlock n (.tup (encB b1)) else eqS (.str "if") "while" && isFrom (.tup (encB b1)) 0 20)) = true
          rw [term_ok hd.1, j1, if_pos (by decide +kernel), i1]
          rfl
        · rw [D.dp]; omega
        · rw [D.tm]; omega
        · simp only [D.enc, smallD, smallA] at i4 j4 ⊢
          exact ⟨⟨by decide +kernel, term_small hd.1, i4, j4, trivial⟩, by simp⟩
      | .whl t m b1, hd =>
        obtain ⟨i1, i2, i3, i4⟩ := block_ok hd.2.2.2
        have td := term_deep hd.1
        refine ⟨?_, ?_, ?_, ?_⟩
        · show (isTerm 5 t.enc && isBlock n (.tup (encB b1)) && (if eqS (.str "while") "if" then isBlock n (.int m) else eqS (.str "while") "while" && isFrom (.int m) 0 20)) = true
          rw [term_ok hd.1, i1, if_neg (by decide +kernel)]
          show (eqS (.str "while") "while" && (decide (0 ≤ m) && decide (m ≤ 20))) = true
          rw [decide_eq_true hd.2.1, decide_eq_true hd.2.2.1]
          decide +kernel
        · rw [D.dp]; omega
        · rw [D.tm]; omega
        · simp only [D.enc, smallD, smallA] at i4 ⊢
          exact ⟨⟨by decide +kernel, term_small hd.1, trivial, i4, trivial⟩, by simp⟩
    refine ⟨?_, ?_, ?_, ?_⟩
    · show (decide ((encB b).length ≤ 6) && (encB b).all (isDeedW (isBlock n))) = true
      rw [encB_length, decide_eq_true hl, Bool.true_and, List.all_eq_true]
      intro x hx
      obtain ⟨d, hm, rfl⟩ := encB_mem hx
      exact (each d hm).1
    · have : ∀ {b : List D}, (∀ d ∈ b, d.dp ≤ n) → dpB b ≤ n := by
        intro b
        induction b with
        | nil => intro _; rw [dpB]; omega
        | cons d r ih =>
          intro h
          have h1 := h d (by simp)
          have h2 := ih fun x hx => h x (List.mem_cons_of_mem _ hx)
          rw [dpB]; omega
      have := this fun d hm => (each d hm).2.1
      omega
    · have : ∀ {b : List D}, (∀ d ∈ b, d.tm ≤ 5) → tmB b ≤ 5 := by
        intro b
        induction b with
        | nil => intro _; rw [tmB]; omega
        | cons d r ih =>
          intro h
          have h1 := h d (by simp)
          have h2 := ih fun x hx => h x (List.mem_cons_of_mem _ hx)
          rw [tmB]; omega
      exact this fun d hm => (each d hm).2.2.1
    · rw [smallD]
      refine ⟨smallA_of fun x hx => ?_, by rw [encB_length]; omega⟩
      obtain ⟨d, hm, rfl⟩ := encB_mem hx
      exact (each d hm).2.2.2
def bnd : Nat → Nat
  | 0 => 0
  | 1 => 1
  | n + 2 => 12 * bnd (n + 1)
theorem sz_le {k : Nat} : ∀ {b : List D}, (∀ d ∈ b, d.sz ≤ k) → szB b ≤ b.length * k
  | [], _ => by rw [szB]; omega
  | d :: r, h => by
    have h1 := h d (by simp)
    have h2 := sz_le (b := r) fun x hx => h x (List.mem_cons_of_mem _ hx)
    rw [szB, List.length_cons, Nat.succ_mul]
    omega
theorem deed_sz : ∀ {n : Nat} {b : List D}, okB (n + 1) b → ∀ d ∈ b, d.sz ≤ bnd (n + 1)
  | 0, b, h, d, hm => by
    have hd := h.2 d hm
    match d, hd with
    | .set x t, _ => rw [D.sz]; decide
    | .ite t b1 c1, hd => exact hd.2.1.elim
    | .whl t m b1, hd => exact hd.2.2.2.elim
  | n + 1, b, h, d, hm => by
    have hd := h.2 d hm
    have b1' : 1 ≤ bnd (n + 1) := by
      have : ∀ n, 1 ≤ bnd (n + 1) := by
        intro n
        induction n with
        | zero => decide
        | succ n ih => rw [bnd]; omega
      exact this n
    match d, hd with
    | .set x t, _ => rw [D.sz, bnd]; omega
    | .ite t b1 c1, hd =>
      have e1 := sz_le (deed_sz hd.2.1)
      have e2 := sz_le (deed_sz hd.2.2)
      have l1 := Nat.mul_le_mul_right (bnd (n + 1)) hd.2.1.1
      have l2 := Nat.mul_le_mul_right (bnd (n + 1)) hd.2.2.1
      rw [D.sz, bnd]; omega
    | .whl t m b1, hd =>
      have e1 := sz_le (deed_sz hd.2.2.2)
      have l1 := Nat.mul_le_mul_right (bnd (n + 1)) hd.2.2.2.1
      rw [D.sz, bnd]; omega
theorem row_in {r : Rw} (hn : r.1 ∈ pool) (h : -6 ≤ r.2.1 ∧ r.2.1 ≤ r.2.2 ∧ r.2.2 ≤ 8) : isIn (rowEnc r) = true ∧ smallD (rowEnc r) := by
  constructor
  · show (isName (.str r.1) && (decide (-99 ≤ r.2.1) && decide (r.2.1 ≤ 99)) && (decide (r.2.1 ≤ r.2.2) && decide (r.2.2 ≤ 99))) = true
    rw [(pool_name _ hn).1, decide_eq_true (show -99 ≤ r.2.1 by omega), decide_eq_true (show r.2.1 ≤ 99 by omega), decide_eq_true h.2.1, decide_eq_true (show r.2.2 ≤ 99 by omega)]
    rfl
  · simp only [rowEnc, smallD, smallA]
    exact ⟨⟨(pool_name _ hn).2, trivial, trivial, trivial⟩, by simp⟩
theorem ins_ok {rows : List Rw} (h : okRows rows) : areIns (.tup (rows.map rowEnc)) = true ∧ smallD (.tup (rows.map rowEnc)) ∧ (rows.map rowEnc).map rowName = rows.map (·.1) ∧ (rows.map rowEnc).length ≤ 2 := by
  obtain ⟨hl, hn, ho⟩ := h
  refine ⟨?_, ?_, by rw [List.map_map]; rfl, by rw [List.length_map]; exact hl⟩
  · rw [areIns_eq]
    match rows, hl, hn, ho with
    | [], _, _, _ => rfl
    | [r], _, hn, ho =>
      have e : r.1 = "a" := by simpa [pair] using hn
      have := (row_in (by rw [e]; decide +kernel) (ho r (by simp))).1
      show ([rowEnc r].all isIn && true && decide (1 ≤ 4)) = true
      simp [this]
    | [r, r2], _, hn, ho =>
      have e : r.1 = "a" ∧ r2.1 = "b" := by simpa [pair] using hn
      have h1 := (row_in (by rw [e.1]; decide +kernel) (ho r (by simp))).1
      have h2 := (row_in (by rw [e.2]; decide +kernel) (ho r2 (by simp))).1
      show ([rowEnc r, rowEnc r2].all isIn && (decide (r.1.cps.toList < r2.1.cps.toList) && true) && decide (2 ≤ 4)) = true
      rw [e.1, e.2]
      simp only [List.all_cons, List.all_nil, h1, h2]
      rw [show decide (("a" : Str).cps.toList < ("b" : Str).cps.toList) = true from by decide +kernel]
      rfl
  · rw [smallD]
    refine ⟨smallA_of fun x hx => ?_, by rw [List.length_map]; omega⟩
    obtain ⟨r, hr, rfl⟩ := List.mem_map.mp hx
    have hm : r.1 ∈ pair := by
      have : r.1 ∈ rows.map (·.1) := List.mem_map.mpr ⟨r, hr, rfl⟩
      rw [hn] at this
      exact List.mem_of_mem_take this
    refine (row_in ?_ (ho r hr)).2
    simp only [pair, List.mem_cons, List.not_mem_nil, or_false] at hm
    rcases hm with e | e <;> (rw [e]; decide +kernel)
theorem prog_ok {rows : List Rw} {b : List D} {g' : List Str} (hr : okRows rows) (hb : okB 3 b) (hl : b.length ≤ 3) (hk : Knows (rows.map (·.1)) b g') : Prog (.tup [.tup (rows.map rowEnc), .tup (encB b)]) true ∧ smallD (.tup [.tup (rows.map rowEnc), .tup (encB b)]) := by
  obtain ⟨i1, i2, i3, _⟩ := ins_ok hr
  obtain ⟨j1, j2, j3, j4⟩ := block_ok hb
  have hs : szB b ≤ 800 := by
    have e1 : szB b ≤ b.length * bnd 3 := sz_le (deed_sz hb)
    have e2 := Nat.mul_le_mul_right (bnd 3) hl
    have e3 : 3 * bnd 3 = 432 := by decide
    omega
  obtain ⟨q, eq, _⟩ := hk _ (Sub.refl _)
  refine ⟨.inr ⟨_, b, rfl, ?_, by omega, j3, hs, by rw [i3, eq]; rfl⟩, ?_⟩
  · show (areIns (.tup (rows.map rowEnc)) && isBlock 3 (.tup (encB b))) = true
    rw [i1, j1]
    rfl
  · simp only [smallD, smallA] at i2 j4 ⊢
    exact ⟨⟨i2, j4, trivial⟩, by simp⟩
/-! ### spoilt ones are none -/
theorem all_last {rows : List Dm} {x : Dm} (h : isIn x = false) : areIns (.tup (rows ++ [x])) = false := by
  rw [areIns_eq]
  show ((rows ++ [x]).all isIn && risP (rows ++ [x]) && decide ((rows ++ [x]).length ≤ 4)) = false
  rw [List.all_append]
  simp [h]
theorem no_ins {i b : Dm} (h : areIns i = false) : Prog (.tup [i, b]) false := .inl ⟨by show (areIns i && isBlock 3 b) = false; rw [h]; rfl, rfl⟩
theorem no_blk {i b : Dm} (h : isBlock 3 b = false) : Prog (.tup [i, b]) false := .inl ⟨by show (areIns i && isBlock 3 b) = false; rw [h, Bool.and_false], rfl⟩
theorem no_deed {i x : Dm} {l : List Dm} (h : isDeedW (isBlock 2) x = false) : Prog (.tup [i, .tup (x :: l)]) false := no_blk (by
  show (decide ((x :: l).length ≤ 6) && (x :: l).all (isDeedW (isBlock 2))) = false
  rw [List.all_cons, h, Bool.false_and, Bool.and_false])
theorem small_cons {i b : Dm} (h : smallD i) (k : smallD b) : smallD (.tup [i, b]) := by
  simp only [smallD, smallA]
  exact ⟨⟨h, k, trivial⟩, by simp⟩
theorem small_app {rows : List Dm} {x : Dm} (h : smallD (.tup rows)) (hl : rows.length ≤ 10) (k : smallD x) : smallD (.tup (rows ++ [x])) := by
  rw [smallD] at h ⊢
  refine ⟨?_, by rw [List.length_append]; simp; omega⟩
  have get : ∀ {ds : List Dm}, smallA ds → smallA (ds ++ [x]) := by
    intro ds
    induction ds with
    | nil => intro _; simp only [List.nil_append, smallA]; exact ⟨k, trivial⟩
    | cons d r ih =>
      intro z
      rw [smallA] at z
      rw [List.cons_append, smallA]
      exact ⟨z.1, ih z.2⟩
  exact get h.1
theorem some_bad {rows bd : List Dm} (hr : smallD (.tup rows)) (hb : smallD (.tup bd)) (hl : rows.length ≤ 10) : ∀ d ∈ someD rows bd, Prog d false ∧ smallD d := by
  intro d hd
  have app : ∀ x, isIn x = false → smallD x → Prog (.tup [.tup (rows ++ [x]), .tup bd]) false ∧ smallD (.tup [.tup (rows ++ [x]), .tup bd]) := fun x h1 h2 => ⟨no_ins (all_last h1), small_cons (small_app hr hl h2) hb⟩
  simp only [someD, List.mem_cons, List.not_mem_nil, or_false] at hd
  rcases hd with rfl | rfl | rfl | rfl | rfl | rfl | rfl | rfl | rfl | rfl | rfl | rfl | rfl | rfl | rfl | rfl
  · exact ⟨.inl ⟨rfl, rfl⟩, by simp [smallD]⟩
  · refine ⟨.inl ⟨rfl, rfl⟩, ?_⟩
    simp only [smallD, smallA] at hr ⊢
    exact ⟨⟨hr, trivial⟩, by simp⟩
  · refine ⟨.inl ⟨rfl, rfl⟩, ?_⟩
    simp only [smallD, smallA] at hr hb ⊢
    exact ⟨⟨hr, hb, ⟨trivial, by simp⟩, trivial⟩, by simp⟩
  · exact ⟨.inl ⟨rfl, rfl⟩, by simp [smallD]⟩
  · exact ⟨.inl ⟨rfl, rfl⟩, by simp [smallD]⟩
  · exact ⟨no_blk rfl, small_cons hr (by simp [smallD])⟩
  · exact ⟨no_ins rfl, small_cons (by simp [smallD]) hb⟩
  · exact app _ rfl (by simp [smallD])
  · exact app _ rfl (by simp only [smallD, smallA]; exact ⟨⟨by decide +kernel, trivial, trivial⟩, by simp⟩)
  · exact app _ (by decide +kernel) (by simp only [smallD, smallA]; exact ⟨⟨by decide +kernel, trivial, trivial, trivial⟩, by simp⟩)
  · exact app _ (by decide +kernel) (by simp only [smallD, smallA]; exact ⟨⟨by decide +kernel, trivial, trivial, trivial⟩, by simp⟩)
  · exact app _ (by decide +kernel) (by simp only [smallD, smallA]; exact ⟨⟨by decide +kernel, trivial, trivial, trivial⟩, by simp⟩)
  · exact app _ (by decide +kernel) (by simp only [smallD, smallA]; exact ⟨⟨by decide +kernel, trivial, trivial, trivial⟩, by simp⟩)
  · exact app _ (by decide +kernel) (by simp only [smallD, smallA]; exact ⟨⟨by decide +kernel, trivial, trivial, trivial⟩, by simp⟩)
  · refine ⟨no_ins (by decide +kernel), small_cons ?_ hb⟩
    simp only [smallD, smallA]
    exact ⟨⟨⟨⟨by decide +kernel, trivial, trivial, trivial⟩, by simp⟩, ⟨⟨by decide +kernel, trivial, trivial, trivial⟩, by simp⟩, trivial⟩, by simp⟩
  · refine ⟨no_ins (by decide +kernel), small_cons ?_ hb⟩
    simp only [smallD, smallA]
    exact ⟨⟨⟨⟨by decide +kernel, trivial, trivial, trivial⟩, by simp⟩, ⟨⟨by decide +kernel, trivial, trivial, trivial⟩, by simp⟩, trivial⟩, by simp⟩
mutual
def smallDb : Dm → Bool
  | .str z => decide (z.length ≤ 1000)
  | .tup ds => smallAb ds && decide (ds.length ≤ 1000)
  | _ => true
def smallAb : List Dm → Bool
  | [] => true
  | d :: r => smallDb d && smallAb r
end
mutual
theorem smallDb_ok : ∀ {d : Dm}, smallDb d = true → smallD d
  | .str z, h => by rw [smallDb] at h; rw [smallD]; exact of_decide_eq_true h
  | .tup ds, h => by
    rw [smallDb, Bool.and_eq_true] at h
    rw [smallD]
    exact ⟨smallAb_ok h.1, of_decide_eq_true h.2⟩
  | .non, _ => by simp [smallD]
  | .bl _, _ => by simp [smallD]
  | .int _, _ => by simp [smallD]
  | .lst, _ => by simp [smallD]
theorem smallAb_ok : ∀ {ds : List Dm}, smallAb ds = true → smallA ds
  | [], _ => by rw [smallA]; trivial
  | d :: r, h => by
    rw [smallAb, Bool.and_eq_true] at h
    rw [smallA]
    exact ⟨smallDb_ok h.1, smallAb_ok h.2⟩
end
theorem names3 {rows : List Rw} (h : okRows rows) : rows.map (·.1) = ([] : List Str) ∨ rows.map (·.1) = (["a"] : List Str) ∨ rows.map (·.1) = (["a", "b"] : List Str) := by
  obtain ⟨hl, hn, _⟩ := h
  rw [hn]
  generalize rows.length = n at hl
  rcases n with _ | _ | _ | n
  · exact .inl rfl
  · exact .inr (.inl rfl)
  · exact .inr (.inr rfl)
  · omega
/-- of the right shape, but a name is not known -/
theorem no_name {rows : List Rw} {b : List D} (h : okRows rows) (h1 : isBlock 3 (.tup (encB b)) = true) (h2 : dpB b < 4) (h3 : tmB b ≤ 5) (h4 : szB b ≤ 800) (h5 : (kbB [] b).isSome = false) (h6 : (kbB ["a"] b).isSome = false) (h7 : (kbB ["a", "b"] b).isSome = false) :
    Prog (.tup [.tup (rows.map rowEnc), .tup (encB b)]) false := by
  obtain ⟨i1, i2, i3, _⟩ := ins_ok h
  refine .inr ⟨_, b, rfl, ?_, h2, h3, h4, ?_⟩
  · show (areIns (.tup (rows.map rowEnc)) && isBlock 3 (.tup (encB b))) = true
    rw [i1, h1]
    rfl
  · rw [i3]
    rcases names3 h with e | e | e
    · rw [e, h5]
    · rw [e, h6]
    · rw [e, h7]
theorem deeds_bad {rows : List Rw} (h : okRows rows) : ∀ (k : Nat) (x : Dm), deedsD[k]? = some x → Prog (.tup [.tup (rows.map rowEnc), .tup (x :: (if k = 18 then [lastD] else []))]) false ∧ smallD (.tup [.tup (rows.map rowEnc), .tup (x :: (if k = 18 then [lastD] else []))]) := by
  intro k x hk
  obtain ⟨_, i2, _, _⟩ := ins_ok h
  have sm : smallD (.tup (x :: (if k = 18 then [lastD] else []))) := by
    have hm : x ∈ deedsD := List.mem_of_getElem? hk
    have hx : smallDb x = true := List.all_eq_true.mp (show deedsD.all smallDb = true by decide +kernel) x hm
    rw [smallD, smallA]
    refine ⟨⟨smallDb_ok hx, ?_⟩, ?_⟩
    · split
      · exact smallAb_ok (by decide +kernel)
      · rw [smallA]; trivial
    · split <;> simp
  refine ⟨?_, small_cons i2 sm⟩
  have hlt : k < 19 := (List.getElem?_eq_some_iff.mp hk).1
  rcases k with _ | _ | _ | _ | _ | _ | _ | _ | _ | _ | _ | _ | _ | _ | _ | _ | _ | _ | _ | k
  all_goals first | omega | skip
  all_goals obtain rfl := Option.some.inj hk
  all_goals first
    | exact no_deed (by decide +kernel)
    | exact no_name (b := [D.set "x" (.nm "q")]) h (by decide +kernel) (by decide) (by decide) (by decide) (by decide +kernel) (by decide +kernel) (by decide +kernel)
    | exact no_name (b := [D.ite (.nm "q") [] []]) h (by decide +kernel) (by decide) (by decide) (by decide) (by decide +kernel) (by decide +kernel) (by decide +kernel)
    | exact no_name (b := [D.ite (.num 1) [D.set "q" (.num 1)] [], D.set "x" (.nm "q")]) h (by decide +kernel) (by decide) (by decide) (by decide) (by decide +kernel) (by decide +kernel) (by decide +kernel)
theorem bad_bad {rows : List Rw} {b : List D} {d : Dm} (hr : okRows rows) (hb : okB 3 b) (h : badD (rows.map rowEnc) (encB b) d) : Prog d false ∧ smallD d := by
  obtain ⟨_, i2, _, i4⟩ := ins_ok hr
  rcases h with h | ⟨k, x, hk, rfl⟩
  · exact some_bad i2 (block_ok hb).2.2.2 (by omega) d h
  · exact deeds_bad hr k x hk
end
end SR


set_option Elab.async false
set_option linter.all false
set_option maxRecDepth 100000
set_option maxHeartbeats 0
namespace SR
open PySem L2
local macro_rules | `(tactic| walk_at "rd") => `(tactic| simp only [tSeq, tIfS, tTest, tOp, tVar, tC, tAsg, gName, gTup, gCons, gNil, tRet, tRetN, tDrop, tNext, tCB, tCons, tNil, tCall, tUn, rU, rI0, rI, tAnd, tOr, tNot, tB, tAndV, tOrV, tNotV, tIf, tIfT, tKGet, tChain, tDGet, tDGet1, sDPut, tDNewK, tDisp, tPairs, tCont, tSl, tNoPart, tPart, rSlT, tChain3, qSortS, qEqDL, qNeDL, tFor_enum, tFor_zip, tFor_rng2, tComp_seq, qSetI, qSortSet, cxOf_prog, cxOf_w, cxOf_nox_prog, cxOf_nox_w, cxOf_mg, cxOf_base, cxOf_nox_mg, cxOf_nox_base, cxComp_prog, cxComp_w, cxComp_mg, cxComp_base, tComp_zipT, tCallL, rSlA, rSlL, tDX, tDXs, tTup, tLst, tBM,
  qEq, qNe, qIn, qNotIn, qIsN, qNotN, qIsB, qNotB, qLen, qInst, qEqD, qNeD, qMinL, qMaxL, qSortI, rIx, rIxL, rIxT, rIxS, rCat, rCatT2, rRep, rRepT, rLeS, rLtS, rAppend, rExtend, tNever, tBreak, tYes,
  tFor_tup, tFor_list, tFor_rng1, tComp_tup, tComp_list, tComp_str, L2.start, cxOf_K, cxOf_nox_K, cxComp_K, List.map_cons, List.map_nil, List.length_cons, List.length_nil, List.replicate_succ, List.replicate_zero, Nat.reduceAdd, Nat.reduceSub, Nat.zero_add, Nat.add_zero, Nat.sub_zero, Nat.sub_self, Nat.add_sub_cancel,
  List.getElem?_cons_zero, List.getElem?_cons_succ, List.set_cons_zero, List.set_cons_succ, List.cons_append, List.nil_append, List.append_nil, List.cons.injEq, Option.some.injEq, V.int.injEq, V.ref.injEq, V.str.injEq, V.bl.injEq, V.ty.injEq,
  reduceCtorEq, false_and, and_false, and_true, true_and, exists_false, exists_const, false_or, or_false, exists_eq_left, exists_eq_left', exists_eq_right, exists_eq_right', exists_and_left, decide_eq_true_eq, Bool.not_eq_true', Bool.decide_eq_true, exists_eq, true_or, or_true, Bool.false_eq_true, if_true, if_false, Bool.true_eq_false, Bool.not_true, Bool.not_false, decide_true, decide_false, List.isEmpty_cons, List.isEmpty_nil, Bool.true_and, Bool.false_and, bne_self_eq_false, beq_self_eq_true])
local macro_rules | `(tactic| walk_at "rdb") => `(tactic| simp (config := { maxSteps := 2000000 }) only [tSeq, tIfS, tTest, tOp, tVar, tC, tAsg, gName, gTup, gCons, gNil, tRet, tRetN, tDrop, tNext, tCB, tCons, tNil, tCall, tUn, rU, rI0, rI, tAnd, tOr, tNot, tB, tAndV, tOrV, tNotV, tIf, tIfT, tKGet, tChain, tDGet, tDGet1, sDPut, tDNewK, tDisp, tPairs, tCont, tSl, tNoPart, tPart, rSlT, tChain3, qSortS, qEqDL, qNeDL, tFor_enum, tFor_zip, tFor_rng2, tComp_seq, qSetI, qSortSet, cxOf_prog, cxOf_w, cxOf_nox_prog, cxOf_nox_w, cxOf_mg, cxOf_base, cxOf_nox_mg, cxOf_nox_base, cxComp_prog, cxComp_w, cxComp_mg, cxComp_base, tComp_zipT, tCallL, rSlA, rSlL, tDX, tDXs, tTup, tLst, tBM,
  qEq, qNe, qIn, qNotIn, qIsN, qNotN, qIsB, qNotB, qLen, qInst, qEqD, qNeD, qMinL, qMaxL, qSortI, rIx, rIxL, rIxT, rIxS, rCat, rCatT2, rRep, rRepT, rLeS, rLtS, rAppend, rExtend, tNever, tBreak, tYes,
  tFor_tup, tFor_list, tFor_rng1, tComp_tup, tComp_list, tComp_str, L2.start, cxOf_K, cxOf_nox_K, cxComp_K, List.map_cons, List.map_nil, List.length_cons, List.length_nil, List.replicate_succ, List.replicate_zero, Nat.reduceAdd, Nat.reduceSub, Nat.zero_add, Nat.add_zero, Nat.sub_zero, Nat.sub_self, Nat.add_sub_cancel,
  List.getElem?_cons_zero, List.getElem?_cons_succ, List.set_cons_zero, List.set_cons_succ, List.cons_append, List.nil_append, List.append_nil, List.cons.injEq, Option.some.injEq, V.int.injEq, V.ref.injEq, V.str.injEq, V.bl.injEq, V.ty.injEq,
  reduceCtorEq, false_and, and_false, and_true, true_and, exists_false, exists_const, false_or, or_false, exists_eq_left, exists_eq_left', exists_eq_right, exists_eq_right', exists_and_left, decide_eq_true_eq, Bool.not_eq_true', Bool.decide_eq_true, exists_eq, true_or, or_true, Bool.false_eq_true, if_true, if_false, Bool.true_eq_false, Bool.not_true, Bool.not_false, decide_true, decide_false, List.isEmpty_cons, List.isEmpty_nil, Bool.true_and, Bool.false_and, bne_self_eq_false, beq_self_eq_true])
section
variable {P : Program} {w : World} {K : PySem.W.Frag} {mg : Str → Option Value} {base : Heap} {f : Addr} {fd : FuncData}
def abc : List Str := ["a", "b", "c", "d", "e"]
def insN (n : Nat) : List Dm := (abc.take n).map fun x => Dm.tup [.str x, .int 0, .int 1]
def deedD : Dm := .tup [.str "set", .str "x", .tup [.str "num", .int 1]]
theorem p_ins {n : Nat} (h : n = 4 ∨ n = 5) : Prog (.tup [.tup (insN n), .tup []]) (decide ((n : Int) < 5)) ∧ smallD (.tup [.tup (insN n), .tup []]) := by
  rcases h with rfl | rfl
  · exact ⟨.inr ⟨insN 4, [], by rw [encB], by decide +kernel, by decide, by decide, by decide, by decide +kernel⟩, smallDb_ok (by decide +kernel)⟩
  · exact ⟨.inl ⟨by decide +kernel, rfl⟩, smallDb_ok (by decide +kernel)⟩
theorem dta_rep {H : Hp} {x : List V} {ds : List Dm} (h : DtA H x ds) : ∀ k : Nat, DtA H (List.replicate k x).flatten (List.replicate k ds).flatten
  | 0 => .nil
  | k + 1 => by
    rw [List.replicate_succ, List.replicate_succ, List.flatten_cons, List.flatten_cons]
    exact h.append (dta_rep h k)
theorem p_rep {n : Nat} (h : n = 4 ∨ n = 5) : Prog (.tup [.tup [], .tup (List.replicate (n + 2) [deedD]).flatten]) (decide ((n : Int) < 5)) ∧ smallD (.tup [.tup [], .tup (List.replicate (n + 2) [deedD]).flatten]) := by
  rcases h with rfl | rfl
  · exact ⟨.inr ⟨[], List.replicate 6 (D.set "x" (.num 1)), rfl, by decide +kernel, by decide, by decide, by decide, by decide +kernel⟩, smallDb_ok (by decide +kernel)⟩
  · exact ⟨.inl ⟨by decide +kernel, rfl⟩, smallDb_ok (by decide +kernel)⟩
theorem p_nm : ∀ dx ∈ [Dm.str "aB", .str "a1", .str "Ab"], Prog (.tup [.tup [.tup [dx, .int 0, .int 1]], .tup []]) false ∧ smallD (.tup [.tup [.tup [dx, .int 0, .int 1]], .tup []]) := by
  intro dx h
  simp only [List.mem_cons, List.not_mem_nil, or_false] at h
  rcases h with rfl | rfl | rfl <;> exact ⟨no_ins (by decide +kernel), smallDb_ok (by decide +kernel)⟩
def exprD : Nat → Dm
  | 0 => plainD
  | i + 1 => .tup [.str "add", exprD i, plainD]
def blkD : Nat → Dm
  | 0 => .tup [deedD]
  | i + 1 => .tup [.tup [.str "while", .tup [.str "num", .int 0], .int 1, blkD i]]
theorem p_expr {n : Nat} (h : n = 4 ∨ n = 5) : Prog (.tup [.tup [], .tup [.tup [.str "set", .str "x", exprD n]]]) (decide ((n : Int) < 5)) ∧ smallD (.tup [.tup [], .tup [.tup [.str "set", .str "x", exprD n]]]) := by
  rcases h with rfl | rfl
  · exact ⟨.inr ⟨[], [D.set "x" (.op .add (.op .add (.op .add (.op .add (.num 1) (.num 1)) (.num 1)) (.num 1)) (.num 1))], rfl, by decide +kernel, by decide, by decide, by decide, by decide +kernel⟩, smallDb_ok (by decide +kernel)⟩
  · exact ⟨.inl ⟨by decide +kernel, rfl⟩, smallDb_ok (by decide +kernel)⟩
theorem p_blk {n : Nat} (h : n = 4 ∨ n = 5) : Prog (.tup [.tup [], blkD (n - 2)]) (decide ((n : Int) < 5)) ∧ smallD (.tup [.tup [], blkD (n - 2)]) := by
  rcases h with rfl | rfl
  · exact ⟨.inr ⟨[], [D.whl (.num 0) 1 [D.whl (.num 0) 1 [D.set "x" (.num 1)]]], rfl, by decide +kernel, by decide, by decide, by decide, by decide +kernel⟩, smallDb_ok (by decide +kernel)⟩
  · exact ⟨.inl ⟨by decide +kernel, rfl⟩, smallDb_ok (by decide +kernel)⟩
def EI (H : Hp) (a r la : Addr) (n : Int) (vd : V) (x7 : Option V) (j : Nat) (σ : St) (Hc : Hp) : Prop := ∃ (v5 : V) (x6 : Option V), σ = [some (.ref a), some (.ref r), some (.int n), some (.ref la), some vd, some v5, x6, x7] ∧ Same H Hc ∧ Dt Hc v5 (exprD j)
def WI (H : Hp) (a r la : Addr) (n : Int) (vd v5 : V) (j : Nat) (σ : St) (Hc : Hp) : Prop := ∃ (v7 : V) (x6 : Option V), σ = [some (.ref a), some (.ref r), some (.int n), some (.ref la), some vd, some v5, x6, some v7] ∧ Same H Hc ∧ Dt Hc v7 (blkD j)
def spOnce (K : PySem.W.Frag) : Sp := fun vs H Q _ => ∃ (a : Addr) (ns : List Int), vs = [.ref a] ∧ SqL K H a (ns.map V.int) ∧ ∀ (H' : Hp), Same H H' → Q (.bl true) H'
theorem ok_law_once (F : Fun K "_law_once" "_law_once" s_law_once f fd) (b_range : mg "range" = none) (b_tuple : mg "tuple" = none) (c_law_pick : Callee P w K mg base "_law_pick" ["_law_script", "_law_k", "_law_many"] 2 (spPick K)) (c_law_program : Callee P w K mg base "_law_program" ["_law_script", "_law_at"] 11 (spProgram K))
    (c_is_program : Callee P w K mg base "is_program" ["thing"] 17 spProg) (c_law_bad : Callee P w K mg base "_law_bad" ["_law_program_here", "_law_cell_here"] 1 (spBad K)) : FnOk P w K mg base CX0 21 f fd ["_law_script"] (spOnce K) := by
  refine F.ok sc_law_once (fun vs H Q E h => ?_) (fun cdv A outer s H vs Q E hr h => ?_)
  · obtain ⟨a, ns, rfl, _⟩ := h
    rfl
  obtain ⟨a, ns, rfl, hS, q⟩ := h
  refine ⟨_, (pss_cons (ps_set (i := 1) sc_law_once.nd rfl loc_law_once__law_program_here (pe_cc c_law_program hr (by omega) (pa_c (pe_var (i := 0) rfl vis_law_once__law_script db__law_script cd__law_script) (pa_c pe_int pa_nil)) gl_law_once__law_program db__law_program) (swaps_plain rfl))
  (pss_cons (ps_if (pt_cmpR gNotB (pe_cc c_is_program hr (by omega) (pa_c (pe_var (i := 1) rfl vis_law_once__law_program_here db__law_program_here cd__law_program_here) pa_nil) gl_law_once_is_program db_is_program) pe_bl (nomark _)) (pss_one (ps_ret pe_bl)) pss_nil)
  (pss_cons (ps_if (pt_cmpR gNotB (pe_cc c_is_program hr (by omega) (pa_c (pe_cc c_law_bad hr (by omega) (pa_c (pe_var (i := 1) rfl vis_law_once__law_program_here db__law_program_here cd__law_program_here) (pa_c (pe_cc c_law_pick hr (by omega) (pa_c (pe_var (i := 0) rfl vis_law_once__law_script db__law_script cd__law_script) (pa_c pe_int (pa_c (pe_op op_pow pe_int pe_int) pa_nil))) gl_law_once__law_pick db__law_pick) pa_nil)) gl_law_once__law_bad db__law_bad) pa_nil) gl_law_once_is_program db_is_program) pe_bl (nomark _)) (pss_one (ps_ret pe_bl)) pss_nil)
  (pss_cons (ps_set (i := 2) sc_law_once.nd rfl loc_law_once__law_many (pe_op op_add pe_int (pe_cc c_law_pick hr (by omega) (pa_c (pe_var (i := 0) rfl vis_law_once__law_script db__law_script cd__law_script) (pa_c pe_int (pa_c pe_int pa_nil))) gl_law_once__law_pick db__law_pick)) (swaps_plain rfl))
  (pss_cons (ps_set (i := 3) sc_law_once.nd rfl loc_law_once__law_ins (pe_cT call_tuple_of gl_law_once_tuple b_tuple bt_tuple (pa_c (pe_comp ["_law_name"] [none] rfl (CompS.of (by rfl)) (pi_list (pe_slice sl_list (pe_lst (pa_c pe_str (pa_c pe_str (pa_c pe_str (pa_c pe_str (pa_c pe_str pa_nil)))))) po_none (po_some (pe_var (i := 2) rfl vis_law_once__law_many db__law_many cd__law_many)))) (fun _ _ _ _ _ => (pg_name (i := 0) (show List.Nodup (["_law_name"] : List Str) from by decide +kernel) rfl (Or.inl rfl))) (fun _ _ _ _ _ => pif_nil) (fun _ _ _ _ _ => (dx_tup (dxs_c (dx_var (pe_var (i := 0) rfl (by first | exact Or.inl rfl | exact Or.inr (Or.inl rfl) | exact Or.inr (Or.inr rfl)) db__law_name cd__law_name)) (dxs_c dx_int (dxs_c dx_int dxs_nil)))))) pa_nil) nn_tuple db_tuple) (swaps_plain rfl))
  (pss_cons (ps_set (i := 4) sc_law_once.nd rfl loc_law_once__law_deed (dx_tup (dxs_c dx_str (dxs_c dx_str (dxs_c (dx_tup (dxs_c dx_str (dxs_c dx_int dxs_nil))) dxs_nil)))) (swaps_plain rfl))
  (pss_cons (ps_if (PW.pt (pw_or (pt_cmpR (gNe hr.units) (pe_cc c_is_program hr (by omega) (pa_c (dx_tup (dxs_c (dx_var (pe_var (i := 3) rfl vis_law_once__law_ins db__law_ins cd__law_ins)) (dxs_c (dx_tup dxs_nil) dxs_nil))) pa_nil) gl_law_once_is_program db_is_program) (pe_cmpR op_lt (pe_var (i := 2) rfl vis_law_once__law_many db__law_many cd__law_many) pe_int (nomark _)) (nomark _)) (pw_or1 (pt_cmpR (gNe hr.units) (pe_cc c_is_program hr (by omega) (pa_c (pe_tup (pa_c (dx_tup dxs_nil) (pa_c (pe_op op_repT (dx_tup (dxs_c (dx_var (pe_var (i := 4) rfl vis_law_once__law_deed db__law_deed cd__law_deed)) dxs_nil)) (pe_op op_add (pe_var (i := 2) rfl vis_law_once__law_many db__law_many cd__law_many) pe_int)) pa_nil))) pa_nil) gl_law_once_is_program db_is_program) (pe_cmpR op_lt (pe_var (i := 2) rfl vis_law_once__law_many db__law_many cd__law_many) pe_int (nomark _)) (nomark _))))) (pss_one (ps_ret pe_bl)) pss_nil)
  (pss_cons (ps_if (pt_cmpR (gNe hr.units) (pe_comp ["_law_name"] [none] rfl (CompS.of (by rfl)) (pi_tup (dx_tup (dxs_c dx_str (dxs_c dx_str (dxs_c dx_str dxs_nil))))) (fun _ _ _ _ _ => (pg_name (i := 0) (show List.Nodup (["_law_name"] : List Str) from by decide +kernel) rfl (Or.inl rfl))) (fun _ _ _ _ _ => pif_nil) (fun _ _ _ _ _ => (pe_cc c_is_program hr (by omega) (pa_c (dx_tup (dxs_c (dx_tup (dxs_c (dx_tup (dxs_c (dx_var (pe_var (i := 0) rfl (by first | exact Or.inl rfl | exact Or.inr (Or.inl rfl) | exact Or.inr (Or.inr rfl)) db__law_name cd__law_name)) (dxs_c dx_int (dxs_c dx_int dxs_nil)))) dxs_nil)) (dxs_c (dx_tup dxs_nil) dxs_nil))) pa_nil) rfl db_is_program))) (pe_op op_rep (pe_lst (pa_c pe_bl pa_nil)) pe_int) (nomark _)) (pss_one (ps_ret pe_bl)) pss_nil)
  (pss_cons (ps_set (i := 5) sc_law_once.nd rfl loc_law_once__law_expr (dx_tup (dxs_c dx_str (dxs_c dx_int dxs_nil))) (swaps_plain rfl))
  (pss_cons (ps_for PassesOwn.never rfl (pi_range1 gl_law_once_range b_range (pa_c (pe_var (i := 2) rfl vis_law_once__law_many db__law_many cd__law_many) pa_nil)) (pg_name (i := 6) sc_law_once.nd rfl loc_law_once__law_k)
  (pss_one (ps_set (i := 5) sc_law_once.nd rfl loc_law_once__law_expr (dx_tup (dxs_c dx_str (dxs_c (dx_var (pe_var (i := 5) rfl vis_law_once__law_expr db__law_expr cd__law_expr)) (dxs_c (dx_tup (dxs_c dx_str (dxs_c dx_int dxs_nil))) dxs_nil)))) (swaps_plain rfl))))
  (pss_cons (ps_set (i := 7) sc_law_once.nd rfl loc_law_once__law_block_here (dx_tup (dxs_c (dx_var (pe_var (i := 4) rfl vis_law_once__law_deed db__law_deed cd__law_deed)) dxs_nil)) (swaps_plain rfl))
  (pss_cons (ps_for PassesOwn.never rfl (pi_range1 gl_law_once_range b_range (pa_c (pe_op op_sub (pe_var (i := 2) rfl vis_law_once__law_many db__law_many cd__law_many) pe_int) pa_nil)) (pg_name (i := 6) sc_law_once.nd rfl loc_law_once__law_k)
  (pss_one (ps_set (i := 7) sc_law_once.nd rfl loc_law_once__law_block_here (dx_tup (dxs_c (dx_tup (dxs_c dx_str (dxs_c (dx_tup (dxs_c dx_str (dxs_c dx_int dxs_nil))) (dxs_c dx_int (dxs_c (dx_var (pe_var (i := 7) rfl vis_law_once__law_block_here db__law_block_here cd__law_block_here)) dxs_nil))))) dxs_nil)) (swaps_plain rfl))))
  (pss_one (ps_ret (pe_and (pe_cmpR (gEq hr.units) (pe_cc c_is_program hr (by omega) (pa_c (dx_tup (dxs_c (dx_tup dxs_nil) (dxs_c (dx_tup (dxs_c (dx_tup (dxs_c dx_str (dxs_c dx_str (dxs_c (dx_var (pe_var (i := 5) rfl vis_law_once__law_expr db__law_expr cd__law_expr)) dxs_nil)))) dxs_nil)) dxs_nil))) pa_nil) gl_law_once_is_program db_is_program) (pe_cmpR op_lt (pe_var (i := 2) rfl vis_law_once__law_many db__law_many cd__law_many) pe_int (nomark _)) (nomark _)) (pe_one (pe_cmpR (gEq hr.units) (pe_cc c_is_program hr (by omega) (pa_c (dx_tup (dxs_c (dx_tup dxs_nil) (dxs_c (dx_var (pe_var (i := 7) rfl vis_law_once__law_block_here db__law_block_here cd__law_block_here)) dxs_nil))) pa_nil) gl_law_once_is_program db_is_program) (pe_cmpR op_lt (pe_var (i := 2) rfl vis_law_once__law_many db__law_many cd__law_many) pe_int (nomark _)) (nomark _)))))))))))))))))), ?_⟩
  walk_at "rdb"
  refine ⟨a, ns, 0, rfl, hS, by decide, fun r ri rb H1 rows b g' s1 e1 d1 d2 okr okb hbl hbn kn => ?_⟩
  obtain ⟨pr, sm⟩ := prog_ok okr okb hbl kn
  refine ⟨_, _, true, rfl, .tup e1 (.cons d1 (.cons d2 .nil)), sm, pr, fun H2 s2 => ⟨_, rfl, ?_⟩⟩
  rw [if_neg (by decide)]
  refine ⟨⟨by decide, by decide, by decide⟩, a, ns, _, _, rfl, (s1.trans s2).seq hS, by decide, by decide, fun c H3 c1 c2 s3 => ?_⟩
  have s23 := s2.trans s3
  refine ⟨r, _, _, rows.map rowEnc, encB b, c, rfl, s23 _ _ e1, d1.kp s23.kp, d2.kp s23.kp, by rw [List.length_map]; have := okr.len; omega, by rw [encB_length]; omega, c1, fun rx H4 d s4 dd bad => ?_⟩
  obtain ⟨pb, sb⟩ := bad_bad okr okb bad
  refine ⟨_, _, false, rfl, dd, sb, pb, fun H5 s5 => ⟨_, rfl, ?_⟩⟩
  rw [if_neg (by decide)]
  have s05 := s1.trans (s23.trans (s4.trans s5))
  refine ⟨a, ns, _, 2, rfl, s05.seq hS, by decide, by decide, fun m H6 m1 m2 s6 => ⟨_, rfl, zl 5 (by decide), fun p7 hp7 => ?_⟩⟩
  have s07 := s05.trans (s6.trans (same_new hp7 (HO.lst (abc.map V.str))))
  have e7 : upd H6 p7 (HO.lst (abc.map V.str)) p7 = _ := upd_same
  rw [show (HO.lst [V.str (Str.ofString "a"), V.str (Str.ofString "b"), V.str (Str.ofString "c"), V.str (Str.ofString "d"), V.str (Str.ofString "e")]) = HO.lst (abc.map V.str) from rfl]
  generalize upd H6 p7 (HO.lst (abc.map V.str)) = H7 at s07 e7 ⊢
  obtain ⟨n, hn, hm⟩ : ∃ n : Nat, (n = 4 ∨ n = 5) ∧ 4 + m = (n : Int) := ⟨(4 + m).toNat, by omega, by omega⟩
  rw [hm]
  refine ⟨_, SqL.of e7, fun p8 hp8 => ?_⟩
  rw [show cutV (abc.map V.str) none (some (n : Int)) = (abc.take n).map V.str by rcases hn with rfl | rfl <;> rfl]
  have s08 := s07.trans (same_new hp8 (HO.lst ((abc.take n).map V.str)))
  have e8 : upd H7 p8 (HO.lst ((abc.take n).map V.str)) p8 = _ := upd_same
  generalize upd H7 p8 (HO.lst ((abc.take n).map V.str)) = H8 at s08 e8 ⊢
  have k8 : ∀ (l : List Str), DtA H8 (l.map V.str) (l.map Dm.str) := by
    intro l
    induction l with
    | nil => exact .nil
    | cons x r ih => exact .cons (.str x) ih
  refine ⟨⟨_, SqL.of e8⟩, comp_datL (t0 := none) (rest := []) (fun d => .tup [d, .int 0, .int 1]) e8 (k8 _) (by rw [List.length_map, List.length_take]; omega) ?_ ?_⟩
  · intro x dx t H' R R0 hdx s dd r1
    walk_at "rd"
    exact ⟨fun _ => dx, (env1 (k := 0) rfl dd).fit rfl, fun v H' s' dv => r1 _ _ _ s' dv⟩
  intro ys H9 l9 s9 k9 hl9
  rw [List.map_map, show ((fun d => Dm.tup [d, Dm.int 0, Dm.int 1]) ∘ Dm.str) = (fun x => Dm.tup [.str x, .int 0, .int 1]) from rfl, show (abc.take n).map (fun x => Dm.tup [.str x, .int 0, .int 1]) = insN n from rfl] at k9
  refine ⟨_, rfl, _, .inl ⟨SqL.of upd_same, fun la hla => ?_⟩⟩
  have ua := (same_new hl9 (HO.lst ys)).trans (same_new hla (HO.tup ys))
  have s0a := s08.trans (s9.trans ua)
  have ka : Dt (upd (upd H9 l9 (HO.lst ys)) la (HO.tup ys)) (.ref la) (.tup (insN n)) := .tup upd_same (k9.kp ua.kp)
  generalize upd (upd H9 l9 (HO.lst ys)) la (HO.tup ys) = Ha at s0a ka ⊢
  refine ⟨fun _ => .non, env0.fit rfl, fun vd Hb sb kb => ?_⟩
  have kb : Dt Hb vd deedD := kb
  refine ⟨fun _ => .tup (insN n), (env1 (k := 3) rfl (ka.kp sb.kp)).fit rfl, fun v1 Hc sc kc => ?_⟩
  have kc : Dt Hc v1 (.tup [.tup (insN n), .tup []]) := kc
  obtain ⟨q1, q2⟩ := p_ins hn
  refine ⟨_, _, _, rfl, kc, q2, q1, fun Hd sd => ?_⟩
  dsimp only
  refine ⟨_, ⟨rfl, rfl⟩, ?_⟩
  rw [if_neg (by simp)]
  have sbd := sc.trans sd
  refine ⟨fun _ => .non, env0.fit rfl, fun v2 He se ke => ?_⟩
  have ke : Dt He v2 (.tup []) := ke
  refine ⟨fun _ => deedD, (env1 (k := 4) rfl (kb.kp (sbd.trans se).kp)).fit rfl, fun v3 Hf sf kf => ?_⟩
  have kf : Dt Hf v3 (.tup [deedD]) := kf
  cases kf with
  | @tup l3 x3 _ e3 r3 =>
  have l31 : x3.length = 1 := r3.length
  have n3 : x3 ≠ [] := fun z => by rw [z] at l31; cases l31
  refine ⟨l3, rfl, x3, SqT.of e3, by omega, by omega, n3, by rw [l31]; exact zl _ (by omega), fun p4 hp4 => ⟨zl 2 (by decide), fun p5 hp5 => ?_⟩⟩
  rw [show ((n : Int) + 2).toNat = n + 2 by omega] at hp5 ⊢
  have u4 := same_new hp4 (HO.tup (List.replicate (n + 2) x3).flatten)
  have u5 := same_new hp5 (HO.tup [v2, .ref p4])
  have k5 : Dt (upd (upd Hf p4 (HO.tup (List.replicate (n + 2) x3).flatten)) p5 (HO.tup [v2, .ref p4])) (.ref p5) (.tup [.tup [], .tup (List.replicate (n + 2) [deedD]).flatten]) :=
    .tup upd_same (.cons (ke.kp (sf.trans (u4.trans u5)).kp) (.cons (.tup (u5 _ _ upd_same) ((dta_rep r3 (n + 2)).kp (u4.trans u5).kp)) .nil))
  have sa5 := sbd.trans (se.trans (sf.trans (u4.trans u5)))
  generalize upd (upd Hf p4 (HO.tup (List.replicate (n + 2) x3).flatten)) p5 (HO.tup [v2, .ref p4]) = Hg at k5 sa5 ⊢
  obtain ⟨q3, q4⟩ := p_rep hn
  refine ⟨_, _, _, rfl, k5, q4, q3, fun Hh sh => ?_⟩
  have sbh : Same Hb Hh := sa5.trans sh
  have s0h := s0a.trans (sb.trans sbh)
  clear k5 sa5 u4 u5 hp4 hp5 r3 e3
  dsimp only
  refine ⟨_, ⟨rfl, rfl⟩, ?_⟩
  rw [if_neg (by simp)]
  refine ⟨fun _ => .non, env0.fit rfl, fun v6 Hi si ki => ?_⟩
  have ki : Dt Hi v6 (.tup [.str "aB", .str "a1", .str "Ab"]) := ki
  cases ki with
  | @tup l6 x6 _ e6 r6 =>
  refine ⟨_, rfl, ⟨_, SqT.of e6⟩, ?_⟩
  refine comp_datT (t0 := none) (rest := []) (fun _ => .bl false) e6 r6 (by simp) ?_ ?_
  · intro x dx t H' R R0 hdx s dd r1
    walk_at "rd"
    obtain ⟨w1, w2⟩ := p_nm dx hdx
    exact ⟨fun _ => dx, (env1 (k := 0) rfl dd).fit rfl, fun v H2 s2 dv => ⟨_, _, _, rfl, dv, w2, w1, fun H3 s3 => r1 _ _ _ (s2.trans s3) (.bl _)⟩⟩
  intro ys' Hj lj sj kj hlj
  have ey : ys' = [V.bl false, V.bl false, V.bl false] := by
    rcases kj with _ | ⟨⟨⟩, _ | ⟨⟨⟩, _ | ⟨⟨⟩, ⟨⟩⟩⟩⟩
    rfl
  subst ey
  have uj := same_new hlj (HO.lst [V.bl false, V.bl false, V.bl false])
  have ej : upd Hj lj (HO.lst [V.bl false, V.bl false, V.bl false]) lj = _ := upd_same
  have sbj := sbh.trans (si.trans (sj.trans uj))
  generalize upd Hj lj (HO.lst [V.bl false, V.bl false, V.bl false]) = Hk at ej sbj ⊢
  refine ⟨zl 1 (by decide), fun pk hpk => ⟨_, upd_same, by decide, by decide, zl 3 (by decide), fun pl hpl => ?_⟩⟩
  have uk := same_new hpk (HO.lst [V.bl false])
  have ul := same_new hpl (HO.lst (List.replicate (Int.toNat 3) [V.bl false]).flatten)
  refine ⟨_, .inr ⟨_, rfl, _, SqL.of ((uk.trans ul) _ _ ej), _, SqL.of upd_same, rfl, rfl, rfl⟩, ?_⟩
  rw [if_neg (by decide)]
  have sbl := sbj.trans (uk.trans ul)
  generalize upd (upd Hk pk (HO.lst [V.bl false])) pl (HO.lst (List.replicate (Int.toNat 3) [V.bl false]).flatten) = Hl at sbl ⊢
  refine ⟨fun _ => .non, env0.fit rfl, fun v5 Hm sm' km => ⟨by omega, by omega, ?_⟩⟩
  have km : Dt Hm v5 plainD := km
  refine for_range (lo := 0) (n := (n : Int).toNat) (EI Hm a r la n vd none) ?r1 ?r2 ?r3
  case r1 => exact ⟨_, _, rfl, Same.refl _, km⟩
  case r2 =>
    rintro j σ Hn hj ⟨v5', x6', rfl, sn, kn'⟩
    walk_at "rd"
    exact ⟨fun _ => exprD j, (env1 (k := 5) rfl (kn')).fit rfl, fun v Ho so ko => ⟨_, _, rfl, sn.trans so, ko⟩⟩
  case r3 =>
    rintro σ Hn ⟨v5', x6', rfl, sn, kn'⟩
    have kn' : Dt Hn v5' (exprD n) := by simpa using kn'
    have sbn := sbl.trans (sm'.trans sn)
    walk_at "rd"
    refine ⟨fun _ => deedD, (env1 (k := 4) rfl (kb.kp sbn.kp)).fit rfl, fun v7 Ho so ko => ⟨by omega, by omega, ?_⟩⟩
    have ko : Dt Ho v7 (blkD 0) := ko
    refine for_range (lo := 0) (n := ((n : Int) - 2).toNat) (WI Ho a r la n vd v5') ?t1 ?t2 ?t3
    case t1 => exact ⟨_, _, rfl, Same.refl _, ko⟩
    case t2 =>
      rintro j σ Hp' hj ⟨v7', x6'', rfl, sp, kp'⟩
      walk_at "rd"
      exact ⟨fun _ => blkD j, (env1 (k := 7) rfl (kp')).fit rfl, fun v Hq sq kq => ⟨_, _, rfl, sp.trans sq, kq⟩⟩
    case t3 =>
      rintro σ Hp' ⟨v7', x6'', rfl, sp, kp'⟩
      have kp' : Dt Hp' v7' (blkD (n - 2)) := by
        rw [show ((n : Int) - 2).toNat = n - 2 by omega] at kp'
        exact kp'
      have kx := kn'.kp (so.trans sp).kp
      walk_at "rd"
      obtain ⟨y1, y2⟩ := p_expr hn
      obtain ⟨z1, z2⟩ := p_blk hn
      refine ⟨fun _ => exprD n, (env1 (k := 5) rfl (kx)).fit rfl, fun v Hq sq kq => ⟨_, _, _, rfl, kq, y2, y1, fun Hr sr => ?_⟩⟩
      refine ⟨true, .inl ⟨rfl, by simp⟩, ?_⟩
      rw [if_pos rfl]
      refine ⟨fun _ => blkD (n - 2), (env1 (k := 7) rfl (kp'.kp (sq.trans sr).kp)).fit rfl, fun v' Hs ss ks => ⟨_, _, _, rfl, ks, z2, z1, fun Ht st => ⟨true, .inl ⟨rfl, by simp⟩, ?_⟩⟩⟩
      exact q _ (s0a.trans (sb.trans (sbn.trans (so.trans (sp.trans (sq.trans (sr.trans (ss.trans st))))))))
end
end SR


set_option Elab.async false
set_option linter.all false
set_option maxRecDepth 100000
set_option maxHeartbeats 0
namespace SR
open PySem L2
local macro_rules | `(tactic| walk_at "rd") => `(tactic| simp only [tSeq, tIfS, tTest, tOp, tVar, tC, tAsg, gName, gTup, gCons, gNil, tRet, tRetN, tDrop, tNext, tCB, tCons, tNil, tCall, tUn, rU, rI0, rI, tAnd, tOr, tNot, tB, tAndV, tOrV, tNotV, tIf, tIfT, tKGet, tChain, tDGet, tDGet1, sDPut, tDNewK, tDisp, tPairs, tCont, tSl, tNoPart, tPart, rSlT, tChain3, qSortS, qEqDL, qNeDL, tFor_enum, tFor_zip, tFor_rng2, tComp_seq, qSetI, qSortSet, cxOf_prog, cxOf_w, cxOf_nox_prog, cxOf_nox_w, cxOf_mg, cxOf_base, cxOf_nox_mg, cxOf_nox_base, cxComp_prog, cxComp_w, cxComp_mg, cxComp_base, tComp_zipT, tCallL, rSlA, rSlL, tDX, tDXs, tTup, tLst, tBM,
  qEq, qNe, qIn, qNotIn, qIsN, qNotN, qIsB, qNotB, qLen, qInst, qEqD, qNeD, qMinL, qMaxL, qSortI, rIx, rIxL, rIxT, rIxS, rCat, rCatT2, rRep, rRepT, rLeS, rLtS, rAppend, rExtend, tNever, tBreak, tYes,
  tFor_tup, tFor_list, tFor_rng1, tComp_tup, tComp_list, tComp_str, L2.start, cxOf_K, cxOf_nox_K, cxComp_K, List.map_cons, List.map_nil, List.length_cons, List.length_nil, List.replicate_succ, List.replicate_zero, Nat.reduceAdd, Nat.reduceSub, Nat.zero_add, Nat.add_zero, Nat.sub_zero, Nat.sub_self, Nat.add_sub_cancel,
  List.getElem?_cons_zero, List.getElem?_cons_succ, List.set_cons_zero, List.set_cons_succ, List.cons_append, List.nil_append, List.append_nil, List.cons.injEq, Option.some.injEq, V.int.injEq, V.ref.injEq, V.str.injEq, V.bl.injEq, V.ty.injEq,
  reduceCtorEq, false_and, and_false, and_true, true_and, exists_false, exists_const, false_or, or_false, exists_eq_left, exists_eq_left', exists_eq_right, exists_eq_right', exists_and_left, decide_eq_true_eq, Bool.not_eq_true', Bool.decide_eq_true, exists_eq, true_or, or_true, Bool.false_eq_true, if_true, if_false, Bool.true_eq_false, Bool.not_true, Bool.not_false, decide_true, decide_false, List.isEmpty_cons, List.isEmpty_nil, Bool.true_and, Bool.false_and, bne_self_eq_false, beq_self_eq_true])
section
variable {P : Program} {w : World} {K : PySem.W.Frag} {mg : Str → Option Value} {base : Heap} {f : Addr} {fd : FuncData}
theorem none_term {k : Nat} : FnOk P w K mg base CX0 k f fd ["thing", "levels"] (spTerm 0) := by
  have no : ∀ vs H Q E, ¬ spTerm 0 vs H Q E := fun vs H Q E h => by
    obtain ⟨v, d, m, _, _, _, h1, _⟩ := h
    omega
  exact ⟨fun vs H Q E h => absurd h (no vs H Q E), fun A outer s H args us vs Q E _ _ _ _ h => absurd h (no vs H Q E)⟩
theorem all_term (d : Df K mg "is_term" s_is_term ["thing", "levels"] f fd) (c_is_tuple_of : Callee P w K mg base "is_tuple_of" ["thing", "many"] 1 spTupOf) (c_is_name : Callee P w K mg base "is_name" ["thing"] 1 spName) (c_is_whole_from : Callee P w K mg base "is_whole_from" ["thing", "low", "high"] 2 spFrom)
    {aw ai : Addr} (g_WIDE : GC mg "WIDE" (.ref ai)) (hI : ∀ H, SqT K H ai [.int (-32768), .int 32767]) (g_WORDS : GC mg "WORDS" (.ref aw)) (hW : ∀ H, SqT K H aw (words.map V.str)) : ∀ n : Nat, Callee P w K mg base "is_term" ["thing", "levels"] (n + 2) (spTerm n)
  | 0 => d.callee none_term
  | n + 1 => d.callee (ok_is_term d.F c_is_tuple_of c_is_name c_is_whole_from (all_term d c_is_tuple_of c_is_name c_is_whole_from g_WIDE hI g_WORDS hW n) g_WIDE hI g_WORDS hW)
theorem none_blk {k : Nat} : FnOk P w K mg base CX0 k f fd ["thing", "levels"] (spBlk 0) := by
  have no : ∀ vs H Q E, ¬ spBlk 0 vs H Q E := fun vs H Q E h => by
    obtain ⟨v, d, m, _, _, _, h1, _⟩ := h
    omega
  exact ⟨fun vs H Q E h => absurd h (no vs H Q E), fun A outer s H args us vs Q E _ _ _ _ h => absurd h (no vs H Q E)⟩
theorem none_has {k : Nat} : FnOk P w K mg base CX0 k f fd ["term", "known"] (spHas 0) := by
  have no : ∀ vs H Q E, ¬ spHas 0 vs H Q E := fun vs H Q E h => by
    obtain ⟨v, t, k, p, _, _, _, h1, _⟩ := h
    cases t with
    | num i => exact absurd (show 1 ≤ 0 from h1) (by decide)
    | nm x => exact absurd (show 1 ≤ 0 from h1) (by decide)
    | op w a b => rw [T.deep] at h1; omega
  exact ⟨fun vs H Q E h => absurd h (no vs H Q E), fun A outer s H args us vs Q E _ _ _ _ h => absurd h (no vs H Q E)⟩
theorem all_has (d : Df K mg "has_known_names" s_has_known_names ["term", "known"] f fd) : ∀ n : Nat, Callee P w K mg base "has_known_names" ["term", "known"] (n + 1) (spHas n)
  | 0 => d.callee none_has
  | n + 1 => d.callee (ok_has d.F (all_has d n))
end
/-! ### a comprehension over ints -/
def MInv (H : Hp) (rest : St) (ns : List Int) (p : Int → Bool) (f : Int → Int) (i : Nat) (ys : List V) (σ' : St) (H' : Hp) : Prop := Same H H' ∧ (∃ t, σ' = t :: rest) ∧ ys = (((ns.take i).filter p).map f).map V.int
theorem comp_ints {K : PySem.W.Frag} {a : Addr} {ns : List Int} {g : TG} {tt : TT} {te : TE} {H : Hp} {Q : VK} {t0 : Option V} {rest : St} (p : Int → Bool) (f : Int → Int) (hS : SqL K H a (ns.map V.int)) (hn : ns.length ≤ 1000)
    (hs : ∀ (n : Int) (t : Option V) (H' : Hp) (R1 : V → St → Hp → Prop) (R0 : St → Hp → Prop), n ∈ ns → Same H H' → (p n = true → ∀ t H4, Same H H4 → R1 (.int (f n)) (t :: rest) H4) → (p n = false → ∀ t H3, Same H H3 → R0 (t :: rest) H3) →
      g (.int n) (t :: rest) H' fun σ2 H2 => tt σ2 H2 fun b H3 => if b = true then te σ2 H3 (fun v H4 => R1 v σ2 H4) else R0 σ2 H3)
    (hd : ∀ (H' : Hp) (l : Addr), Same H H' → H' l = none → Q (.ref l) (upd H' l (.lst (((ns.filter p).map f).map V.int)))) : CompW (Itl K a) g tt te Q (t0 :: rest) H := by
  refine comp_list (K := K) (a := a) (xs := ns.map V.int) (MInv H rest ns p f) ⟨Same.refl _, ⟨_, rfl⟩, rfl⟩ (small1000 (by rw [List.length_map]; exact hn)) ?_ ?_ ?_ ?_
  · rintro i ys σ' H' ⟨_, _, rfl⟩
    rw [List.length_map, List.length_map]
    exact Nat.le_trans (List.length_filter_le _ _) (by rw [List.length_take]; omega)
  · rintro i ys σ' H' _ ⟨s, _, _⟩
    exact s.seq hS
  · rintro i ys v σ' H' hxi ⟨s, ⟨t, rfl⟩, rfl⟩
    rw [List.getElem?_map] at hxi
    cases hr' : ns[i]? with
    | none => rw [hr'] at hxi; cases hxi
    | some x =>
      rw [hr'] at hxi
      have ev : V.int x = v := by simpa using hxi
      subst ev
      have et : ns.take (i + 1) = ns.take i ++ [x] := by rw [List.take_add_one, hr']; rfl
      refine hs x t H' (fun v σ2 H4 => MInv H rest ns p f (i + 1) ((((ns.take i).filter p).map f).map V.int ++ [v]) σ2 H4) (fun σ2 H3 => MInv H rest ns p f (i + 1) ((((ns.take i).filter p).map f).map V.int) σ2 H3) (List.mem_of_getElem? hr') s (fun e t H4 s4 => ⟨s4, ⟨t, rfl⟩, ?_⟩) (fun e t H3 s3 => ⟨s3, ⟨t, rfl⟩, ?_⟩)
      · rw [et, List.filter_append, List.map_append, List.map_append]
        simp [e]
      · rw [et, List.filter_append, List.map_append, List.map_append]
        simp [e]
  · rintro ys σ' H' ⟨s, _, rfl⟩ l hl
    have := hd H' l s hl
    rw [List.length_map, List.take_length]
    exact this
section
variable {P : Program} {w : World} {K : PySem.W.Frag} {mg : Str → Option Value} {base : Heap} {f : Addr} {fd : FuncData}
def LI (H : Hp) (a : Addr) (j : Nat) (σ : St) (Hc : Hp) : Prop := ∃ x1 : Option V, σ = [some (.ref a), x1] ∧ Same H Hc
def spLaw (K : PySem.W.Frag) : Sp := fun vs H Q _ => ∃ (a : Addr) (ns : List Int), vs = [.ref a] ∧ SqL K H a (ns.map V.int) ∧ ns.length ≤ 63 ∧ ∀ H', Q (.bl true) H'
theorem ok_law (F : Fun K "law" "law" s_law f fd) (b_range : mg "range" = none) (c_law_once : Callee P w K mg base "_law_once" ["_law_script"] 21 (spOnce K)) : FnOk P w K mg base CX0 22 f fd ["_law_script"] (spLaw K) := by
  refine F.ok sc_law (fun vs H Q E h => ?_) (fun cdv A outer s H vs Q E hr h => ?_)
  · obtain ⟨a, ns, rfl, _⟩ := h
    rfl
  obtain ⟨a, ns, rfl, hS, h63, q⟩ := h
  refine ⟨_, (pss_cons (ps_for PassesOwn.never rfl (pi_range1 gl_law_range b_range (pa_c pe_int pa_nil)) (pg_name (i := 1) sc_law.nd rfl loc_law__law_turn)
  (pss_cons (ps_if (pt_not (pt_val (pe_cc c_law_once hr (by omega) (pa_c (pe_comp ["_law_cell_here", "_law_turn"] [none, some 1] rfl (CompS.of (by rfl)) (pi_list (pe_var (i := 0) rfl vis_law__law_script db__law_script cd__law_script)) (fun _ _ _ _ _ => (pg_name (i := 0) (show List.Nodup (["_law_cell_here", "_law_turn"] : List Str) from by decide +kernel) rfl (Or.inl rfl))) (fun _ _ _ _ _ => pif_nil) (fun _ _ _ _ _ => (pe_op op_add (pe_var (i := 0) rfl (by first | exact Or.inl rfl | exact Or.inr (Or.inl rfl) | exact Or.inr (Or.inr rfl)) db__law_cell_here cd__law_cell_here) (pe_op op_mul pe_int (pe_var (i := 1) rfl (by first | exact Or.inl rfl | exact Or.inr (Or.inl rfl) | exact Or.inr (Or.inr rfl)) db__law_turn cd__law_turn))))) pa_nil) gl_law__law_once db__law_once))) (pss_one (ps_ret pe_bl)) pss_nil)
  (pss_one (ps_if (pt_cmpR (gEq hr.units) (pe_var (i := 0) rfl vis_law__law_script db__law_script cd__law_script) (pe_lst pa_nil) (nomark _)) (pss_one ps_break) pss_nil))))
  (pss_one (ps_ret pe_bl))), ?_⟩
  walk_at "rd"
  refine ⟨by decide, by decide, ?_⟩
  refine for_range (lo := 0) (n := 8) (LI H a) ?start ?step ?done
  case start => exact ⟨_, rfl, Same.refl _⟩
  case done =>
    rintro σ Hc ⟨x1, rfl, sc⟩
    exact q _
  case step =>
    rintro j σ Hc hj ⟨x1, rfl, sc⟩
    walk_at "rd"
    refine ⟨⟨_, sc.seq hS⟩, ?_⟩
    refine comp_ints (t0 := none) (rest := [some (V.int (0 + (j : Int)))]) (fun _ => true) (fun y => y + 7919 * (0 + (j : Int))) (sc.seq hS) (by omega) ?_ ?_
    · intro y t H' R1 R0 hy s hp1 hp0
      walk_at "rd"
      exact ⟨.inl ⟨by decide, by decide⟩, hp1 rfl _ _ s⟩
    · intro Ha pl t1 hpl
      have t2 := same_new hpl (HO.lst (((ns.filter fun _ => true).map fun y => y + 7919 * (0 + (j : Int))).map V.int))
      refine ⟨pl, _, rfl, SqL.of upd_same, fun Hb t3 => ⟨_, rfl, ?_⟩⟩
      have t0 := sc.trans (t1.trans (t2.trans t3))
      walk_at "rd"
      refine ⟨Nat.zero_le _, fun p hp => ⟨_, eqNil ((t0.trans (same_new hp _)).seq hS) (okInts ns) (SqL.of upd_same), ?_⟩⟩
      split
      · exact q _
      · exact ⟨_, rfl, t0.trans (same_new hp _)⟩
end
end SR


set_option Elab.async false
set_option linter.all false
set_option maxRecDepth 100000
set_option maxHeartbeats 0
namespace SR
open PySem L2
theorem sqT_K {K : PySem.W.Frag} {a : Addr} {o : Option Addr} {its : Array Value} {n : Nat} {l : Array (Option Value)} {xs : List V} (h : K.lookup a = some ⟨.type "tuple", o, .seq its n, l⟩) (r : Vals xs its.toList) (hz : its.size ≤ sizeLine := by decide) : ∀ H, SqT K H a xs := fun H => .inr ⟨_, _, _, h, rfl, rfl, hz, r⟩

theorem all_mk {l : PySem.W.OpenLaw} {w : World} {K : PySem.W.Frag} {h : Heap} {mg : Str → Option Value} {fa f0 f1 f2 f3 f4 f5 f6 f7 f8 f9 f10 f11 f12 f13 f14 f15 f16 f17 f18 f19 f20 f21 f22 f23 f24 : Addr} (X : K.In h) (G : h.Ns mainGlobals mg) (hfa : mg "law" = some (.ref fa))
    {od0 an0 od1 an1 od2 an2 od3 an3 od4 an4 od5 an5 od6 an6 od7 an7 od8 an8 od9 an9 od10 an10 od11 an11 od12 an12 od13 an13 od14 an14 od15 an15 od16 an16 od17 an17 od18 an18 od19 an19 od20 an20 od21 an21 od22 an22 od23 an23 od24 an24 : Option Addr} {sl0 sl1 sl2 sl3 sl4 sl5 sl6 sl7 sl8 sl9 sl10 sl11 sl12 sl13 sl14 sl15 sl16 sl17 sl18 sl19 sl20 sl21 sl22 sl23 sl24 : Array (Option Value)} {oc0 kV0 dc0 pm0 cd0 ct0 oc1 kV1 dc1 pm1 cd1 ct1 oc2 kV2 dc2 pm2 cd2 ct2 oc3 kV3 dc3 pm3 cd3 ct3 oc4 kV4 dc4 pm4 cd4 ct4 oc5 kV5 dc5 pm5 cd5 ct5 oc6 kV6 dc6 pm6 cd6 ct6 oc7 kV7 dc7 pm7 cd7 ct7 oc8 kV8 dc8 pm8 cd8 ct8 oc9 kV9 dc9 pm9 cd9 ct9 oc10 kV10 dc10 pm10 cd10 ct10 oc11 kV11 dc11 pm11 cd11 ct11 oc12 kV12 dc12 pm12 cd12 ct12 oc13 kV13 dc13 pm13 cd13 ct13 oc14 kV14 dc14 pm14 cd14 ct14 oc15 kV15 dc15 pm15 cd15 ct15 oc16 kV16 dc16 pm16 cd16 ct16 oc17 kV17 dc17 pm17 cd17 ct17 oc18 kV18 dc18 pm18 cd18 ct18 oc19 kV19 dc19 pm19 cd19 ct19 oc20 kV20 dc20 pm20 cd20 ct20 oc21 kV21 dc21 pm21 cd21 ct21 oc22 kV22 dc22 pm22 cd22 ct22 oc23 kV23 dc23 pm23 cd23 ct23 oc24 kV24 dc24 pm24 cd24 ct24 : Value}
    {aw ai : Addr} {ow oi : Option Addr} {nw ni : Nat} {lw li : Array (Option Value)} {ti0 ti1 ti2 ti3 ti4 ti5 ti6 ti7 tl tw0 tw1 tw2 tw3 tw4 tw5 tw6 tw7 td0 td1 : Tok}
    (a0 : PySem.W.nsIn K mainGlobals "is_program" = some (some (.ref f0))) (l0 : K.lookup f0 = some ⟨oc0, od0, .func (PySem.W.fnOf "is_program" "is_program" (defArgs s_is_program) (defBody s_is_program) (defScope s_is_program) .none kV0 dc0 pm0 an0 cd0 ct0), sl0⟩) (c0 : PySem.W.codeIn K cd0 "is_program" = true) (k0 : PySem.W.keepIn K (.ref f0) = true)
    (a1 : PySem.W.nsIn K mainGlobals "is_whole" = some (some (.ref f1))) (l1 : K.lookup f1 = some ⟨oc1, od1, .func (PySem.W.fnOf "is_whole" "is_whole" (defArgs s_is_whole) (defBody s_is_whole) (defScope s_is_whole) .none kV1 dc1 pm1 an1 cd1 ct1), sl1⟩) (c1 : PySem.W.codeIn K cd1 "is_whole" = true) (k1 : PySem.W.keepIn K (.ref f1) = true)
    (a2 : PySem.W.nsIn K mainGlobals "is_whole_from" = some (some (.ref f2))) (l2 : K.lookup f2 = some ⟨oc2, od2, .func (PySem.W.fnOf "is_whole_from" "is_whole_from" (defArgs s_is_whole_from) (defBody s_is_whole_from) (defScope s_is_whole_from) .none kV2 dc2 pm2 an2 cd2 ct2), sl2⟩) (c2 : PySem.W.codeIn K cd2 "is_whole_from" = true) (k2 : PySem.W.keepIn K (.ref f2) = true)
    (a3 : PySem.W.nsIn K mainGlobals "is_tuple_of" = some (some (.ref f3))) (l3 : K.lookup f3 = some ⟨oc3, od3, .func (PySem.W.fnOf "is_tuple_of" "is_tuple_of" (defArgs s_is_tuple_of) (defBody s_is_tuple_of) (defScope s_is_tuple_of) .none kV3 dc3 pm3 an3 cd3 ct3), sl3⟩) (c3 : PySem.W.codeIn K cd3 "is_tuple_of" = true) (k3 : PySem.W.keepIn K (.ref f3) = true)
    (a4 : PySem.W.nsIn K mainGlobals "is_name" = some (some (.ref f4))) (l4 : K.lookup f4 = some ⟨oc4, od4, .func (PySem.W.fnOf "is_name" "is_name" (defArgs s_is_name) (defBody s_is_name) (defScope s_is_name) .none kV4 dc4 pm4 an4 cd4 ct4), sl4⟩) (c4 : PySem.W.codeIn K cd4 "is_name" = true) (k4 : PySem.W.keepIn K (.ref f4) = true)
    (a5 : PySem.W.nsIn K mainGlobals "are_rising_rows" = some (some (.ref f5))) (l5 : K.lookup f5 = some ⟨oc5, od5, .func (PySem.W.fnOf "are_rising_rows" "are_rising_rows" (defArgs s_are_rising_rows) (defBody s_are_rising_rows) (defScope s_are_rising_rows) .none kV5 dc5 pm5 an5 cd5 ct5), sl5⟩) (c5 : PySem.W.codeIn K cd5 "are_rising_rows" = true) (k5 : PySem.W.keepIn K (.ref f5) = true)
    (a6 : PySem.W.nsIn K mainGlobals "are_ins" = some (some (.ref f6))) (l6 : K.lookup f6 = some ⟨oc6, od6, .func (PySem.W.fnOf "are_ins" "are_ins" (defArgs s_are_ins) (defBody s_are_ins) (defScope s_are_ins) .none kV6 dc6 pm6 an6 cd6 ct6), sl6⟩) (c6 : PySem.W.codeIn K cd6 "are_ins" = true) (k6 : PySem.W.keepIn K (.ref f6) = true)
    (a7 : PySem.W.nsIn K mainGlobals "is_in" = some (some (.ref f7))) (l7 : K.lookup f7 = some ⟨oc7, od7, .func (PySem.W.fnOf "is_in" "is_in" (defArgs s_is_in) (defBody s_is_in) (defScope s_is_in) .none kV7 dc7 pm7 an7 cd7 ct7), sl7⟩) (c7 : PySem.W.codeIn K cd7 "is_in" = true) (k7 : PySem.W.keepIn K (.ref f7) = true)
    (a8 : PySem.W.nsIn K mainGlobals "is_block" = some (some (.ref f8))) (l8 : K.lookup f8 = some ⟨oc8, od8, .func (PySem.W.fnOf "is_block" "is_block" (defArgs s_is_block) (defBody s_is_block) (defScope s_is_block) .none kV8 dc8 pm8 an8 cd8 ct8), sl8⟩) (c8 : PySem.W.codeIn K cd8 "is_block" = true) (k8 : PySem.W.keepIn K (.ref f8) = true)
    (a9 : PySem.W.nsIn K mainGlobals "is_deed" = some (some (.ref f9))) (l9 : K.lookup f9 = some ⟨oc9, od9, .func (PySem.W.fnOf "is_deed" "is_deed" (defArgs s_is_deed) (defBody s_is_deed) (defScope s_is_deed) .none kV9 dc9 pm9 an9 cd9 ct9), sl9⟩) (c9 : PySem.W.codeIn K cd9 "is_deed" = true) (k9 : PySem.W.keepIn K (.ref f9) = true)
    (a10 : PySem.W.nsIn K mainGlobals "is_term" = some (some (.ref f10))) (l10 : K.lookup f10 = some ⟨oc10, od10, .func (PySem.W.fnOf "is_term" "is_term" (defArgs s_is_term) (defBody s_is_term) (defScope s_is_term) .none kV10 dc10 pm10 an10 cd10 ct10), sl10⟩) (c10 : PySem.W.codeIn K cd10 "is_term" = true) (k10 : PySem.W.keepIn K (.ref f10) = true)
    (a11 : PySem.W.nsIn K mainGlobals "known_behind_block" = some (some (.ref f11))) (l11 : K.lookup f11 = some ⟨oc11, od11, .func (PySem.W.fnOf "known_behind_block" "known_behind_block" (defArgs s_known_behind_block) (defBody s_known_behind_block) (defScope s_known_behind_block) .none kV11 dc11 pm11 an11 cd11 ct11), sl11⟩) (c11 : PySem.W.codeIn K cd11 "known_behind_block" = true) (k11 : PySem.W.keepIn K (.ref f11) = true)
    (a12 : PySem.W.nsIn K mainGlobals "known_behind_deed" = some (some (.ref f12))) (l12 : K.lookup f12 = some ⟨oc12, od12, .func (PySem.W.fnOf "known_behind_deed" "known_behind_deed" (defArgs s_known_behind_deed) (defBody s_known_behind_deed) (defScope s_known_behind_deed) .none kV12 dc12 pm12 an12 cd12 ct12), sl12⟩) (c12 : PySem.W.codeIn K cd12 "known_behind_deed" = true) (k12 : PySem.W.keepIn K (.ref f12) = true)
    (a13 : PySem.W.nsIn K mainGlobals "has_known_names" = some (some (.ref f13))) (l13 : K.lookup f13 = some ⟨oc13, od13, .func (PySem.W.fnOf "has_known_names" "has_known_names" (defArgs s_has_known_names) (defBody s_has_known_names) (defScope s_has_known_names) .none kV13 dc13 pm13 an13 cd13 ct13), sl13⟩) (c13 : PySem.W.codeIn K cd13 "has_known_names" = true) (k13 : PySem.W.keepIn K (.ref f13) = true)
    (a14 : PySem.W.nsIn K mainGlobals "term_of" = some (some (.ref f14))) (l14 : K.lookup f14 = some ⟨oc14, od14, .func (PySem.W.fnOf "term_of" "term_of" (defArgs s_term_of) (defBody s_term_of) (defScope s_term_of) .none kV14 dc14 pm14 an14 cd14 ct14), sl14⟩) (c14 : PySem.W.codeIn K cd14 "term_of" = true) (k14 : PySem.W.keepIn K (.ref f14) = true)
    (a15 : PySem.W.nsIn K mainGlobals "blocks_of" = some (some (.ref f15))) (l15 : K.lookup f15 = some ⟨oc15, od15, .func (PySem.W.fnOf "blocks_of" "blocks_of" (defArgs s_blocks_of) (defBody s_blocks_of) (defScope s_blocks_of) .none kV15 dc15 pm15 an15 cd15 ct15), sl15⟩) (c15 : PySem.W.codeIn K cd15 "blocks_of" = true) (k15 : PySem.W.keepIn K (.ref f15) = true)
    (a16 : PySem.W.nsIn K mainGlobals "_law_cell" = some (some (.ref f16))) (l16 : K.lookup f16 = some ⟨oc16, od16, .func (PySem.W.fnOf "_law_cell" "_law_cell" (defArgs s_law_cell) (defBody s_law_cell) (defScope s_law_cell) .none kV16 dc16 pm16 an16 cd16 ct16), sl16⟩) (c16 : PySem.W.codeIn K cd16 "_law_cell" = true) (k16 : PySem.W.keepIn K (.ref f16) = true)
    (a17 : PySem.W.nsIn K mainGlobals "_law_pick" = some (some (.ref f17))) (l17 : K.lookup f17 = some ⟨oc17, od17, .func (PySem.W.fnOf "_law_pick" "_law_pick" (defArgs s_law_pick) (defBody s_law_pick) (defScope s_law_pick) .none kV17 dc17 pm17 an17 cd17 ct17), sl17⟩) (c17 : PySem.W.codeIn K cd17 "_law_pick" = true) (k17 : PySem.W.keepIn K (.ref f17) = true)
    (a18 : PySem.W.nsIn K mainGlobals "_law_sum" = some (some (.ref f18))) (l18 : K.lookup f18 = some ⟨oc18, od18, .func (PySem.W.fnOf "_law_sum" "_law_sum" (defArgs s_law_sum) (defBody s_law_sum) (defScope s_law_sum) .none kV18 dc18 pm18 an18 cd18 ct18), sl18⟩) (c18 : PySem.W.codeIn K cd18 "_law_sum" = true) (k18 : PySem.W.keepIn K (.ref f18) = true)
    (a19 : PySem.W.nsIn K mainGlobals "_law_counted" = some (some (.ref f19))) (l19 : K.lookup f19 = some ⟨oc19, od19, .func (PySem.W.fnOf "_law_counted" "_law_counted" (defArgs s_law_counted) (defBody s_law_counted) (defScope s_law_counted) .none kV19 dc19 pm19 an19 cd19 ct19), sl19⟩) (c19 : PySem.W.codeIn K cd19 "_law_counted" = true) (k19 : PySem.W.keepIn K (.ref f19) = true)
    (a20 : PySem.W.nsIn K mainGlobals "_law_block" = some (some (.ref f20))) (l20 : K.lookup f20 = some ⟨oc20, od20, .func (PySem.W.fnOf "_law_block" "_law_block" (defArgs s_law_block) (defBody s_law_block) (defScope s_law_block) .none kV20 dc20 pm20 an20 cd20 ct20), sl20⟩) (c20 : PySem.W.codeIn K cd20 "_law_block" = true) (k20 : PySem.W.keepIn K (.ref f20) = true)
    (a21 : PySem.W.nsIn K mainGlobals "_law_program" = some (some (.ref f21))) (l21 : K.lookup f21 = some ⟨oc21, od21, .func (PySem.W.fnOf "_law_program" "_law_program" (defArgs s_law_program) (defBody s_law_program) (defScope s_law_program) .none kV21 dc21 pm21 an21 cd21 ct21), sl21⟩) (c21 : PySem.W.codeIn K cd21 "_law_program" = true) (k21 : PySem.W.keepIn K (.ref f21) = true)
    (a22 : PySem.W.nsIn K mainGlobals "_law_bad" = some (some (.ref f22))) (l22 : K.lookup f22 = some ⟨oc22, od22, .func (PySem.W.fnOf "_law_bad" "_law_bad" (defArgs s_law_bad) (defBody s_law_bad) (defScope s_law_bad) .none kV22 dc22 pm22 an22 cd22 ct22), sl22⟩) (c22 : PySem.W.codeIn K cd22 "_law_bad" = true) (k22 : PySem.W.keepIn K (.ref f22) = true)
    (a23 : PySem.W.nsIn K mainGlobals "_law_once" = some (some (.ref f23))) (l23 : K.lookup f23 = some ⟨oc23, od23, .func (PySem.W.fnOf "_law_once" "_law_once" (defArgs s_law_once) (defBody s_law_once) (defScope s_law_once) .none kV23 dc23 pm23 an23 cd23 ct23), sl23⟩) (c23 : PySem.W.codeIn K cd23 "_law_once" = true) (k23 : PySem.W.keepIn K (.ref f23) = true)
    (a24 : PySem.W.nsIn K mainGlobals "law" = some (some (.ref f24))) (l24 : K.lookup f24 = some ⟨oc24, od24, .func (PySem.W.fnOf "law" "law" (defArgs s_law) (defBody s_law) (defScope s_law) .none kV24 dc24 pm24 an24 cd24 ct24), sl24⟩) (c24 : PySem.W.codeIn K cd24 "law" = true) (k24 : PySem.W.keepIn K (.ref f24) = true)
    (z_isinstance : PySem.W.nsIn K mainGlobals "isinstance" = some none)
    (z_int : PySem.W.nsIn K mainGlobals "int" = some none)
    (z_bool : PySem.W.nsIn K mainGlobals "bool" = some none)
    (z_len : PySem.W.nsIn K mainGlobals "len" = some none)
    (z_tuple : PySem.W.nsIn K mainGlobals "tuple" = some none)
    (z_str : PySem.W.nsIn K mainGlobals "str" = some none)
    (z_all : PySem.W.nsIn K mainGlobals "all" = some none)
    (z_zip : PySem.W.nsIn K mainGlobals "zip" = some none)
    (z_range : PySem.W.nsIn K mainGlobals "range" = some none)
    (z_list : PySem.W.nsIn K mainGlobals "list" = some none)
    (pi0 : PySem.W.nsIn K mainGlobals "MOST_LETTERS" = some (some (.int 2 ti0)))
    (pi1 : PySem.W.nsIn K mainGlobals "MOST_INS" = some (some (.int 4 ti1)))
    (pi2 : PySem.W.nsIn K mainGlobals "LEAST_IN" = some (some (.int (-99) ti2)))
    (pi3 : PySem.W.nsIn K mainGlobals "GREATEST_IN" = some (some (.int 99 ti3)))
    (pi4 : PySem.W.nsIn K mainGlobals "MOST_DEEDS" = some (some (.int 6 ti4)))
    (pi5 : PySem.W.nsIn K mainGlobals "MOST_ROUNDS" = some (some (.int 20 ti5)))
    (pi6 : PySem.W.nsIn K mainGlobals "DEEPEST_BLOCK" = some (some (.int 3 ti6)))
    (pi7 : PySem.W.nsIn K mainGlobals "DEEPEST_TERM" = some (some (.int 5 ti7)))
    (pl : PySem.W.nsIn K mainGlobals "LETTERS" = some (some (.str "abcdefghijklmnopqrstuvwxyz" tl)))
    (pw : PySem.W.nsIn K mainGlobals "WORDS" = some (some (.ref aw)))
    (ph : K.lookup aw = some ⟨.type "tuple", ow, .seq #[.str "add" tw0, .str "sub" tw1, .str "mul" tw2, .str "quo" tw3, .str "less" tw4, .str "same" tw5, .str "min" tw6, .str "max" tw7] nw, lw⟩)
    (pd : PySem.W.nsIn K mainGlobals "WIDE" = some (some (.ref ai)))
    (pg : K.lookup ai = some ⟨.type "tuple", oi, .seq #[.int (-32768) td0, .int 32767 td1] ni, li⟩)
    : ∃ fd : FuncData, (∀ (s : Shared) (v : Value), BindsTo s fd ⟨[v], []⟩ [("_law_script", v)]) ∧ ∀ base : Heap, K.In base → base.Ns mainGlobals mg → FnOk l.prog w K mg base CX0 22 fa fd ["_law_script"] (spLaw K) := by
  have e := hfa.symm.trans (PySem.W.mg_of X G a24)
  cases e
  have F_is_program := fun_mk (st := s_is_program) l0 c0 k0
  have B_is_program := F_is_program.binds (ps := ["thing"]) fun _ _ _ _ _ _ us hl => match us, hl with | [_], _ => rfl
  have d_is_program : Df K mg "is_program" s_is_program ["thing"] f0 _ := ⟨F_is_program, PySem.W.mg_of X G a0, B_is_program⟩
  have F_is_whole := fun_mk (st := s_is_whole) l1 c1 k1
  have B_is_whole := F_is_whole.binds (ps := ["thing"]) fun _ _ _ _ _ _ us hl => match us, hl with | [_], _ => rfl
  have d_is_whole : Df K mg "is_whole" s_is_whole ["thing"] f1 _ := ⟨F_is_whole, PySem.W.mg_of X G a1, B_is_whole⟩
  have F_is_whole_from := fun_mk (st := s_is_whole_from) l2 c2 k2
  have B_is_whole_from := F_is_whole_from.binds (ps := ["thing", "low", "high"]) fun _ _ _ _ _ _ us hl => match us, hl with | [_, _, _], _ => rfl
  have d_is_whole_from : Df K mg "is_whole_from" s_is_whole_from ["thing", "low", "high"] f2 _ := ⟨F_is_whole_from, PySem.W.mg_of X G a2, B_is_whole_from⟩
  have F_is_tuple_of := fun_mk (st := s_is_tuple_of) l3 c3 k3
  have B_is_tuple_of := F_is_tuple_of.binds (ps := ["thing", "many"]) fun _ _ _ _ _ _ us hl => match us, hl with | [_, _], _ => rfl
  have d_is_tuple_of : Df K mg "is_tuple_of" s_is_tuple_of ["thing", "many"] f3 _ := ⟨F_is_tuple_of, PySem.W.mg_of X G a3, B_is_tuple_of⟩
  have F_is_name := fun_mk (st := s_is_name) l4 c4 k4
  have B_is_name := F_is_name.binds (ps := ["thing"]) fun _ _ _ _ _ _ us hl => match us, hl with | [_], _ => rfl
  have d_is_name : Df K mg "is_name" s_is_name ["thing"] f4 _ := ⟨F_is_name, PySem.W.mg_of X G a4, B_is_name⟩
  have F_are_rising_rows := fun_mk (st := s_are_rising_rows) l5 c5 k5
  have B_are_rising_rows := F_are_rising_rows.binds (ps := ["thing", "is_row"]) fun _ _ _ _ _ _ us hl => match us, hl with | [_, _], _ => rfl
  have d_are_rising_rows : Df K mg "are_rising_rows" s_are_rising_rows ["thing", "is_row"] f5 _ := ⟨F_are_rising_rows, PySem.W.mg_of X G a5, B_are_rising_rows⟩
  have F_are_ins := fun_mk (st := s_are_ins) l6 c6 k6
  have B_are_ins := F_are_ins.binds (ps := ["thing"]) fun _ _ _ _ _ _ us hl => match us, hl with | [_], _ => rfl
  have d_are_ins : Df K mg "are_ins" s_are_ins ["thing"] f6 _ := ⟨F_are_ins, PySem.W.mg_of X G a6, B_are_ins⟩
  have F_is_in := fun_mk (st := s_is_in) l7 c7 k7
  have B_is_in := F_is_in.binds (ps := ["thing"]) fun _ _ _ _ _ _ us hl => match us, hl with | [_], _ => rfl
  have d_is_in : Df K mg "is_in" s_is_in ["thing"] f7 _ := ⟨F_is_in, PySem.W.mg_of X G a7, B_is_in⟩
  have F_is_block := fun_mk (st := s_is_block) l8 c8 k8
  have B_is_block := F_is_block.binds (ps := ["thing", "levels"]) fun _ _ _ _ _ _ us hl => match us, hl with | [_, _], _ => rfl
  have d_is_block : Df K mg "is_block" s_is_block ["thing", "levels"] f8 _ := ⟨F_is_block, PySem.W.mg_of X G a8, B_is_block⟩
  have F_is_deed := fun_mk (st := s_is_deed) l9 c9 k9
  have B_is_deed := F_is_deed.binds (ps := ["thing", "levels"]) fun _ _ _ _ _ _ us hl => match us, hl with | [_, _], _ => rfl
  have d_is_deed : Df K mg "is_deed" s_is_deed ["thing", "levels"] f9 _ := ⟨F_is_deed, PySem.W.mg_of X G a9, B_is_deed⟩
  have F_is_term := fun_mk (st := s_is_term) l10 c10 k10
  have B_is_term := F_is_term.binds (ps := ["thing", "levels"]) fun _ _ _ _ _ _ us hl => match us, hl with | [_, _], _ => rfl
  have d_is_term : Df K mg "is_term" s_is_term ["thing", "levels"] f10 _ := ⟨F_is_term, PySem.W.mg_of X G a10, B_is_term⟩
  have F_known_behind_block := fun_mk (st := s_known_behind_block) l11 c11 k11
  have B_known_behind_block := F_known_behind_block.binds (ps := ["block", "known"]) fun _ _ _ _ _ _ us hl => match us, hl with | [_, _], _ => rfl
  have d_known_behind_block : Df K mg "known_behind_block" s_known_behind_block ["block", "known"] f11 _ := ⟨F_known_behind_block, PySem.W.mg_of X G a11, B_known_behind_block⟩
  have F_known_behind_deed := fun_mk (st := s_known_behind_deed) l12 c12 k12
  have B_known_behind_deed := F_known_behind_deed.binds (ps := ["deed", "known"]) fun _ _ _ _ _ _ us hl => match us, hl with | [_, _], _ => rfl
  have d_known_behind_deed : Df K mg "known_behind_deed" s_known_behind_deed ["deed", "known"] f12 _ := ⟨F_known_behind_deed, PySem.W.mg_of X G a12, B_known_behind_deed⟩
  have F_has_known_names := fun_mk (st := s_has_known_names) l13 c13 k13
  have B_has_known_names := F_has_known_names.binds (ps := ["term", "known"]) fun _ _ _ _ _ _ us hl => match us, hl with | [_, _], _ => rfl
  have d_has_known_names : Df K mg "has_known_names" s_has_known_names ["term", "known"] f13 _ := ⟨F_has_known_names, PySem.W.mg_of X G a13, B_has_known_names⟩
  have F_term_of := fun_mk (st := s_term_of) l14 c14 k14
  have B_term_of := F_term_of.binds (ps := ["deed"]) fun _ _ _ _ _ _ us hl => match us, hl with | [_], _ => rfl
  have d_term_of : Df K mg "term_of" s_term_of ["deed"] f14 _ := ⟨F_term_of, PySem.W.mg_of X G a14, B_term_of⟩
  have F_blocks_of := fun_mk (st := s_blocks_of) l15 c15 k15
  have B_blocks_of := F_blocks_of.binds (ps := ["deed"]) fun _ _ _ _ _ _ us hl => match us, hl with | [_], _ => rfl
  have d_blocks_of : Df K mg "blocks_of" s_blocks_of ["deed"] f15 _ := ⟨F_blocks_of, PySem.W.mg_of X G a15, B_blocks_of⟩
  have F_law_cell := fun_mk (st := s_law_cell) l16 c16 k16
  have B_law_cell := F_law_cell.binds (ps := ["_law_script", "_law_k"]) fun _ _ _ _ _ _ us hl => match us, hl with | [_, _], _ => rfl
  have d_law_cell : Df K mg "_law_cell" s_law_cell ["_law_script", "_law_k"] f16 _ := ⟨F_law_cell, PySem.W.mg_of X G a16, B_law_cell⟩
  have F_law_pick := fun_mk (st := s_law_pick) l17 c17 k17
  have B_law_pick := F_law_pick.binds (ps := ["_law_script", "_law_k", "_law_many"]) fun _ _ _ _ _ _ us hl => match us, hl with | [_, _, _], _ => rfl
  have d_law_pick : Df K mg "_law_pick" s_law_pick ["_law_script", "_law_k", "_law_many"] f17 _ := ⟨F_law_pick, PySem.W.mg_of X G a17, B_law_pick⟩
  have F_law_sum := fun_mk (st := s_law_sum) l18 c18 k18
  have B_law_sum := F_law_sum.binds (ps := ["_law_script", "_law_at", "_law_known", "_law_deep"]) fun _ _ _ _ _ _ us hl => match us, hl with | [_, _, _, _], _ => rfl
  have d_law_sum : Df K mg "_law_sum" s_law_sum ["_law_script", "_law_at", "_law_known", "_law_deep"] f18 _ := ⟨F_law_sum, PySem.W.mg_of X G a18, B_law_sum⟩
  have F_law_counted := fun_mk (st := s_law_counted) l19 c19 k19
  have B_law_counted := F_law_counted.binds (ps := ["_law_script", "_law_at", "_law_known", "_law_body", "_law_deep"]) fun _ _ _ _ _ _ us hl => match us, hl with | [_, _, _, _, _], _ => rfl
  have d_law_counted : Df K mg "_law_counted" s_law_counted ["_law_script", "_law_at", "_law_known", "_law_body", "_law_deep"] f19 _ := ⟨F_law_counted, PySem.W.mg_of X G a19, B_law_counted⟩
  have F_law_block := fun_mk (st := s_law_block) l20 c20 k20
  have B_law_block := F_law_block.binds (ps := ["_law_script", "_law_at", "_law_known", "_law_deep"]) fun _ _ _ _ _ _ us hl => match us, hl with | [_, _, _, _], _ => rfl
  have d_law_block : Df K mg "_law_block" s_law_block ["_law_script", "_law_at", "_law_known", "_law_deep"] f20 _ := ⟨F_law_block, PySem.W.mg_of X G a20, B_law_block⟩
  have F_law_program := fun_mk (st := s_law_program) l21 c21 k21
  have B_law_program := F_law_program.binds (ps := ["_law_script", "_law_at"]) fun _ _ _ _ _ _ us hl => match us, hl with | [_, _], _ => rfl
  have d_law_program : Df K mg "_law_program" s_law_program ["_law_script", "_law_at"] f21 _ := ⟨F_law_program, PySem.W.mg_of X G a21, B_law_program⟩
  have F_law_bad := fun_mk (st := s_law_bad) l22 c22 k22
  have B_law_bad := F_law_bad.binds (ps := ["_law_program_here", "_law_cell_here"]) fun _ _ _ _ _ _ us hl => match us, hl with | [_, _], _ => rfl
  have d_law_bad : Df K mg "_law_bad" s_law_bad ["_law_program_here", "_law_cell_here"] f22 _ := ⟨F_law_bad, PySem.W.mg_of X G a22, B_law_bad⟩
  have F_law_once := fun_mk (st := s_law_once) l23 c23 k23
  have B_law_once := F_law_once.binds (ps := ["_law_script"]) fun _ _ _ _ _ _ us hl => match us, hl with | [_], _ => rfl
  have d_law_once : Df K mg "_law_once" s_law_once ["_law_script"] f23 _ := ⟨F_law_once, PySem.W.mg_of X G a23, B_law_once⟩
  have F_law := fun_mk (st := s_law) l24 c24 k24
  have b_isinstance := PySem.W.mg_none_of X G z_isinstance
  have b_int := PySem.W.mg_none_of X G z_int
  have b_bool := PySem.W.mg_none_of X G z_bool
  have b_len := PySem.W.mg_none_of X G z_len
  have b_tuple := PySem.W.mg_none_of X G z_tuple
  have b_str := PySem.W.mg_none_of X G z_str
  have b_all := PySem.W.mg_none_of X G z_all
  have b_zip := PySem.W.mg_none_of X G z_zip
  have b_range := PySem.W.mg_none_of X G z_range
  have b_list := PySem.W.mg_none_of X G z_list
  refine ⟨PySem.W.fnOf "law" "law" (defArgs s_law) (defBody s_law) (defScope s_law) .none kV24 dc24 pm24 an24 cd24 ct24, fun s v => .of_eq rfl, fun base _ _ => ?_⟩
  have g_MOST_LETTERS : GC mg "MOST_LETTERS" (.int 2) := ⟨_, PySem.W.mg_of X G pi0, ⟨_, rfl⟩⟩
  have g_MOST_INS : GC mg "MOST_INS" (.int 4) := ⟨_, PySem.W.mg_of X G pi1, ⟨_, rfl⟩⟩
  have g_LEAST_IN : GC mg "LEAST_IN" (.int (-99)) := ⟨_, PySem.W.mg_of X G pi2, ⟨_, rfl⟩⟩
  have g_GREATEST_IN : GC mg "GREATEST_IN" (.int 99) := ⟨_, PySem.W.mg_of X G pi3, ⟨_, rfl⟩⟩
  have g_MOST_DEEDS : GC mg "MOST_DEEDS" (.int 6) := ⟨_, PySem.W.mg_of X G pi4, ⟨_, rfl⟩⟩
  have g_MOST_ROUNDS : GC mg "MOST_ROUNDS" (.int 20) := ⟨_, PySem.W.mg_of X G pi5, ⟨_, rfl⟩⟩
  have g_DEEPEST_BLOCK : GC mg "DEEPEST_BLOCK" (.int 3) := ⟨_, PySem.W.mg_of X G pi6, ⟨_, rfl⟩⟩
  have g_DEEPEST_TERM : GC mg "DEEPEST_TERM" (.int 5) := ⟨_, PySem.W.mg_of X G pi7, ⟨_, rfl⟩⟩
  have g_LETTERS : GC mg "LETTERS" (.str "abcdefghijklmnopqrstuvwxyz") := ⟨_, PySem.W.mg_of X G pl, ⟨_, rfl⟩⟩
  have g_WORDS : GC mg "WORDS" (.ref aw) := ⟨_, PySem.W.mg_of X G pw, rfl⟩
  have g_WIDE : GC mg "WIDE" (.ref ai) := ⟨_, PySem.W.mg_of X G pd, rfl⟩
  have hW : ∀ H, SqT K H aw (words.map V.str) := sqT_K ph (hz := show 8 ≤ sizeLine by decide) (.cons ⟨_, rfl⟩ (.cons ⟨_, rfl⟩ (.cons ⟨_, rfl⟩ (.cons ⟨_, rfl⟩ (.cons ⟨_, rfl⟩ (.cons ⟨_, rfl⟩ (.cons ⟨_, rfl⟩ (.cons ⟨_, rfl⟩ .nil))))))))
  have hI : ∀ H, SqT K H ai [.int (-32768), .int 32767] := sqT_K pg (hz := show 2 ≤ sizeLine by decide) (.cons ⟨_, rfl⟩ (.cons ⟨_, rfl⟩ .nil))
  have c_whole := d_is_whole.callee (ok_is_whole (P := l.prog) (w := w) (base := base) F_is_whole b_isinstance b_int b_bool)
  have c_from := d_is_whole_from.callee (ok_is_whole_from F_is_whole_from c_whole)
  have c_tup := d_is_tuple_of.callee (ok_is_tuple_of (P := l.prog) (w := w) (base := base) F_is_tuple_of b_isinstance b_len b_tuple)
  have c_name := d_is_name.callee (ok_is_name (P := l.prog) (w := w) (base := base) F_is_name b_isinstance b_len b_str b_all g_MOST_LETTERS g_LETTERS)
  have o_in := ok_is_in F_is_in c_tup c_name c_from g_LEAST_IN g_GREATEST_IN
  have c_rows := d_are_rising_rows.callee (ok_are_rising_rows (P := l.prog) (w := w) (base := base) F_are_rising_rows b_isinstance b_tuple b_all b_zip)
  have c_ins := d_are_ins.callee (ok_are_ins F_are_ins b_len g_MOST_INS ⟨_, d_is_in.m, rfl⟩ ⟨_, _, o_in, F_is_in.kp, d_is_in.b⟩ c_rows)
  have c_term := all_term d_is_term c_tup c_name c_from g_WIDE hI g_WORDS hW 6
  have b0 := d_is_block.callee (none_blk (P := l.prog) (w := w) (base := base) (k := 8))
  have e0 := d_is_deed.callee (ok_is_deed (n := 0) F_is_deed c_tup c_name c_from c_term b0 g_DEEPEST_TERM g_MOST_ROUNDS)
  have b1 := d_is_block.callee (ok_is_block (n := 0) F_is_block b_isinstance b_len b_tuple b_all g_MOST_DEEDS e0)
  have e1 := d_is_deed.callee (ok_is_deed (n := 1) F_is_deed c_tup c_name c_from c_term b1 g_DEEPEST_TERM g_MOST_ROUNDS)
  have b2 := d_is_block.callee (ok_is_block (n := 1) F_is_block b_isinstance b_len b_tuple b_all g_MOST_DEEDS e1)
  have e2 := d_is_deed.callee (ok_is_deed (n := 2) F_is_deed c_tup c_name c_from c_term b2 g_DEEPEST_TERM g_MOST_ROUNDS)
  have b3 := d_is_block.callee (ok_is_block (n := 2) F_is_block b_isinstance b_len b_tuple b_all g_MOST_DEEDS e2)
  have e3 := d_is_deed.callee (ok_is_deed (n := 3) F_is_deed c_tup c_name c_from c_term b3 g_DEEPEST_TERM g_MOST_ROUNDS)
  have b4 := d_is_block.callee (ok_is_block (n := 3) F_is_block b_isinstance b_len b_tuple b_all g_MOST_DEEDS e3)
  have c_has := all_has (P := l.prog) (w := w) (base := base) d_has_known_names 5
  have c_to := d_term_of.callee (ok_term_of (P := l.prog) (w := w) (base := base) F_term_of)
  have c_bo := d_blocks_of.callee (ok_blocks_of (P := l.prog) (w := w) (base := base) F_blocks_of)
  have k0 := d_known_behind_block.callee (none_kb (P := l.prog) (w := w) (base := base) (k := 8))
  have m0 := d_known_behind_deed.callee (ok_kd (n := 0) F_known_behind_deed b_tuple c_has c_to c_bo k0)
  have k1 := d_known_behind_block.callee (ok_kb (n := 0) F_known_behind_block m0)
  have m1 := d_known_behind_deed.callee (ok_kd (n := 1) F_known_behind_deed b_tuple c_has c_to c_bo k1)
  have k2 := d_known_behind_block.callee (ok_kb (n := 1) F_known_behind_block m1)
  have m2 := d_known_behind_deed.callee (ok_kd (n := 2) F_known_behind_deed b_tuple c_has c_to c_bo k2)
  have k3 := d_known_behind_block.callee (ok_kb (n := 2) F_known_behind_block m2)
  have m3 := d_known_behind_deed.callee (ok_kd (n := 3) F_known_behind_deed b_tuple c_has c_to c_bo k3)
  have k4 := d_known_behind_block.callee (ok_kb (n := 3) F_known_behind_block m3)
  have c_isp := d_is_program.callee (ok_is_program F_is_program b_tuple c_tup c_ins b4 k4 g_DEEPEST_BLOCK)
  have c_cell := d_law_cell.callee (ok_cell (P := l.prog) (w := w) (base := base) F_law_cell b_len)
  have c_pick := d_law_pick.callee (ok_pick F_law_pick c_cell)
  have c_sum := all_sum d_law_sum b_len c_pick 3
  have c_cnt := d_law_counted.callee (ok_counted F_law_counted b_len c_pick c_sum)
  have c_blk := all_block d_law_block b_range b_tuple c_pick c_sum c_cnt 3
  have c_prg := d_law_program.callee (ok_program F_law_program b_range b_tuple c_pick c_blk)
  have c_bad := d_law_bad.callee (ok_law_bad (P := l.prog) (w := w) (base := base) F_law_bad b_list)
  have c_once := d_law_once.callee (ok_law_once F_law_once b_range b_tuple c_pick c_prg c_isp c_bad)
  exact ok_law F_law b_range c_once
theorem walk {l : PySem.W.OpenLaw} {q : Program} {loose : List Str} {XP : (Str → Option Value) → Heap → Prop} {YP : World → Heap → Prop} {d : DefRec} {K : Params → PySem.W.Frag} (hn : l.most = some 63) (hdf : d.params.defaults = [])
    (hY : ∀ (w : World) (h : Heap), YP w h → (K w.params).In h)
    (F : ∀ (w : World) (mg : Str → Option Value) (fa : Addr) (h : Heap), (K w.params).In h → h.Ns mainGlobals mg → mg d.name = some (.ref fa) →
      ∃ fd : FuncData, (∀ (s : Shared) (u : Value), BindsTo s fd ⟨[u], []⟩ [("_law_script", u)]) ∧ ∀ base : Heap, (K w.params).In base → base.Ns mainGlobals mg → FnOk l.prog w (K w.params) mg base CX0 22 fa fd ["_law_script"] (spLaw (K w.params))) :
    PySem.W.WalkO q loose XP YP l.row.toRowW d [] (fun f vs => PySem.call f vs) :=
  L2.walk_of (n := 63) (k := 22) (x := "_law_script") (CX := fun _ => CX0) (sp := fun w => spLaw (K w.params)) hn (by decide) hdf ⟨rfl, by decide, by decide⟩ hY F (fun _ _ a ns hl _ hS => ⟨a, ns, rfl, hS, hl, fun _ => rfl⟩) fun _ _ _ _ _ z => z
end SR
open PySem PySem.W PyProof.Rows
set_option maxRecDepth 100000 in
set_option maxHeartbeats 0 in
theorem PySem.Challenge.cw_smallrooms_k01_programs_holds : PySem.Challenge.rw_smallrooms_k01_programs.Holds := by
  w_on; o_law; k_head; (case hw => w_witness2)
  k_fill
  refine SR.walk (l := PySem.Challenge.rw_smallrooms_k01_programs) rfl rfl (fun w h Y => PySem.W.kIn_of Y) ?F
  case F =>
    intro w mg fa h KX G hmg
    refine' SR.all_mk KX G hmg ?a0 ?l0 ?c0 ?k0 ?a1 ?l1 ?c1 ?k1 ?a2 ?l2 ?c2 ?k2 ?a3 ?l3 ?c3 ?k3 ?a4 ?l4 ?c4 ?k4 ?a5 ?l5 ?c5 ?k5 ?a6 ?l6 ?c6 ?k6 ?a7 ?l7 ?c7 ?k7 ?a8 ?l8 ?c8 ?k8 ?a9 ?l9 ?c9 ?k9 ?a10 ?l10 ?c10 ?k10 ?a11 ?l11 ?c11 ?k11 ?a12 ?l12 ?c12 ?k12 ?a13 ?l13 ?c13 ?k13 ?a14 ?l14 ?c14 ?k14 ?a15 ?l15 ?c15 ?k15 ?a16 ?l16 ?c16 ?k16 ?a17 ?l17 ?c17 ?k17 ?a18 ?l18 ?c18 ?k18 ?a19 ?l19 ?c19 ?k19 ?a20 ?l20 ?c20 ?k20 ?a21 ?l21 ?c21 ?k21 ?a22 ?l22 ?c22 ?k22 ?a23 ?l23 ?c23 ?k23 ?a24 ?l24 ?c24 ?k24 ?z_isinstance ?z_int ?z_bool ?z_len ?z_tuple ?z_str ?z_all ?z_zip ?z_range ?z_list ?pi0 ?pi1 ?pi2 ?pi3 ?pi4 ?pi5 ?pi6 ?pi7 ?pl ?pw ?ph ?pd ?pg
    (case a0 => k_is); (case l0 => k_is); (case c0 => k_is); (case k0 => k_is)
    (case a1 => k_is); (case l1 => k_is); (case c1 => k_is); (case k1 => k_is)
    (case a2 => k_is); (case l2 => k_is); (case c2 => k_is); (case k2 => k_is)
    (case a3 => k_is); (case l3 => k_is); (case c3 => k_is); (case k3 => k_is)
    (case a4 => k_is); (case l4 => k_is); (case c4 => k_is); (case k4 => k_is)
    (case a5 => k_is); (case l5 => k_is); (case c5 => k_is); (case k5 => k_is)
    (case a6 => k_is); (case l6 => k_is); (case c6 => k_is); (case k6 => k_is)
    (case a7 => k_is); (case l7 => k_is); (case c7 => k_is); (case k7 => k_is)
    (case a8 => k_is); (case l8 => k_is); (case c8 => k_is); (case k8 => k_is)
    (case a9 => k_is); (case l9 => k_is); (case c9 => k_is); (case k9 => k_is)
    (case a10 => k_is); (case l10 => k_is); (case c10 => k_is); (case k10 => k_is)
    (case a11 => k_is); (case l11 => k_is); (case c11 => k_is); (case k11 => k_is)
    (case a12 => k_is); (case l12 => k_is); (case c12 => k_is); (case k12 => k_is)
    (case a13 => k_is); (case l13 => k_is); (case c13 => k_is); (case k13 => k_is)
    (case a14 => k_is); (case l14 => k_is); (case c14 => k_is); (case k14 => k_is)
    (case a15 => k_is); (case l15 => k_is); (case c15 => k_is); (case k15 => k_is)
    (case a16 => k_is); (case l16 => k_is); (case c16 => k_is); (case k16 => k_is)
    (case a17 => k_is); (case l17 => k_is); (case c17 => k_is); (case k17 => k_is)
    (case a18 => k_is); (case l18 => k_is); (case c18 => k_is); (case k18 => k_is)
    (case a19 => k_is); (case l19 => k_is); (case c19 => k_is); (case k19 => k_is)
    (case a20 => k_is); (case l20 => k_is); (case c20 => k_is); (case k20 => k_is)
    (case a21 => k_is); (case l21 => k_is); (case c21 => k_is); (case k21 => k_is)
    (case a22 => k_is); (case l22 => k_is); (case c22 => k_is); (case k22 => k_is)
    (case a23 => k_is); (case l23 => k_is); (case c23 => k_is); (case k23 => k_is)
    (case a24 => k_is); (case l24 => k_is); (case c24 => k_is); (case k24 => k_is)
    (case z_isinstance => k_is); (case z_int => k_is); (case z_bool => k_is); (case z_len => k_is)
    (case z_tuple => k_is); (case z_str => k_is); (case z_all => k_is); (case z_zip => k_is)
    (case z_range => k_is); (case z_list => k_is); (case pi0 => k_is); (case pi1 => k_is)
    (case pi2 => k_is); (case pi3 => k_is); (case pi4 => k_is); (case pi5 => k_is)
    (case pi6 => k_is); (case pi7 => k_is); (case pl => k_is); (case pw => k_is)
    (case ph => k_is); (case pd => k_is); (case pg => k_is)

