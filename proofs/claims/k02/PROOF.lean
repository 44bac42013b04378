import PyProof.Rows.All
import Wide.All
import OpenK.AllK
import Wide.FinOn
import Lean
import PyProof.EqAt
import PyProof.EqKinds
import PyProof.TupleCall
import PySem.Challenge.RW_framerooms_k02_values_as_texts
set_option Elab.async false
set_option linter.all false
set_option maxRecDepth 100000
set_option maxHeartbeats 4000000
/-! THE HAND LAYER, for ints, bools, texts, own classes, LISTS and tuples (index, slices, in, append, pop ..), calls, loops. Paste it whole ahead of your own text; what your proof does not reach may be deleted. -/
namespace L2
open PySem PySem.Spec PyProof.Rows

/-- a key: an int or a str -/
abbrev Key := Sum Int Str
def keyIs : Key → Value → Bool
  | .inl k, v => Value.isInt k v
  | .inr x, v => Value.isStrOf x v
def keyH (w : World) : Key → Int
  | .inl k => hashInt k
  | .inr x => hashStr w x
theorem keyIs_shape : ∀ {k : Key} {v : Value}, keyIs k v = true → (∃ i t, k = Sum.inl i ∧ v = Value.int i t) ∨ (∃ x t, k = Sum.inr x ∧ v = Value.str x t)
  | .inl i, v, h => by
    obtain ⟨t, e⟩ := Value.isInt_shape (k := i) (v := v) h
    exact .inl ⟨i, t, rfl, e⟩
  | .inr x, v, h => by
    obtain ⟨t, e⟩ := Value.isStrOf_shape (x := x) (v := v) h
    exact .inr ⟨x, t, rfl, e⟩
theorem key_ll (a b : Int) : decide ((Sum.inl a : Key) = Sum.inl b) = (a == b) := by
  by_cases e : a = b
  · subst e; simp
  · have h : ¬ (Sum.inl a : Key) = Sum.inl b := fun q => e (Sum.inl.inj q)
    rw [decide_eq_false h]
    exact (beq_eq_false_iff_ne.mpr e).symm
theorem key_rr (a b : Str) : decide ((Sum.inr a : Key) = Sum.inr b) = decide (a = b) := by
  by_cases e : a = b
  · subst e; simp
  · have h : ¬ (Sum.inr a : Key) = Sum.inr b := fun q => e (Sum.inr.inj q)
    rw [decide_eq_false h, decide_eq_false e]
theorem key_lr (a : Int) (b : Str) : decide ((Sum.inl a : Key) = Sum.inr b) = false := decide_eq_false (fun q => nomatch q)
theorem key_rl (a : Str) (b : Int) : decide ((Sum.inr a : Key) = Sum.inl b) = false := decide_eq_false (fun q => nomatch q)

def mixKind (prog : Program) (w : World) : PySem.KeyKind prog w Key where
  is := keyIs
  hash := keyH w
  inj := fun v a b ha hb => by
    rcases keyIs_shape ha with ⟨i, t, rfl, rfl⟩ | ⟨x, t, rfl, rfl⟩
    · rcases keyIs_shape hb with ⟨j, u, rfl, e⟩ | ⟨y, u, rfl, e⟩
      · injection e with e1 _; rw [e1]
      · exact nomatch e
    · rcases keyIs_shape hb with ⟨j, u, rfl, e⟩ | ⟨y, u, rfl, e⟩
      · exact nomatch e
      · injection e with e1 _; rw [e1]
  byValue := fun k v h => by
    rcases keyIs_shape h with ⟨i, t, rfl, rfl⟩ | ⟨x, t, rfl, rfl⟩ <;> rfl
  pyHash := fun hv h => by
    rcases keyIs_shape hv with ⟨i, t, rfl, rfl⟩ | ⟨x, t, rfl, rfl⟩
    · exact wpAny_pyHash_int h
    · exact wpAny_pyHash_str h
  eqBool := fun hu hv h => by
    rcases keyIs_shape hu with ⟨i, t, rfl, rfl⟩ | ⟨x, t, rfl, rfl⟩
    · rcases keyIs_shape hv with ⟨j, u, rfl, rfl⟩ | ⟨y, u, rfl, rfl⟩
      · rw [key_ll] at h; exact wpAny_eqBool_int h
      · rw [key_lr] at h; exact SeqAt.EqAt.int_str i t y u _ _ _ _ h
    · rcases keyIs_shape hv with ⟨j, u, rfl, rfl⟩ | ⟨y, u, rfl, rfl⟩
      · rw [key_rl] at h; exact SeqAt.EqAt.str_int x t j u _ _ _ _ h
      · rw [key_rr] at h; exact wpAny_eqBool_str h
  «strs» := fun k x t v h => by
    rcases keyIs_shape h with ⟨i, u, rfl, e⟩ | ⟨y, u, rfl, e⟩
    · exact nomatch e
    · injection e with e1 _
      subst e1
      cases v <;> rfl

end L2

namespace L2
open PySem PySem.Spec PyProof.Rows

/-- a value, without the heap -/
inductive V where
  | non | bl (b : Bool) | int (i : Int) | str (x : Str) | byt (b : Array UInt8) | flt (b : UInt64) | ref (a : Addr) | ty (n : String)
  deriving DecidableEq

def RelV : V → Value → Prop
  | .non, u => u = Value.none
  | .bl b, u => u = Value.bool b
  | .int i, u => ∃ t, u = Value.int i t
  | .str x, u => ∃ t, u = Value.str x t
  | .byt b, u => ∃ t, u = Value.bytes b t
  | .flt b, u => ∃ t, u = Value.float b t
  | .ref a, u => u = Value.ref a
  | .ty n, u => u = Value.type n

abbrev Vals : List V → List Value → Prop := Paired RelV
theorem Vals.length {xs : List V} {us : List Value} (r : Vals xs us) : xs.length = us.length := Paired.length r
theorem Vals.get : ∀ {xs : List V} {us : List Value} {i : Nat} {x : V}, Vals xs us → xs[i]? = some x → ∃ u, us[i]? = some u ∧ RelV x u
  | _, _, _, _, .nil, e => by simp at e
  | _, _, 0, _, .cons r _, e => by simp at e; subst e; exact ⟨_, rfl, r⟩
  | _, _, i + 1, x, .cons _ t, e => by
    obtain ⟨u, h1, h2⟩ := Vals.get (i := i) (x := x) t (by simpa using e)
    exact ⟨u, by simpa using h1, h2⟩
theorem Vals.set {x : V} {u : Value} (r : RelV x u) : ∀ {xs : List V} {us : List Value} (i : Nat), Vals xs us → Vals (xs.set i x) (us.set i u)
  | _, _, _, .nil => .nil
  | _, _, 0, .cons _ t => .cons r t
  | _, _, i + 1, .cons q t => .cons q (Vals.set r i t)
theorem Vals.append : ∀ {xs ys : List V} {us ws : List Value}, Vals xs us → Vals ys ws → Vals (xs ++ ys) (us ++ ws)
  | _, _, _, _, .nil, s => s
  | _, _, _, _, .cons r t, s => .cons r (Vals.append t s)
theorem Vals.take : ∀ {xs : List V} {us : List Value} (n : Nat), Vals xs us → Vals (xs.take n) (us.take n)
  | _, _, 0, _ => .nil
  | _, _, _ + 1, .nil => .nil
  | _, _, n + 1, .cons r t => .cons r (Vals.take n t)
theorem Vals.drop : ∀ {xs : List V} {us : List Value} (n : Nat), Vals xs us → Vals (xs.drop n) (us.drop n)
  | _, _, 0, r => r
  | _, _, _ + 1, .nil => .nil
  | _, _, n + 1, .cons _ t => Vals.drop n t
def RelO : Option V → Option Value → Prop
  | some v, some u => RelV v u
  | none, none => True
  | _, _ => False
def KV {κ : Type} : List (κ × V) → List (κ × Value) → Prop := Paired fun (p : κ × V) (q : κ × Value) => p.1 = q.1 ∧ RelV p.2 q.2

/-- a key of a dict (00_mix): an int or a text -/
def kV : Key → V
  | .inl i => .int i
  | .inr x => .str x

/-- what stands at a tracked address -/
inductive HO where
  /-- a list -/
  | lst (xs : List V)
  /-- a tuple (never changes) -/
  | tup (xs : List V)
  /-- a dict whose keys are ints and texts; one whose keys are tuples of ints and texts (the empty one is both) -/
  | dK (kvs : List (Key × V)) | dT (kvs : List (List Key × V))
  /-- a set of ints: its members, its size -/
  | set (S : Int → Bool) (n : Nat)
  /-- an instance of the class at C, its dict at dx, its attributes -/
  | ins (C dx : Addr) (fs : List (Str × V))
  /-- the dict of the instance at x -/
  | own (x : Addr)
  /-- the dict of an exception -/
  | xd (fs : List (Str × V))
  /-- a bound method, f of x -/
  | met (f x : Addr)
  /-- a range object lo, lo + 1, .. below hi -/
  | rng (lo hi : Int)
  /-- a thing that is known to the object (the script; a dict while a loop walks it): read, never written while it is so -/
  | frz (o : Obj) (u : HO)
  /-- a code object's table -/
  | tbl (ps : Array Value)
  /-- any other thing, by what is true of its one object (a def of one's own: SetO a S n := HO.ext fun h => ..) -/
  | ext (φ : Heap → Prop)

abbrev Hp := Addr → Option HO
def upd (H : Hp) (a : Addr) (o : HO) : Hp := fun b => if b = a then some o else H b
theorem upd_same {H : Hp} {a : Addr} {o : HO} : upd H a o a = some o := by unfold upd; rw [if_pos rfl]
theorem upd_ne {H : Hp} {a b : Addr} {o : HO} (h : b ≠ a) : upd H a o b = H b := by unfold upd; rw [if_neg h]
theorem upd_upd {H : Hp} {a : Addr} {o u : HO} : upd (upd H a o) a u = upd H a u := by
  funext b; unfold upd; split <;> rfl
/-- two objects of different content stand apart -/
theorem ne_of {H : Hp} {a b : Addr} {o u : HO} (h : H a = some o) (h' : H b = some u) (d : o ≠ u) : a ≠ b := by
  intro e; subst e; rw [h] at h'; exact d (Option.some.inj h')
theorem ne_of_none {H : Hp} {a b : Addr} {o : HO} (h : H a = some o) (h' : H b = none) : a ≠ b := by
  intro e; subst e; rw [h] at h'; cases h'

section
variable (P : Program) (w : World)
def ObjOk (H : Hp) (h : Heap) (a : Addr) : HO → Prop
  | .lst xs => xs.length ≤ sizeLine ∧ ∃ (its : List Value) (n : Nat), Vals xs its ∧ h.get? a = some { cls := .type "list", data := .seq its.toArray n }
  | .tup xs => xs.length ≤ sizeLine ∧ ∃ its : List Value, Vals xs its ∧ IsTup h a its.toArray
  | .dK kvs => kvs.length ≤ sizeLine ∧ (a == sysModules) = false ∧ ∃ vs, KV kvs vs ∧ h.DictOf (mixKind P w) a vs
  | .dT kvs => kvs.length ≤ sizeLine ∧ (a == sysModules) = false ∧ ∃ xs : List (List Key × Addr × Value),
      Paired (fun (p : List Key × V) (q : List Key × Addr × Value) => p.1 = q.1 ∧ H q.2.1 = some (.tup (p.1.map kV)) ∧ RelV p.2 q.2.2) kvs xs ∧
      ∃ o es ep, h.get? a = some o ∧ o.ExactDict ∧ o.data = .dict es ep ∧ es.toList = xs.map (entryOfKey (tupleKind (mixKind P w))) ∧ (xs.map (·.1)).Nodup
  | .set S n => h.SetOf (intKind P w) a S n
  | .ins C dx fs => H dx = some (.own a) ∧ fs.length ≤ 1000 ∧ dx ≠ a ∧ h.get? a = some (PySem.W.instObj C dx) ∧
      ∃ mA, h.Ns1 dx mA ∧ (∀ f, RelO (fs.lookup f) (mA f)) ∧ PySem.Within mA (fs.map (·.1))
  | .own _ => ∃ o, h.get? a = some o
  | .xd fs => ∃ mA, h.Ns1 a mA ∧ ∀ f, RelO (fs.lookup f) (mA f)
  | .rng lo hi => ∃ t u v, h.get? a = some { cls := .type "range", data := .fields #[.int lo t, .int hi u, .int 1 v] }
  | .frz o u => h.get? a = some o ∧ ObjOk H h a u
  | .tbl ps => h.get? a = some { cls := .none, data := .fields ps }
  | .met f x => h.get? a = some (PySem.W.methodObj (.ref f) (.ref x))
  | .ext φ => φ h ∧ (∃ o, h.get? a = some o) ∧ ∀ h1 h2 : Heap, φ h1 → (∀ o, h1.get? a = some o → h2.get? a = some o) → φ h2
/-- the abstract heap is held -/
def HOk (H : Hp) (h : Heap) : Prop := ∀ a o, H a = some o → ObjOk P w H h a o
end

section
variable {P : Program} {w : World} {H H' : Hp} {h h' : Heap} {a : Addr} {o : HO}
theorem ObjOk.lt (x : ObjOk P w H h a o) : a < h.objs.size := by
  cases o with
  | lst xs => obtain ⟨_, _, _, _, e⟩ := x; exact Heap.lt_size e
  | tup xs => obtain ⟨_, _, _, p⟩ := x; exact p.lt
  | dK kvs => obtain ⟨_, _, _, _, o, _, _, e, _⟩ := x; exact Heap.lt_size e
  | dT kvs => obtain ⟨_, _, _, _, o, _, _, e, _⟩ := x; exact Heap.lt_size e
  | set S n => obtain ⟨o, _, _, _, e, _⟩ := x; exact Heap.lt_size e
  | ins C dx fs => obtain ⟨_, _, _, e, _⟩ := x; exact Heap.lt_size e
  | own y => obtain ⟨_, e⟩ := x; exact Heap.lt_size e
  | xd fs => obtain ⟨_, ⟨_, _, _, e, _⟩, _⟩ := x; exact Heap.lt_size e
  | rng lo hi => obtain ⟨_, _, _, e⟩ := x; exact Heap.lt_size e
  | frz ob u => obtain ⟨e, _⟩ := x; exact Heap.lt_size e
  | tbl ps => exact Heap.lt_size (show h.get? a = some _ from x)
  | met f y => exact Heap.lt_size (show h.get? a = some _ from x)
  | ext φ => obtain ⟨_, ⟨_, e⟩, _⟩ := x; exact Heap.lt_size e
theorem Paired.mapP {α β : Type} {F G : α → β → Prop} : ∀ {l₁ : List α} {l₂ : List β}, Paired F l₁ l₂ → (∀ a b, F a b → G a b) → Paired G l₁ l₂
  | _, _, .nil, _ => .nil
  | _, _, .cons r t, f => .cons (f _ _ r) (Paired.mapP t f)
/-- what an object's description leans on: its own object, its own dict, the tuples -/
theorem ObjOk.stay (x : ObjOk P w H h a o) (k : ∀ b u, (b = a ∨ H b = some (.own a)) → h.get? b = some u → h'.get? b = some u)
    (ho : ∀ b, H b = some (.own a) → H' b = some (.own a)) (ht : ∀ b xs, H b = some (.tup xs) → H' b = some (.tup xs)) : ObjOk P w H' h' a o := by
  induction o with
  | lst xs => obtain ⟨z, its, n, r, e⟩ := x; exact ⟨z, its, n, r, k _ _ (.inl rfl) e⟩
  | tup xs => obtain ⟨z, its, r, ob, e, c⟩ := x; exact ⟨z, its, r, ob, k _ _ (.inl rfl) e, c⟩
  | dK kvs => obtain ⟨z, y, vs, r, ob, es, ep, e, c⟩ := x; exact ⟨z, y, vs, r, ob, es, ep, k _ _ (.inl rfl) e, c⟩
  | dT kvs =>
    obtain ⟨z, y, xs, r, ob, es, ep, e, c⟩ := x
    exact ⟨z, y, xs, Paired.mapP r fun p q z => ⟨z.1, ht _ _ z.2.1, z.2.2⟩, ob, es, ep, k _ _ (.inl rfl) e, c⟩
  | set S n => obtain ⟨ob, es, ep, t, e, c⟩ := x; exact ⟨ob, es, ep, t, k _ _ (.inl rfl) e, c⟩
  | ins C dx fs =>
    obtain ⟨d, z, ne, e, mA, ⟨od, es, ep, e2, c⟩, r⟩ := x
    exact ⟨ho _ d, z, ne, k _ _ (.inl rfl) e, mA, ⟨od, es, ep, k _ _ (.inr d) e2, c⟩, r⟩
  | own y => obtain ⟨ob, e⟩ := x; exact ⟨ob, k _ _ (.inl rfl) e⟩
  | xd fs => obtain ⟨mA, ⟨od, es, ep, e, c⟩, r⟩ := x; exact ⟨mA, ⟨od, es, ep, k _ _ (.inl rfl) e, c⟩, r⟩
  | rng lo hi => obtain ⟨t, u, v, e⟩ := x; exact ⟨t, u, v, k _ _ (.inl rfl) e⟩
  | frz ob u ih => obtain ⟨e, q⟩ := x; exact ⟨k _ _ (.inl rfl) e, ih q⟩
  | tbl ps =>
    have e : h.get? a = some { cls := .none, data := .fields ps } := x
    show h'.get? a = some { cls := .none, data := .fields ps }
    exact k a _ (.inl rfl) e
  | met f y =>
    have e : h.get? a = some (PySem.W.methodObj (.ref f) (.ref y)) := x
    show h'.get? a = some (PySem.W.methodObj (.ref f) (.ref y))
    exact k a _ (.inl rfl) e
  | ext φ => obtain ⟨p, ⟨o, e⟩, st⟩ := x; exact ⟨st _ _ p fun o q => k _ _ (.inl rfl) q, ⟨o, k _ _ (.inl rfl) e⟩, st⟩
theorem HOk.lt (x : HOk P w H h) (e : H a = some o) : a < h.objs.size := (x a o e).lt
theorem HOk.fresh (x : HOk P w H h) (e : h.objs.size ≤ a) : H a = none := by
  cases q : H a with
  | none => rfl
  | some u => exact absurd (Nat.lt_of_lt_of_le (x.lt q) e) (Nat.lt_irrefl _)
/-- every object of the heap is kept -/
theorem HOk.kept (x : HOk P w H h) (k : ∀ b u, h.get? b = some u → h'.get? b = some u) : HOk P w H h' := fun a o e =>
  (x a o e).stay (fun b u _ q => k b u q) (fun _ q => q) fun _ _ q => q
/-- a new object is laid and tracked -/
theorem HOk.laid (x : HOk P w H h) (k : ∀ b u, h.get? b = some u → h'.get? b = some u) (hp : h.objs.size ≤ a) (new : ObjOk P w (upd H a o) h' a o) : HOk P w (upd H a o) h' := fun b u e => by
  have hn := x.fresh hp
  by_cases hb : b = a
  · subst hb; rw [upd_same] at e; cases e; exact new
  · rw [upd_ne hb] at e
    exact (x b u e).stay (fun c v _ q => k c v q) (fun c q => by rw [upd_ne (ne_of_none q hn)]; exact q) fun c xs q => by rw [upd_ne (ne_of_none q hn)]; exact q
end

/-- what may be read as u: it is u, or a known u -/
def Rd (H : Hp) (a : Addr) (u : HO) : Prop := H a = some u ∨ ∃ o, H a = some (.frz o u)
theorem Rd.of {H : Hp} {a : Addr} {u : HO} (h : H a = some u) : Rd H a u := .inl h
theorem Rd.ok {P : Program} {w : World} {H : Hp} {h : Heap} {a : Addr} {u : HO} (r : Rd H a u) (x : HOk P w H h) : ObjOk P w H h a u := by
  rcases r with r | ⟨o, r⟩
  · exact x a u r
  · obtain ⟨_, q⟩ := x a _ r
    exact q
/-- what may be written -/
def Mut : Option HO → Prop
  | some (.lst _) => True
  | some (.dK _) => True
  | some (.dT _) => True
  | some (.set _ _) => True
  | some (.ins _ _ _) => True
  | some (.ext _) => True
  | _ => False
section
variable {P : Program} {w : World} {H : Hp} {h h' : Heap} {x e : Addr} {o' : HO}
/-- the object at e is changed: x itself, or the dict of the instance x -/
theorem HOk.write (ok : HOk P w H h) (mu : Mut (H x)) (he : e = x ∨ H e = some (.own x)) (k : ∀ b u, b ≠ e → h.get? b = some u → h'.get? b = some u) (heo : ∃ u, h'.get? e = some u)
    (new : ObjOk P w (upd H x o') h' x o') : HOk P w (upd H x o') h' := fun b u q => by
  have nown : ∀ c y, H c = some (.own y) → c ≠ x := fun c y r z => by subst z; rw [r] at mu; exact mu
  have ntup : ∀ c xs, H c = some (.tup xs) → c ≠ x := fun c xs r z => by subst z; rw [r] at mu; exact mu
  by_cases hb : b = x
  · subst hb; rw [upd_same] at q; cases q; exact new
  · rw [upd_ne hb] at q
    by_cases hbe : b = e
    · have q' : H b = some (.own x) := by
        rcases he with z | z
        · exact absurd (hbe.trans z) hb
        · rw [hbe]; exact z
      rw [q] at q'; cases q'
      obtain ⟨v, hv⟩ := heo
      exact ⟨v, by rw [hbe]; exact hv⟩
    · refine (ok b u q).stay (fun c v hc r => k c v ?_ r) (fun c r => by rw [upd_ne (nown c b r)]; exact r) fun c xs r => by rw [upd_ne (ntup c xs r)]; exact r
      rcases hc with rfl | hc
      · exact hbe
      · rintro rfl
        rcases he with z | z
        · exact nown c b hc z
        · rw [hc] at z; cases z; exact hb rfl
end

/-! ### kept unless tracked; of the frames at fs (the callers') the slots may change (an exception that passes writes there); of the records at ex (iterators) nothing is said -/
structure Un (fs ex : List Addr) (H H' : Hp) (h h' : Heap) : Prop where
  keep : ∀ b o, h.get? b = some o → H b = none → b ∉ fs → b ∉ ex → h'.get? b = some o
  slot : ∀ b o, h.get? b = some o → H b = none → b ∈ fs → b ∉ ex → ∃ sl, h'.get? b = some { o with slots := sl }
  free : ∀ b o, h.get? b = some o → H b = none → b ∉ ex → H' b = none
  there : ∀ b o, h.get? b = some o → b ∉ ex → ∃ o', h'.get? b = some o'
  tups : ∀ b xs, H b = some (.tup xs) → H' b = some (.tup xs)
  frzs : ∀ b o u, H b = some (.frz o u) → H' b = some (.frz o u)
  tbls : ∀ b ps, H b = some (.tbl ps) → ∃ more, H' b = some (.tbl (ps ++ more))
section
variable {fs fs' ex ex' : List Addr} {H H1 H2 : Hp} {h h1 h2 h' : Heap} {a x e : Addr} {o : HO}
theorem Un.any (u : Un fs ex H H1 h h1) {b : Addr} {ob : Obj} (q : h.get? b = some ob) (n : H b = none) (hx : b ∉ ex) : ∃ sl, h1.get? b = some { ob with slots := sl } := by
  by_cases hb : b ∈ fs
  · exact u.slot b ob q n hb hx
  · exact ⟨ob.slots, u.keep b ob q n hb hx⟩
theorem Un.trans (a : Un fs ex H H1 h h1) (b : Un fs ex H1 H2 h1 h2) : Un fs ex H H2 h h2 where
  keep := fun c ob q n hc hx => b.keep c ob (a.keep c ob q n hc hx) (a.free c ob q n hx) hc hx
  slot := fun c ob q n hc hx => by
    obtain ⟨sl, e1⟩ := a.slot c ob q n hc hx
    obtain ⟨sl', e2⟩ := b.slot c _ e1 (a.free c ob q n hx) hc hx
    exact ⟨sl', e2⟩
  free := fun c ob q n hx => by
    obtain ⟨o', e1⟩ := a.there c ob q hx
    exact b.free c o' e1 (a.free c ob q n hx) hx
  there := fun c ob q hx => by
    obtain ⟨o', e1⟩ := a.there c ob q hx
    exact b.there c o' e1 hx
  tups := fun c xs q => b.tups c xs (a.tups c xs q)
  frzs := fun c ob xs q => b.frzs c ob xs (a.frzs c ob xs q)
  tbls := fun c ps q => by
    obtain ⟨m1, e1⟩ := a.tbls c ps q
    obtain ⟨m2, e2⟩ := b.tbls c _ e1
    exact ⟨m1 ++ m2, by rw [e2, Array.append_assoc]⟩
theorem Un.kept (k : ∀ b u, h.get? b = some u → h'.get? b = some u) : Un fs ex H H h h' :=
  ⟨fun b ob q _ _ _ => k b ob q, fun b ob q _ _ _ => ⟨ob.slots, k b ob q⟩, fun _ _ _ n _ => n, fun b ob q _ => ⟨ob, k b ob q⟩, fun _ _ q => q, fun _ _ _ q => q, fun _ ps q => ⟨#[], by rw [q]; simp⟩⟩
theorem Un.refl : Un fs ex H H h h := Un.kept fun _ _ q => q
theorem Un.laid (k : ∀ b u, h.get? b = some u → h'.get? b = some u) (hp : h.objs.size ≤ a) (hn : H a = none) : Un fs ex H (upd H a o) h h' where
  keep := fun b u q _ _ _ => k b u q
  slot := fun b u q _ _ _ => ⟨u.slots, k b u q⟩
  free := fun b u q n _ => by rw [upd_ne (Nat.ne_of_lt (Nat.lt_of_lt_of_le (Heap.lt_size q) hp))]; exact n
  there := fun b u q _ => ⟨u, k b u q⟩
  tups := fun b xs q => by rw [upd_ne (ne_of_none q hn)]; exact q
  frzs := fun b u xs q => by rw [upd_ne (ne_of_none q hn)]; exact q
  tbls := fun b ps q => ⟨#[], by rw [upd_ne (ne_of_none q hn), q]; simp⟩
theorem Un.write (mu : Mut (H x)) (he : e = x ∨ H e = some (.own x)) (k : ∀ b u, b ≠ e → h.get? b = some u → h'.get? b = some u) (heo : ∃ u, h'.get? e = some u) : Un fs ex H (upd H x o) h h' := by
  have hx : ∀ b, H b = none → b ≠ x := fun b n z => by subst z; rw [n] at mu; exact mu
  have hb : ∀ b, H b = none → b ≠ e := fun b n z => by
    subst z
    rcases he with r | r
    · exact hx b n r
    · rw [n] at r; cases r
  have hm : ∀ b u, H b = some u → ¬ Mut (some u) → b ≠ x := fun b u q nm z => by subst z; rw [q] at mu; exact nm mu
  refine ⟨fun b u q n _ _ => k b u (hb b n) q, fun b u q n _ _ => ⟨u.slots, k b u (hb b n) q⟩, fun b u q n _ => by rw [upd_ne (hx b n)]; exact n, fun b u q _ => ?_,
    fun b xs q => by rw [upd_ne (hm b _ q fun z => z)]; exact q, fun b u xs q => by rw [upd_ne (hm b _ q fun z => z)]; exact q, fun b ps q => ⟨#[], by rw [upd_ne (hm b _ q fun z => z), q]; simp⟩⟩
  by_cases hbe : b = e
  · subst hbe; exact heo
  · exact ⟨u, k b u hbe q⟩
theorem Un.mono (u : Un fs ex H H1 h h1) (hs : ∀ b ∈ fs, b ∈ fs') (hx : ∀ b ∈ ex, b ∈ ex') : Un fs' ex' H H1 h h1 :=
  ⟨fun b ob q n hb he => u.keep b ob q n (fun z => hb (hs b z)) fun z => he (hx b z), fun _ _ q n _ he => u.any q n fun z => he (hx _ z), fun b ob q n he => u.free b ob q n fun z => he (hx b z), fun b ob q he => u.there b ob q fun z => he (hx b z), u.tups, u.frzs, u.tbls⟩
end

/-! ### the heap without what is tracked -/
def trk (h : Heap) (H : Hp) : List Addr := (List.range h.objs.size).filter fun a => (H a).isSome
def hidT (h : Heap) (H : Hp) : Heap := PySem.W.hideAll h (trk h H)
theorem hidT_size (h : Heap) (H : Hp) : (hidT h H).objs.size = h.objs.size := PySem.W.hideAll_size _ _
theorem hidT_get {h : Heap} {H : Hp} {b : Addr} {o : Obj} (e : h.get? b = some o) (n : H b = none) : (hidT h H).get? b = some o :=
  PySem.W.hideAll_get _ e fun hm => by
    have q : (H b).isSome = true := (List.mem_filter.mp hm).2
    rw [n] at q; simp at q
theorem of_hidT {h : Heap} {H : Hp} {b : Addr} {o : Obj} (e : (hidT h H).get? b = some o) : h.get? b = some o ∧ H b = none := by
  have e' : h.get? b = some o := PySem.W.of_hideAll (trk h H) e
  refine ⟨e', ?_⟩
  cases q : H b with
  | none => rfl
  | some x =>
    have hm : b ∈ trk h H := List.mem_filter.mpr ⟨List.mem_range.mpr (Heap.lt_size e'), by simp [q]⟩
    have z : (hidT h H).get? b = none := PySem.W.hideAll_none (trk h H) hm
    rw [z] at e; cases e

/-! ### OpenK's ledger, filled with every new object but one -/
def allNews (g h : Heap) (L : Addr) : List (Addr × Obj) := (List.range h.objs.size).filterMap fun a => if a = L ∨ (g.get? a).isSome = true then none else (h.get? a).map fun o => (a, o)
def rest (g h : Heap) (L d : Addr) : List (Addr × Obj) := (allNews g h L).filter fun p => decide (p.1 ≠ d)
end L2

namespace L2
open PySem PySem.Spec PyProof.Rows

/-- the module's facts, over the base: the heap at the law's entry without what is tracked there -/
structure Mod (K : PySem.W.Frag) (mg : Str → Option Value) (base : Heap) : Prop where
  kin : K.In base
  glob : base.Ns mainGlobals mg
  blt : ∃ mb, base.Ns builtinsNs mb ∧ ∀ x : Str, x ≠ "__name__" → mb x = bootBuiltins x
  nolimit : base.NoLimit

/-- the context: a def's body (or a comprehension's block) running. base: fixed through the whole law; s₀, H₀: the entry; outer: the frames whose slots others may change (a def's callers); stack: all frames that run;
   ex: iterators that were made ahead of the entry and are walked here (a comprehension's); fn: the names whose cells were made at the entry (a def: all; a comprehension's block: its own); calm: not within an except suite; pn: pins that every state bears; xe: what is wanted of an exception that leaves the code -/
structure Cx where
  prog : Program
  w : World
  K : PySem.W.Frag
  mg : Str → Option Value
  base : Heap
  A : Around
  N : List Str
  s₀ : Shared
  H₀ : Hp
  env : Env
  outer : List Env
  stack : List Env
  ex : List Addr
  fn : Str → Bool
  calm : Bool
  pn : List (Addr × Obj)
  xe : Value → Shared → Prop
/-- the callers' frames -/
def frs (l : List Env) : List Addr := l.filterMap (·.frame)
abbrev Cx.fs (X : Cx) : List Addr := frs X.outer

def Vis (sc : Scope) (x : Str) : Prop := sc.names.lookup x = some .local ∨ sc.names.lookup x = some .cell ∨ sc.names.lookup x = some .free
def Loc (sc : Scope) (x : Str) : Prop := sc.names.lookup x = some .local ∨ sc.names.lookup x = some .cell
def Look (env : Env) (h : Heap) (m : Str → Option Value) (x : Str) (u : Value) : Prop :=
  (env.kindOf x = some .local ∧ m x = some u) ∨ ((env.kindOf x = some .cell ∨ env.kindOf x = some .free) ∧ ∃ c, env.cells.lookup x = some c ∧ h.IsCell c (some u))

structure Cx.Ok (X : Cx) : Prop where
  mod : Mod X.K X.mg X.base
  kind : X.env.scope.kind = .function
  glob : X.env.globals = mainGlobals
  blt : X.env.builtins = builtinsNs
  above : X.s₀.heap.objs.size ≤ X.env.locals
  inj : ∀ x y c, X.env.cells.lookup x = some c → X.env.cells.lookup y = some c → x = y
  has : ∀ x, (X.env.kindOf x = some .cell ∨ X.env.kindOf x = some .free) → ∃ c, X.env.cells.lookup x = some c
  cab : ∀ x c, X.fn x = true → X.env.cells.lookup x = some c → X.s₀.heap.objs.size ≤ c
  hd : X.calm = true → X.A.handled = none
  frames : X.A.frames = some X.stack
  stk : X.stack = X.outer ∨ (X.stack = X.env :: X.outer ∧ X.env.frame = some X.env.locals)
  exf : ∀ b ∈ X.ex, b ≠ X.env.locals ∧ ∀ x c, X.env.cells.lookup x = some c → c ≠ b
  bs : ∀ b o, X.base.get? b = some o → X.s₀.heap.get? b = some o ∧ X.H₀ b = none
  bsz : X.base.objs.size ≤ X.s₀.heap.objs.size
  noex : ∀ b o, X.base.get? b = some o → b ∉ X.ex
  exfs : ∀ b ∈ X.ex, b ∉ X.fs
  funs : X.s₀.heap.FunFrames X.base X.outer
  frf : ∀ b ∈ X.fs, X.H₀ b = none

structure Inv (X : Cx) (pins : List (Addr × Obj)) (σ : List (Option V)) (H : Hp) (s : Shared) : Prop where
  ok : X.Ok
  os : s.os = X.s₀.os
  bare : AllBare s.gens
  base : Un X.fs X.ex X.H₀ H X.s₀.heap s.heap
  loc : ∃ m, s.heap.Ns X.env.locals m ∧ ∀ (i : Nat) (x : Str) (v : V), X.N[i]? = some x → σ[i]? = some (some v) → Vis X.env.scope x → ∃ u, RelV v u ∧ Look X.env s.heap m x u
  cell : ∀ x c, X.env.cells.lookup x = some c → ∃ v, s.heap.IsCell c v
  free : H X.env.locals = none
  freeC : ∀ x c, X.env.cells.lookup x = some c → H c = none
  pin : ∀ p ∈ X.pn ++ pins, s.heap.get? p.1 = some p.2 ∧ H p.1 = none ∧ p.1 ≠ X.env.locals ∧ p.1 ∉ X.fs ∧ ∀ v, p.2.data ≠ .cell v
  hok : HOk X.prog X.w H s.heap
  len : σ.length = X.N.length

section
variable {X : Cx} {pins : List (Addr × Obj)} {σ : List (Option V)} {H H' : Hp} {s : Shared} {h' : Heap}

theorem Cx.Ok.nofr (ok : X.Ok) {b : Addr} {o : Obj} (e : X.base.get? b = some o) : b ∉ X.fs := fun hb => by
  have := (ok.funs.mem hb).1
  rw [e] at this; cases this
theorem Inv.bs (I : Inv X pins σ H s) : ∀ b o, X.base.get? b = some o → s.heap.get? b = some o ∧ H b = none := fun b o e =>
  ⟨I.base.keep b o (I.ok.bs b o e).1 (I.ok.bs b o e).2 (I.ok.nofr e) (I.ok.noex b o e), I.base.free b o (I.ok.bs b o e).1 (I.ok.bs b o e).2 (I.ok.noex b o e)⟩
theorem Inv.bk (I : Inv X pins σ H s) : ∀ b o, X.base.get? b = some o → s.heap.get? b = some o := fun b o e => (I.bs b o e).1
theorem Inv.mod (I : Inv X pins σ H s) : Mod X.K X.mg X.base := I.ok.mod
theorem Inv.kIn (I : Inv X pins σ H s) : X.K.In s.heap := I.ok.mod.kin.keeps I.bk
theorem Inv.nolimit (I : Inv X pins σ H s) : s.heap.NoLimit := I.ok.mod.nolimit.keeps I.bk
/-- the frame over the base: for OpenK's rules (K.In X.base is I.mod.kin) -/
theorem Inv.fr (I : Inv X pins σ H s) : ∃ m, Fr X.base X.env.locals s.heap m :=
  let ⟨m, hn, _⟩ := I.loc
  ⟨m, hn, I.bk, Nat.le_trans I.ok.bsz I.ok.above⟩
theorem Inv.lt (I : Inv X pins σ H s) : X.env.locals < s.heap.objs.size := let ⟨_, hn, _⟩ := I.loc; hn.lt
theorem Inv.sz (I : Inv X pins σ H s) : X.s₀.heap.objs.size ≤ s.heap.objs.size := Nat.le_trans I.ok.above (Nat.le_of_lt I.lt)
theorem Inv.nofs (I : Inv X pins σ H s) {a : Addr} (h : s.heap.objs.size ≤ a) : a ∉ X.fs := fun hb => by
  obtain ⟨_, o, ho, _⟩ := I.ok.funs.mem hb
  exact absurd (Nat.lt_of_lt_of_le (Heap.lt_size ho) (Nat.le_trans I.sz h)) (Nat.lt_irrefl _)
theorem Inv.cne (I : Inv X pins σ H s) : ∀ x c, X.env.cells.lookup x = some c → c ≠ X.env.locals := fun x c e z => by
  obtain ⟨v, o, ho, hd⟩ := I.cell x c e
  obtain ⟨m, ⟨o', es, ep, ho', hd', _⟩, _⟩ := I.loc
  rw [z, ho'] at ho; cases ho; rw [hd'] at hd; cases hd
theorem Inv.funs (I : Inv X pins σ H s) : s.heap.FunFrames X.base X.outer := by
  have all : ∀ (l : List Env), (∀ b ∈ frs l, b ∈ X.fs) → X.s₀.heap.FunFrames X.base l → s.heap.FunFrames X.base l := by
    intro l
    induction l with
    | nil => intro _ _; trivial
    | cons env r ih =>
      intro hs hl
      obtain ⟨hk, ⟨L, o, hf, hn, ho, hd⟩, hr⟩ := hl
      have hL : L ∈ X.fs := hs L (by unfold frs; rw [List.filterMap_cons, hf]; exact List.mem_cons_self)
      obtain ⟨sl, e⟩ := I.base.slot L o ho (I.ok.frf L hL) hL fun z => I.ok.exfs L z hL
      exact ⟨hk, ⟨L, _, hf, hn, e, hd⟩, ih (fun b hb => hs b (by unfold frs; rw [List.filterMap_cons, hf]; exact List.mem_cons_of_mem _ hb)) hr⟩
  exact all X.outer (fun _ hb => hb) I.ok.funs

/-- the frames that run, for a call -/
theorem Inv.stack (I : Inv X pins σ H s) : s.heap.FunFrames X.base X.stack := by
  rcases I.ok.stk with e | ⟨e, hf⟩
  · rw [e]; exact I.funs
  · rw [e]
    obtain ⟨m, hn, _⟩ := I.loc
    refine .cons (by rw [I.ok.kind]; decide) hf hn ?_ I.funs
    exact Heap.get?_none_of_le (Nat.le_trans I.ok.bsz I.ok.above)
theorem Inv.stkSub (I : Inv X pins σ H s) : ∀ b ∈ frs X.stack, b ∈ X.env.locals :: X.fs := fun b hb => by
  rcases I.ok.stk with e | ⟨e, hf⟩
  · rw [e] at hb; exact List.mem_cons_of_mem _ hb
  · rw [e] at hb
    unfold frs at hb
    rw [List.filterMap_cons, hf] at hb
    exact hb
theorem Inv.stkFree (I : Inv X pins σ H s) : ∀ b ∈ frs X.stack, H b = none := fun b hb => by
  rcases List.mem_cons.mp (I.stkSub b hb) with e | hb
  · rw [e]; exact I.free
  · obtain ⟨_, o, ho, _⟩ := I.ok.funs.mem hb
    exact I.base.free b o ho (I.ok.frf b hb) fun z => I.ok.exfs b z hb

/-- THE STEP: the untracked objects but the frame and the records at ch are kept (the callers' frames up to slots), the frame's map is kept, the new abstract heap is held -/
theorem Inv.step {g' : Array GenState} {t' : Nat} {d' : Drawn} {ch : List Addr} (I : Inv X pins σ H s)
    (hch : ∀ b ∈ ch, (b ∈ X.ex ∨ X.s₀.heap.objs.size ≤ b) ∧ b ≠ X.env.locals ∧ (∀ x c, X.env.cells.lookup x = some c → c ≠ b) ∧ ∀ p ∈ X.pn ++ pins, p.1 ≠ b)
    (keep : ∀ b o, b ≠ X.env.locals → b ∉ X.fs → b ∉ ch → s.heap.get? b = some o → H b = none → h'.get? b = some o)
    (slot : ∀ b o, b ≠ X.env.locals → b ∈ X.fs → b ∉ ch → s.heap.get? b = some o → H b = none → ∃ sl, h'.get? b = some { o with slots := sl }) (free : ∀ b o, b ∉ ch → s.heap.get? b = some o → H b = none → H' b = none)
    (there : ∀ b o, b ∉ ch → s.heap.get? b = some o → ∃ o', h'.get? b = some o')
    (tups : ∀ b xs, H b = some (.tup xs) → H' b = some (.tup xs)) (frzs : ∀ b o u, H b = some (.frz o u) → H' b = some (.frz o u)) (tbls : ∀ b ps, H b = some (.tbl ps) → ∃ more, H' b = some (.tbl (ps ++ more)))
    (ns : ∀ m, s.heap.Ns X.env.locals m → h'.Ns X.env.locals m) (hok : HOk X.prog X.w H' h') (hg : AllBare g') :
    Inv X pins σ H' { s with heap := h', gens := g', drawn := d', toks := t' } := by
  have neL : ∀ b o, X.s₀.heap.get? b = some o → b ≠ X.env.locals := fun b o e => Nat.ne_of_lt (Nat.lt_of_lt_of_le (Heap.lt_size e) I.ok.above)
  have neC : ∀ b o, X.s₀.heap.get? b = some o → b ∉ X.ex → b ∉ ch := fun b o e hx hb => by
    rcases (hch b hb).1 with z | z
    · exact hx z
    · exact absurd (Nat.lt_of_lt_of_le (Heap.lt_size e) z) (Nat.lt_irrefl _)
  have cellK : ∀ x c, X.env.cells.lookup x = some c → ∀ v, s.heap.IsCell c v → h'.IsCell c v := fun x c e v ⟨o, ho, hd⟩ => by
    have nch : c ∉ ch := fun z => (hch c z).2.2.1 x c e rfl
    by_cases hc : c ∈ X.fs
    · obtain ⟨sl, q⟩ := slot c o (I.cne x c e) hc nch ho (I.freeC x c e)
      exact ⟨_, q, hd⟩
    · exact ⟨o, keep c o (I.cne x c e) hc nch ho (I.freeC x c e), hd⟩
  refine ⟨I.ok, I.os, hg, ⟨fun b o e n hb hx => ?_, fun b o e n hb hx => ?_, fun b o e n hx => ?_, fun b o e hx => ?_, fun b xs e => tups b xs (I.base.tups b xs e), fun b o xs e => frzs b o xs (I.base.frzs b o xs e), fun b ps e => ?_⟩, ?_, fun x c e => ?_, ?_, fun x c e => ?_, fun p hp => ?_, hok, I.len⟩
  · exact keep b o (neL b o e) hb (neC b o e hx) (I.base.keep b o e n hb hx) (I.base.free b o e n hx)
  · obtain ⟨sl, e1⟩ := I.base.slot b o e n hb hx
    obtain ⟨sl', e2⟩ := slot b _ (neL b o e) hb (neC b o e hx) e1 (I.base.free b o e n hx)
    exact ⟨sl', e2⟩
  · obtain ⟨o', e1⟩ := I.base.there b o e hx
    exact free b o' (neC b o e hx) e1 (I.base.free b o e n hx)
  · obtain ⟨o', e1⟩ := I.base.there b o e hx
    exact there b o' (neC b o e hx) e1
  · obtain ⟨m1, e1⟩ := I.base.tbls b ps e
    obtain ⟨m2, e2⟩ := tbls b _ e1
    exact ⟨m1 ++ m2, by rw [e2, Array.append_assoc]⟩
  · obtain ⟨m, hn, hl⟩ := I.loc
    refine ⟨m, ns m hn, fun i x v e1 e2 e3 => ?_⟩
    obtain ⟨u, r, l⟩ := hl i x v e1 e2 e3
    refine ⟨u, r, ?_⟩
    rcases l with l | ⟨k, c, e, z⟩
    · exact .inl l
    · exact .inr ⟨k, c, e, cellK x c e _ z⟩
  · obtain ⟨v, z⟩ := I.cell x c e
    exact ⟨v, cellK x c e v z⟩
  · obtain ⟨m, ⟨o, _, _, ho, _⟩, _⟩ := I.loc
    exact free _ o (fun z => (hch _ z).2.1 rfl) ho I.free
  · obtain ⟨v, o, ho, hd⟩ := I.cell x c e
    exact free c o (fun z => (hch c z).2.2.1 x c e rfl) ho (I.freeC x c e)
  · obtain ⟨e, n, ne, nf, d⟩ := I.pin p hp
    have nch : p.1 ∉ ch := fun z => (hch p.1 z).2.2.2 p hp rfl
    exact ⟨keep p.1 p.2 ne nf nch e n, free p.1 p.2 nch e n, ne, nf, d⟩
/-- .. where the frame's own object is kept too -/
theorem Inv.un {t' : Nat} (I : Inv X pins σ H s) (u : Un X.fs [] H H' s.heap h') (hok : HOk X.prog X.w H' h') : Inv X pins σ H' { s with heap := h', toks := t' } := by
  obtain ⟨m, ⟨o, es, ep, ho, r⟩, _⟩ := id I.loc
  obtain ⟨sl, hL⟩ := u.any ho I.free (by simp)
  exact I.step (g' := s.gens) (d' := s.drawn) (ch := []) (fun _ z => nomatch z) (fun b o _ hb _ e n => u.keep b o e n hb (by simp)) (fun b o _ hb _ e n => u.slot b o e n hb (by simp)) (fun b o _ e n => u.free b o e n (by simp)) (fun b o _ e => u.there b o e (by simp)) u.tups u.frzs u.tbls (fun m' hm => by
    obtain ⟨o', es', ep', ho', r'⟩ := hm
    rw [ho] at ho'; cases ho'
    exact ⟨_, es', ep', hL, r'⟩) hok I.bare
/-- behind a call (or a comprehension's block): the slots of this frame may have changed too, the records at ch may have turned -/
theorem Inv.call {g' : Array GenState} {t' : Nat} {d' : Drawn} {ch : List Addr} (I : Inv X pins σ H s) (u : Un (frs X.stack) ch H H' s.heap h') (hok : HOk X.prog X.w H' h') (hg : AllBare g')
    (hch : ∀ b ∈ ch, (b ∈ X.ex ∨ X.s₀.heap.objs.size ≤ b) ∧ b ≠ X.env.locals ∧ (∀ x c, X.env.cells.lookup x = some c → c ≠ b) ∧ ∀ p ∈ X.pn ++ pins, p.1 ≠ b) :
    Inv X pins σ H' { s with heap := h', gens := g', drawn := d', toks := t' } := by
  obtain ⟨m, ⟨o, es, ep, ho, r⟩, _⟩ := id I.loc
  obtain ⟨sl, hL⟩ := u.any ho I.free fun z => (hch _ z).2.1 rfl
  exact I.step (ch := ch) hch (fun b o hL hb hc e n => u.keep b o e n (fun z => (List.mem_cons.mp (I.stkSub b z)).elim hL hb) hc) (fun b o _ _ hc e n => u.any e n hc) (fun b o hc e n => u.free b o e n hc) (fun b o hc e => u.there b o e hc) u.tups u.frzs u.tbls (fun m' hm => by
    obtain ⟨o', es', ep', ho', r'⟩ := hm
    rw [ho] at ho'; cases ho'
    exact ⟨_, es', ep', hL, r'⟩) hok hg
/-- an untracked record of ours (an iterator) has turned -/
theorem Inv.turned {t' : Nat} {it : Addr} (I : Inv X pins σ H s) (k : ∀ b o, b ≠ it → s.heap.get? b = some o → h'.get? b = some o) (hn : H it = none) (hL : it ≠ X.env.locals)
    (h1 : it ∈ X.ex ∨ X.s₀.heap.objs.size ≤ it) (h2 : ∀ x c, X.env.cells.lookup x = some c → c ≠ it) (h3 : ∀ p ∈ X.pn ++ pins, p.1 ≠ it) : Inv X pins σ H { s with heap := h', toks := t' } := by
  have nit : ∀ b u, H b = some u → b ≠ it := fun b u e z => by rw [z, hn] at e; cases e
  refine I.step (g' := s.gens) (d' := s.drawn) (ch := [it]) (fun b hb => ?_) (fun b o _ _ hc e _ => k b o (fun z => hc (by simp [z])) e) (fun b o _ _ hc e _ => ⟨o.slots, k b o (fun z => hc (by simp [z])) e⟩) (fun _ _ _ _ n => n)
    (fun b o hc e => ⟨o, k b o (fun z => hc (by simp [z])) e⟩) (fun _ _ e => e) (fun _ _ _ e => e) (fun b ps e => ⟨#[], by rw [e]; simp⟩) (fun m hm => ?_) (fun b u e => ?_) I.bare
  · have e : b = it := by simpa using hb
    subst e
    exact ⟨h1, hL, h2, h3⟩
  · obtain ⟨o, es, ep, ho, r⟩ := hm
    exact ⟨o, es, ep, k _ o (Ne.symm hL) ho, r⟩
  · refine (I.hok b u e).stay (fun c v hc q => k c v ?_ q) (fun _ q => q) fun _ _ q => q
    rcases hc with z | z
    · rw [z]; exact nit b u e
    · exact nit c _ z
theorem Inv.tok (I : Inv X pins σ H s) (t : Nat) : Inv X pins σ H { s with toks := t } := I.un (h' := s.heap) (t' := t) Un.refl I.hok
/-- all objects kept -/
theorem Inv.kept {t' : Nat} (I : Inv X pins σ H s) (k : ∀ b u, s.heap.get? b = some u → h'.get? b = some u) : Inv X pins σ H { s with heap := h', toks := t' } := I.un (Un.kept k) (I.hok.kept k)
/-- a new object laid and tracked -/
theorem Inv.laid {a : Addr} {o : HO} {t' : Nat} (I : Inv X pins σ H s) (k : ∀ b u, s.heap.get? b = some u → h'.get? b = some u) (hp : s.heap.objs.size ≤ a) (new : ObjOk X.prog X.w (upd H a o) h' a o) :
    Inv X pins σ (upd H a o) { s with heap := h', toks := t' } := I.un (Un.laid k hp (I.hok.fresh hp)) (I.hok.laid k hp new)
/-- an object written -/
theorem Inv.write {x e : Addr} {o : HO} {t' : Nat} (I : Inv X pins σ H s) (mu : Mut (H x)) (he : e = x ∨ H e = some (.own x)) (k : ∀ b u, b ≠ e → s.heap.get? b = some u → h'.get? b = some u) (heo : ∃ u, h'.get? e = some u)
    (new : ObjOk X.prog X.w (upd H x o) h' x o) : Inv X pins σ (upd H x o) { s with heap := h', toks := t' } := I.un (Un.write mu he k heo) (I.hok.write mu he k heo new)
/-- forgetting slots, pins -/
theorem Inv.weak {σ' : List (Option V)} (I : Inv X pins σ H s) (hl : σ'.length = σ.length) (w : ∀ (i : Nat) v, σ'[i]? = some (some v) → σ[i]? = some (some v)) : Inv X pins σ' H s :=
  ⟨I.ok, I.os, I.bare, I.base, let ⟨m, hn, hl'⟩ := I.loc; ⟨m, hn, fun i x v e1 e2 e3 => hl' i x v e1 (w i v e2) e3⟩, I.cell, I.free, I.freeC, I.pin, I.hok, hl.trans I.len⟩
theorem Inv.pins_of {pins' : List (Addr × Obj)} (I : Inv X pins σ H s) (h : ∀ p ∈ pins', s.heap.get? p.1 = some p.2 ∧ H p.1 = none ∧ p.1 ≠ X.env.locals ∧ p.1 ∉ X.fs ∧ ∀ v, p.2.data ≠ .cell v) : Inv X pins' σ H s :=
  ⟨I.ok, I.os, I.bare, I.base, I.loc, I.cell, I.free, I.freeC, fun p hp => (List.mem_append.mp hp).elim (fun z => I.pin p (List.mem_append_left _ z)) (h p), I.hok, I.len⟩

theorem nodup_ix {N : List Str} (hN : N.Nodup) {i j : Nat} {x : Str} (a : N[i]? = some x) (b : N[j]? = some x) : i = j := by
  obtain ⟨h1, e1⟩ := List.getElem?_eq_some_iff.mp a
  obtain ⟨h2, e2⟩ := List.getElem?_eq_some_iff.mp b
  exact (List.getElem_inj hN).mp (e1.trans e2.symm)

/-- a name is stored; what changed -/
theorem store_ok2 {M : Model} {A : Around} {E : Value → Shared → Prop} {i : Nat} {x : Str} {v : V} {u : Value} {Q : Unit → Shared → Prop} (I : Inv X pins σ H s) (hN : X.N.Nodup) (hi : X.N[i]? = some x) (hx : Loc X.env.scope x) (r : RelV v u)
    (h : ∀ s', Inv X pins (σ.set i (some v)) H s' → (∃ a, Heap.SameBut a s.heap s'.heap ∧ (a = X.env.locals ∨ X.env.cells.lookup x = some a)) → Q () s') (hf : X.fn x = true ∨ X.env.scope.names.lookup x = some .local := by first | exact .inl rfl | exact .inr rfl | assumption) : wpAny M A (storeName X.env x u) Q E s := by
  obtain ⟨m, hn, hl⟩ := id I.loc
  have hcls : (X.env.scope.kind == .class || (X.env.scope.kind == .module && X.env.locals != X.env.globals)) = false := by rw [I.ok.kind]; rfl
  have hiσ : i < σ.length := by rw [I.len]; exact (List.getElem?_eq_some_iff.mp hi).1
  have cne := I.cne
  have tracked : ∀ {a : Addr} {h' : Heap}, (∃ o, s.heap.get? a = some o ∧ H a = none) → Heap.SameBut a s.heap h' → HOk X.prog X.w H h' := fun {a h'} ha hs b ob e => by
    obtain ⟨_, _, hfree⟩ := ha
    refine (I.hok b ob e).stay (fun c w' hc q => (hs.2 c ?_).trans q) (fun _ q => q) fun _ _ q => q
    rintro rfl
    rcases hc with rfl | hc
    · rw [hfree] at e; cases e
    · rw [hfree] at hc; cases hc
  rcases hx with hk | hk
  · refine wpAny_storeName_local hk hn (fun h' hn' hs => ?_) hcls
    obtain ⟨oL, _, _, hoL, _⟩ := id hn
    refine h _ ⟨I.ok, I.os, I.bare, ⟨fun b o e n hb hx => ?_, fun b o e n hb hx => ?_, I.base.free, fun b o e hx => ?_, I.base.tups, I.base.frzs, I.base.tbls⟩, ⟨_, hn', fun j y v' e1 e2 e3 => ?_⟩, fun y c e => ?_, I.free, I.freeC, fun p hp => ?_, tracked ⟨oL, hoL, I.free⟩ hs, by simpa using I.len⟩ ⟨_, hs, .inl rfl⟩
    · exact (hs.2 b (Nat.ne_of_lt (Nat.lt_of_lt_of_le (Heap.lt_size e) I.ok.above))).trans (I.base.keep b o e n hb hx)
    · obtain ⟨sl, e1⟩ := I.base.slot b o e n hb hx
      exact ⟨sl, (hs.2 b (Nat.ne_of_lt (Nat.lt_of_lt_of_le (Heap.lt_size e) I.ok.above))).trans e1⟩
    · obtain ⟨o', e1⟩ := I.base.there b o e hx
      exact ⟨o', (hs.2 b (Nat.ne_of_lt (Nat.lt_of_lt_of_le (Heap.lt_size e) I.ok.above))).trans e1⟩
    · by_cases hj : j = i
      · subst hj
        rw [hi] at e1; cases e1
        rw [List.getElem?_set_self hiσ] at e2
        cases e2
        exact ⟨u, r, .inl ⟨hk, by simp⟩⟩
      · rw [List.getElem?_set_ne (Ne.symm hj)] at e2
        obtain ⟨u', r', q⟩ := hl j y v' e1 e2 e3
        refine ⟨u', r', ?_⟩
        rcases q with ⟨k, e⟩ | ⟨k, c, e, z⟩
        · refine .inl ⟨k, ?_⟩
          have : y ≠ x := fun e => hj (nodup_ix hN e1 (e ▸ hi))
          simp [this, e]
        · exact .inr ⟨k, c, e, z.sameBut hs (cne y c e)⟩
    · obtain ⟨w', z⟩ := I.cell y c e
      exact ⟨w', z.sameBut hs (cne y c e)⟩
    · obtain ⟨e, n, ne, nf, d⟩ := I.pin p hp
      exact ⟨(hs.2 p.1 ne).trans e, n, ne, nf, d⟩
  · have hfn : X.fn x = true := by
      rcases hf with z | z
      · exact z
      · rw [z] at hk; cases hk
    obtain ⟨c, hc⟩ := I.ok.has x (.inl hk)
    obtain ⟨w', z⟩ := I.cell x c hc
    refine wpAny_storeName_cell I.ok.kind hk hc z (fun h' hc' hs => ?_)
    obtain ⟨oc, hoc, hocd⟩ := id z
    refine h { s with heap := h' } ⟨I.ok, I.os, I.bare, ⟨fun b o e n hb hx => ?_, fun b o e n hb hx => ?_, I.base.free, fun b o e hx => ?_, I.base.tups, I.base.frzs, I.base.tbls⟩, ⟨m, hn.sameBut hs (Ne.symm (cne x c hc)), fun j y v' e1 e2 e3 => ?_⟩, fun y c' e => ?_, I.free, I.freeC, fun p hp => ?_, tracked ⟨oc, hoc, I.freeC x c hc⟩ hs, by simpa using I.len⟩ ⟨c, hs, .inr hc⟩
    · exact (hs.2 b (Nat.ne_of_lt (Nat.lt_of_lt_of_le (Heap.lt_size e) (I.ok.cab x c hfn hc)))).trans (I.base.keep b o e n hb hx)
    · obtain ⟨sl, e1⟩ := I.base.slot b o e n hb hx
      exact ⟨sl, (hs.2 b (Nat.ne_of_lt (Nat.lt_of_lt_of_le (Heap.lt_size e) (I.ok.cab x c hfn hc)))).trans e1⟩
    · obtain ⟨o', e1⟩ := I.base.there b o e hx
      exact ⟨o', (hs.2 b (Nat.ne_of_lt (Nat.lt_of_lt_of_le (Heap.lt_size e) (I.ok.cab x c hfn hc)))).trans e1⟩
    · by_cases hj : j = i
      · subst hj
        rw [hi] at e1; cases e1
        rw [List.getElem?_set_self hiσ] at e2
        cases e2
        exact ⟨u, r, .inr ⟨.inl hk, c, hc, hc'⟩⟩
      · rw [List.getElem?_set_ne (Ne.symm hj)] at e2
        obtain ⟨u', r', q⟩ := hl j y v' e1 e2 e3
        refine ⟨u', r', ?_⟩
        rcases q with q | ⟨k, c', e, z'⟩
        · exact .inl q
        · refine .inr ⟨k, c', e, z'.sameBut hs ?_⟩
          rintro rfl
          exact hj (nodup_ix hN e1 (I.ok.inj _ _ _ e hc ▸ hi))
    · by_cases hcc : c' = c
      · subst hcc; exact ⟨_, hc'⟩
      · obtain ⟨w2, z2⟩ := I.cell y c' e
        exact ⟨w2, z2.sameBut hs hcc⟩
    · obtain ⟨e, n, ne, nf, d⟩ := I.pin p hp
      refine ⟨(hs.2 p.1 ?_).trans e, n, ne, nf, d⟩
      intro q
      rw [q, hoc] at e
      have q' : oc = p.2 := Option.some.inj e
      exact d w' (by rw [← q']; exact hocd)
theorem store_ok {M : Model} {A : Around} {E : Value → Shared → Prop} {i : Nat} {x : Str} {v : V} {u : Value} {Q : Unit → Shared → Prop} (I : Inv X pins σ H s) (hN : X.N.Nodup) (hi : X.N[i]? = some x) (hx : Loc X.env.scope x) (r : RelV v u)
    (h : ∀ s', Inv X pins (σ.set i (some v)) H s' → Q () s') (hf : X.fn x = true ∨ X.env.scope.names.lookup x = some .local := by first | exact .inl rfl | exact .inr rfl | assumption) : wpAny M A (storeName X.env x u) Q E s :=
  store_ok2 I hN hi hx r (fun s' I' _ => h s' I') hf
/-- behind a call or a block, the state as it is -/
theorem Inv.call' {s' : Shared} {ch : List Addr} (I : Inv X pins σ H s) (ho : s'.os = s.os) (u : Un (frs X.stack) ch H H' s.heap s'.heap) (hok : HOk X.prog X.w H' s'.heap) (hg : AllBare s'.gens)
    (hch : ∀ b ∈ ch, (b ∈ X.ex ∨ X.s₀.heap.objs.size ≤ b) ∧ b ≠ X.env.locals ∧ (∀ x c, X.env.cells.lookup x = some c → c ≠ b) ∧ ∀ p ∈ X.pn ++ pins, p.1 ≠ b) : Inv X pins σ H' s' := by
  obtain ⟨h', g', d', t', o'⟩ := s'
  have e : o' = s.os := ho
  subst e
  exact I.call (g' := g') (t' := t') (d' := d') u hok hg hch
end

/-! ### the judgements -/
/-- an exception: its class, its own dict's address (where it has one), the abstract heap behind it -/
abbrev XK := Value → Option Addr → Hp → Prop
abbrev St := List (Option V)
abbrev VK := V → Hp → Prop
/-- an expression's reading; a test's; an argument list's -/
abbrev TE := St → Hp → VK → Prop
abbrev TT := St → Hp → (Bool → Hp → Prop) → Prop
abbrev TA := St → Hp → (List V → Hp → Prop) → Prop
/-- what is wanted behind a statement -/
structure Ends where
  nx : St → Hp → Prop
  rt : VK
  bk : St → Hp → Prop := fun _ _ => False
  ct : St → Hp → Prop := fun _ _ => False
abbrev TS := Ends → St → Hp → Prop

def EP (X : Cx) (pins : List (Addr × Obj)) (σ : St) (Q : VK) (u : Value) (s' : Shared) : Prop := ∃ v H', Inv X pins σ H' s' ∧ RelV v u ∧ Q v H'
def TP (X : Cx) (pins : List (Addr × Obj)) (σ : St) (Q : Bool → Hp → Prop) (b : Bool) (s' : Shared) : Prop := ∃ H', Inv X pins σ H' s' ∧ Q b H'
def AP (X : Cx) (pins : List (Addr × Obj)) (σ : St) (Q : List V → Hp → Prop) (us : List Value) (s' : Shared) : Prop := ∃ vs H', Inv X pins σ H' s' ∧ Vals vs us ∧ Q vs H'
def SP (X : Cx) (pins : List (Addr × Obj)) (D : Ends) (f : Flow) (s' : Shared) : Prop :=
  match f with
  | .next => ∃ σ' H', Inv X pins σ' H' s' ∧ D.nx σ' H'
  | .brk => ∃ σ' H', Inv X pins σ' H' s' ∧ D.bk σ' H'
  | .cont => ∃ σ' H', Inv X pins σ' H' s' ∧ D.ct σ' H'
  | .ret u => ∃ v σ' H', Inv X pins σ' H' s' ∧ RelV v u ∧ D.rt v H'

def PE (X : Cx) (e : Expr) (t : TE) : Prop :=
  ∀ (pins : List (Addr × Obj)) (s : Shared) (σ : St) (H : Hp) (Q : VK), Inv X pins σ H s → t σ H Q → wpAny (model X.prog X.w) X.A (eval e X.env) (EP X pins σ Q) X.xe s
def PT (X : Cx) (e : Expr) (t : TT) : Prop :=
  ∀ (pins : List (Addr × Obj)) (s : Shared) (σ : St) (H : Hp) (Q : Bool → Hp → Prop), Inv X pins σ H s → t σ H Q → wpAny (model X.prog X.w) X.A (isTrue e X.env (eval e X.env)) (TP X pins σ Q) X.xe s
/-- a test whatever its 'whole' is (and, or) -/
def PW (X : Cx) (e : Expr) (t : TT) : Prop :=
  ∀ (whole : Sem Value) (pins : List (Addr × Obj)) (s : Shared) (σ : St) (H : Hp) (Q : Bool → Hp → Prop), Inv X pins σ H s → t σ H Q → wpAny (model X.prog X.w) X.A (isTrue e X.env whole) (TP X pins σ Q) X.xe s
theorem PW.pt {X : Cx} {e : Expr} {t : TT} (h : PW X e t) : PT X e t := h _
/-- an argument list (no star), from the left -/
def PA (X : Cx) (es : List Expr) (t : TA) : Prop :=
  ∀ (pos : Pos) (pins : List (Addr × Obj)) (s : Shared) (σ : St) (H : Hp) (Q : List V → Hp → Prop), Inv X pins σ H s → t σ H Q → wpAny (model X.prog X.w) X.A (spliced (backTo pos (starEach es X.env))) (AP X pins σ Q) X.xe s
def PS (X : Cx) (st : Stmt) (t : TS) : Prop :=
  ∀ (pins : List (Addr × Obj)) (s : Shared) (σ : St) (H : Hp) (D : Ends), Inv X pins σ H s → t D σ H → wpAny (model X.prog X.w) X.A (exec st X.env) (SP X pins D) X.xe s
def PSs (X : Cx) (st : List Stmt) (t : TS) : Prop :=
  ∀ (pins : List (Addr × Obj)) (s : Shared) (σ : St) (H : Hp) (D : Ends), Inv X pins σ H s → t D σ H → wpAny (model X.prog X.w) X.A (execs st X.env) (SP X pins D) X.xe s
/-- weaken the end -/
theorem thn {α : Type} {t : Sem α} {Q Q' : α → Shared → Prop} {M : Model} {A : Around} {E : Value → Shared → Prop} {s : Shared} (h : wpAny M A t Q E s) (hQ : ∀ a s, Q a s → Q' a s) : wpAny M A t Q' E s := wpAny_mono h hQ fun _ _ x => x
end L2

namespace L2
open PySem PySem.Spec PyProof.Rows
section
variable {X : Cx}

/-- two expressions in a row -/
theorem bin {a b : Expr} {ta tb : TE} (ha : PE X a ta) (hb : PE X b tb) {pins : List (Addr × Obj)} {s : Shared} {σ : St} {H : Hp} {R : V → V → Hp → Prop} (I : Inv X pins σ H s) (h : ta σ H fun x H1 => tb σ H1 fun y H2 => R x y H2)
    {α : Type} {Q : α → Shared → Prop} {f : Value → Value → Sem α}
    (hf : ∀ v u s2 x y H2, Inv X pins σ H2 s2 → RelV x v → RelV y u → R x y H2 → wpAny (model X.prog X.w) X.A (f v u) Q X.xe s2) :
    wpAny (model X.prog X.w) X.A (eval a X.env) (fun v s₁ => wpAny (model X.prog X.w) X.A (eval b X.env) (fun u s₂ => wpAny (model X.prog X.w) X.A (f v u) Q X.xe s₂) X.xe s₁) X.xe s := by
  refine thn (ha pins s σ H _ I h) fun v s1 ⟨x, H1, I1, r1, q1⟩ => ?_
  refine thn (hb pins s1 σ H1 _ I1 q1) fun u s2 ⟨y, H2, I2, r2, q2⟩ => ?_
  exact hf v u s2 x y H2 I2 r1 r2 q2

/-! ### names and constants -/
def tVar (i : Nat) : TE := fun σ H Q => ∃ v, σ[i]? = some (some v) ∧ Q v H
def tC (v : V) : TE := fun _ H Q => Q v H
theorem pe_var {i : Nat} {x : Str} {pos : Pos} (hN : X.N[i]? = some x) (hv : Vis X.env.scope x) (hd : (x == ("__debug__" : Str)) = false := by decide) (hcd : (x == ("__classdict__" : Str)) = false := by decide) : PE X (.Name x pos) (tVar i) := by
  intro pins s σ H Q I h
  obtain ⟨v, e, h⟩ := h
  obtain ⟨m, hn, hl⟩ := I.loc
  obtain ⟨u, r, l⟩ := hl i x v hN e hv
  have fin : EP X pins σ Q u s := ⟨v, H, I, r, h⟩
  rcases l with ⟨hk, hm⟩ | ⟨hk, c, hc, hcell⟩
  · exact wpAny_Name (wpAny_loadName_local I.ok.kind hk hn hm fin) hd
  · rcases hk with hk | hk
    · exact wpAny_Name (wpAny_loadName_cell I.ok.kind hk hc hcell fin) hd
    · exact wpAny_Name (wpAny_loadName_free I.ok.kind hk hc hcell fin hcd) hd
theorem pe_int {i j pos} : PE X (.Constant (.int i) j pos) (tC (.int i)) := fun _ _ _ H _ I h => wpAny_Constant_int ⟨.int i, H, I.tok _, ⟨_, rfl⟩, h⟩
theorem pe_bl {b j pos} : PE X (.Constant (.bool b) j pos) (tC (.bl b)) := fun _ _ _ H _ I h => Constant_bool ⟨.bl b, H, I, rfl, h⟩
theorem pe_non {j pos} : PE X (.Constant .none j pos) (tC .non) := fun _ _ _ H _ I h => Constant_none ⟨.non, H, I, rfl, h⟩
theorem pe_str {x j pos} : PE X (.Constant (.str x) j pos) (tC (.str x)) := fun _ _ _ H _ I h => Calls.Constant_str ⟨.str x, H, I.tok _, ⟨_, rfl⟩, h⟩

/-- a global name of the def -/
def Gl (X : Cx) (x : Str) : Prop := X.env.kindOf x = some .globalImplicit
theorem ld_glob {E : Value → Shared → Prop} {pins : List (Addr × Obj)} {s : Shared} {σ : St} {H : Hp} {x : Str} {u : Value} {pos : Pos} {Q : Value → Shared → Prop} (I : Inv X pins σ H s) (hg : Gl X x) (hm : X.mg x = some u) (h : Q u s)
    (hd : (x == ("__debug__" : Str)) = false := by decide) : wpAny (model X.prog X.w) X.A (eval (.Name x pos) X.env) Q E s :=
  Calls.Name_function_global I.ok.kind hg (Calls.loadGlobal_global (by rw [I.ok.glob]; exact I.mod.glob.keeps I.bk) hm h) hd
theorem ld_blt {E : Value → Shared → Prop} {pins : List (Addr × Obj)} {s : Shared} {σ : St} {H : Hp} {x : Str} {u : Value} {pos : Pos} {Q : Value → Shared → Prop} (I : Inv X pins σ H s) (hg : Gl X x) (hm : X.mg x = none) (hv : bootBuiltins x = some u) (h : Q u s)
    (hn : x ≠ "__name__" := by decide) (hd : (x == ("__debug__" : Str)) = false := by decide) : wpAny (model X.prog X.w) X.A (eval (.Name x pos) X.env) Q E s := by
  obtain ⟨mb, h1, h2⟩ := I.mod.blt
  exact Calls.Name_function_global I.ok.kind hg (Calls.loadGlobal_builtin (by rw [I.ok.glob]; exact I.mod.glob.keeps I.bk) hm (by rw [I.ok.blt]; exact h1.keeps I.bk) ((h2 x hn).trans hv) h) hd
/-- a module's constant, a class, a function, as a value -/
theorem pe_glob {x : Str} {v : V} {u : Value} {pos : Pos} (hg : Gl X x) (hm : X.mg x = some u) (r : RelV v u) (hd : (x == ("__debug__" : Str)) = false := by decide) : PE X (.Name x pos) (tC v) :=
  fun _ _ _ H _ I h => ld_glob I hg hm ⟨v, H, I, r, h⟩ hd
theorem pe_bltn {x : Str} {v : V} {u : Value} {pos : Pos} (hg : Gl X x) (hm : X.mg x = none) (hv : bootBuiltins x = some u) (r : RelV v u) (hn : x ≠ "__name__" := by decide) (hd : (x == ("__debug__" : Str)) = false := by decide) : PE X (.Name x pos) (tC v) :=
  fun _ _ _ H _ I h => ld_blt I hg hm hv ⟨v, H, I, r, h⟩ hn hd

/-! ### arithmetic -/
/-- two ints -/
def t2I (ta tb : TE) (k : Int → Int → Hp → Prop) : St → Hp → Prop := fun σ H => ta σ H fun x H1 => tb σ H1 fun y H2 => ∃ i j, x = .int i ∧ y = .int j ∧ k i j H2
def tAdd (ta tb : TE) : TE := fun σ H Q => t2I ta tb (fun i j H2 => Q (.int (i + j)) H2) σ H
def tSub (ta tb : TE) : TE := fun σ H Q => t2I ta tb (fun i j H2 => Q (.int (i - j)) H2) σ H
/-- the left factor below 2^64 -/
def tMul (ta tb : TE) : TE := fun σ H Q => t2I ta tb (fun i j H2 => (-(2 ^ 64) < i ∧ i < 2 ^ 64) ∧ Q (.int (i * j)) H2) σ H
variable {a b : Expr} {ta tb : TE} {pos : Pos}
/-! ### comparisons -/
def PC (X : Cx) (op : CmpOp) (a b : Expr) (t : TE) : Prop :=
  ∀ (pins : List (Addr × Obj)) (s : Shared) (σ : St) (H : Hp) (Q : VK), Inv X pins σ H s → t σ H Q →
    wpAny (model X.prog X.w) X.A (eval a X.env) (fun v s₁ => wpAny (model X.prog X.w) X.A (eval b X.env) (fun u s₂ => wpAny (model X.prog X.w) X.A (compareOp op v u) (EP X pins σ Q) X.xe s₂) X.xe s₁) X.xe s
theorem nobehind (b : Expr) {op : CmpOp} (h : op ≠ .In) (h2 : op ≠ .NotIn) : behindInMarks op b = false := by
  have e1 : (op == CmpOp.In) = false := by cases op <;> first | rfl | exact absurd rfl h
  have e2 : (op == CmpOp.NotIn) = false := by cases op <;> first | rfl | exact absurd rfl h2
  cases b <;> simp [behindInMarks, e1, e2]
def tCmp (p : Int → Int → Bool) (ta tb : TE) : TE := fun σ H Q => t2I ta tb (fun i j H2 => Q (.bl (p i j)) H2) σ H
abbrev tLt : TE → TE → TE := tCmp fun i j => decide (i < j)
abbrev tLe : TE → TE → TE := tCmp fun i j => decide (i ≤ j)
abbrev tGt : TE → TE → TE := tCmp fun i j => decide (j < i)
abbrev tGe : TE → TE → TE := tCmp fun i j => decide (j ≤ i)
abbrev tEqI : TE → TE → TE := tCmp fun i j => decide (i = j)
abbrev tNeI : TE → TE → TE := tCmp fun i j => !decide (i = j)
/-- is None -/
def tIsN (ta : TE) : TE := fun σ H Q => ta σ H fun x H1 => Q (.bl (decide (x = .non))) H1
def tNotN (ta : TE) : TE := fun σ H Q => ta σ H fun x H1 => Q (.bl (!decide (x = .non))) H1
/-- a comparison as a value, as a test -/
def tB (t : TE) : TT := fun σ H Q => t σ H fun x H1 => ∃ c, x = .bl c ∧ Q c H1
theorem pt_cmp {op : CmpOp} {t : TE} (h : PC X op a b t) (h1 : behindInMarks op b = false := by first | exact nobehind _ (by decide) (by decide) | rfl) : PT X (.Compare a [op] [b] pos) (tB t) := by
  intro pins s σ H Q I hw
  refine wpAny_isTrue_Compare1 (thn (h pins s σ H _ I hw) fun v s1 h1 => thn h1 fun u s2 h2 => thn h2 fun c s3 ⟨x, H1, I1, r1, q1⟩ => ?_) h1
  obtain ⟨d, rfl, q⟩ := q1
  cases r1
  exact wpAny_truthy_bool ⟨H1, I1, q⟩
/-- an expression whose value is a bool, as a test -/
theorem pt_val {e : Expr} {t : TE} (h : PE X e t) (he : ∀ whole, isTrue e X.env whole = (do let v ← whole; standAt e.pos; holding [v] (truthy v)) := by intro _; rfl) : PT X e (tB t) := by
  intro pins s σ H Q I hw
  refine isTrue_plain (thn (h pins s σ H _ I hw) fun v s1 ⟨x, H1, I1, r1, q1⟩ => ?_) (he _)
  obtain ⟨d, rfl, q⟩ := q1
  cases r1
  exact wpAny_truthy_bool ⟨H1, I1, q⟩

/-! ### and, or, not -/
variable {tA tB' : TT} {rest : List Expr}
def tAnd (t u : TT) : TT := fun σ H Q => t σ H fun c H1 => if c = true then u σ H1 Q else Q false H1
def tOr (t u : TT) : TT := fun σ H Q => t σ H fun c H1 => if c = true then Q true H1 else u σ H1 Q
def tNot (t : TT) : TT := fun σ H Q => t σ H fun c H1 => Q (!c) H1
theorem pw_and1 (ha : PT X a tA) : PW X (.BoolOp .And [a] pos) tA := by
  intro wh pins s σ H Q I h
  refine isTrue_and (thn (ha pins s σ H Q I h) fun c s1 e => ?_)
  cases c with
  | true => exact isTrue_and_nil e
  | false => exact e
theorem pw_or1 (ha : PT X a tA) : PW X (.BoolOp .Or [a] pos) tA := by
  intro wh pins s σ H Q I h
  refine isTrue_or (thn (ha pins s σ H Q I h) fun c s1 e => ?_)
  cases c with
  | false => exact isTrue_or_nil e
  | true => exact e
theorem pw_and (ha : PT X a tA) (hb : PW X (.BoolOp .And (b :: rest) pos) tB') : PW X (.BoolOp .And (a :: b :: rest) pos) (tAnd tA tB') := by
  intro wh pins s σ H Q I h
  refine isTrue_and (thn (ha pins s σ H _ I h) fun c s1 ⟨H1, I1, q1⟩ => ?_)
  cases c with
  | true => exact hb wh pins s1 σ H1 Q I1 q1
  | false => exact ⟨H1, I1, q1⟩
theorem pw_or (ha : PT X a tA) (hb : PW X (.BoolOp .Or (b :: rest) pos) tB') : PW X (.BoolOp .Or (a :: b :: rest) pos) (tOr tA tB') := by
  intro wh pins s σ H Q I h
  refine isTrue_or (thn (ha pins s σ H _ I h) fun c s1 ⟨H1, I1, q1⟩ => ?_)
  cases c with
  | true => exact ⟨H1, I1, q1⟩
  | false => exact hb wh pins s1 σ H1 Q I1 q1
theorem pt_not (ha : PT X a tA) : PT X (.UnaryOp .Not a pos) (tNot tA) := by
  intro pins s σ H Q I h
  exact isTrue_not (ha pins s σ H (fun c H1 => Q (!c) H1) I h)
/-- .. as values (bools) -/
def tAndV (ta tb : TE) : TE := fun σ H Q => ta σ H fun x H1 => ∃ c, x = .bl c ∧ if c = true then tb σ H1 Q else Q (.bl false) H1
def tOrV (ta tb : TE) : TE := fun σ H Q => ta σ H fun x H1 => ∃ c, x = .bl c ∧ if c = true then Q (.bl true) H1 else tb σ H1 Q
def tNotV (ta : TE) : TE := fun σ H Q => ta σ H fun x H1 => ∃ c, x = .bl c ∧ Q (.bl (!c)) H1
theorem pe_one {op} {t : TE} (h : PE X a t) : PE X (.BoolOp op [a] pos) t := fun pins s σ H Q I hw => BoolOp_one (h pins s σ H Q I hw)
theorem pe_and (ha : PE X a ta) (hb : PE X (.BoolOp .And (b :: rest) pos) tb) : PE X (.BoolOp .And (a :: b :: rest) pos) (tAndV ta tb) := by
  intro pins s σ H Q I h
  refine BoolOp_and (thn (ha pins s σ H _ I h) fun v s1 ⟨x, H1, I1, r1, q1⟩ => ?_)
  obtain ⟨c, rfl, q1⟩ := q1
  cases r1
  refine wpAny_truthy_bool ?_
  cases c with
  | true => exact hb pins s1 σ H1 Q I1 q1
  | false => exact ⟨.bl false, H1, I1, rfl, q1⟩
theorem pe_not (ha : PE X a ta) : PE X (.UnaryOp .Not a pos) (tNotV ta) := by
  intro pins s σ H Q I h
  refine UnaryOp_ (thn (ha pins s σ H _ I h) fun v s1 ⟨x, H1, I1, r1, q1⟩ => ?_)
  obtain ⟨c, rfl, q1⟩ := q1
  cases r1
  exact not_of (wpAny_truthy_bool ⟨.bl (!c), H1, I1, rfl, q1⟩)
/-- a if t else b -/
def tIf (t : TT) (ta tb : TE) : TE := fun σ H Q => t σ H fun c H1 => if c = true then ta σ H1 Q else tb σ H1 Q
end
end L2

namespace L2
open PySem PySem.Spec PyProof.Rows

/-! ### a list, a tuple that is read: tracked, frozen, or an object of the module -/
def SqL (K : PySem.W.Frag) (H : Hp) (a : Addr) (xs : List V) : Prop :=
  Rd H a (.lst xs) ∨
    ∃ (o : Obj) (its : Array Value) (n : Nat), K.lookup a = some o ∧ o.cls = .type "list" ∧ o.dict = none ∧ o.data = .seq its n ∧ its.size ≤ sizeLine ∧ Vals xs its.toList
def SqT (K : PySem.W.Frag) (H : Hp) (a : Addr) (xs : List V) : Prop :=
  Rd H a (.tup xs) ∨
    ∃ (o : Obj) (its : Array Value) (n : Nat), K.lookup a = some o ∧ o.cls = .type "tuple" ∧ o.data = .seq its n ∧ its.size ≤ sizeLine ∧ Vals xs its.toList
def absV : Value → Option V
  | .none => some .non
  | .bool b => some (.bl b)
  | .int i _ => some (.int i)
  | .str x _ => some (.str x)
  | .bytes b _ => some (.byt b)
  | .float b _ => some (.flt b)
  | .ref a => some (.ref a)
  | .type n => some (.ty n)
  | _ => none
theorem RelV.abs {x : V} {u : Value} (r : RelV x u) : absV u = some x := by
  cases x with
  | non => cases r; rfl
  | bl _ => cases r; rfl
  | int _ => obtain ⟨t, rfl⟩ := r; rfl
  | str _ => obtain ⟨t, rfl⟩ := r; rfl
  | byt _ => obtain ⟨t, rfl⟩ := r; rfl
  | flt _ => obtain ⟨t, rfl⟩ := r; rfl
  | ref _ => cases r; rfl
  | ty _ => cases r; rfl
theorem RelV.inj {x y : V} {u : Value} (r : RelV x u) (q : RelV y u) : x = y := Option.some.inj (r.abs.symm.trans q.abs)
theorem Vals.inj : ∀ {xs ys : List V} {us : List Value}, Vals xs us → Vals ys us → xs = ys
  | _, _, _, .nil, .nil => rfl
  | _, _, _, .cons r t, .cons r' t' => by rw [r.inj r', Vals.inj t t']
section
variable {X : Cx} {pins : List (Addr × Obj)} {σ : St} {H : Hp} {s : Shared} {a : Addr} {xs ys : List V}
theorem SqL.of {K : PySem.W.Frag} (h : H a = some (.lst xs)) : SqL K H a xs := .inl (.inl h)
theorem SqT.of {K : PySem.W.Frag} (h : H a = some (.tup xs)) : SqT K H a xs := .inl (.inl h)
theorem Inv.list (I : Inv X pins σ H s) (h : SqL X.K H a xs) : ∃ its : List Value, Vals xs its ∧ PlainL s.heap a its.toArray ∧ xs.length ≤ sizeLine := by
  rcases h with h | ⟨o, its, n, hk, hc, hd, hs, hz, r⟩
  · obtain ⟨z, its, n, r, e⟩ := h.ok I.hok
    exact ⟨its, r, ⟨_, n, e, rfl, rfl, rfl⟩, z⟩
  · refine ⟨its.toList, r, ⟨o, n, I.kIn a o hk, hc, hd, by simpa using hs⟩, ?_⟩
    have e := r.length
    simp only [Array.length_toList] at e
    omega
theorem Inv.tuple (I : Inv X pins σ H s) (h : SqT X.K H a xs) : ∃ its : List Value, Vals xs its ∧ IsTup s.heap a its.toArray ∧ xs.length ≤ sizeLine := by
  rcases h with h | ⟨o, its, n, hk, hc, hs, hz, r⟩
  · obtain ⟨z, its, r, p⟩ := h.ok I.hok
    exact ⟨its, r, p, z⟩
  · refine ⟨its.toList, r, ⟨o, I.kIn a o hk, hc, n, by simpa using hs⟩, ?_⟩
    have e := r.length
    simp only [Array.length_toList] at e
    omega
theorem Inv.list_inj (I : Inv X pins σ H s) (h : SqL X.K H a xs) (h' : SqL X.K H a ys) : xs = ys := by
  obtain ⟨its, r, ⟨o, n, e, _, _, d⟩, _⟩ := I.list h
  obtain ⟨its', r', ⟨o', n', e', _, _, d'⟩, _⟩ := I.list h'
  rw [e] at e'; cases e'
  rw [d] at d'
  injection d' with d1 _
  have : its = its' := by simpa using congrArg Array.toList d1
  subst this
  exact r.inj r'
end

/-! ### another wish about exceptions -/
abbrev Cx.wish (X : Cx) (E : Value → Shared → Prop) : Cx := { X with xe := E }
/-- no exception leaves -/
abbrev Cx.nox (X : Cx) : Cx := X.wish fun _ _ => False
theorem Cx.Ok.wish {X : Cx} (ok : X.Ok) (E : Value → Shared → Prop) : (X.wish E).Ok :=
  ⟨ok.mod, ok.kind, ok.glob, ok.blt, ok.above, ok.inj, ok.has, ok.cab, ok.hd, ok.frames, ok.stk, ok.exf, ok.bs, ok.bsz, ok.noex, ok.exfs, ok.funs, ok.frf⟩
theorem Cx.Ok.unwish {X : Cx} {E : Value → Shared → Prop} (ok : (X.wish E).Ok) : X.Ok :=
  ⟨ok.mod, ok.kind, ok.glob, ok.blt, ok.above, ok.inj, ok.has, ok.cab, ok.hd, ok.frames, ok.stk, ok.exf, ok.bs, ok.bsz, ok.noex, ok.exfs, ok.funs, ok.frf⟩
section
variable {X : Cx} {pins : List (Addr × Obj)} {σ : St} {H : Hp} {s : Shared} {E : Value → Shared → Prop}
theorem Inv.wish (I : Inv X pins σ H s) (E : Value → Shared → Prop) : Inv (X.wish E) pins σ H s := ⟨I.ok.wish E, I.os, I.bare, I.base, I.loc, I.cell, I.free, I.freeC, I.pin, I.hok, I.len⟩
theorem Inv.unwish (I : Inv (X.wish E) pins σ H s) : Inv X pins σ H s := ⟨I.ok.unwish, I.os, I.bare, I.base, I.loc, I.cell, I.free, I.freeC, I.pin, I.hok, I.len⟩
theorem SP.unwish {D : Ends} {f : Flow} {s' : Shared} (h : SP (X.wish E) pins D f s') : SP X pins D f s' := by
  cases f with
  | next => obtain ⟨σ', H', I, q⟩ := h; exact ⟨σ', H', I.unwish, q⟩
  | brk => obtain ⟨σ', H', I, q⟩ := h; exact ⟨σ', H', I.unwish, q⟩
  | cont => obtain ⟨σ', H', I, q⟩ := h; exact ⟨σ', H', I.unwish, q⟩
  | ret u => obtain ⟨v, σ', H', I, r, q⟩ := h; exact ⟨v, σ', H', I.unwish, r, q⟩
theorem PE.nox {e : Expr} {t : TE} (h : PE X.nox e t) : PE X e t := fun pins s σ H Q I hw =>
  wpAny_mono (h pins s σ H Q (I.wish _) hw) (fun _ _ ⟨v, H', I', r, q⟩ => ⟨v, H', I'.unwish, r, q⟩) fun _ _ z => False.elim z
theorem PT.nox {e : Expr} {t : TT} (h : PT X.nox e t) : PT X e t := fun pins s σ H Q I hw =>
  wpAny_mono (h pins s σ H Q (I.wish _) hw) (fun _ _ ⟨H', I', q⟩ => ⟨H', I'.unwish, q⟩) fun _ _ z => False.elim z
theorem PSs.nox {st : List Stmt} {t : TS} (h : PSs X.nox st t) : PSs X st t := fun pins s σ H D I hw =>
  wpAny_mono (h pins s σ H D (I.wish _) hw) (fun _ _ q => q.unwish) fun _ _ z => False.elim z
end

/-! ### blocks and small statements -/
section
variable {X : Cx} {st : Stmt} {rest : List Stmt} {t u : TS} {e : Expr} {te : TE} {pos : Pos}
def tNext : TS := fun D σ H => D.nx σ H
def tSeq (t u : TS) : TS := fun D σ H => t { D with nx := u D } σ H
theorem pss_nil : PSs X [] tNext := fun _ _ σ H _ I h => wpAny_execs_nil ⟨σ, H, I, h⟩
theorem pss_cons (h1 : PS X st t) (h2 : PSs X rest u) : PSs X (st :: rest) (tSeq t u) := by
  intro pins s σ H D I h
  refine wpAny_execs_cons (thn (h1 pins s σ H { D with nx := u D } I h) fun f s1 q => ?_)
  cases f with
  | next =>
    obtain ⟨σ', H', I', q⟩ := q
    exact h2 pins s1 σ' H' D I' q
  | ret v => exact q
  | brk => exact q
  | cont => exact q
theorem pss_one (h1 : PS X st t) : PSs X [st] t := by
  intro pins s σ H D I h
  refine wpAny_execs_cons (thn (h1 pins s σ H D I h) fun f s1 q => ?_)
  cases f with
  | next => exact wpAny_execs_nil q
  | ret v => exact q
  | brk => exact q
  | cont => exact q
def tBreak : TS := fun D σ H => D.bk σ H
def tCont : TS := fun D σ H => D.ct σ H
/-- in a def's body nothing is shown -/
theorem Inv.quiet {pins : List (Addr × Obj)} {σ : St} {H : Hp} {s : Shared} (I : Inv X pins σ H s) : interactive X.env = false := by simp [interactive, I.ok.kind]
/-- an expression whose value is dropped -/
def tDrop (te : TE) : TS := fun D σ H => te σ H fun _ H1 => D.nx σ H1
theorem ps_expr (he : PE X e te) (hs : swapsWith e none pos.line X.env = pure false := by rfl) : PS X (.Expr e pos) (tDrop te) := by
  intro pins s σ H D I h
  exact wpAny_Expr_any (thn (he pins s σ H _ I h) fun v s1 ⟨x, H1, I1, r1, q1⟩ => ⟨σ, H1, I1, q1⟩) I.quiet hs
def tRet (te : TE) : TS := fun D σ H => te σ H D.rt
theorem ps_ret (he : PE X e te) : PS X (.Return (some e) pos) (tRet te) := by
  intro pins s σ H D I h
  exact wpAny_Return_some (thn (he pins s σ H _ I h) fun v s1 ⟨x, H1, I1, r1, q1⟩ => ⟨x, σ, H1, I1, r1, q1⟩)
def tRetN : TS := fun D _ H => D.rt .non H
def tIfS (c : TT) (t u : TS) : TS := fun D σ H => c σ H fun b H1 => if b = true then t D σ H1 else u D σ H1
theorem ps_if {c : Expr} {a b : List Stmt} {tc : TT} (hc : PT X c tc) (ha : PSs X a t) (hb : PSs X b u) : PS X (.If c a b pos) (tIfS tc t u) := by
  intro pins s σ H D I h
  refine wpAny_If (thn (hc pins s σ H _ I h) fun d s1 ⟨H1, I1, q1⟩ => ?_)
  cases d with
  | true => exact ha pins s1 σ H1 D I1 q1
  | false => exact hb pins s1 σ H1 D I1 q1
/-- code that the proof never comes to -/
def tNever : TS := fun _ _ _ => False
end

/-! ### targets -/
abbrev TG := V → St → Hp → (St → Hp → Prop) → Prop
abbrev TGs := List V → St → Hp → (St → Hp → Prop) → Prop
def PG (X : Cx) (target : Expr) (t : TG) : Prop :=
  ∀ (pins : List (Addr × Obj)) (s : Shared) (σ : St) (H : Hp) (v : V) (u : Value) (Q : St → Hp → Prop), Inv X pins σ H s → RelV v u → t v σ H Q →
    wpAny (model X.prog X.w) X.A (assign target X.env u) (fun _ s' => ∃ σ' H', Inv X pins σ' H' s' ∧ Q σ' H') X.xe s
/-- several targets, one after another -/
def PGs (X : Cx) (ts : List Expr) (t : TGs) : Prop :=
  ∀ (pins : List (Addr × Obj)) (s : Shared) (σ : St) (H : Hp) (vs : List V) (us : List Value) (Q : St → Hp → Prop), Inv X pins σ H s → Vals vs us → t vs σ H Q →
    wpAny (model X.prog X.w) X.A (assignInOrder ((assignEach ts X.env).map (·.2)) us) (fun _ s' => ∃ σ' H', Inv X pins σ' H' s' ∧ Q σ' H') X.xe s
/-- o[i] = v, by values -/
abbrev TSet := V → V → V → Hp → (Hp → Prop) → Prop
def PSet (X : Cx) (t : TSet) : Prop :=
  ∀ (pins : List (Addr × Obj)) (s : Shared) (σ : St) (H : Hp) (o i v : V) (ov iv u : Value) (Q : Hp → Prop), Inv X pins σ H s → RelV o ov → RelV i iv → RelV v u → t o i v H Q →
    wpAny (model X.prog X.w) X.A (setItem ov iv u) (fun _ s' => ∃ H', Inv X pins σ H' s' ∧ Q H') X.xe s
/-- a op= b, by values -/
abbrev TIp := V → V → Hp → VK → Prop
def PIp (X : Cx) (op : Operator) (t : TIp) : Prop :=
  ∀ (pins : List (Addr × Obj)) (s : Shared) (σ : St) (H : Hp) (x y : V) (v u : Value) (Q : VK), Inv X pins σ H s → RelV x v → RelV y u → t x y H Q →
    wpAny (model X.prog X.w) X.A (inplaceOp op v u) (EP X pins σ Q) X.xe s
section
variable {X : Cx} {pos : Pos}
def gName (i : Nat) : TG := fun v σ H Q => Q (σ.set i (some v)) H
theorem pg_name {i : Nat} {x : Str} (hN : X.N.Nodup) (hi : X.N[i]? = some x) (hx : Loc X.env.scope x) (hf : X.fn x = true ∨ X.env.scope.names.lookup x = some .local := by first | exact .inl rfl | exact .inr rfl | assumption) : PG X (.Name x pos) (gName i) := by
  intro pins s σ H v u Q I r h
  exact wpAny_assign_Name (store_ok I hN hi hx r (fun s' I' => ⟨_, H, I', h⟩) hf)
def gNil : TGs := fun vs σ H Q => vs = [] ∧ Q σ H
def gCons (t : TG) (u : TGs) : TGs := fun vs σ H Q => ∃ v r, vs = v :: r ∧ t v σ H fun σ' H' => u r σ' H' Q
/-- (a, b, ..) = a tuple of that length -/
def gTup (K : PySem.W.Frag) (n : Nat) (t : TGs) : TG := fun v σ H Q => ∃ a xs, v = .ref a ∧ SqT K H a xs ∧ xs.length = n ∧ t xs σ H Q
/-- o[i] = .. -/
def gSub (to ti : TE) (t : TSet) : TG := fun v σ H Q => to σ H fun o H1 => ti σ H1 fun i H2 => t o i v H2 fun H3 => Q σ H3
theorem pg_sub {o i : Expr} {to ti : TE} {t : TSet} (ho : PE X o to) (hi : PE X i ti) (hs : PSet X t)
    (ha : ∀ v, assign (.Subscript o i pos) X.env v = (do
      let ov ← holding [v] (eval o X.env)
      let iv ← holding [v, ov] (eval i X.env)
      standAt pos
      holding [v, ov, iv] (setItem ov iv v)
      release [v, ov, iv] []) := by intro _; rfl) : PG X (.Subscript o i pos) (gSub to ti t) := by
  intro pins s σ H v u Q I r h
  rw [ha]
  refine wpAny_bind (wpAny_holding (thn (ho pins s σ H _ I h) fun ov s1 ⟨x, H1, I1, r1, q1⟩ => ?_))
  refine wpAny_bind (wpAny_holding (thn (hi pins s1 σ H1 _ I1 q1) fun iv s2 ⟨y, H2, I2, r2, q2⟩ => ?_))
  refine wpAny_bind (wpAny_standAt (wpAny_bind (wpAny_holding (thn (hs pins s2 σ H2 x y v ov iv u _ I2 r1 r2 r q2) fun _ s3 ⟨H3, I3, q3⟩ => ?_))))
  exact wpAny_release ⟨σ, H3, I3, q3⟩
/-- target = value -/
def tAsg (te : TE) (g : TG) : TS := fun D σ H => te σ H fun x H1 => g x σ H1 D.nx
theorem ps_asg {tg e : Expr} {te : TE} {g : TG} (he : PE X e te) (hg : PG X tg g) (hs : swapsWithSole [tg] e pos.line X.env = pure false := by rfl) (hw : swappedStores [tg] e X.env = pure none := by rfl)
    (h1 : (assignEach [tg] X.env).map (·.2) = [assign tg X.env] := by rfl) : PS X (.Assign [tg] e pos) (tAsg te g) := by
  intro pins s σ H D I h
  refine wpAny_Assign_stores (thn (he pins s σ H _ I h) fun v s1 ⟨x, H1, I1, r1, q1⟩ => ?_) hs hw
  rw [h1]
  exact thn (hg pins s1 σ H1 x v _ I1 r1 q1) fun _ s2 q => q
/-- name = value -/
theorem ps_set {i : Nat} {x : Str} {e : Expr} {te : TE} {pos' : Pos} (hN : X.N.Nodup) (hi : X.N[i]? = some x) (hx : Loc X.env.scope x) (he : PE X e te) (hs : swapsWith e (some (.Name x pos')) pos.line X.env = pure false := by rfl) (hf : X.fn x = true ∨ X.env.scope.names.lookup x = some .local := by first | exact .inl rfl | exact .inr rfl | assumption) :
    PS X (.Assign [.Name x pos'] e pos) (tAsg te (gName i)) := by
  intro pins s σ H D I h
  refine wpAny_Assign_Name (thn (he pins s σ H _ I h) fun v s1 ⟨y, H1, I1, r1, q1⟩ => ?_) hs
  exact store_ok I1 hN hi hx r1 (fun s2 I2 => ⟨_, H1, I2, q1⟩) hf
/-- a, b = x, y with plain local names: stored from the right; the pair itself is not tracked (the opening rows as in PyProof/Rows/TupAssign.lean:23) -/
def tPar (i j : Nat) (ta : TA) : TS := fun D σ H => ta σ H fun vs H1 => ∃ v w, vs = [v, w] ∧ D.nx ((σ.set i (some v)).set j (some w)) H1
/-- name op= e -/
def tAug (i : Nat) (te : TE) (ti : TIp) : TS := fun D σ H => ∃ x, σ[i]? = some (some x) ∧ te σ H fun y H1 => ti x y H1 fun z H2 => D.nx (σ.set i (some z)) H2
/-- o[i] op= e -/
def tAugS (to ti te : TE) (tget : V → V → Hp → VK → Prop) (tip : TIp) (tset : TSet) : TS := fun D σ H => to σ H fun o H1 => ti σ H1 fun i H2 => tget o i H2 fun x H3 => te σ H3 fun y H4 => tip x y H4 fun z H5 => tset o i z H5 fun H6 => D.nx σ H6
/-- o[i], by values -/
def PGet (X : Cx) (t : V → V → Hp → VK → Prop) : Prop :=
  ∀ (pins : List (Addr × Obj)) (s : Shared) (σ : St) (H : Hp) (o i : V) (ov iv : Value) (Q : VK), Inv X pins σ H s → RelV o ov → RelV i iv → t o i H Q →
    wpAny (model X.prog X.w) X.A (getItem ov iv) (EP X pins σ Q) X.xe s
/-- ints -/
def ipI (f : Int → Int → Int) : TIp := fun x y H Q => ∃ i j, x = .int i ∧ y = .int j ∧ Q (.int (f i j)) H
end

/-! ### while -/
section
variable {X : Cx} {pos : Pos}
/-- the invariant W with its measure -/
def tWhile (c : TT) (tb : TS) : TS := fun D σ H => ∃ W : Nat → St → Hp → Prop, (∃ m, W m σ H) ∧ ∀ m σ H, W m σ H →
  c σ H fun b H1 => if b = true then ∃ N : St → Hp → Prop, (∀ σ' H', N σ' H' → ∃ m', m' < m ∧ W m' σ' H') ∧ tb { D with nx := N, ct := N, bk := D.nx } σ H1 else D.nx σ H1
end

/-! ### what a loop or a comprehension walks -/
/-- at turn i: it yields x (the heap may grow), or it stops -/
structure It where
  go : Nat → Hp → Prop
  yld : Nat → Hp → V → Hp → Prop
  stop : Nat → Hp → Prop
/-- the iterator's own objects may turn: they are not the frame's, not pinned, younger than the entry (or a comprehension's own) -/
def FpOk (X : Cx) (pins : List (Addr × Obj)) (H : Hp) (b : Addr) : Prop :=
  H b = none ∧ b ≠ X.env.locals ∧ b ∉ X.fs ∧ (b ∈ X.ex ∨ X.s₀.heap.objs.size ≤ b) ∧ (∀ x c, X.env.cells.lookup x = some c → c ≠ b) ∧ ∀ p ∈ X.pn ++ pins, p.1 ≠ b
theorem Inv.fpOk {X : Cx} {pins : List (Addr × Obj)} {σ : St} {H H' : Hp} {s : Shared} {b : Addr} (I : Inv X pins σ H s) (hb : s.heap.objs.size ≤ b) (hn : H' b = none) : FpOk X pins H' b := by
  refine ⟨hn, Nat.ne_of_gt (Nat.lt_of_lt_of_le I.lt hb), I.nofs hb, .inr (Nat.le_trans I.sz hb), fun x c e z => ?_, fun p hp z => ?_⟩
  · obtain ⟨v, q⟩ := I.cell x c e
    exact absurd (Nat.lt_of_lt_of_le q.lt (by rw [z]; exact hb)) (Nat.lt_irrefl _)
  · exact absurd (Nat.lt_of_lt_of_le (Heap.lt_size (I.pin p hp).1) (by rw [z]; exact hb)) (Nat.lt_irrefl _)
structure Turn (P : Program) (w : World) (K : PySem.W.Frag) (tg : Expr) (J : It) (fp : List Addr) (it : Addr) (tn : Nat → Heap → Prop) : Prop where
  mem : it ∈ fp
  obj : ∀ i h, tn i h → ∀ b ∈ fp, ∃ o, h.get? b = some o ∧ ∀ v, o.data ≠ .cell v
  keep : ∀ i h h', tn i h → (∀ b ∈ fp, ∀ o, h.get? b = some o → h'.get? b = some o) → tn i h'
  item : ∀ (X : Cx), X.prog = P → X.w = w → X.K = K → X.calm = true → ∀ (i : Nat) (pins : List (Addr × Obj)) (s : Shared) (σ : St) (H : Hp) (E : Value → Shared → Prop), Inv X pins σ H s → (∀ b ∈ fp, FpOk X pins H b) → tn i s.heap → J.go i H →
    wpAny (model P w) X.A (pyNext (.ref it)) (fun r s1 => ∃ u, r = some u ∧
      wpAny (model P w) X.A (letOwnedTupleGo tg (.ref it) u) (fun _ s2 => ∃ x H', Inv X pins σ H' s2 ∧ RelV x u ∧ J.yld i H x H' ∧ tn (i + 1) s2.heap ∧ ∀ b ∈ fp, H' b = none) E s1) E s
  done : ∀ (X : Cx), X.prog = P → X.w = w → X.K = K → X.calm = true → ∀ (i : Nat) (pins : List (Addr × Obj)) (s : Shared) (σ : St) (H : Hp) (E : Value → Shared → Prop), Inv X pins σ H s → (∀ b ∈ fp, FpOk X pins H b) → tn i s.heap → J.stop i H →
    wpAny (model P w) X.A (pyNext (.ref it)) (fun r s1 => r = none ∧ Inv X pins σ H s1) E s
  self : ∀ (A : Around) (i : Nat) (s : Shared) (Q : Value → Shared → Prop) (E : Value → Shared → Prop), tn i s.heap → Q (.ref it) s → wpAny (model P w) A (pyIter (.ref it)) Q E s
abbrev TI := St → Hp → (It → Hp → Prop) → Prop
/-- an iterator has come -/
def PIE (X : Cx) (pins : List (Addr × Obj)) (σ : St) (tg : Expr) (R : It → Hp → Prop) (itv : Value) (s2 : Shared) : Prop :=
  ∃ (it : Addr) (fp : List Addr) (tn : Nat → Heap → Prop) (J : It) (H' : Hp), itv = .ref it ∧ Inv X pins σ H' s2 ∧ Turn X.prog X.w X.K tg J fp it tn ∧ tn 0 s2.heap ∧ (∀ b ∈ fp, FpOk X pins H' b) ∧ R J H'
def PI (X : Cx) (tg iter : Expr) (wi : TI) : Prop :=
  ∀ (pins : List (Addr × Obj)) (s : Shared) (σ : St) (H : Hp) (R : It → Hp → Prop), Inv X pins σ H s → wi σ H R →
    wpAny (model X.prog X.w) X.A (eval iter X.env) (fun v s1 => wpAny (model X.prog X.w) X.A (pyIter v) (PIE X pins σ tg R) X.xe s1) X.xe s

/-- the step ahead of the store is nothing for an iterator that keeps no tuple -/
theorem go_of {M : Model} {A : Around} {E : Value → Shared → Prop} {s : Shared} {tg : Expr} {it : Addr} {u : Value} {o : Obj} {n : String} {vs : Array Value} {Q : Unit → Shared → Prop} (ho : s.heap.get? it = some o) (hc : o.cls = .type n) (hd : o.data = .fields vs)
    (hn : ["enumerate", "zip", "dict_itemiterator", "dict_reverseitemiterator", "odict_iterator", "itertools.zip_longest", "itertools.pairwise"].contains n = false) (hQ : Q () s) : wpAny M A (letOwnedTupleGo tg (.ref it) u) Q E s := by
  unfold letOwnedTupleGo
  cases tg <;> first
    | exact wpAny_pure hQ
    | (cases u <;> first
        | exact wpAny_pure hQ
        | (refine wpAny_bind (wpAny_load ho ?_)
           rw [hc, hd]
           show wpAny M A (if (["enumerate", "zip", "dict_itemiterator", "dict_reverseitemiterator", "odict_iterator", "itertools.zip_longest", "itertools.pairwise"].contains n && vs[0]? == some (rawInt _)) = true then _ else _) Q E s
           rw [if_neg (by intro h; rw [hn, Bool.false_and] at h; cases h)]
           exact wpAny_pure hQ))

/-- the list at a, as it stands at each turn (a loop may append to it) -/
def Itl (K : PySem.W.Frag) (a : Addr) : It :=
  ⟨fun i H => ∃ xs x, SqL K H a xs ∧ xs[i]? = some x, fun i H x H' => H' = H ∧ ∀ xs, SqL K H a xs → xs[i]? = some x, fun i H => ∃ xs, SqL K H a xs ∧ xs.length ≤ i⟩
def Itt (K : PySem.W.Frag) (a : Addr) : It :=
  ⟨fun i H => ∃ xs x, SqT K H a xs ∧ xs[i]? = some x, fun i H x H' => H' = H ∧ ∀ xs, SqT K H a xs → xs[i]? = some x, fun i H => ∃ xs, SqT K H a xs ∧ xs.length ≤ i⟩
/-- lo, lo + 1, .. (n of them) -/
def Itr (lo : Int) (n : Nat) : It := ⟨fun i _ => i < n, fun i H x H' => H' = H ∧ x = .int (lo + i), fun i _ => n ≤ i⟩
theorem turn_list {P : Program} {w : World} {K : PySem.W.Frag} {tg : Expr} (a it : Addr) : Turn P w K tg (Itl K a) [it] it (fun i h => h.IsListIter it a i) where
  mem := by simp
  obj := fun i h st b hb => by
    have e : b = it := by simpa using hb
    subst e
    obtain ⟨o, e, c, d⟩ := st
    exact ⟨o, e, fun v z => by rw [d] at z; cases z⟩
  keep := fun i h h' st k => st.at fun o e => k it (by simp) o e
  item := by
    intro X hP hw hK hc i pins s σ H E I hf st hg
    subst hP hw hK
    obtain ⟨xs, x, hq, hx⟩ := hg
    obtain ⟨its, rv, p, hz⟩ := I.list hq
    obtain ⟨u, hu, ru⟩ := rv.get hx
    obtain ⟨f0, f1, f2, f3, f4, f5⟩ := hf it (by simp)
    refine wpAny_pyNext_list_item st p.isList (x := u) (by simpa using hu) fun h' st' sb => ?_
    have I1 : Inv X pins σ H { s with heap := h' } := I.turned (t' := s.toks) (fun b o hb e => (sb.2 b hb).trans e) f0 f1 f3 f4 f5
    obtain ⟨o, e, c, d⟩ := id st'
    exact ⟨u, rfl, go_of (s := { s with heap := h' }) e c d (by decide) ⟨x, H, I1, ru, ⟨rfl, fun ys hy => by rw [I.list_inj hy hq]; exact hx⟩, st', fun b hb => (hf b hb).1⟩⟩
  done := by
    intro X hP hw hK hc i pins s σ H E I hf st hg
    subst hP hw hK
    obtain ⟨xs, hq, hx⟩ := hg
    obtain ⟨its, rv, p, hz⟩ := I.list hq
    obtain ⟨f0, f1, f2, f3, f4, f5⟩ := hf it (by simp)
    have hl := rv.length
    exact wpAny_pyNext_list_end (I.ok.hd hc) st p.isList (by simp; omega) fun h' eb => ⟨rfl, I.turned (t' := s.toks) (fun b o hb e => eb b o hb e) f0 f1 f3 f4 f5⟩
  self := fun _ _ _ _ _ st h => wpAny_pyIter_listiter st h
theorem turn_range {P : Program} {w : World} {K : PySem.W.Frag} {tg : Expr} (it : Addr) (lo : Int) (n : Nat) : Turn P w K tg (Itr lo n) [it] it (fun i h => IsRangeIter h it (lo + (i : Nat) * 1) ((n : Int) - (i : Nat)) 1) where
  mem := by simp
  obj := fun i h st b hb => by
    have e : b = it := by simpa using hb
    subst e
    exact ⟨_, st, fun v z => by
      have z' : Data.fields _ = Data.cell v := z
      cases z'⟩
  keep := fun i h h' st k => k it (by simp) _ st
  item := by
    intro X hP hw hK hc i pins s σ H E I hf st hg
    subst hP hw hK
    obtain ⟨f0, f1, f2, f3, f4, f5⟩ := hf it (by simp)
    have W := Walks.range (prog := X.prog) (w := X.w) (I.ok.hd hc) it lo 1 n
    refine W.item i s _ _ hg st fun v h' tk hv st' kk => ?_
    obtain ⟨t, rfl⟩ := hv
    have I1 : Inv X pins σ H { s with heap := h', toks := tk } := I.turned (fun b o hb e => kk b o (by simpa using hb) e) f0 f1 f3 f4 f5
    refine ⟨_, rfl, go_of (s := { s with heap := h', toks := tk }) (n := "range_iterator") st' rfl rfl (by decide) ⟨.int (lo + i), H, I1, ⟨t, ?_⟩, ⟨rfl, rfl⟩, st', fun b hb => (hf b hb).1⟩⟩
    rw [Int.mul_one]
  done := by
    intro X hP hw hK hc i pins s σ H E I hf st hg
    subst hP hw hK
    obtain ⟨f0, f1, f2, f3, f4, f5⟩ := hf it (by simp)
    exact wpAny_pyNext_range_end (I.ok.hd hc) st (by have : n ≤ i := hg; omega) fun h' eb => ⟨rfl, I.turned (t' := s.toks) (fun b o hb e => eb b o hb e) f0 f1 f3 f4 f5⟩
  self := fun _ _ _ _ _ st h => wpAny_pyIter_rangeiter st h
end L2

namespace L2
open PySem PySem.Spec PyProof.Rows
section
variable {X : Cx} {tg : Expr}
def iList (K : PySem.W.Frag) (tl : TE) : TI := fun σ H R => tl σ H fun x H1 => ∃ a, x = .ref a ∧ (∃ xs, SqL K H1 a xs) ∧ R (Itl K a) H1
def iTup (K : PySem.W.Frag) (tl : TE) : TI := fun σ H R => tl σ H fun x H1 => ∃ a, x = .ref a ∧ (∃ xs, SqT K H1 a xs) ∧ R (Itt K a) H1
theorem pi_list {l : Expr} {tl : TE} (hl : PE X l tl) : PI X tg l (iList X.K tl) := by
  intro pins s σ H R I h
  refine thn (hl pins s σ H _ I h) fun v s1 ⟨x, H1, I1, r1, q1⟩ => ?_
  obtain ⟨a, e, ⟨xs, hq⟩, q⟩ := q1
  subst e
  cases r1
  obtain ⟨its, rv, p, hz⟩ := I1.list hq
  refine wpAny_pyIter_list p.isList ?_
  refine ⟨s1.heap.objs.size, [s1.heap.objs.size], _, _, H1, rfl, I1.kept (t' := s1.toks) fun b o e => Heap.get?_push_of_some _ e, turn_list a _, ⟨_, Heap.get?_push_size _ rfl, rfl, rfl⟩, fun b hb => ?_, q⟩
  have e : b = s1.heap.objs.size := by simpa using hb
  subst e
  exact I1.fpOk (Nat.le_refl _) (I1.hok.fresh (Nat.le_refl _))
/-- a range object just made, walked -/
theorem range_it {pins : List (Addr × Obj)} {σ : St} {H : Hp} {s : Shared} {R : It → Hp → Prop} {E : Value → Shared → Prop} {lo hi : Int} {t u v : Tok} {tk : Nat} (I : Inv X pins σ H s) (h1 : -(2 ^ 62) ≤ lo) (h2 : lo < 2 ^ 62) (h3 : -(2 ^ 62) ≤ hi) (h4 : hi < 2 ^ 62)
    (q : R (Itr lo (hi - lo).toNat) H) : wpAny (model X.prog X.w) X.A (pyIter (.ref s.heap.objs.size)) (PIE X pins σ tg R) E { s with heap := s.heap.push { cls := .type "range", data := .fields #[.int lo t, .int hi u, .int 1 v] }, toks := tk } := by
  refine wpAny_pyIter_range (IsRange.new ..) (small_one h1 h2 h3 h4) ?_
  have I1 : Inv X pins σ H { s with heap := s.heap.push { cls := .type "range", data := .fields #[.int lo t, .int hi u, .int 1 v] }, toks := tk } := I.kept fun b o e => Heap.get?_push_of_some _ e
  refine ⟨(s.heap.push { cls := .type "range", data := .fields #[.int lo t, .int hi u, .int 1 v] }).objs.size, [(s.heap.push { cls := .type "range", data := .fields #[.int lo t, .int hi u, .int 1 v] }).objs.size], _, _, H, rfl,
    I1.kept (t' := tk) fun b o e => Heap.get?_push_of_some _ e, turn_range _ lo (hi - lo).toNat, ?_, fun b hb => ?_, q⟩
  · have e1 : lo + ((0 : Nat) : Int) * 1 = lo := by simp
    have e2 : (((hi - lo).toNat : Nat) : Int) - ((0 : Nat) : Int) = Builtin.Range.rangeSize lo hi 1 := by rw [rangeSize_one]; split <;> omega
    show IsRangeIter _ _ (lo + ((0 : Nat) : Int) * 1) ((((hi - lo).toNat : Nat) : Int) - ((0 : Nat) : Int)) 1
    rw [e1, e2]
    exact Heap.get?_push_size _ rfl
  · have e : b = (s.heap.push { cls := .type "range", data := .fields #[.int lo t, .int hi u, .int 1 v] }).objs.size := by simpa using hb
    subst e
    exact I1.fpOk (Nat.le_refl _) (I1.hok.fresh (Nat.le_refl _))
def iRng1 (ta : TA) : TI := fun σ H R => ta σ H fun vs H1 => ∃ j : Int, vs = [.int j] ∧ -(2 ^ 62) ≤ j ∧ j < 2 ^ 62 ∧ R (Itr 0 j.toNat) H1
def iRng2 (ta : TA) : TI := fun σ H R => ta σ H fun vs H1 => ∃ i j : Int, vs = [.int i, .int j] ∧ (-(2 ^ 62) ≤ i ∧ i < 2 ^ 62 ∧ -(2 ^ 62) ≤ j ∧ j < 2 ^ 62) ∧ R (Itr i (j - i).toNat) H1
theorem pi_range1 {a : Expr} {ta : TA} {p pos : Pos} (hg : Gl X "range") (hm : X.mg "range" = none) (ha : PA X [a] ta) (hs : starEach [a] X.env = [(false, eval a X.env)] := by rfl) : PI X tg (.Call (.Name "range" p) [a] [] pos) (iRng1 ta) := by
  intro pins s σ H R I h
  refine Call_ (ld_blt I hg hm boot_range (PyProof.Rows.callWith_type1 (thn (ha pos pins s σ H _ I h) fun us s1 ⟨vs, H1, I1, r1, q1⟩ => ?_) hs rfl))
  obtain ⟨j, e, q1, q2, q⟩ := q1
  subst e
  cases r1 with
  | cons r rr =>
    cases rr
    obtain ⟨t, rfl⟩ := r
    exact call_range_1 (range_it I1 (by omega) (by omega) q1 q2 (by simpa using q))
/-! ### for -/
/-- W: the invariant by the turn and a measure; N: what the body is to reach -/
def tFor (wi : TI) (g : TG) (tb : TS) : TS := fun D σ H => wi σ H fun J H1 => ∃ W : Nat → Nat → St → Hp → Prop, (∃ m, W 0 m σ H1) ∧ ∀ i m σ H, W i m σ H →
  (J.stop i H ∧ D.nx σ H) ∨ (J.go i H ∧ ∃ N : St → Hp → Prop, (∀ σ' H', N σ' H' → ∃ m', m' < m ∧ W (i + 1) m' σ' H') ∧ ∀ x H', J.yld i H x H' → g x σ H' fun σ2 H2 => tb { D with nx := N, ct := N, bk := D.nx } σ2 H2)
/-- the records at fp as they stand -/
def pinsAt (fp : List Addr) (h : Heap) : List (Addr × Obj) := fp.filterMap fun b => (h.get? b).map fun o => (b, o)
theorem mem_pinsAt {fp : List Addr} {h : Heap} {b : Addr} {o : Obj} (hb : b ∈ fp) (e : h.get? b = some o) : (b, o) ∈ pinsAt fp h := List.mem_filterMap.mpr ⟨b, hb, by rw [e]; rfl⟩
theorem of_pinsAt {fp : List Addr} {h : Heap} {p : Addr × Obj} (hp : p ∈ pinsAt fp h) : p.1 ∈ fp ∧ h.get? p.1 = some p.2 := by
  obtain ⟨b, hb, e⟩ := List.mem_filterMap.mp hp
  cases q : h.get? b with
  | none => rw [q] at e; cases e
  | some o =>
    rw [q] at e
    have e' : (b, o) = p := Option.some.inj e
    subst e'
    exact ⟨hb, q⟩
theorem Inv.pinned {pins : List (Addr × Obj)} {σ : St} {H : Hp} {s : Shared} {fp : List Addr} (I : Inv X pins σ H s) (hf : ∀ b ∈ fp, FpOk X pins H b) (ho : ∀ b ∈ fp, ∃ o, s.heap.get? b = some o ∧ ∀ v, o.data ≠ .cell v) : Inv X (pins ++ pinsAt fp s.heap) σ H s :=
  I.pins_of fun p hp => (List.mem_append.mp hp).elim (fun z => I.pin p (List.mem_append_right _ z)) fun z => by
    obtain ⟨hb, e⟩ := of_pinsAt z
    obtain ⟨f0, f1, f2, _⟩ := hf p.1 hb
    obtain ⟨o, e', d⟩ := ho p.1 hb
    rw [e] at e'; cases e'
    exact ⟨e, f0, f1, f2, d⟩
theorem Inv.unpinned {pins pl : List (Addr × Obj)} {σ : St} {H : Hp} {s : Shared} (I : Inv X (pins ++ pl) σ H s) : Inv X pins σ H s := I.pins_of fun p hp => I.pin p (List.mem_append_right _ (List.mem_append_left _ hp))
theorem ps_for {iter : Expr} {body : List Stmt} {wi : TI} {g : TG} {tb : TS} {pos : Pos} (hp : PassesOwn (model X.prog X.w) X.A X.env X.xe) (hc : X.calm = true) (hi : PI X tg iter wi) (hg : PG X tg g) (hb : PSs X body tb)
    (hs : ∀ x, foldedSetIterable iter X.env x = pure x := by intro _; rfl) : PS X (.For tg iter body [] pos) (tFor wi g tb) := by
  intro pins s σ H D I h
  refine wpAny_For (thn (hi pins s σ H _ I h) fun v s1 h1 => thn h1 fun itv s2 h2 => ?_) hs
  obtain ⟨it, fp, tn, J, H2, e, I2, T, st2, f2, W, ⟨m0, w0⟩, turn⟩ := h2
  subst e
  -- what stays true of the iterator's objects through the loop
  have stat : ∀ {H' : Hp}, (∀ b ∈ fp, H' b = none) → ∀ b ∈ fp, FpOk X pins H' b := fun hn b hb => ⟨hn b hb, (f2 b hb).2⟩
  refine codeAny_forLoop_any (fun n s' => ∃ i σ' H', Inv X pins σ' H' s' ∧ tn i s'.heap ∧ (∀ b ∈ fp, H' b = none) ∧ W i n σ' H') ?_ m0 ⟨0, σ, H2, I2, st2, fun b hb => (f2 b hb).1, w0⟩
  rintro n s3 ⟨i, σ3, H3, I3, st3, fr3, w3⟩
  rcases turn i n σ3 H3 w3 with ⟨stop, qn⟩ | ⟨go, N, hN, step⟩
  · refine wpAny_passesOwn hp (thn (T.done X rfl rfl rfl hc i pins s3 σ3 H3 X.xe I3 (stat fr3) st3 stop) fun r s4 ⟨hr, I4⟩ => ?_)
    subst hr
    exact wpAny_execs_nil ⟨σ3, H3, I4, qn⟩
  · refine wpAny_passesOwn hp (thn (T.item X rfl rfl rfl hc i pins s3 σ3 H3 X.xe I3 (stat fr3) st3 go) fun r s4 ⟨u, hr, h4⟩ => ?_)
    subst hr
    refine wpAny_passesOwn hp (thn h4 fun _ s5 ⟨x, H5, I5, r5, y5, st5, fr5⟩ => ?_)
    have I5' := I5.pinned (stat fr5) (T.obj _ _ st5)
    refine wpAny_passesOwn hp (thn (hg _ s5 σ3 H5 x u _ I5' r5 (step x H5 y5)) fun _ s6 ⟨σ6, H6, I6, q6⟩ => ?_)
    refine wpAny_passesOwn hp (thn (hb _ s6 σ6 H6 _ I6 q6) fun f s7 q7 => ?_)
    have again : ∀ {σ7 : St} {H7 : Hp}, Inv X (pins ++ pinsAt fp s5.heap) σ7 H7 s7 → N σ7 H7 → ∃ m, m < n ∧ ∃ i σ' H', Inv X pins σ' H' s7 ∧ tn i s7.heap ∧ (∀ b ∈ fp, H' b = none) ∧ W i m σ' H' := fun {σ7 H7} I7 n7 => by
      obtain ⟨m', hm, w7⟩ := hN σ7 H7 n7
      refine ⟨m', hm, i + 1, σ7, H7, I7.unpinned, T.keep _ _ _ st5 fun b hb o e => (I7.pin (b, o) (List.mem_append_right _ (List.mem_append_right _ (mem_pinsAt hb e)))).1, fun b hb => ?_, w7⟩
      obtain ⟨o, e, d⟩ := T.obj _ _ st5 b hb
      exact (I7.pin (b, o) (List.mem_append_right _ (List.mem_append_right _ (mem_pinsAt hb e)))).2.1
    cases f with
    | next => obtain ⟨σ7, H7, I7, n7⟩ := q7; exact again I7 n7
    | cont => obtain ⟨σ7, H7, I7, n7⟩ := q7; exact again I7 n7
    | brk => obtain ⟨σ7, H7, I7, q7⟩ := q7; exact ⟨σ7, H7, I7.unpinned, q7⟩
    | ret v => obtain ⟨x7, σ7, H7, I7, r7, q7⟩ := q7; exact ⟨x7, σ7, H7, I7.unpinned, r7, q7⟩
end

/-! ### the forms one uses -/
/-- over a list that the body leaves as it is -/
theorem for_list {K : PySem.W.Frag} {a : Addr} {xs : List V} {g : TG} {tb : TS} {D : Ends} {σ : St} {H : Hp} (Pv : Nat → St → Hp → Prop) (h0 : Pv 0 σ H) (hl : ∀ i σ H, i ≤ xs.length → Pv i σ H → SqL K H a xs)
    (hs : ∀ i x σ H, xs[i]? = some x → Pv i σ H → g x σ H fun σ2 H2 => tb { D with nx := Pv (i + 1), ct := Pv (i + 1), bk := D.nx } σ2 H2) (hd : ∀ σ H, Pv xs.length σ H → D.nx σ H) :
    ∃ W : Nat → Nat → St → Hp → Prop, (∃ m, W 0 m σ H) ∧ ∀ i m σ H, W i m σ H →
      ((Itl K a).stop i H ∧ D.nx σ H) ∨ ((Itl K a).go i H ∧ ∃ N : St → Hp → Prop, (∀ σ' H', N σ' H' → ∃ m', m' < m ∧ W (i + 1) m' σ' H') ∧ ∀ x H', (Itl K a).yld i H x H' → g x σ H' fun σ2 H2 => tb { D with nx := N, ct := N, bk := D.nx } σ2 H2) := by
  refine ⟨fun i m σ H => m = xs.length - i ∧ i ≤ xs.length ∧ Pv i σ H, ⟨xs.length, by simp, Nat.zero_le _, h0⟩, ?_⟩
  rintro i m σ H ⟨rfl, hi, p⟩
  have q := hl i σ H hi p
  by_cases hlt : i < xs.length
  · refine .inr ⟨⟨xs, xs[i], q, by simp [hlt]⟩, Pv (i + 1), fun σ' H' p' => ⟨xs.length - (i + 1), by omega, rfl, hlt, p'⟩, fun x H' y => ?_⟩
    obtain ⟨e, y⟩ := y
    subst e
    exact hs i x σ _ (y xs q) p
  · have e : i = xs.length := by omega
    subst e
    exact .inl ⟨⟨xs, q, Nat.le_refl _⟩, hd σ H p⟩
theorem for_range {lo : Int} {n : Nat} {g : TG} {tb : TS} {D : Ends} {σ : St} {H : Hp} (Pv : Nat → St → Hp → Prop) (h0 : Pv 0 σ H)
    (hs : ∀ i σ H, i < n → Pv i σ H → g (.int (lo + i)) σ H fun σ2 H2 => tb { D with nx := Pv (i + 1), ct := Pv (i + 1), bk := D.nx } σ2 H2) (hd : ∀ σ H, Pv n σ H → D.nx σ H) :
    ∃ W : Nat → Nat → St → Hp → Prop, (∃ m, W 0 m σ H) ∧ ∀ i m σ H, W i m σ H →
      ((Itr lo n).stop i H ∧ D.nx σ H) ∨ ((Itr lo n).go i H ∧ ∃ N : St → Hp → Prop, (∀ σ' H', N σ' H' → ∃ m', m' < m ∧ W (i + 1) m' σ' H') ∧ ∀ x H', (Itr lo n).yld i H x H' → g x σ H' fun σ2 H2 => tb { D with nx := N, ct := N, bk := D.nx } σ2 H2) := by
  refine ⟨fun i m σ H => m = n - i ∧ i ≤ n ∧ Pv i σ H, ⟨n, by simp, Nat.zero_le _, h0⟩, ?_⟩
  rintro i m σ H ⟨rfl, hi, p⟩
  by_cases hlt : i < n
  · refine .inr ⟨hlt, Pv (i + 1), fun σ' H' p' => ⟨n - (i + 1), by omega, rfl, hlt, p'⟩, fun x H' y => ?_⟩
    obtain ⟨e, y⟩ := y
    subst e y
    exact hs i σ _ hlt p
  · have e : i = n := by omega
    subst e
    exact .inl ⟨Nat.le_refl _, hd σ H p⟩
end L2

namespace L2
open PySem PySem.Spec PyProof.Rows

abbrev R2 := V → V → Hp → VK → Prop
/-- a two-place operation on values: f is binaryOp op, inplaceOp op or compareOp op -/
def OpR (X : Cx) (f : Value → Value → Sem Value) (r : R2) : Prop :=
  ∀ (pins : List (Addr × Obj)) (s : Shared) (σ : St) (H : Hp) (x y : V) (v u : Value) (Q : VK), Inv X pins σ H s → RelV x v → RelV y u → r x y H Q →
    wpAny (model X.prog X.w) X.A (f v u) (EP X pins σ Q) X.xe s
/-- a one-place operation -/
def UnR (X : Cx) (f : Value → Sem Value) (r : V → Hp → VK → Prop) : Prop :=
  ∀ (pins : List (Addr × Obj)) (s : Shared) (σ : St) (H : Hp) (x : V) (v : Value) (Q : VK), Inv X pins σ H s → RelV x v → r x H Q →
    wpAny (model X.prog X.w) X.A (f v) (EP X pins σ Q) X.xe s
/-- a call of a value that is known (a builtin, a type) with values -/
def CallR (X : Cx) (f : Value) (r : List V → Hp → VK → Prop) : Prop :=
  ∀ (pins : List (Addr × Obj)) (s : Shared) (σ : St) (H : Hp) (xs : List V) (us : List Value) (Q : VK), Inv X pins σ H s → Vals xs us → r xs H Q →
    wpAny (model X.prog X.w) X.A (call f us) (EP X pins σ Q) X.xe s
/-- a value's truth -/
def TruR (X : Cx) (r : V → Hp → (Bool → Hp → Prop) → Prop) : Prop :=
  ∀ (pins : List (Addr × Obj)) (s : Shared) (σ : St) (H : Hp) (x : V) (v : Value) (Q : Bool → Hp → Prop), Inv X pins σ H s → RelV x v → r x H Q →
    wpAny (model X.prog X.w) X.A (truthy v) (TP X pins σ Q) X.xe s

def tOp (r : R2) (ta tb : TE) : TE := fun σ H Q => ta σ H fun x H1 => tb σ H1 fun y H2 => r x y H2 Q
def tUn (r : V → Hp → VK → Prop) (ta : TE) : TE := fun σ H Q => ta σ H fun x H1 => r x H1 Q
/-- ints in, under C, and a value out -/
def rI (C : Int → Int → Prop) (g : Int → Int → V) : R2 := fun x y H Q => ∃ i j, x = .int i ∧ y = .int j ∧ C i j ∧ Q (g i j) H
def rI0 (g : Int → Int → V) : R2 := fun x y H Q => ∃ i j, x = .int i ∧ y = .int j ∧ Q (g i j) H
def rU (g : Int → V) : V → Hp → VK → Prop := fun x H Q => ∃ i, x = .int i ∧ Q (g i) H

section
variable {X : Cx} {a b c : Expr} {ta tb tc : TE} {pos : Pos}

theorem binT (ha : PE X a ta) (hb : PE X b tb) {pins : List (Addr × Obj)} {s : Shared} {σ : St} {H : Hp} {R : V → V → Hp → Prop} (I : Inv X pins σ H s)
    (h : ta σ H fun x H1 => tb σ H1 fun y H2 => R x y H2) {Q : Value → Shared → Prop} {f : Value → Value → Sem Value}
    (hf : ∀ v u s2 x y H2, Inv X pins σ H2 s2 → RelV x v → RelV y u → R x y H2 → wpAny (model X.prog X.w) X.A (f v u) Q X.xe s2) :
    wpAny (model X.prog X.w) X.A (eval a X.env) (fun v s₁ => wpAny (model X.prog X.w) X.A (eval b X.env) (fun u s₂ => wpAny (model X.prog X.w) X.A (f v u) Q X.xe s₂) X.xe s₁) X.xe s := by
  refine thn (ha pins s σ H _ I h) fun v s1 ⟨x, H1, I1, r1, q1⟩ => ?_
  refine thn (hb pins s1 σ H1 _ I1 q1) fun u s2 ⟨y, H2, I2, r2, q2⟩ => ?_
  exact hf v u s2 x y H2 I2 r1 r2 q2

theorem pe_op {op : Operator} {r : R2} (ho : OpR X (binaryOp op) r) (ha : PE X a ta) (hb : PE X b tb) : PE X (.BinOp a op b pos) (tOp r ta tb) := by
  intro pins s σ H Q I h
  exact wpAny_BinOp (binT ha hb I h fun v u s2 x y H2 I2 rx ry q => ho pins s2 σ H2 x y v u Q I2 rx ry q)
theorem pe_un {op : UnaryOp} {r : V → Hp → VK → Prop} (ho : UnR X (unaryOp op) r) (ha : PE X a ta) : PE X (.UnaryOp op a pos) (tUn r ta) := by
  intro pins s σ H Q I h
  exact UnaryOp_ (thn (ha pins s σ H _ I h) fun v s1 ⟨x, H1, I1, r1, q1⟩ => ho pins s1 σ H1 x v Q I1 r1 q1)
/-! ### ints -/
theorem opI {f : Value → Value → Sem Value} {C : Int → Int → Prop} {g : Int → Int → Int}
    (rule : ∀ (i j : Int) (t u : Tok) (s : Shared) (Q : Value → Shared → Prop) (E : Value → Shared → Prop), C i j → Q (.int (g i j) s.toks) { s with toks := s.toks + 1 } → wpAny (model X.prog X.w) X.A (f (.int i t) (.int j u)) Q E s) :
    OpR X f (rI C fun i j => .int (g i j)) := by
  intro pins s σ H x y v u Q I rx ry h
  obtain ⟨i, j, rfl, rfl, hc, q⟩ := h
  obtain ⟨t, rfl⟩ := rx
  obtain ⟨t', rfl⟩ := ry
  exact rule i j t t' s _ _ hc ⟨.int (g i j), H, I.tok _, ⟨_, rfl⟩, q⟩
theorem opI0 {f : Value → Value → Sem Value} {g : Int → Int → Int}
    (rule : ∀ (i j : Int) (t u : Tok) (s : Shared) (Q : Value → Shared → Prop) (E : Value → Shared → Prop), Q (.int (g i j) s.toks) { s with toks := s.toks + 1 } → wpAny (model X.prog X.w) X.A (f (.int i t) (.int j u)) Q E s) :
    OpR X f (rI0 fun i j => .int (g i j)) := by
  intro pins s σ H x y v u Q I rx ry h
  obtain ⟨i, j, rfl, rfl, q⟩ := h
  obtain ⟨t, rfl⟩ := rx
  obtain ⟨t', rfl⟩ := ry
  exact rule i j t t' s _ _ ⟨.int (g i j), H, I.tok _, ⟨_, rfl⟩, q⟩
theorem opB0 {f : Value → Value → Sem Value} {g : Int → Int → Bool}
    (rule : ∀ (i j : Int) (t u : Tok) (s : Shared) (Q : Value → Shared → Prop) (E : Value → Shared → Prop), Q (.bool (g i j)) s → wpAny (model X.prog X.w) X.A (f (.int i t) (.int j u)) Q E s) :
    OpR X f (rI0 fun i j => .bl (g i j)) := by
  intro pins s σ H x y v u Q I rx ry h
  obtain ⟨i, j, rfl, rfl, q⟩ := h
  obtain ⟨t, rfl⟩ := rx
  obtain ⟨t', rfl⟩ := ry
  exact rule i j t t' s _ _ ⟨.bl (g i j), H, I, rfl, q⟩

def CDiv (i j : Int) : Prop := 0 < j ∧ j < 1073741824
def CDivN (i j : Int) : Prop := j ≠ 0 ∧ j.natAbs < 1073741824
def CPow (i j : Int) : Prop := 0 ≤ j ∧ j ≤ 1000000 ∧ i.natAbs < 2 ^ 64
def CMul (i j : Int) : Prop := (-(2 ^ 64) < i ∧ i < 2 ^ 64) ∨ (-(2 ^ 64) < j ∧ j < 2 ^ 64)
theorem CMul.ok {i j : Int} (h : CMul i j) : IntMulOk i j := by
  rcases h with ⟨h1, h2⟩ | ⟨h1, h2⟩
  · exact .of_left (intBits_le_64 h1 h2)
  · exact .of_right (intBits_le_64 h1 h2)
theorem op_add : OpR X (binaryOp .Add) (rI0 fun i j => .int (i + j)) := opI0 fun _ _ _ _ _ _ _ q => add_int q
theorem op_sub : OpR X (binaryOp .Sub) (rI0 fun i j => .int (i - j)) := opI0 fun _ _ _ _ _ _ _ q => sub_int q
theorem op_mul : OpR X (binaryOp .Mult) (rI CMul fun i j => .int (i * j)) := opI fun _ _ _ _ _ _ _ hc q => mul_int q hc.ok
/-- % by a positive divisor of any size -/
theorem op_mod : OpR X (binaryOp .Mod) (rI (fun _ j => 0 < j) fun i j => .int (i % j)) := opI fun i j _ _ _ _ _ hc q => by
  have h1 : (0 : Int) < j := hc
  exact mod_int' (by omega) (by rw [Int.fmod_eq_emod_of_nonneg i (by omega)]; exact q)
theorem op_pow : OpR X (binaryOp .Pow) (rI CPow fun i j => .int (i ^ j.toNat)) := opI fun _ _ _ _ _ _ _ hc q => pow_int_small hc.1 hc.2.1 hc.2.2 q
theorem unI {f : Value → Sem Value} {g : Int → Int}
    (rule : ∀ (i : Int) (t : Tok) (s : Shared) (Q : Value → Shared → Prop) (E : Value → Shared → Prop), Q (.int (g i) s.toks) { s with toks := s.toks + 1 } → wpAny (model X.prog X.w) X.A (f (.int i t)) Q E s) :
    UnR X f (rU fun i => .int (g i)) := by
  intro pins s σ H x v Q I rx h
  obtain ⟨i, rfl, q⟩ := h
  obtain ⟨t, rfl⟩ := rx
  exact rule i t s _ _ ⟨.int (g i), H, I.tok _, ⟨_, rfl⟩, q⟩
theorem un_neg : UnR X (unaryOp .USub) (rU fun i => .int (-i)) := unI fun _ _ _ _ _ q => neg_int q
/-! ### bools among ints: n += (a < b) -/
end

/-! ### comparisons -/
/-- the scalars that == tells apart as data does -/
def scal : V → V → Bool
  | .non, .non => true | .non, .int _ => true | .int _, .non => true | .non, .bl _ => true | .bl _, .non => true | .non, .str _ => true | .str _, .non => true
  | .int _, .int _ => true | .bl _, .bl _ => true | .str _, .str _ => true | .byt _, .byt _ => true
  | .int _, .str _ => true | .str _, .int _ => true | .bl _, .str _ => true | .str _, .bl _ => true
  | _, _ => false
def rEq : R2 := fun x y H Q => scal x y = true ∧ Q (.bl (decide (x = y))) H
def rNe : R2 := fun x y H Q => scal x y = true ∧ Q (.bl (!decide (x = y))) H

theorem dec_int {i j : Int} : decide (V.int i = V.int j) = (i == j) := by
  rw [Bool.eq_iff_iff]
  simp
theorem dec_bl {i j : Bool} : decide (V.bl i = V.bl j) = (i == j) := by
  rw [Bool.eq_iff_iff]
  simp
theorem dec_str {i j : Str} : decide (V.str i = V.str j) = (i == j) := by
  rw [Bool.eq_iff_iff]
  simp
theorem dec_byt {i j : Array UInt8} : decide (V.byt i = V.byt j) = (i.toList == j.toList) := by
  rw [Bool.eq_iff_iff]
  cases i
  cases j
  simp

section
variable {X : Cx} {a b c : Expr} {ta tb tc : TE} {pos : Pos}
theorem fin_bl {pins : List (Addr × Obj)} {σ : St} {H : Hp} {s : Shared} {Q : VK} {k k' : Bool} (I : Inv X pins σ H s) (q : Q (.bl k) H) (e : k = k') : EP X pins σ Q (.bool k') s := by
  subst e
  exact ⟨.bl k, H, I, rfl, q⟩
theorem op_eq : OpR X (compareOp .Eq) rEq := by
  intro pins s σ H x y v u Q I rx ry h
  obtain ⟨hs, q⟩ := h
  cases x with
  | non =>
    cases rx
    cases y with
    | non => cases ry; exact PySem.EqNone.eq_none_none (fin_bl I q (by simp))
    | bl j => cases ry; exact PySem.EqNone.eq_none_bool (fin_bl I q (by simp))
    | int j => obtain ⟨t', rfl⟩ := ry; exact PySem.EqNone.eq_none_int (fin_bl I q (by simp))
    | str j => obtain ⟨t', rfl⟩ := ry; exact PySem.EqNone.eq_none_str (fin_bl I q (by simp))
    | _ => exact absurd (show false = true from hs) Bool.false_ne_true
  | bl i =>
    cases rx
    cases y with
    | non => cases ry; exact PySem.EqNone.eq_bool_none (fin_bl I q (by simp))
    | bl j => cases ry; exact eq_bool (fin_bl I q dec_bl)
    | str j => obtain ⟨t', rfl⟩ := ry; exact PySem.EqMixed.eq_bool_str (fin_bl I q (by simp))
    | _ => exact absurd (show false = true from hs) Bool.false_ne_true
  | int i =>
    obtain ⟨t, rfl⟩ := rx
    cases y with
    | non => cases ry; exact PySem.EqNone.eq_int_none (fin_bl I q (by simp))
    | int j => obtain ⟨t', rfl⟩ := ry; exact eq_int (fin_bl I q dec_int)
    | str j => obtain ⟨t', rfl⟩ := ry; exact PySem.EqMixed.eq_int_str (fin_bl I q (by simp))
    | _ => exact absurd (show false = true from hs) Bool.false_ne_true
  | str i =>
    obtain ⟨t, rfl⟩ := rx
    cases y with
    | non => cases ry; exact PySem.EqNone.eq_str_none (fin_bl I q (by simp))
    | bl j => cases ry; exact PySem.EqMixed.eq_str_bool (fin_bl I q (by simp))
    | int j => obtain ⟨t', rfl⟩ := ry; exact PySem.EqMixed.eq_str_int (fin_bl I q (by simp))
    | str j => obtain ⟨t', rfl⟩ := ry; exact eq_str (fin_bl I q dec_str)
    | _ => exact absurd (show false = true from hs) Bool.false_ne_true
  | byt i =>
    obtain ⟨t, rfl⟩ := rx
    cases y with
    | byt j => obtain ⟨t', rfl⟩ := ry; exact PySem.W.eq_bytes (fin_bl I q dec_byt)
    | _ => exact absurd (show false = true from hs) Bool.false_ne_true
  | _ => cases y <;> exact absurd (show false = true from hs) Bool.false_ne_true
theorem op_ne : OpR X (compareOp .NotEq) rNe := by
  intro pins s σ H x y v u Q I rx ry h
  obtain ⟨hs, q⟩ := h
  cases x with
  | non =>
    cases rx
    cases y with
    | non => cases ry; exact PySem.EqNone.ne_none_none (fin_bl I q (by simp))
    | bl j => cases ry; exact PySem.EqNone.ne_none_bool (fin_bl I q (by simp))
    | int j => obtain ⟨t', rfl⟩ := ry; exact PySem.EqNone.ne_none_int (fin_bl I q (by simp))
    | str j => obtain ⟨t', rfl⟩ := ry; exact PySem.EqNone.ne_none_str (fin_bl I q (by simp))
    | _ => exact absurd (show false = true from hs) Bool.false_ne_true
  | bl i =>
    cases rx
    cases y with
    | non => cases ry; exact PySem.EqNone.ne_bool_none (fin_bl I q (by simp))
    | bl j => cases ry; exact ne_bool (fin_bl I q (congrArg not dec_bl))
    | str j => obtain ⟨t', rfl⟩ := ry; exact PySem.EqMixed.ne_bool_str (fin_bl I q (by simp))
    | _ => exact absurd (show false = true from hs) Bool.false_ne_true
  | int i =>
    obtain ⟨t, rfl⟩ := rx
    cases y with
    | non => cases ry; exact PySem.EqNone.ne_int_none (fin_bl I q (by simp))
    | int j => obtain ⟨t', rfl⟩ := ry; exact ne_int (fin_bl I q (congrArg not dec_int))
    | str j => obtain ⟨t', rfl⟩ := ry; exact PySem.EqMixed.ne_int_str (fin_bl I q (by simp))
    | _ => exact absurd (show false = true from hs) Bool.false_ne_true
  | str i =>
    obtain ⟨t, rfl⟩ := rx
    cases y with
    | non => cases ry; exact PySem.EqNone.ne_str_none (fin_bl I q (by simp))
    | bl j => cases ry; exact PySem.EqMixed.ne_str_bool (fin_bl I q (by simp))
    | int j => obtain ⟨t', rfl⟩ := ry; exact PySem.EqMixed.ne_str_int (fin_bl I q (by simp))
    | str j => obtain ⟨t', rfl⟩ := ry; exact ne_str (fin_bl I q (congrArg not dec_str))
    | _ => exact absurd (show false = true from hs) Bool.false_ne_true
  | byt i =>
    obtain ⟨t, rfl⟩ := rx
    cases y with
    | byt j => obtain ⟨t', rfl⟩ := ry; exact PySem.W.ne_bytes (fin_bl I q (congrArg not dec_byt))
    | _ => exact absurd (show false = true from hs) Bool.false_ne_true
  | _ => cases y <;> exact absurd (show false = true from hs) Bool.false_ne_true

theorem op_lt : OpR X (compareOp .Lt) (rI0 fun i j => .bl (decide (i < j))) := opB0 fun _ _ _ _ _ _ _ q => lt_int q
theorem op_le : OpR X (compareOp .LtE) (rI0 fun i j => .bl (decide (i ≤ j))) := opB0 fun _ _ _ _ _ _ _ q => le_int q
theorem op_gt : OpR X (compareOp .Gt) (rI0 fun i j => .bl (decide (j < i))) := opB0 fun _ _ _ _ _ _ _ q => gt_int q
theorem op_ge : OpR X (compareOp .GtE) (rI0 fun i j => .bl (decide (j ≤ i))) := opB0 fun _ _ _ _ _ _ _ q => ge_int q
/-- the one string within the other -/
theorem op_in_str : OpR X (compareOp .In) (fun x y H Q => ∃ i j, x = .str i ∧ y = .str j ∧ Q (.bl (!(Builtin.Str.occurrences j i 0 j.length 1).isEmpty)) H) := by
  intro pins s σ H x y v u Q I rx ry h
  obtain ⟨i, j, rfl, rfl, q⟩ := h
  obtain ⟨t, rfl⟩ := rx
  obtain ⟨t', rfl⟩ := ry
  exact in_str (fin_bl I q rfl)

/-- is None, is not None: the right side a value none -/
theorem op_isN : OpR X (compareOp .Is) (fun x y H Q => y = .non ∧ Q (.bl (decide (x = .non))) H) := by
  intro pins s σ H x y v u Q I rx ry h
  obtain ⟨rfl, q⟩ := h
  cases ry
  refine is_none_gen (fin_bl I q ?_)
  cases x <;> first
    | (cases rx; rfl)
    | (obtain ⟨t, rfl⟩ := rx; rfl)
/-- is, is not of two objects that are tracked lists or instances -/
def isObj : HO → Bool
  | .lst _ => true
  | .ins _ _ _ => true
  | _ => false
/-- two rules for one operation: by cases -/
theorem OpR.or {f : Value → Value → Sem Value} {r r' : R2} (h : OpR X f r) (h' : OpR X f r') : OpR X f (fun x y H Q => r x y H Q ∨ r' x y H Q) := by
  intro pins s σ H x y v u Q I rx ry q
  rcases q with q | q
  · exact h pins s σ H x y v u Q I rx ry q
  · exact h' pins s σ H x y v u Q I rx ry q

theorem nomark (b : Expr) {op : CmpOp} (h : op ≠ .In := by decide) (h2 : op ≠ .NotIn := by decide) : behindInMarks op b = false := by
  have e1 : (op == CmpOp.In) = false := by cases op <;> first | rfl | exact absurd rfl h
  have e2 : (op == CmpOp.NotIn) = false := by cases op <;> first | rfl | exact absurd rfl h2
  cases b <;> simp [behindInMarks, e1, e2]
/-- a comparison as a value; hm: nomark b, or (for in, not in) by with_unfolding_all rfl -/
theorem pe_cmpR {op : CmpOp} {r : R2} (ho : OpR X (compareOp op) r) (ha : PE X a ta) (hb : PE X b tb) (hm : behindInMarks op b = false) : PE X (.Compare a [op] [b] pos) (tOp r ta tb) := by
  intro pins s σ H Q I h
  exact wpAny_Compare1 (binT ha hb I h fun v u s2 x y H2 I2 rx ry q => ho pins s2 σ H2 x y v u Q I2 rx ry q) hm
/-- a reading of a value as a test -/
def tTest (t : TE) : TT := fun σ H Q => t σ H fun x H' => ∃ k, x = .bl k ∧ Q k H'
theorem pt_cmpR {op : CmpOp} {r : R2} (ho : OpR X (compareOp op) r) (ha : PE X a ta) (hb : PE X b tb) (hm : behindInMarks op b = false) : PT X (.Compare a [op] [b] pos) (tTest (tOp r ta tb)) := by
  intro pins s σ H Q I h
  refine wpAny_isTrue_Compare1 (thn (ha pins s σ H _ I h) fun v s1 ⟨x, H1, I1, r1, q1⟩ => thn (hb pins s1 σ H1 _ I1 q1) fun u s2 ⟨y, H2, I2, r2, q2⟩ =>
    thn (ho pins s2 σ H2 x y v u _ I2 r1 r2 q2) fun c s3 ⟨z, H3, I3, r3, k, e, q3⟩ => ?_) hm
  subst e
  cases r3
  exact wpAny_truthy_bool ⟨H3, I3, q3⟩
/-- a op1 b op2 c -/
def tChain (r r' : R2) (ta tb tc : TE) : TE := fun σ H Q => ta σ H fun x H1 => tb σ H1 fun y H2 => r x y H2 fun z H3 => ∃ k, z = .bl k ∧
  (if k = true then tc σ H3 fun w' H4 => r' y w' H4 Q else Q (.bl false) H3)
theorem pt_chain {op op' : CmpOp} {r r' : R2} (ho : OpR X (compareOp op) r) (ho' : OpR X (compareOp op') r') (ha : PE X a ta) (hb : PE X b tb) (hc : PE X c tc)
    (hm : lastMarks [op, op'] [b, c] = false := by with_unfolding_all rfl) : PT X (.Compare a [op, op'] [b, c] pos) (tTest (tChain r r' ta tb tc)) := by
  intro pins s σ H Q I h
  refine isTrue_chain (thn (ha pins s σ H _ I h) fun v s1 ⟨x, H1, I1, r1, q1⟩ => test_link (thn (hb pins s1 σ H1 _ I1 q1) fun u s2 ⟨y, H2, I2, r2, q2⟩ =>
    thn (ho pins s2 σ H2 x y v u _ I2 r1 r2 q2) fun d s3 ⟨z, H3, I3, r3, k, e, q3⟩ => ?_)) hm
  subst e
  cases r3
  refine wpAny_truthy_bool ?_
  cases k with
  | false =>
    obtain ⟨k', e', q'⟩ := q3
    cases e'
    exact ite_ff ⟨H3, I3, q'⟩
  | true =>
    refine ite_tt (test_last (thn (hc pins s3 σ H3 _ I3 q3) fun w' s4 ⟨z', H4, I4, r4, q4⟩ => thn (ho' pins s4 σ H4 y z' u w' _ I4 r2 r4 q4) fun d' s5 ⟨z2, H5, I5, r5, k2, e2, q5⟩ => ?_))
    subst e2
    cases r5
    exact wpAny_truthy_bool ⟨H5, I5, q5⟩

/-! ### truth -/
/-- a value's truth by the abstract heap -/
def TruV (K : PySem.W.Frag) (x : V) (H : Hp) (k : Bool) : Prop :=
  match x with
  | .non => k = false
  | .bl b => k = b
  | .int i => k = (i != 0)
  | .str y => y.length ≤ sizeLine ∧ k = ((y.length : Int) != 0)
  | .byt y => y.size ≤ sizeLine ∧ k = ((y.size : Int) != 0)
  | .ref p => (∃ xs, SqL K H p xs ∧ k = !xs.isEmpty) ∨ (∃ xs, SqT K H p xs ∧ k = !xs.isEmpty) ∨ ∃ kvs, H p = some (.dK kvs) ∧ k = !kvs.isEmpty
  | _ => False
theorem line63 : (sizeLine : Nat) < 2 ^ 63 := by rw [sizeLine_eq]; decide
/-! ### strs and bytes -/
theorem op_add_str : OpR X (binaryOp .Add) (fun x y H Q => ∃ i j, x = .str i ∧ y = .str j ∧ i.length + j.length ≤ sizeLine ∧ Q (.str (i ++ j)) H) := by
  intro pins s σ H x y v u Q I rx ry h
  obtain ⟨i, j, rfl, rfl, hz, q⟩ := h
  obtain ⟨t, rfl⟩ := rx
  obtain ⟨t', rfl⟩ := ry
  exact add_str (fun t' tk => ⟨.str (i ++ j), H, I.tok _, ⟨_, rfl⟩, q⟩) hz
def PlainIxT (b : Expr) : Prop := ∀ o i, subscripted b false o i = operate [o, i] (getItem o i)
/-! ### scalar builtins, by CallR -/
theorem vals1 {x : V} {us : List Value} (r : Vals [x] us) : ∃ u, us = [u] ∧ RelV x u := by
  cases r with
  | cons r1 r2 => cases r2; exact ⟨_, rfl, r1⟩
theorem vals2 {x y : V} {us : List Value} (r : Vals [x, y] us) : ∃ u w', us = [u, w'] ∧ RelV x u ∧ RelV y w' := by
  cases r with
  | cons r1 r2 =>
    cases r2 with
    | cons r3 r4 => cases r4; exact ⟨_, _, rfl, r1, r3⟩
theorem call_abs : CallR X (.builtin "abs") (fun xs H Q => ∃ i, xs = [.int i] ∧ Q (.int (if i < 0 then -i else i)) H) := by
  intro pins s σ H xs us Q I r h
  obtain ⟨i, rfl, q⟩ := h
  obtain ⟨u, rfl, t, rfl⟩ := vals1 r
  exact call_abs_int fun u tk => ⟨.int (if i < 0 then -i else i), H, I.tok _, ⟨_, rfl⟩, q⟩
theorem call_max2 (hc : X.calm = true) : CallR X (.builtin "max") (fun xs H Q => ∃ i j, xs = [.int i, .int j] ∧ Q (.int (if j > i then j else i)) H) := by
  intro pins s σ H xs us Q I r h
  obtain ⟨i, j, rfl, q⟩ := h
  obtain ⟨u, w', rfl, ⟨t, rfl⟩, ⟨t', rfl⟩⟩ := vals2 r
  refine max_two_ints (I.ok.hd hc) fun h' tk k => ⟨_, H, I.kept k, ?_, q⟩
  by_cases hj : j > i
  · rw [if_pos hj, if_pos hj]; exact ⟨_, rfl⟩
  · rw [if_neg hj, if_neg hj]; exact ⟨_, rfl⟩
theorem call_min2 (hc : X.calm = true) : CallR X (.builtin "min") (fun xs H Q => ∃ i j, xs = [.int i, .int j] ∧ Q (.int (if j < i then j else i)) H) := by
  intro pins s σ H xs us Q I r h
  obtain ⟨i, j, rfl, q⟩ := h
  obtain ⟨u, w', rfl, ⟨t, rfl⟩, ⟨t', rfl⟩⟩ := vals2 r
  refine min_two_ints (I.ok.hd hc) fun h' tk k => ⟨_, H, I.kept k, ?_, q⟩
  by_cases hj : j < i
  · rw [if_pos hj, if_pos hj]; exact ⟨_, rfl⟩
  · rw [if_neg hj, if_neg hj]; exact ⟨_, rfl⟩
theorem call_int1 : CallR X (.type "int") (fun xs H Q => (∃ i, xs = [.int i] ∧ Q (.int i) H) ∨ ∃ k, xs = [.bl k] ∧ Q (.int (if k then 1 else 0)) H) := by
  intro pins s σ H xs us Q I r h
  rcases h with ⟨i, rfl, q⟩ | ⟨k, rfl, q⟩
  · obtain ⟨u, rfl, t, rfl⟩ := vals1 r
    exact call_int_int ⟨.int i, H, I, ⟨_, rfl⟩, q⟩
  · obtain ⟨u, rfl, r1⟩ := vals1 r
    cases r1
    exact call_int_bool ⟨.int (if k then 1 else 0), H, I.tok _, ⟨_, rfl⟩, q⟩
theorem call_str_int : CallR X (.type "str") (fun xs H Q => ∃ i, xs = [.int i] ∧ i.natAbs.log2 < 1920 ∧ Q (.str (toString i)) H) := by
  intro pins s σ H xs us Q I r h
  obtain ⟨i, rfl, hz, q⟩ := h
  obtain ⟨u, rfl, t, rfl⟩ := vals1 r
  exact PySem.P.str_of_int hz ⟨.str _, H, I.tok _, ⟨_, rfl⟩, q⟩
/-- len of a str, a bytes, a list, a tuple -/
def LenV (K : PySem.W.Frag) (x : V) (H : Hp) (n : Nat) : Prop :=
  match x with
  | .str y => y.length ≤ sizeLine ∧ n = y.length
  | .byt y => y.size ≤ sizeLine ∧ n = y.size
  | .ref p => (∃ xs, SqL K H p xs ∧ n = xs.length) ∨ ∃ xs, SqT K H p xs ∧ n = xs.length
  | _ => False
end
end L2

namespace L2
open PySem PySem.Spec PyProof.Rows

/-! ### an instance, its attributes a map -/
structure ObjM (h : Heap) (x dx C : Addr) (mA : Str → Option Value) : Prop where
  obj : h.get? x = some (PySem.W.instObj C dx)
  ns : h.Ns1 dx mA
  ne : dx ≠ x

theorem lookIn_ns {h : Heap} {dx : Addr} {mA : Str → Option Value} (n : h.Ns1 dx mA) : ∃ od, h.get? dx = some od ∧ ∀ name, PySem.W.lookIn name od = some (mA name) := by
  obtain ⟨o, es, ep, ho, hd, hk, _, hm⟩ := n
  refine ⟨o, ho, fun name => ?_⟩
  have e := hm name
  unfold nsFind findBy at e
  rw [← Array.find?_toList] at e
  unfold PySem.W.lookIn
  rw [hd]
  dsimp only
  split
  · rename_i y q
    rw [q] at e
    exact congrArg some e
  · rename_i q
    rw [q] at e
    have a : es.toList.any (·.refKey) = false := by
      rw [List.any_eq_false]
      intro y hy
      obtain ⟨z, t, hkey⟩ := hk y (Array.mem_toList_iff.mp hy)
      simp [DictEntry.refKey, hkey]
    have a' : ¬ es.toList.any (·.refKey) = true := by rw [a]; exact Bool.false_ne_true
    rw [if_neg a']
    exact congrArg some e

theorem ObjM.look {h : Heap} {x dx C : Addr} {mA : Str → Option Value} (I : ObjM h x dx C mA) : ∃ od, PySem.W.InstAt h x (PySem.W.instObj C dx) C (some od) ∧ ∀ name, PySem.W.lookIn name od = some (mA name) :=
  let ⟨od, ho, hl⟩ := lookIn_ns I.ns
  ⟨od, ⟨I.obj, rfl, rfl, ho⟩, hl⟩

section
variable {prog : Program} {w : World} {A : Around} {E : Value → Shared → Prop} {s : Shared} {K : PySem.W.Frag} {x dx C f : Addr} {mA : Str → Option Value} {name : Str} {v : Value}

end

/-! ### the attributes as a list of pairs -/
def putF (f : Str) (v : V) : List (Str × V) → List (Str × V)
  | [] => [(f, v)]
  | (g, x) :: r => if g = f then (g, v) :: r else (g, x) :: putF f v r
theorem lookup_putF (f g : Str) (v : V) : ∀ fs : List (Str × V), (putF f v fs).lookup g = if g = f then some v else fs.lookup g
  | [] => by
    show List.lookup g [(f, v)] = _
    by_cases h : g = f
    · have hb : (g == f) = true := beq_iff_eq.mpr h
      simp only [List.lookup, hb, if_pos h]
    · have hb : (g == f) = false := beq_eq_false_iff_ne.mpr h
      simp only [List.lookup, hb, if_neg h]
  | (k, x) :: r => by
    have ih := lookup_putF f g v r
    rw [show putF f v ((k, x) :: r) = (if k = f then (k, v) :: r else (k, x) :: putF f v r) from rfl]
    by_cases hk : k = f
    · rw [if_pos hk]
      by_cases h : g = k
      · have hb : (g == k) = true := beq_iff_eq.mpr h
        simp only [List.lookup, hb, if_pos (h.trans hk)]
      · have hb : (g == k) = false := beq_eq_false_iff_ne.mpr h
        simp only [List.lookup, hb, if_neg (fun e : g = f => h (e.trans hk.symm))]
    · rw [if_neg hk]
      by_cases h : g = k
      · have hb : (g == k) = true := beq_iff_eq.mpr h
        simp only [List.lookup, hb, if_neg (fun e : g = f => hk (h.symm.trans e))]
      · have hb : (g == k) = false := beq_eq_false_iff_ne.mpr h
        simp only [List.lookup, hb]
        exact ih
theorem RelO.some_of {v : V} {o : Option Value} (r : RelO (some v) o) : ∃ u, o = some u ∧ RelV v u := by
  cases o with
  | none => exact (show False from r).elim
  | some u => exact ⟨u, rfl, r⟩
theorem handed_of {v : V} {u : Value} (r : RelV v u) : PySem.W.handedIn u = true := by
  cases v with
  | non => cases (show u = Value.none from r); rfl
  | bl b => cases (show u = Value.bool b from r); rfl
  | int i => obtain ⟨t, e⟩ := (show ∃ t, u = Value.int i t from r); cases e; rfl
  | str x => obtain ⟨t, e⟩ := (show ∃ t, u = Value.str x t from r); cases e; rfl
  | byt b => obtain ⟨t, e⟩ := (show ∃ t, u = Value.bytes b t from r); cases e; rfl
  | flt b => obtain ⟨t, e⟩ := (show ∃ t, u = Value.float b t from r); cases e; rfl
  | ref a => cases (show u = Value.ref a from r); rfl
  | ty n => cases (show u = Value.type n from r); rfl

section
variable {P : Program} {w : World} {H H' : Hp} {h h' : Heap} {a C dx : Addr} {fs fs' : List (Str × V)}
theorem ins_get (hok : HOk P w H h) (e : H a = some (.ins C dx fs)) : ∃ mA, ObjM h a dx C mA ∧ (∀ f, RelO (fs.lookup f) (mA f)) ∧ PySem.Within mA (fs.map (·.1)) ∧ fs.length ≤ 1000 ∧ H dx = some (.own a) := by
  obtain ⟨d, z, ne, ob, mA, n, r, q⟩ := (show ObjOk P w H h a (.ins C dx fs) from hok a _ e)
  exact ⟨mA, ⟨ob, n, ne⟩, r, q, z, d⟩
end

/-! ### what of the text a class must have -/
structure Cls (K : PySem.W.Frag) (C : Addr) : Prop where
  pg : PySem.W.plainGet K C Str.empty = true
  hd : PySem.W.hasDictIn K C = true
  po : PySem.W.plainOver K C = true
  sa : PySem.W.findIn K (.ref C) "__setattr__" = some (some (.builtin "object.__setattr__"))
theorem Cls.get {K : PySem.W.Frag} {C : Addr} (c : Cls K C) (f : Str) : PySem.W.plainGet K C f = true := c.pg
/-- no class of it has the name -/
def NoAttr (K : PySem.W.Frag) (C : Addr) (f : Str) : Prop := PySem.W.findIn K (.ref C) f = some none
/-- a constant of the class -/
structure Con (K : PySem.W.Frag) (C : Addr) (f : Str) (v : V) (u : Value) : Prop where
  at_ : PySem.W.findIn K (.ref C) f = some (some u)
  rel : RelV v u
  get : PySem.W.specialIn K u "__get__" = some none
  cp : PySem.W.copiedNames.contains f = false
/-- a method: a plain def of the class or of one above it -/
structure Meth (K : PySem.W.Frag) (C : Addr) (m : Str) (f : Addr) : Prop where
  at_ : PySem.W.findIn K (.ref C) m = some (some (.ref f))
  fn : PySem.W.isFn K (.ref f) = true
  kp : PySem.W.keepIn K (.ref f) = true

section
variable {X : Cx} {pins : List (Addr × Obj)} {σ : St} {H : Hp} {s : Shared} {a C dx : Addr} {fs : List (Str × V)} {f : Str} {v : V} {A : Around} {E : Value → Shared → Prop}

/-- a new instance, tracked, without attributes -/
theorem Inv.made (I : Inv X pins σ H s) : Inv X pins σ (upd (upd H s.heap.objs.size (.own (s.heap.objs.size + 1))) (s.heap.objs.size + 1) (.ins C s.heap.objs.size []))
    { s with heap := (s.heap.push PySem.W.emptyDict).push (PySem.W.instObj C s.heap.objs.size) } := by
  have e1 : (s.heap.push PySem.W.emptyDict).get? s.heap.objs.size = some PySem.W.emptyDict := Heap.get?_push_size s.heap rfl
  have e2 : ((s.heap.push PySem.W.emptyDict).push (PySem.W.instObj C s.heap.objs.size)).get? (s.heap.objs.size + 1) = some (PySem.W.instObj C s.heap.objs.size) := by
    have := Heap.get?_push_size (s.heap.push PySem.W.emptyDict) (o := PySem.W.instObj C s.heap.objs.size) rfl
    rwa [Heap.size_push] at this
  have e3 : (s.heap.push PySem.W.emptyDict).Ns s.heap.objs.size (fun _ => none) := ⟨PySem.W.emptyDict, #[], _, e1, rfl, (fun e he => absurd he (by simp)), fun _ => rfl⟩
  have I1 := I.laid (a := s.heap.objs.size) (o := .own (s.heap.objs.size + 1)) (h' := s.heap.push PySem.W.emptyDict) (t' := s.toks) (fun b u q => Heap.get?_push_of_some _ q) (Nat.le_refl _) ⟨_, e1⟩
  refine I1.laid (a := s.heap.objs.size + 1) (o := .ins C s.heap.objs.size []) (t' := s.toks) (fun b u q => Heap.get?_push_of_some _ q) (Nat.le_of_eq (Heap.size_push _ _)) ?_
  have ne : s.heap.objs.size ≠ s.heap.objs.size + 1 := Nat.ne_of_lt (Nat.lt_succ_self _)
  refine ⟨by rw [upd_ne ne, upd_same], Nat.zero_le _, ne, e2, fun _ => none, (Heap.Ns1.of_empty e3).at fun o q => Heap.get?_push_of_some _ q, fun _ => True.intro, fun y hy => absurd rfl hy⟩

/-- e.f where nothing but the object is asked: through attributeBase (super) and the last hold -/
theorem attr_of {prog : Program} {w : World} {env : Env} {e : Expr} {f : Str} {pos : Pos} {s : Shared} {Q : Value → Shared → Prop} (hb : attributeBase e f env (eval e env) = eval e env)
    (h : wpAny (model prog w) A (eval e env) (fun o s₁ => wpAny (model prog w) A (getAttr o f true) Q E s₁) E s) : wpAny (model prog w) A (eval (.Attribute e f pos) env) Q E s :=
  Attribute_any_ h (by rw [arm_eval_Attribute, hb])
end

/-! ### readings and rules -/
/-- e.f, an attribute of the instance -/
def tFld (K : PySem.W.Frag) (ta : TE) (f : Str) : TE := fun σ H Q => ta σ H fun x H1 => ∃ a C dx fs v, x = .ref a ∧ H1 a = some (.ins C dx fs) ∧ Cls K C ∧ NoAttr K C f ∧ fs.lookup f = some v ∧ Q v H1
/-- e.f, a constant of the class -/
def tCon (K : PySem.W.Frag) (ta : TE) (f : Str) : TE := fun σ H Q => ta σ H fun x H1 => ∃ a C dx fs v u, x = .ref a ∧ H1 a = some (.ins C dx fs) ∧ Cls K C ∧ Con K C f v u ∧ fs.lookup f = none ∧ Q v H1
/-- e.f = value -/
def sFld (K : PySem.W.Frag) (ta tv : TE) (f : Str) : TS := fun D σ H => tv σ H fun y H1 => ta σ H1 fun x H2 => ∃ a C dx fs, x = .ref a ∧ H2 a = some (.ins C dx fs) ∧ Cls K C ∧ NoAttr K C f ∧ fs.length < 1000 ∧
  D.nx σ (upd H2 a (.ins C dx (putF f y fs)))
/-- an augmented operator on two values -/
def InOp (X : Cx) (op : Operator) (rd : V → V → Hp → VK → Prop) : Prop :=
  ∀ (pins : List (Addr × Obj)) (s : Shared) (σ : St) (H : Hp) (x y : V) (u v : Value) (Q : VK), Inv X pins σ H s → RelV x u → RelV y v → rd x y H Q → wpAny (model X.prog X.w) X.A (inplaceOp op u v) (EP X pins σ Q) X.xe s
/-- e.f op= value -/
def sFldAug (K : PySem.W.Frag) (ta tv : TE) (rd : V → V → Hp → VK → Prop) (f : Str) : TS := fun D σ H => ta σ H fun x H1 => ∃ a C dx fs v, x = .ref a ∧ H1 a = some (.ins C dx fs) ∧ Cls K C ∧ NoAttr K C f ∧ fs.lookup f = some v ∧
  tv σ H1 fun y H2 => rd v y H2 fun z H3 => ∃ dx' fs', H3 a = some (.ins C dx' fs') ∧ fs'.length < 1000 ∧ D.nx σ (upd H3 a (.ins C dx' (putF f z fs')))

section
variable {X : Cx} {o e value : Expr} {f : Str} {pos pos' tpos : Pos} {ta tv : TE}
def rAdd : V → V → Hp → VK → Prop := fun x y H Q => ∃ i j, x = .int i ∧ y = .int j ∧ Q (.int (i + j)) H
def rSub : V → V → Hp → VK → Prop := fun x y H Q => ∃ i j, x = .int i ∧ y = .int j ∧ Q (.int (i - j)) H
end

/-! ### isinstance -/
section
variable {X : Cx} {pins : List (Addr × Obj)} {σ : St} {H : Hp} {s : Shared} {A : Around} {E : Value → Shared → Prop} {Q : Value → Shared → Prop} {c : Value} {b : Bool}
/-- the type of a value, as the fragment's deciders take it; for an instance its class -/
inductive TyOf (K : PySem.W.Frag) (H : Hp) : V → Value → Prop where
  | non : TyOf K H .non (.type "NoneType")
  | bl (x : Bool) : TyOf K H (.bl x) (.type "bool")
  | int (i : Int) : TyOf K H (.int i) (.type "int")
  | str (x : Str) : TyOf K H (.str x) (.type "str")
  | flt (x : UInt64) : TyOf K H (.flt x) (.type "float")
  | lst {a : Addr} {xs : List V} (e : H a = some (.lst xs)) : TyOf K H (.ref a) (.type "list")
  | frz {a : Addr} {o : Obj} {xs : List V} (e : H a = some (.frz o (.lst xs))) : TyOf K H (.ref a) (.type "list")
  | tup {a : Addr} {xs : List V} (e : H a = some (.tup xs)) : TyOf K H (.ref a) (.type "tuple")
  | dK {a : Addr} {kvs : List (Key × V)} (e : H a = some (.dK kvs)) : TyOf K H (.ref a) (.type "dict")
  | dT {a : Addr} {kvs : List (List Key × V)} (e : H a = some (.dT kvs)) : TyOf K H (.ref a) (.type "dict")
  | ins {a C dx : Addr} {fs : List (Str × V)} (e : H a = some (.ins C dx fs)) (cl : Cls K C) (ha : PySem.W.findIn K (.ref C) "__class__" = some (some (.builtin "object.__class__")))
      (hn : PySem.W.specialIn K (.builtin "object.__class__") "__get__" = some (some (.builtin "getset_descriptor.__get__"))) (htk : PySem.W.takesIn K (.builtin "object.__class__") = some true)
      (hm : PySem.W.mroIn K C (.type "object") = some true) : TyOf K H (.ref a) (.ref C)
/-- isinstance(x, c) for one class c, a built-in or an own one: kitOne's answer -/
theorem isinst_ok {x : V} {u t : Value} (I : Inv X pins σ H s) (rx : RelV x u) (ty : TyOf X.K H x t) (e : PySem.W.kitOne X.K t c = some b) (h : ∀ tk, Q (.bool b) { s with toks := tk }) :
    wpAny (model X.prog X.w) A (call (.builtin "isinstance") [u, c]) Q E s := by
  cases ty with
  | non => cases (show u = Value.none from rx); exact PySem.W.kia_one PySem.W.kitx_none I.kIn True.intro e (fun z => nomatch z) h
  | bl y => cases (show u = Value.bool y from rx); exact PySem.W.kia_one PySem.W.kitx_bool I.kIn True.intro e (fun z => nomatch z) h
  | int i => obtain ⟨t, q⟩ := (show ∃ t, u = Value.int i t from rx); cases q; exact PySem.W.kia_one PySem.W.kitx_int I.kIn True.intro e (fun z => nomatch z) h
  | str y => obtain ⟨t, q⟩ := (show ∃ t, u = Value.str y t from rx); cases q; exact PySem.W.kia_one PySem.W.kitx_str I.kIn True.intro e (fun z => nomatch z) h
  | flt y => obtain ⟨t, q⟩ := (show ∃ t, u = Value.float y t from rx); cases q; exact PySem.W.kia_one PySem.W.kitx_float I.kIn True.intro e (fun z => nomatch z) h
  | @lst a xs ea =>
    cases (show u = Value.ref a from rx)
    obtain ⟨_, _, n, _, h1⟩ := (show ObjOk X.prog X.w H s.heap a (.lst xs) from I.hok a _ ea)
    exact PySem.W.kia_one PySem.W.kitx_list I.kIn ⟨_, h1, rfl⟩ e (fun z => nomatch z) h
  | @frz a ob xs ea =>
    cases (show u = Value.ref a from rx)
    obtain ⟨_, _, _, n, _, h1⟩ := (show ObjOk X.prog X.w H s.heap a (.frz ob (.lst xs)) from I.hok a _ ea)
    exact PySem.W.kia_one PySem.W.kitx_list I.kIn ⟨_, h1, rfl⟩ e (fun z => nomatch z) h
  | @tup a xs ea =>
    cases (show u = Value.ref a from rx)
    obtain ⟨_, _, _, p⟩ := (show ObjOk X.prog X.w H s.heap a (.tup xs) from I.hok a _ ea)
    obtain ⟨o, h1, h2, _⟩ := p
    exact PySem.W.kia_one PySem.W.kitx_tuple I.kIn ⟨o, h1, h2⟩ e (fun z => nomatch z) h
  | @dK a kvs ea =>
    cases (show u = Value.ref a from rx)
    obtain ⟨_, _, vs, _, p⟩ := (show ObjOk X.prog X.w H s.heap a (.dK kvs) from I.hok a _ ea)
    obtain ⟨o, es, ep, h1, h2, _⟩ := p
    exact PySem.W.kia_one PySem.W.kitx_dict I.kIn ⟨o, h1, h2.1⟩ e (fun z => nomatch z) h
  | @dT a kvs ea =>
    cases (show u = Value.ref a from rx)
    obtain ⟨_, _, xs, _, o, es, ep, h1, h2, _⟩ := (show ObjOk X.prog X.w H s.heap a (.dT kvs) from I.hok a _ ea)
    exact PySem.W.kia_one PySem.W.kitx_dict I.kIn ⟨o, h1, h2.1⟩ e (fun z => nomatch z) h
  | @ins a C dx fs ea cl ha hn htk hm =>
    cases (show u = Value.ref a from rx)
    obtain ⟨mA, O, _⟩ := ins_get I.hok ea
    obtain ⟨od, J, _⟩ := O.look
    exact PySem.W.kia_one (PySem.W.kitx_own (cl.get _) cl.hd ha hn htk hm) I.kIn J e (fun z => nomatch z) h
end
end L2

namespace L2
open PySem PySem.Spec PyProof.Rows

/-! ### room -/
structure Room (k : Nat) (A : Around) : Prop where
  hd : A.handled = none
  dp : A.depth + 3 * k + 5 < recursionLimit
  un : A.units + 16 * k + 200 < cLine
  gd : A.guards = some []
theorem Room.mono {j k : Nat} {A : Around} (r : Room k A) (h : j ≤ k) : Room j A := ⟨r.hd, by have := r.dp; omega, by have := r.un; omega, r.gd⟩
theorem Room.deeper {k : Nat} {A : Around} (r : Room (k + 1) A) (env : Env) : Room k (A.deeper env) :=
  ⟨r.hd, by have := r.dp; show A.depth + 1 + 3 * k + 5 < _; omega, by have := r.un; show A.units + 3 + 16 * k + 200 < _; omega, r.gd⟩
theorem Room.in1 {k : Nat} {A : Around} (r : Room (k + 1) A) : Room k A.in1 :=
  ⟨r.hd, by have := r.dp; show A.depth + 3 * k + 5 < _; omega, by have := r.un; show A.units + 1 + 16 * k + 200 < _; omega, r.gd⟩
theorem make_depth {A : Around} {C : Addr} {us : List Value} {kw : List (Str × Value)} : (A.under (.builtin "type.__call__" ⟨.ref C :: us, kw⟩)).depth = A.depth + 1 := by
  first | rfl | simp [Around.under, Code.weight, Code.isCreation, Code.isGuard, Code.isCaller, Code.frames, Code.isFrame, guardIds]
theorem make_units {A : Around} {C : Addr} {us : List Value} {kw : List (Str × Value)} : (A.under (.builtin "type.__call__" ⟨.ref C :: us, kw⟩)).units = A.units + 1 := by
  first | rfl | simp [Around.under, Code.cUnits, Code.frames, Code.isFrame]
theorem make_guards {A : Around} {C : Addr} {us : List Value} {kw : List (Str × Value)} {g : List Code} (h : A.guards = some g) : (A.under (.builtin "type.__call__" ⟨.ref C :: us, kw⟩)).guards = some g := by
  have e : (Code.builtin "type.__call__" ⟨.ref C :: us, kw⟩).guards = [] := by first | rfl | simp [Code.guards, Code.isGuard, guardIds]
  first
    | (simp only [Around.under, e, pushGuards]; exact h)
    | simp [Around.under, e, pushGuards, h]
theorem Room.make {k : Nat} {A : Around} (r : Room (k + 1) A) (C : Addr) (us : List Value) (kw : List (Str × Value)) : Room k (A.under (.builtin "type.__call__" ⟨.ref C :: us, kw⟩)) :=
  ⟨r.hd, by have := r.dp; rw [make_depth]; omega, by have := r.un; rw [make_units]; omega, make_guards r.gd⟩
theorem Room.depth {k : Nat} {A : Around} (r : Room k A) : A.depth < recursionLimit := by have := r.dp; omega
theorem Room.units {k : Nat} {A : Around} (r : Room k A) : A.units + 64 < cLine := by have := r.un; omega
/-! ### argument lists and displays -/
def tNil : TA := fun _ H Q => Q [] H
def tCons (ta : TE) (tr : TA) : TA := fun σ H Q => ta σ H fun x H1 => tr σ H1 fun xs H2 => Q (x :: xs) H2
section
variable {X : Cx} {e : Expr} {es : List Expr} {te : TE} {t : TA} {pos : Pos}
theorem pa_nil : PA X [] tNil := fun _ _ _ _ H Q I h => Calls.spliced_nil ⟨[], H, I, .nil, h⟩
theorem pa_cons (ha : PE X e te) (hr : PA X es t) (hs : starEach (e :: es) X.env = (false, eval e X.env) :: starEach es X.env := by rfl) : PA X (e :: es) (tCons te t) := by
  intro pos pins s σ H Q I h
  rw [hs]
  show wpAny _ _ (spliced ((false, eval e X.env) :: backTo pos (starEach es X.env))) _ _ s
  refine Calls.spliced_cons (thn (ha pins s σ H _ I h) fun u s1 ⟨x, H1, I1, r1, q1⟩ => ?_)
  exact thn (hr pos pins s1 σ H1 _ I1 q1) fun us s2 ⟨xs, H2, I2, r2, q2⟩ => ⟨x :: xs, H2, I2, .cons r1 r2, q2⟩

/-- a tuple, a list of written items -/
def tTup (t : TA) : TE := fun σ H Q => t σ H fun xs H1 => xs.length ≤ sizeLine ∧ ∀ p, H1 p = none → Q (.ref p) (upd H1 p (.tup xs))
def tLst (t : TA) : TE := fun σ H Q => t σ H fun xs H1 => xs.length ≤ sizeLine ∧ ∀ p, H1 p = none → Q (.ref p) (upd H1 p (.lst xs))
theorem pe_tup {x1} (h : PA X es t) : PE X (.Tuple es x1 pos) (tTup t) := by
  intro pins s σ H Q I hq
  refine wpAny_Tuple_spliced (thn (h pos pins s σ H _ I hq) fun us s1 ⟨xs, H1, I1, r, z, q⟩ => ⟨by rw [← r.length]; exact z, ?_⟩)
  have hf : H1 s1.heap.objs.size = none := I1.hok.fresh (Nat.le_refl _)
  refine ⟨.ref s1.heap.objs.size, upd H1 s1.heap.objs.size (.tup xs), I1.laid (t' := s1.toks) (fun b u e => Heap.get?_push_of_some _ e) (Nat.le_refl _) ?_, rfl, q _ hf⟩
  exact ⟨z, us, r, ⟨_, Heap.get?_push_size _ rfl, rfl, _, rfl⟩⟩
theorem pe_lst (h : PA X es t) : PE X (.List es pos) (tLst t) := by
  intro pins s σ H Q I hq
  refine wpAny_List_spliced (thn (h pos pins s σ H _ I hq) fun us s1 ⟨xs, H1, I1, r, z, q⟩ => ⟨by rw [← r.length]; exact z, ?_⟩)
  have hf : H1 s1.heap.objs.size = none := I1.hok.fresh (Nat.le_refl _)
  refine ⟨.ref s1.heap.objs.size, upd H1 s1.heap.objs.size (.lst xs), I1.laid (t' := s1.toks) (fun b u e => Heap.get?_push_of_some _ e) (Nat.le_refl _) ?_, rfl, q _ hf⟩
  exact ⟨z, us, 0, r, Heap.get?_push_size _ rfl⟩
end

/-! ### what a def promises -/
/-- a def's promise: the bound arguments in the parameters' order, the heap, the wanted end, the wanted exception -/
abbrev Sp := List V → Hp → VK → XK → Prop
/-- how an exception lies behind a call (file 08 gives it): the callers' frames, abstract heap and state ahead of the call, the wish, the exception, the state -/
abbrev CXT := List Env → Hp → Shared → XK → Value → Shared → Prop

/-- the state at a call -/
structure Env0 (P : Program) (w : World) (K : PySem.W.Frag) (mg : Str → Option Value) (base : Heap) (A : Around) (outer : List Env) (s : Shared) (H : Hp) : Prop where
  frames : A.frames = some outer
  mod : Mod K mg base
  bs : ∀ b o, base.get? b = some o → s.heap.get? b = some o ∧ H b = none
  bsz : base.objs.size ≤ s.heap.objs.size
  funs : s.heap.FunFrames base outer
  frf : ∀ b ∈ frs outer, H b = none
  hok : HOk P w H s.heap
  bare : AllBare s.gens
/-- a call's end -/
def CE (outer : List Env) (P : Program) (w : World) (H : Hp) (s : Shared) (Q : VK) (u : Value) (s' : Shared) : Prop :=
  ∃ v H', s'.os = s.os ∧ AllBare s'.gens ∧ Un (frs outer) [] H H' s.heap s'.heap ∧ HOk P w H' s'.heap ∧ RelV v u ∧ Q v H'
def CR (CX : CXT) (outer : List Env) (P : Program) (w : World) (H : Hp) (s : Shared) (Q : VK) (E : XK) (r : Result) (s' : Shared) : Prop :=
  match r with
  | .ok (.ret u) => CE outer P w H s Q u s'
  | .ok _ => False
  | .error e => CX outer H s E e s'
structure FnOk (P : Program) (w : World) (K : PySem.W.Frag) (mg : Str → Option Value) (base : Heap) (CX : CXT) (k : Nat) (f : Addr) (fd : FuncData) (ps : List Str) (sp : Sp) : Prop where
  len : ∀ vs H Q E, sp vs H Q E → vs.length = ps.length
  run : ∀ (A : Around) (outer : List Env) (s : Shared) (H : Hp) (args : Args) (us : List Value) (vs : List V) (Q : VK) (E : XK), Room k A → Env0 P w K mg base A outer s H → BindsTo s fd args (ps.zip us) → Vals vs us → sp vs H Q E →
    codeAny (model P w) A (.call (.ref f) args) (CR CX outer P w H s Q E) s
theorem FnOk.mono {P : Program} {w : World} {K : PySem.W.Frag} {mg : Str → Option Value} {base : Heap} {CX : CXT} {j k : Nat} {f : Addr} {fd : FuncData} {ps : List Str} {sp : Sp} (F : FnOk P w K mg base CX j f fd ps sp) (h : j ≤ k) :
    FnOk P w K mg base CX k f fd ps sp := ⟨F.len, fun A outer s H args us vs Q E hr => F.run A outer s H args us vs Q E (hr.mono h)⟩
theorem Env0.make {P : Program} {w : World} {K : PySem.W.Frag} {mg : Str → Option Value} {base : Heap} {A : Around} {outer : List Env} {s : Shared} {H : Hp} (e : Env0 P w K mg base A outer s H) (C : Addr) (us : List Value) (kw : List (Str × Value)) :
    Env0 P w K mg base (A.under (.builtin "type.__call__" ⟨.ref C :: us, kw⟩)) outer s H := ⟨by first | exact e.frames | (simpa [Around.under, Code.envs, Code.isFrame, pushEnvs] using e.frames), e.mod, e.bs, e.bsz, e.funs, e.frf, e.hok, e.bare⟩
theorem Env0.in1 {P : Program} {w : World} {K : PySem.W.Frag} {mg : Str → Option Value} {base : Heap} {A : Around} {outer : List Env} {s : Shared} {H : Hp} (e : Env0 P w K mg base A outer s H) :
    Env0 P w K mg base A.in1 outer s H := ⟨e.frames, e.mod, e.bs, e.bsz, e.funs, e.frf, e.hok, e.bare⟩

section
variable {X : Cx} {pins : List (Addr × Obj)} {σ : St} {H : Hp} {s s' : Shared}
/-- from a body: what a callee wants -/
theorem Inv.env0 (I : Inv X pins σ H s) : Env0 X.prog X.w X.K X.mg X.base X.A X.stack s H :=
  ⟨I.ok.frames, I.ok.mod, I.bs, Nat.le_trans I.ok.bsz I.sz, I.stack, I.stkFree, I.hok, I.bare⟩
/-- behind a call -/
theorem Inv.after {Q : VK} {u : Value} (I : Inv X pins σ H s) (h : CE X.stack X.prog X.w H s Q u s') : EP X pins σ Q u s' := by
  obtain ⟨v, H', os, bare, un, hok, r, q⟩ := h
  obtain ⟨hh, g, d, t, os'⟩ := s'
  obtain rfl : os' = s.os := os
  exact ⟨v, H', I.call (h' := hh) (g' := g) (d' := d) (t' := t) (ch := []) un hok bare (fun b z => absurd z (by simp)), r, q⟩
end

/-! ### calls -/
/-- f(..): the written arguments, then the defaults dvs; E: what is wanted of an exception -/
def tCall (sp : Sp) (dvs : List V) (E : XK) (t : TA) : TE := fun σ H Q => t σ H fun vs H1 => sp (vs ++ dvs) H1 Q E
/-- o.m(..) of an instance of the class at C -/
def tMeth (C : Addr) (m : Str) (sp : Sp) (dvs : List V) (E : XK) (ta : TE) (t : TA) : TE := fun σ H Q => ta σ H fun x H1 => ∃ a dx fs, x = .ref a ∧ H1 a = some (.ins C dx fs) ∧ fs.lookup m = none ∧
  t σ H1 fun vs H2 => sp (x :: (vs ++ dvs)) H2 Q E
/-- C(..): a new instance and its dict, then __init__ -/
def tMake (C : Addr) (sp : Sp) (dvs : List V) (E : XK) (t : TA) : TE := fun σ H Q => t σ H fun vs H1 => ∀ x dx, H1 x = none → H1 dx = none → dx ≠ x →
  sp (.ref x :: (vs ++ dvs)) (upd (upd H1 dx (.own x)) x (.ins C dx [])) (fun v H2 => v = .non ∧ Q (.ref x) H2) E

/-- how the parameters are bound: us the positional arguments, kw the keywords' values by name, ds the defaults that fill up -/
def Binds (K : PySem.W.Frag) (fd : FuncData) (ps : List Str) (ds : List Value) : Prop :=
  ∀ (s : Shared) (us : List Value), K.In s.heap → (us ++ ds).length = ps.length → BindsTo s fd ⟨us, []⟩ (ps.zip (us ++ ds))
/-- every parameter is given -/
theorem Binds.all {K : PySem.W.Frag} {fd : FuncData} {ps : List Str} (h : ∀ us : List Value, us.length = ps.length → bindArgs fd ⟨us, []⟩ = pure (ps.zip us)) : Binds K fd ps [] := fun s us _ hl => by
  rw [List.append_nil] at hl ⊢
  exact .of_eq (h us hl)

/-- an exception of a callee reaches what this body wants of exceptions -/
def Passes (CX : CXT) (X : Cx) (E : XK) : Prop := ∀ (pins : List (Addr × Obj)) (σ : St) (H : Hp) (s : Shared) (e : Value) (s' : Shared), Inv X pins σ H s → CX X.stack H s E e s' → X.xe e s'

section
variable {X : Cx} {CX : CXT} {k : Nat} {f C : Addr} {fd : FuncData} {ps : List Str} {sp : Sp} {dvs : List V} {ds : List Value} {E : XK} {x m : Str} {p pos apos : Pos} {e o : Expr} {es : List Expr} {ta : TE} {t : TA}

/-- the callee runs -/
theorem run_fn {pins : List (Addr × Obj)} {σ : St} {H : Hp} {s : Shared} {Q : VK} {us : List Value} {vs : List V} (F : FnOk X.prog X.w X.K X.mg X.base CX k f fd ps sp) (hr : Room k X.A) (hb : Binds X.K fd ps ds) (hd : Vals dvs ds) (hx : Passes CX X E)
    (I : Inv X pins σ H s) (r : Vals vs us) (h : sp (vs ++ dvs) H Q E) : wpAny (model X.prog X.w) X.A (call (.ref f) us) (EP X pins σ Q) X.xe s := by
  have r2 : Vals (vs ++ dvs) (us ++ ds) := r.append hd
  have hl : (us ++ ds).length = ps.length := by rw [← r2.length]; exact F.len _ _ _ _ h
  refine wpAny_call (codeAny_mono (F.run X.A X.stack s H ⟨us, []⟩ (us ++ ds) (vs ++ dvs) Q E hr I.env0 (hb s us I.kIn hl) r2 h) fun r s' hq => ?_)
  cases r with
  | error e => exact hx pins σ H s e s' I hq
  | ok fl =>
    cases fl with
    | ret u => exact I.after hq
    | next => exact False.elim hq
    | brk => exact False.elim hq
    | cont => exact False.elim hq

theorem pe_call (F : FnOk X.prog X.w X.K X.mg X.base CX k f fd ps sp) (hr : Room k X.A) (hg : Gl X x) (hm : X.mg x = some (.ref f)) (hk : PySem.W.keepIn X.K (.ref f) = true) (hb : Binds X.K fd ps ds) (hd : Vals dvs ds) (hx : Passes CX X E)
    (ha : PA X (e :: es) t) (hdb : (x == ("__debug__" : Str)) = false := by decide) (he : starEach (e :: es) X.env = (false, eval e X.env) :: starEach es X.env := by rfl) (hpl : (backTo pos (starEach es X.env)).any (·.1) = false := by rfl) :
    PE X (.Call (.Name x p) (e :: es) [] pos) (tCall sp dvs E t) := by
  intro pins s σ H Q I h
  refine wpAny_Call_Name_kw (ld_glob I hg hm ?_ hdb)
  refine PySem.W.callWith_K (h₀ := X.base) I.ok.mod.kin hk (thn (ha pos pins s σ H _ I h) fun us s1 ⟨vs, H1, I1, r, q⟩ => ⟨I1.kIn, ?_⟩) he hpl
  exact run_fn F hr hb hd hx I1 r q
theorem pe_call0 (F : FnOk X.prog X.w X.K X.mg X.base CX k f fd ps sp) (hr : Room k X.A) (hg : Gl X x) (hm : X.mg x = some (.ref f)) (hk : PySem.W.keepIn X.K (.ref f) = true) (hb : Binds X.K fd ps ds) (hd : Vals dvs ds) (hx : Passes CX X E)
    (hdb : (x == ("__debug__" : Str)) = false := by decide) : PE X (.Call (.Name x p) [] [] pos) (tCall sp dvs E tNil) := by
  intro pins s σ H Q I h
  refine wpAny_Call_Name_kw (ld_glob I hg hm ?_ hdb)
  exact PySem.W.callWith_K0 I.kIn hk (run_fn (us := []) F hr hb hd hx I .nil h)

/-- what a class must have to be made -/
structure Mk (K : PySem.W.Frag) (C f : Addr) : Prop where
  makes : PySem.W.makesIn K C = true
  init : PySem.W.findIn K (.ref C) "__init__" = some (some (.ref f))
  fn : PySem.W.isFn K (.ref f) = true
  kp : PySem.W.keepIn K (.ref C) = true

end

/-! ### keywords -/
/-- the values of the keywords, from the left -/
def PK (X : Cx) (kws : List Keyword) (t : TA) : Prop :=
  ∀ (pos : Pos) (pins : List (Addr × Obj)) (s : Shared) (σ : St) (H : Hp) (Q : List V → Hp → Prop), Inv X pins σ H s → t σ H Q → wpAny (model X.prog X.w) X.A (evalAll ((backToKw pos (keywordEach kws X.env)).map (·.2))) (AP X pins σ Q) X.xe s
section
variable {X : Cx} {CX : CXT} {k : Nat} {f C : Addr} {fd : FuncData} {ps ks : List Str} {sp : Sp} {E : XK} {x m : Str} {p pos apos kpos : Pos} {e o : Expr} {es : List Expr} {kws : List Keyword} {te ta : TE} {t tk : TA} {nm : Option Str}
/-- how a call with keywords binds: g puts the positional values us and the keywords' values ws (names ks) in the parameters' order, defaults among them -/
structure KBinds (K : PySem.W.Frag) (fd : FuncData) (ps ks : List Str) (g : List Value → List Value → List Value) (gV : List V → List V → List V) : Prop where
  to : ∀ (s : Shared) (us ws : List Value), K.In s.heap → (g us ws).length = ps.length → BindsTo s fd ⟨us, ks.zip ws⟩ (ps.zip (g us ws))
  rel : ∀ {vs : List V} {us : List Value} {zs : List V} {ws : List Value}, Vals vs us → Vals zs ws → Vals (gV vs zs) (g us ws)
def tCallK (sp : Sp) (gV : List V → List V → List V) (E : XK) (t tk : TA) : TE := fun σ H Q => t σ H fun vs H1 => tk σ H1 fun zs H2 => sp (gV vs zs) H2 Q E
variable {g : List Value → List Value → List Value} {gV : List V → List V → List V}
end

/-! ### a def's body keeps its promise -/
/-- names: the parameters first -/
structure FnScope (N P : List Str) (sc : Scope) : Prop where
  kind : sc.kind = .function
  co : sc.isCoroutine = false
  gen : sc.isGenerator = false
  nd : N.Nodup
  pre : N.take P.length = P
  par : ∀ x ∈ P, sc.names.lookup x = some .local ∨ sc.names.lookup x = some .cell
  nofree : ∀ y ∈ sc.names, y.2 ≠ .free

theorem bindL_out {kindOf : Str → Option NameKind} {x : Str} : ∀ {binds : List (Str × Value)} {m : Str → Option Value}, (∀ v, (x, v) ∉ binds) → bindL kindOf binds m x = m x
  | [], _, _ => rfl
  | (n, v) :: r, m, h => by
    unfold bindL
    rw [bindL_out fun w hw => h w (List.mem_cons_of_mem _ hw)]
    split
    · have : x ≠ n := by rintro rfl; exact h v List.mem_cons_self
      simp [this]
    · rfl
theorem bindC_out {kindOf : Str → Option NameKind} {x : Str} : ∀ {binds : List (Str × Value)} {m : Str → Option Value}, (∀ v, (x, v) ∉ binds) → bindC kindOf binds m x = m x
  | [], _, _ => rfl
  | (n, v) :: r, m, h => by
    unfold bindC
    rw [bindC_out fun w hw => h w (List.mem_cons_of_mem _ hw)]
    split
    · rfl
    · have : x ≠ n := by rintro rfl; exact h v List.mem_cons_self
      simp [this]
theorem bindL_get {kindOf : Str → Option NameKind} {x : Str} {v : Value} : ∀ {P : List Str} {vs : List Value} {i : Nat} {m : Str → Option Value}, P.Nodup → P[i]? = some x → vs[i]? = some v → kindOf x = some .local →
    bindL kindOf (P.zip vs) m x = some v
  | [], _, _, _, _, h, _, _ => by simp at h
  | _ :: _, [], _, _, _, _, h, _ => by simp at h
  | p :: P, w :: vs, 0, m, nd, h1, h2, hk => by
    simp at h1 h2; subst h1; subst h2
    show bindL kindOf ((p, w) :: P.zip vs) m p = _
    unfold bindL
    rw [bindL_out fun v hv => (List.nodup_cons.mp nd).1 (List.of_mem_zip hv).1, if_pos hk]
    simp
  | p :: P, w :: vs, i + 1, m, nd, h1, h2, hk => by
    show bindL kindOf ((p, w) :: P.zip vs) m x = _
    unfold bindL
    exact bindL_get (i := i) (List.nodup_cons.mp nd).2 (by simpa using h1) (by simpa using h2) hk
theorem bindC_get {kindOf : Str → Option NameKind} {x : Str} {v : Value} : ∀ {P : List Str} {vs : List Value} {i : Nat} {m : Str → Option Value}, P.Nodup → P[i]? = some x → vs[i]? = some v → kindOf x ≠ some .local →
    bindC kindOf (P.zip vs) m x = some v
  | [], _, _, _, _, h, _, _ => by simp at h
  | _ :: _, [], _, _, _, _, h, _ => by simp at h
  | p :: P, w :: vs, 0, m, nd, h1, h2, hk => by
    simp at h1 h2; subst h1; subst h2
    show bindC kindOf ((p, w) :: P.zip vs) m p = _
    unfold bindC
    rw [bindC_out fun v hv => (List.nodup_cons.mp nd).1 (List.of_mem_zip hv).1, if_neg hk]
    simp
  | p :: P, w :: vs, i + 1, m, nd, h1, h2, hk => by
    show bindC kindOf ((p, w) :: P.zip vs) m x = _
    unfold bindC
    exact bindC_get (i := i) (List.nodup_cons.mp nd).2 (by simpa using h1) (by simpa using h2) hk

/-- the names' values at the entry -/
def start (N : List Str) (vs : List V) : St := vs.map some ++ List.replicate (N.length - vs.length) none

/-- the context of a def's body, at its entry; an exception leaves the frame, then lies as CX says -/
def cxOf (CX : CXT) (P : Program) (w : World) (K : PySem.W.Frag) (mg : Str → Option Value) (base : Heap) (N : List Str) (qual : Str) (scope : Scope) (f : Addr) (cd : Value) (A : Around) (outer : List Env) (s : Shared) (H : Hp) (E : XK) : Cx where
  prog := P
  w := w
  K := K
  mg := mg
  base := base
  A := A.deeper (envOfC qual scope s.heap.objs.size f cd)
  N := N
  s₀ := s
  H₀ := H
  env := envOfC qual scope s.heap.objs.size f cd
  outer := outer
  stack := envOfC qual scope s.heap.objs.size f cd :: outer
  ex := []
  calm := true
  fn := fun _ => true
  pn := []
  xe := fun e s' => wpAny (model P w) (A.deeper (envOfC qual scope s.heap.objs.size f cd)) (leaving (envOfC qual scope s.heap.objs.size f cd) e) (fun _ s'' => CX outer H s E e s'') (fun e' s'' => CX outer H s E e' s'') s'

theorem cell_has {sc : Scope} {n : Nat} {x : Str} (h : sc.names.lookup x = some .cell) : ∃ c, (cellsFrom n sc.names []).lookup x = some c := by
  have q := PySem.W.cellsFrom_some sc.names n [] (.inl h)
  exact Option.isSome_iff_exists.mp q

theorem inv_start {CX : CXT} {P : Program} {w : World} {K : PySem.W.Frag} {mg : Str → Option Value} {base : Heap} {N ps : List Str} {qual : Str} {scope : Scope} {f : Addr} {cd : Value} {A : Around} {outer : List Env} {s s1 : Shared} {H : Hp} {E : XK} {us : List Value} {vs : List V}
    (S : FnScope N ps scope) (hd : A.handled = none) (e0 : Env0 P w K mg base A outer s H) (hl : vs.length = ps.length) (r : Vals vs us)
    (x : InCallC s s.heap.objs.size (bindL (envOfC qual scope s.heap.objs.size f cd).kindOf (ps.zip us) fun _ => none) (cellsFrom (s.heap.objs.size + 1) scope.names []) (bindC (envOfC qual scope s.heap.objs.size f cd).kindOf (ps.zip us) fun _ => none) s1) :
    Inv (cxOf CX P w K mg base N qual scope f cd A outer s H E) [] (start N vs) H s1 := by
  have hpl : ps.length ≤ N.length := by have := congrArg List.length S.pre; rw [List.length_take] at this; omega
  obtain ⟨h1, tk, rfl, hk⟩ := x.done
  have noA : ∀ b : Addr, b ∉ (cxOf CX P w K mg base N qual scope f cd A outer s H E).ex := fun b z => absurd (show b ∈ ([] : List Addr) from z) (by simp)
  refine ⟨⟨e0.mod, S.kind, rfl, rfl, Nat.le_refl _, fun y z c h1 h2 => ?_, fun y hy => ?_, fun y c _ h => ?_, fun _ => hd, Around.frames_deeper e0.frames, .inr ⟨rfl, rfl⟩, fun b z => absurd z (noA b), e0.bs, e0.bsz, fun b _ _ => noA b, fun b z => absurd z (noA b), e0.funs, e0.frf⟩,
    rfl, e0.bare, Un.kept hk, ⟨_, x.toInCall.ns, fun i y v h1 h2 h3 => ?_⟩, fun y c h => ⟨_, x.cell y c h⟩, e0.hok.fresh (Nat.le_refl _), fun y c h => ?_, fun p hp => absurd (show p ∈ ([] : List (Addr × Obj)) from hp) (by simp), e0.hok.kept hk, ?_⟩
  · exact name_of_addr x.apart (PySem.mem_of_lookup h1) (PySem.mem_of_lookup h2)
  · have hy : scope.names.lookup y = some .cell ∨ scope.names.lookup y = some .free := hy
    rcases hy with hy | hy
    · exact cell_has hy
    · exact absurd rfl (S.nofree _ (PySem.mem_of_lookup hy))
  · exact Nat.le_of_lt (x.above y c (PySem.mem_of_lookup h))
  · have hi : i < vs.length := by
      unfold start at h2
      by_cases hi : i < vs.length
      · exact hi
      · rw [List.getElem?_append_right (by simpa using hi)] at h2
        rw [List.getElem?_replicate] at h2
        split at h2 <;> cases h2
    have ha : vs[i]? = some v := by
      unfold start at h2
      rw [List.getElem?_append_left (by simpa using hi), List.getElem?_map] at h2
      cases e : vs[i]? with
      | none => rw [e] at h2; cases h2
      | some a => rw [e] at h2; cases h2; rfl
    obtain ⟨u, hu, rv⟩ := r.get ha
    have hp : ps[i]? = some y := by
      rw [← S.pre, List.getElem?_take_of_lt (by omega)]; exact h1
    have ndP : ps.Nodup := by rw [← S.pre]; exact S.nd.sublist (List.take_sublist _ _)
    refine ⟨u, rv, ?_⟩
    rcases S.par y (List.mem_of_getElem? hp) with k | k
    · exact .inl ⟨k, bindL_get ndP hp hu k⟩
    · obtain ⟨c, e⟩ := cell_has (n := s.heap.objs.size + 1) k
      refine .inr ⟨.inl k, c, e, ?_⟩
      have q := x.cell y c e
      rw [bindC_get ndP hp hu (by show scope.names.lookup y ≠ _; rw [k]; decide)] at q
      exact q
  · exact e0.hok.fresh (Nat.le_of_lt (x.above y c (PySem.mem_of_lookup h)))
  · unfold start
    show _ = N.length
    rw [List.length_append, List.length_map, List.length_replicate]
    omega

/-- THE RULE: a def (or a method) of the text, by its body. The body's reading t is chosen for each entry; it is run at the parameters' values -/
theorem fn_of {CX : CXT} {P : Program} {w : World} {K : PySem.W.Frag} {mg : Str → Option Value} {base : Heap} {k : Nat} {f : Addr} {name qual : Str} {params : Arguments} {body : List Stmt} {scope : Scope} {dV kV doc pm cdv ct oc : Value} {an od : Option Addr}
    {osl : Array (Option Value)} {N ps : List Str} {sp : Sp} (lk : K.lookup f = some ⟨oc, od, .func (PySem.W.fnOf name qual params body scope dV kV doc pm an cdv ct), osl⟩) (hcd : PySem.W.codeIn K cdv qual = true) (S : FnScope N ps scope)
    (len : ∀ vs H Q E, sp vs H Q E → vs.length = ps.length)
    (hbody : ∀ (A : Around) (outer : List Env) (s : Shared) (H : Hp) (vs : List V) (Q : VK) (E : XK), Room k (A.deeper (envOfC qual scope s.heap.objs.size f cdv)) → sp vs H Q E →
      ∃ t, PSs (cxOf CX P w K mg base N qual scope f cdv A outer s H E) body t ∧ t { nx := fun _ H' => Q .non H', rt := Q } (start N vs) H) :
    FnOk P w K mg base CX (k + 1) f (PySem.W.fnOf name qual params body scope dV kV doc pm an cdv ct) ps sp := by
  refine ⟨len, fun A outer s H args us vs Q E hr e0 hb r hsp => ?_⟩
  have hl := len _ _ _ _ hsp
  have KX : K.In s.heap := e0.mod.kin.keeps fun b o e => (e0.bs b o e).1
  have lim : s.heap.NoLimit := e0.mod.nolimit.keeps fun b o e => (e0.bs b o e).1
  have hkind : ∀ y ∈ ps.zip us, scope.names.lookup y.1 = some .local ∨ (scope.names.lookup y.1 = some .cell ∧ ((cellsFrom (s.heap.objs.size + 1) scope.names []).lookup y.1).isSome = true) := fun ⟨n, v⟩ hy => by
    rcases S.par n (List.of_mem_zip hy).1 with q | q
    · exact .inl q
    · exact .inr ⟨q, PySem.W.cellsFrom_some _ _ _ (.inl q)⟩
  refine codeAny_call_function hr.depth (KX _ _ lk) rfl S.co S.gen rfl (PySem.W.codeRec_of KX hcd) (hb _ _ _ _ ?_)
  refine wpAny_newFunctionEnv_cells S.kind hkind fun env he s1 x => ?_
  subst he
  refine ⟨lim.keeps x.toInCall.keep, codeAny_func ?_⟩
  obtain ⟨t, ht, hq⟩ := hbody A outer s H vs Q E (hr.deeper _) hsp
  have I : Inv (cxOf CX P w K mg base N qual scope f cdv A outer s H E) [] (start N vs) H s1 := inv_start S hr.hd e0 hl r x
  refine wpAny_mono (ht [] s1 (start N vs) H _ I hq) (fun fl s' hs => ?_) fun e s' hs => hs
  have fin : ∀ {σ' : St} {H' : Hp} {v : V} {u : Value}, Inv (cxOf CX P w K mg base N qual scope f cdv A outer s H E) [] σ' H' s' → RelV v u → Q v H' → CE outer P w H s Q u s' :=
    fun {σ' H' v u} J rv q => ⟨v, H', J.os, J.bare, J.base, J.hok, rv, q⟩
  cases fl with
  | ret u =>
    obtain ⟨v, σ', H', J, rv, q⟩ := hs
    exact fin J rv q
  | next =>
    obtain ⟨σ', H', J, q⟩ := hs
    exact fin (v := V.non) (u := Value.none) J rfl q
  | brk =>
    obtain ⟨_, _, _, q⟩ := hs
    exact False.elim q
  | cont =>
    obtain ⟨_, _, _, q⟩ := hs
    exact False.elim q
end L2

namespace L2
open PySem PySem.Spec PyProof.Rows
section
variable {X : Cx} {x : Str} {p pos : Pos} {e : Expr} {es : List Expr} {t : TA} {id T : String} {r : List V → Hp → VK → Prop}

def tCB (r : List V → Hp → VK → Prop) (t : TA) : TE := fun σ H Q => t σ H fun vs H1 => r vs H1 Q
/-- f(e, ..), f a built-in function -/
theorem pe_callB (hc : CallR X (.builtin id) r) (hg : Gl X x) (hm : X.mg x = none) (hv : bootBuiltins x = some (.builtin id)) (ha : PA X (e :: es) t) (hn : x ≠ "__name__" := by decide) (hdb : (x == ("__debug__" : Str)) = false := by decide)
    (he : starEach (e :: es) X.env = (false, eval e X.env) :: starEach es X.env := by rfl) (hpl : (backTo pos (starEach es X.env)).any (·.1) = false := by rfl) : PE X (.Call (.Name x p) (e :: es) [] pos) (tCB r t) := by
  intro pins s σ H Q I h
  refine wpAny_Call_Name_kw (ld_blt I hg hm hv ?_ hn hdb)
  exact PyProof.Rows.callWith_builtin1 (thn (ha pos pins s σ H _ I h) fun us s1 ⟨vs, H1, I1, r1, q1⟩ => hc pins s1 σ H1 vs us Q I1 r1 q1) he hpl
/-- T(e, ..), T a built-in type -/
theorem pe_callTy (hc : CallR X (.type T) r) (hg : Gl X x) (hm : X.mg x = none) (hv : bootBuiltins x = some (.type T)) (ha : PA X (e :: es) t) (hn : x ≠ "__name__" := by decide) (hdb : (x == ("__debug__" : Str)) = false := by decide)
    (he : starEach (e :: es) X.env = (false, eval e X.env) :: starEach es X.env := by rfl) (hpl : (backTo pos (starEach es X.env)).any (·.1) = false := by rfl) : PE X (.Call (.Name x p) (e :: es) [] pos) (tCB r t) := by
  intro pins s σ H Q I h
  refine wpAny_Call_Name_kw (ld_blt I hg hm hv ?_ hn hdb)
  exact PyProof.Rows.callWith_type1 (thn (ha pos pins s σ H _ I h) fun us s1 ⟨vs, H1, I1, r1, q1⟩ => hc pins s1 σ H1 vs us Q I1 r1 q1) he hpl
end
end L2

namespace HT
open PySem PyProof.Rows

/-- t < u of tuples of ints -/
def lexLt : List Int → List Int → Bool
  | [], [] => false
  | [], _ :: _ => true
  | _ :: _, [] => false
  | x :: xs, y :: ys => if x = y then lexLt xs ys else decide (x < y)
section
open PySem.SeqAt
open PySem.AutoSeq1 (wpAny_loadPart')
open PySem.MeetsSeq PySem.MeetsSeq2 PySem.MeetsSeq3

end

section
variable {prog : Program} {w : World} {A : Around} {E : Value → Shared → Prop} {s : Shared}

/-! ### t[a:b], not the whole -/
/-- a slice's bound as a place among n (d where it is left out) -/
def sIx (n d : Nat) : Option Int → Nat
  | none => d
  | some v => if v < 0 then (v + (n : Int)).toNat else min v.toNat n
end
end HT

namespace L2
open PySem PySem.Spec PyProof.Rows

/-! ### the parts of a slice -/
abbrev TO := St → Hp → (Option Int → Hp → Prop) → Prop
/-- a slice's part (left out, or an int) -/
def PO (X : Cx) (e : Option Expr) (t : TO) : Prop :=
  ∀ (pins : List (Addr × Obj)) (s : Shared) (σ : St) (H : Hp) (Q : Option Int → Hp → Prop), Inv X pins σ H s → t σ H Q →
    wpAny (model X.prog X.w) X.A (evalPart e X.env) (fun u s' => ∃ o H', Inv X pins σ H' s' ∧ IsPart u o ∧ Q o H') X.xe s
def tNoPart : TO := fun _ H Q => Q none H
def tPart (t : TE) : TO := fun σ H Q => t σ H fun x H1 => ∃ i, x = .int i ∧ Q (some i) H1

section
variable {X : Cx} {e : Expr} {te : TE} {lo hi : Option Expr} {tl th : TO} {pos p2 : Pos}

theorem po_none : PO X none tNoPart := by
  intro pins s σ H Q I h
  rw [evalPart_none]
  exact wpAny_pure ⟨none, H, I, .none, h⟩
theorem po_some (h : PE X e te) : PO X (some e) (tPart te) := by
  intro pins s σ H Q I hw
  rw [evalPart_some]
  refine thn (h pins s σ H _ I hw) fun u s1 ⟨x, H1, I1, r1, q1⟩ => ?_
  obtain ⟨i, rfl, q⟩ := q1
  obtain ⟨t, rfl⟩ := r1
  exact ⟨some i, H1, I1, .int i t, q⟩

/-- what a slice of a value is, by values: the slice object stands at sl -/
def SlR (X : Cx) (r : V → Option Int → Option Int → Hp → VK → Prop) : Prop :=
  ∀ (pins : List (Addr × Obj)) (s : Shared) (σ : St) (H : Hp) (x : V) (v vl vu : Value) (lo hi : Option Int) (sl : Addr) (Q : VK), Inv X pins σ H s → RelV x v → s.heap.IsSliceOf sl vl vu .none → IsPart vl lo → IsPart vu hi → r x lo hi H Q →
    ∃ T id, typeLookup (.type T) "__getitem__" = pure (some (.builtin id)) ∧ s.TypeIs v T ∧ wpAny (model X.prog X.w) X.A (getItem v (.ref sl)) (EP X pins σ Q) X.xe s
theorem SlR.or {r r' : V → Option Int → Option Int → Hp → VK → Prop} (h : SlR X r) (h' : SlR X r') : SlR X (fun x lo hi H Q => r x lo hi H Q ∨ r' x lo hi H Q) := by
  intro pins s σ H x v vl vu lo hi sl Q I rx hs pl pu q
  rcases q with q | q
  · exact h pins s σ H x v vl vu lo hi sl Q I rx hs pl pu q
  · exact h' pins s σ H x v vl vu lo hi sl Q I rx hs pl pu q
def tSl (r : V → Option Int → Option Int → Hp → VK → Prop) (te : TE) (tl th : TO) : TE := fun σ H Q => te σ H fun x H1 => tl σ H1 fun l H2 => th σ H2 fun u H3 => r x l u H3 Q
/-- a[lo:hi], any a -/
theorem pe_slice {r : V → Option Int → Option Int → Hp → VK → Prop} (hr : SlR X r) (he : PE X e te) (hl : PO X lo tl) (hu : PO X hi th) : PE X (.Subscript e (.Slice lo hi none p2) pos) (tSl r te tl th) := by
  intro pins s σ H Q I h
  refine Subscript_ (thn (he pins s σ H _ I h) fun v s1 ⟨x, H1, I1, r1, q1⟩ => ?_)
  refine wpAny_Slice (thn (hl pins s1 σ H1 _ I1 q1) fun vl s2 ⟨l, H2, I2, pl, q2⟩ => thn (hu pins s2 σ H2 _ I2 q2) fun vu s3 ⟨u, H3, I3, pu, q3⟩ => ?_)
  rw [evalPart_none]
  refine wpAny_pure ?_
  have I4 : Inv X pins σ H3 { s3 with heap := s3.heap.push { cls := .type "slice", data := .fields #[vl, vu, .none] } } := I3.kept (t' := s3.toks) fun b ob q => Heap.get?_push_of_some _ q
  obtain ⟨T, id, hT, ht, hg⟩ := hr pins { s3 with heap := s3.heap.push { cls := .type "slice", data := .fields #[vl, vu, .none] } } σ H3 x v vl vu l u s3.heap.objs.size Q I4 r1 (Heap.IsSliceOf.new ..) pl pu q3
  show wpAny (model X.prog X.w) X.A (subscriptTail e (.Slice lo hi none p2) v (.ref s3.heap.objs.size)) (EP X pins σ Q) X.xe { s3 with heap := s3.heap.push { cls := .type "slice", data := .fields #[vl, vu, .none] } }
  exact tail_any (ops := [.ref s3.heap.objs.size, v]) ht hT hg (by with_unfolding_all rfl)

/-- the items of xs[lo:hi] -/
def cutV (xs : List V) (lo hi : Option Int) : List V := (xs.drop (HT.sIx xs.length 0 lo)).take (HT.sIx xs.length xs.length hi - HT.sIx xs.length 0 lo)
/-- t[lo:hi], not the whole of it (the whole would be t itself) -/
def rSlT (K : PySem.W.Frag) : V → Option Int → Option Int → Hp → VK → Prop := fun x lo hi H Q => ∃ a xs, x = .ref a ∧ SqT K H a xs ∧
  ¬ (HT.sIx xs.length 0 lo = 0 ∧ HT.sIx xs.length xs.length hi = xs.length) ∧ ∀ p, H p = none → Q (.ref p) (upd H p (.tup (cutV xs lo hi)))
/-! ### t < u, t + u -/
def rLtT (K : PySem.W.Frag) : R2 := fun x y H Q => ∃ a b ns ms, x = .ref a ∧ y = .ref b ∧ SqT K H a (ns.map V.int) ∧ SqT K H b (ms.map V.int) ∧ Q (.bl (HT.lexLt ns ms)) H
/-- t + u, t not empty: u empty gives t itself -/
def rCatT (K : PySem.W.Frag) : R2 := fun x y H Q => ∃ a b xs ys, x = .ref a ∧ y = .ref b ∧ SqT K H a xs ∧ SqT K H b ys ∧ xs ≠ [] ∧ xs.length + ys.length ≤ sizeLine ∧
  (ys = [] → Q (.ref a) H) ∧ (ys ≠ [] → ∀ p, H p = none → Q (.ref p) (upd H p (.tup (xs ++ ys))))
end
end L2

namespace L2
open PySem PySem.Spec PyProof.Rows

/-! ### places -/
/-- the place that an index of any sign means -/
def ixN (n : Nat) (i : Int) : Option Nat := if 0 ≤ i then (if i < n then some i.toNat else none) else if -(n : Int) ≤ i then some (i + n).toNat else none
def atI {α : Type} (xs : List α) (i : Int) : Option α := (ixN xs.length i).bind fun j => xs[j]?
theorem ixN_seq {n : Nat} {i : Int} {j : Nat} (h : ixN n i = some j) : seqIndex? i n = some j ∧ j < n ∧ -(n : Int) ≤ i ∧ i < n := by
  unfold ixN at h
  by_cases h0 : 0 ≤ i
  · rw [if_pos h0] at h
    by_cases h1 : i < n
    · rw [if_pos h1] at h
      have e : i.toNat = j := Option.some.inj h
      exact ⟨by rw [seqIndex_of h0 h1, e], by omega, by omega, h1⟩
    · rw [if_neg h1] at h; cases h
  · rw [if_neg h0] at h
    by_cases h1 : -(n : Int) ≤ i
    · rw [if_pos h1] at h
      have e : (i + n).toNat = j := Option.some.inj h
      exact ⟨by rw [seqIndex_neg (by omega) h1, e], by omega, h1, by omega⟩
    · rw [if_neg h1] at h; cases h
theorem atI_get {α : Type} {xs : List α} {i : Int} {v : α} (h : atI xs i = some v) : ∃ j, seqIndex? i xs.length = some j ∧ xs[j]? = some v ∧ j < xs.length ∧ -(xs.length : Int) ≤ i ∧ i < xs.length := by
  unfold atI at h
  cases e : ixN xs.length i with
  | none => rw [e] at h; cases h
  | some j =>
    rw [e] at h
    obtain ⟨h1, h2, h3, h4⟩ := ixN_seq e
    exact ⟨j, h1, h, h2, h3, h4⟩
theorem atI_nat {α : Type} {xs : List α} {j : Nat} {v : α} (h : xs[j]? = some v) : atI xs (j : Int) = some v := by
  have hj : j < xs.length := (List.getElem?_eq_some_iff.mp h).1
  have e : ixN xs.length (j : Int) = some j := by
    unfold ixN
    rw [if_pos (by omega), if_pos (by omega)]; simp
  unfold atI; rw [e]; exact h
/-! ### what may be subscripted -/
/-- what stands as an index of a plain subscript -/
def PlainIx (b : Expr) : Prop := ∀ o i, subscripted b false o i = operate [o, i] (getItem o i)
/-- a subscript by values -/
def IxR (X : Cx) (r : R2) : Prop :=
  ∀ (value slice : Expr) (pins : List (Addr × Obj)) (s : Shared) (σ : St) (H : Hp) (x y : V) (v u : Value) (Q : VK), Inv X pins σ H s → RelV x v → RelV y u → r x y H Q →
    subscripted slice false v u = operate [v, u] (getItem v u) → wpAny (model X.prog X.w) X.A (subscriptTail value slice v u) (EP X pins σ Q) X.xe s
/-- a call of a builtin's method by values: the receiver, the arguments -/
def MtR (X : Cx) (id : String) (r : V → List V → Hp → VK → Prop) : Prop :=
  ∀ (pins : List (Addr × Obj)) (s : Shared) (σ : St) (H : Hp) (x : V) (xs : List V) (v : Value) (us : List Value) (Q : VK), Inv X pins σ H s → RelV x v → Vals xs us → r x xs H Q →
    wpAny (model X.prog X.w) X.A (call (.builtin id) (v :: us)) (EP X pins σ Q) X.xe s
section
variable {X : Cx} {a b : Expr} {ta tb : TE} {pos : Pos}
theorem IxR.or {r r' : R2} (h : IxR X r) (h' : IxR X r') : IxR X (fun x y H Q => r x y H Q ∨ r' x y H Q) := by
  intro value slice pins s σ H x y v u Q I rx ry q hs
  rcases q with q | q
  · exact h value slice pins s σ H x y v u Q I rx ry q hs
  · exact h' value slice pins s σ H x y v u Q I rx ry q hs
theorem MtR.or {id : String} {r r' : V → List V → Hp → VK → Prop} (h : MtR X id r) (h' : MtR X id r') : MtR X id (fun x xs H Q => r x xs H Q ∨ r' x xs H Q) := by
  intro pins s σ H x xs v us Q I rx rs q
  rcases q with q | q
  · exact h pins s σ H x xs v us Q I rx rs q
  · exact h' pins s σ H x xs v us Q I rx rs q
/-- a[b] -/
theorem pe_ix {r : R2} (hr : IxR X r) (ha : PE X a ta) (hb : PE X b tb) (hs : PlainIx b) : PE X (.Subscript a b pos) (tOp r ta tb) := by
  intro pins s σ H Q I h
  exact Subscript_ (binT ha hb I h fun v u s2 x y H2 I2 rx ry q => hr a b pins s2 σ H2 x y v u Q I2 rx ry q (hs _ _))

def rIxL (K : PySem.W.Frag) : R2 := fun x y H Q => ∃ p xs i v, x = .ref p ∧ y = .int i ∧ SqL K H p xs ∧ atI xs i = some v ∧ Q v H
def rIxT (K : PySem.W.Frag) : R2 := fun x y H Q => ∃ p xs i v, x = .ref p ∧ y = .int i ∧ SqT K H p xs ∧ atI xs i = some v ∧ Q v H
def rIxS : R2 := fun x y H Q => ∃ z i c, x = .str z ∧ y = .int i ∧ z.length ≤ sizeLine ∧ atI z.cps.toList i = some c ∧ Q (.str ⟨#[c]⟩) H
theorem ix_list : IxR X (rIxL X.K) := by
  intro value slice pins s σ H x y v u Q I rx ry h hs
  obtain ⟨p, xs, i, z, rfl, rfl, hq, he, q⟩ := h
  cases rx
  obtain ⟨t, rfl⟩ := ry
  obtain ⟨its, r, pl, hz⟩ := I.list hq
  obtain ⟨j, h1, h2, h3, h4, h5⟩ := atI_get he
  obtain ⟨w, ew, rw'⟩ := r.get h2
  have hl := r.length
  have hn := line63
  have fin : EP X pins σ Q w s := ⟨z, H, I, rw', q⟩
  by_cases h0 : 0 ≤ i
  · have hj : i.toNat = j := by
      rw [seqIndex_of h0 h5] at h1
      exact Option.some.inj h1
    exact item_listR pl.isList h0 (by omega) (by rw [hj]; simpa using ew) fin hs
  · have hj : (i + (its.toArray.size : Int)).toNat = j := by
      rw [seqIndex_neg (by omega) h4] at h1
      rw [List.size_toArray, ← hl]
      exact Option.some.inj h1
    exact subscriptTail_builtinR (x := w) pl.isList.typeIs slot_list_getitem.lookup
      (wpAny_getItem_list_neg (Q := fun r s' => r = w ∧ EP X pins σ Q r s') pl.isList (by omega) (by rw [List.size_toArray] <;> omega) (by omega) (by rw [hj]; simpa using ew) ⟨rfl, fin⟩) hs
theorem ix_tup : IxR X (rIxT X.K) := by
  intro value slice pins s σ H x y v u Q I rx ry h hs
  obtain ⟨p, xs, i, z, rfl, rfl, hq, he, q⟩ := h
  cases rx
  obtain ⟨t, rfl⟩ := ry
  obtain ⟨its, r, pl, hz⟩ := I.tuple hq
  obtain ⟨j, h1, h2, h3, h4, h5⟩ := atI_get he
  obtain ⟨w, ew, rw'⟩ := r.get h2
  have hl := r.length
  have hn := line63
  have fin : EP X pins σ Q w s := ⟨z, H, I, rw', q⟩
  exact subscriptTail_builtinR (x := w) pl.typeIs slot_tuple_getitem.lookup
    (getItem_tuple (j := j) (Q := fun r s' => r = w ∧ EP X pins σ Q r s') pl (by omega) (by omega) (by rw [List.size_toArray, ← hl]; exact h1) (by simpa using ew) ⟨rfl, fin⟩) hs
theorem ix_str : IxR X rIxS := by
  intro value slice pins s σ H x y v u Q I rx ry h hs
  obtain ⟨z, i, c, rfl, rfl, hz, he, q⟩ := h
  obtain ⟨t, rfl⟩ := rx
  obtain ⟨t', rfl⟩ := ry
  obtain ⟨j, h1, h2, h3, h4, h5⟩ := atI_get he
  have hl : z.cps.toList.length = z.length := by simp [Str.length]
  rw [hl] at h1 h4 h5
  have hn := line63
  exact tail_any (typeIs_str s z t) slot_str_getitem.lookup (getItem_str (c := c) (by
    have e1 : decide (i < -(2 ^ 63 : Int)) = false := decide_eq_false (by omega)
    have e2 : decide (i ≥ 2 ^ 63) = false := decide_eq_false (by omega)
    rw [e1, e2, Bool.or_false]) (by rw [h1]; simpa using h2) ⟨.str ⟨#[c]⟩, H, I.tok _, ⟨_, rfl⟩, q⟩) hs
/-- list, tuple or str -/
def rIx (K : PySem.W.Frag) : R2 := fun x y H Q => rIxL K x y H Q ∨ rIxT K x y H Q ∨ rIxS x y H Q
/-! ### xs[i] = v, any sign -/
/-- the list's object behind a store -/
theorem mapSeq_set (its : List Value) (n j : Nat) (u : Value) : Obj.mapSeq (·.setIfInBounds j u) { cls := .type "list", data := .seq its.toArray n } = { cls := .type "list", data := .seq (its.set j u).toArray n } := by
  simp [Obj.mapSeq]
theorem Inv.lst {pins : List (Addr × Obj)} {σ : St} {H : Hp} {s : Shared} {p : Addr} {xs : List V} (I : Inv X pins σ H s) (h : H p = some (.lst xs)) :
    ∃ (its : List Value) (n : Nat), Vals xs its ∧ s.heap.get? p = some { cls := .type "list", data := .seq its.toArray n } ∧ xs.length ≤ sizeLine := by
  obtain ⟨z, its, n, r, e⟩ := I.hok p _ h
  exact ⟨its, n, r, e, z⟩
/-- the list at p is written by an update of its object -/
theorem Inv.lstUpd {pins : List (Addr × Obj)} {σ : St} {H : Hp} {s : Shared} {p : Addr} {xs ys : List V} {its its' : List Value} {n n' : Nat} {f : Obj → Obj} (I : Inv X pins σ H s) (h : H p = some (.lst xs))
    (ho : s.heap.get? p = some { cls := .type "list", data := .seq its.toArray n }) (hf : f { cls := .type "list", data := .seq its.toArray n } = { cls := .type "list", data := .seq its'.toArray n' }) (r : Vals ys its') (hz : ys.length ≤ sizeLine) (t : Nat) :
    Inv X pins σ (upd H p (.lst ys)) { s with heap := s.heap.update p f, toks := t } := by
  have e : (s.heap.update p f).get? p = some { cls := .type "list", data := .seq its'.toArray n' } := by
    rw [Heap.get?_update_self f ho (by rw [hf] <;> rfl), hf]
  refine I.write (x := p) (e := p) (by rw [h]; trivial) (.inl rfl) (fun b u hb q => (Heap.get?_update_other _ _ (Ne.symm hb)).trans q) ⟨_, e⟩ ?_
  exact ⟨hz, its', n', r, e⟩
def rSetL : V → V → V → Hp → (Hp → Prop) → Prop := fun o i v H Q => ∃ p xs k j, o = .ref p ∧ i = .int k ∧ H p = some (.lst xs) ∧ ixN xs.length k = some j ∧ Q (upd H p (.lst (xs.set j v)))
theorem set_list : PSet X rSetL := by
  intro pins s σ H o i v ov iv u Q I ro ri rv h
  obtain ⟨p, xs, k, j, rfl, rfl, hp, hj, q⟩ := h
  cases ro
  obtain ⟨t, rfl⟩ := ri
  obtain ⟨its, n, r, ho, hz⟩ := I.lst hp
  obtain ⟨h1, h2, h3, h4⟩ := ixN_seq hj
  have hl := r.length
  have hn := line63
  have I' : Inv X pins σ (upd H p (.lst (xs.set j v))) { s with heap := s.heap.update p (Obj.mapSeq (·.setIfInBounds j u)) } :=
    I.lstUpd hp ho (mapSeq_set its n j u) (r.set rv j) (by rw [List.length_set]; exact hz) s.toks
  by_cases h0 : 0 ≤ k
  · have hk : k.toNat = j := by
      rw [seqIndex_of h0 h4] at h1
      exact Option.some.inj h1
    exact PySem.W.ki_setAt ho h0 (by omega) (by rw [List.size_toArray, ← hl]; exact h4) (by rw [hk]; exact ⟨_, I', q⟩)
  · have hk : (k + (its.toArray.size : Int)).toNat = j := by
      rw [seqIndex_neg (by omega) h3] at h1
      rw [List.size_toArray, ← hl]
      exact Option.some.inj h1
    exact PySem.W.ki_setBack ho (by omega) (by rw [List.size_toArray, ← hl]; exact h3) (by omega) (by rw [hk]; exact ⟨_, I', q⟩)

/-! ### slices -/
/-- xs[lo:hi] of a list: a new list -/
def rSlL (K : PySem.W.Frag) : V → Option Int → Option Int → Hp → VK → Prop := fun x lo hi H Q => ∃ a xs, x = .ref a ∧ SqL K H a xs ∧ ∀ p, H p = none → Q (.ref p) (upd H p (.lst (cutV xs lo hi)))
/-! ### in, not in: flat items -/
def flatV : V → Bool
  | .non => true
  | .bl _ => true
  | .int _ => true
  | .str _ => true
  | _ => false
/-- == of flat values -/
def eqV : V → V → Bool
  | .non, .non => true
  | .bl a, .bl b => a == b
  | .bl a, .int b => (if a then 1 else 0) == b
  | .int a, .bl b => a == (if b then 1 else 0)
  | .int a, .int b => a == b
  | .str a, .str b => a == b
  | _, _ => false
/-- the items' answers, read off the values (a value's own answer does not lean on its token) -/
def eqU (x : V) (u : Value) : Bool := match u with
  | .none => eqV .non x
  | .bool b => eqV (.bl b) x
  | .int i _ => eqV (.int i) x
  | .str z _ => eqV (.str z) x
  | _ => false
def inV (x : V) (xs : List V) : Bool := xs.any fun y => eqV y x
/-- x in a list or tuple of flat items -/
def rIn (K : PySem.W.Frag) (neg : Bool) : R2 := fun x y H Q => ∃ p xs, y = .ref p ∧ (SqL K H p xs ∨ SqT K H p xs) ∧ flatV x = true ∧ xs.all flatV = true ∧ Q (.bl (if neg then !inV x xs else inV x xs)) H
theorem op_notIn_str : OpR X (compareOp .NotIn) (fun x y H Q => ∃ i j, x = .str i ∧ y = .str j ∧ Q (.bl (!(!(Builtin.Str.occurrences j i 0 j.length 1).isEmpty))) H) := by
  intro pins s σ H x y v u Q I rx ry h
  obtain ⟨i, j, rfl, rfl, q⟩ := h
  obtain ⟨t, rfl⟩ := rx
  obtain ⟨t', rfl⟩ := ry
  exact notIn_str ⟨.bl _, H, I, rfl, q⟩

/-! ### len, list(x), tuple(x) of any list or tuple that is read -/
theorem call_len_seq : CallR X (.builtin "len") (fun xs H Q => ∃ p ys, xs = [.ref p] ∧ (SqL X.K H p ys ∨ SqT X.K H p ys) ∧ Q (.int ys.length) H) := by
  intro pins s σ H xs us Q I r h
  obtain ⟨p, ys, rfl, hq, q⟩ := h
  obtain ⟨u, rfl, rx⟩ := vals1 r
  cases rx
  have hn := line63
  rcases hq with hq | hq
  · obtain ⟨its, r', pl, hz⟩ := I.list hq
    have hlen := r'.length
    exact Calls.call_len_list pl.isList (by simp only [List.size_toArray] <;> omega) ⟨.int ys.length, H, I.tok _, ⟨s.toks + 1, by rw [List.size_toArray, hlen]⟩, q⟩
  · obtain ⟨its, r', pl, hz⟩ := I.tuple hq
    have hlen := r'.length
    exact len_tuple pl (by simp only [List.size_toArray] <;> omega) ⟨.int ys.length, H, I.tok _, ⟨s.toks + 1, by rw [List.size_toArray, hlen]⟩, q⟩
theorem call_len_str : CallR X (.builtin "len") (fun xs H Q => ∃ z, xs = [.str z] ∧ z.length ≤ sizeLine ∧ Q (.int z.length) H) := by
  intro pins s σ H xs us Q I r h
  obtain ⟨z, rfl, hz, q⟩ := h
  obtain ⟨u, rfl, t, rfl⟩ := vals1 r
  have hn := line63
  exact len_str (by omega) ⟨.int z.length, H, I.tok _, ⟨_, rfl⟩, q⟩
theorem CallR.or {f : Value} {r r' : List V → Hp → VK → Prop} (h : CallR X f r) (h' : CallR X f r') : CallR X f (fun xs H Q => r xs H Q ∨ r' xs H Q) := by
  intro pins s σ H xs us Q I rs q
  rcases q with q | q
  · exact h pins s σ H xs us Q I rs q
  · exact h' pins s σ H xs us Q I rs q
/-! ### the call of a builtin's method: o.m(..) -/
/-- the value is of that builtin type -/
def tyV (K : PySem.W.Frag) (T : String) (x : V) (H : Hp) : Prop := match x with
  | .str _ => T = "str"
  | .int _ => T = "int"
  | .ref p => (T = "list" ∧ ∃ xs, SqL K H p xs) ∨ (T = "tuple" ∧ ∃ o, K.lookup p = some o ∧ o.cls = .type "tuple" ∧ o.dict = none) ∨
      (T = "dict" ∧ ((∃ kvs, H p = some (.dK kvs)) ∨ ∃ kvs, H p = some (.dT kvs))) ∨ (T = "set" ∧ ∃ S n, H p = some (.set S n))
  | _ => False
theorem tyV_is {pins : List (Addr × Obj)} {σ : St} {H : Hp} {s : Shared} {T : String} {x : V} {v : Value} (I : Inv X pins σ H s) (r : RelV x v) (ty : tyV X.K T x H) :
    s.TypeIs v T ∧ ∀ a, v = .ref a → ∃ ob, s.heap.get? a = some ob ∧ ob.dict = none := by
  cases x with
  | str z =>
    obtain ⟨t, rfl⟩ := r
    cases (show T = "str" from ty)
    exact ⟨typeIs_str s z t, fun _ e => nomatch e⟩
  | int i =>
    obtain ⟨t, rfl⟩ := r
    cases (show T = "int" from ty)
    exact ⟨typeIs_int s i t, fun _ e => nomatch e⟩
  | ref p =>
    cases r
    rcases ty with ⟨rfl, xs, hq⟩ | ⟨rfl, o, hk, hc, hd⟩ | ⟨rfl, hk⟩ | ⟨rfl, S, n, hk⟩
    · obtain ⟨its, _, pl, _⟩ := I.list hq
      refine ⟨pl.isList.typeIs, fun a e => ?_⟩
      cases e
      obtain ⟨o, n, e, c, hd, _⟩ := pl
      exact ⟨o, e, hd⟩
    · refine ⟨⟨o, I.kIn p o hk, hc⟩, fun a e => ?_⟩
      cases e
      exact ⟨o, I.kIn _ o hk, hd⟩
    · have z : ∃ o, s.heap.get? p = some o ∧ o.ExactDict := by
        rcases hk with ⟨kvs, hk⟩ | ⟨kvs, hk⟩
        · obtain ⟨_, _, _, _, o, _, _, e, ex, _⟩ := I.hok p _ hk
          exact ⟨o, e, ex⟩
        · obtain ⟨_, _, _, _, o, _, _, e, ex, _⟩ := I.hok p _ hk
          exact ⟨o, e, ex⟩
      obtain ⟨o, e, ex⟩ := z
      refine ⟨⟨o, e, ex.1⟩, fun a e2 => ?_⟩
      cases e2
      exact ⟨o, e, ex.2.1⟩
    · obtain ⟨o, _, _, _, e, ex, _⟩ := I.hok p _ hk
      refine ⟨⟨o, e, ex.1⟩, fun a e2 => ?_⟩
      cases e2
      exact ⟨o, e, ex.2.1⟩
  | _ => exact False.elim ty
def tBM0 (K : PySem.W.Frag) (T : String) (r : V → List V → Hp → VK → Prop) (to : TE) : TE := fun σ H Q => to σ H fun x H1 => tyV K T x H1 ∧ r x [] H1 Q
def tBM (K : PySem.W.Frag) (T : String) (r : V → List V → Hp → VK → Prop) (to : TE) (t : TA) : TE := fun σ H Q => to σ H fun x H1 => tyV K T x H1 ∧ t σ H1 fun xs H2 => r x xs H2 Q
variable {o e : Expr} {es : List Expr} {to : TE} {t : TA} {name : Str} {apos cpos : Pos} {T id : String} {r : V → List V → Hp → VK → Prop}
theorem pe_bm0 (pa : PlainAttrs T) (slot : Slot T name id) (hty : typeOf (.builtin id) = pure (.type "method_descriptor")) (hm : MtR X id r) (ho : PE X o to)
    (hbase : attributeBase o name X.env (eval o X.env) = eval o X.env := by rfl) (hline : (apos.endLine == cpos.line) = true := by rfl) : PE X (.Call (.Attribute o name apos) [] [] cpos) (tBM0 X.K T r to) := by
  intro pins s σ H Q I h
  refine wpAny_Call_method0_late hbase hline (thn (ho pins s σ H _ I h) fun v s1 ⟨x, H1, I1, r1, ty, q1⟩ => ?_)
  obtain ⟨h1, h2⟩ := tyV_is I1 r1 ty
  exact ⟨T, id, pa, slot, hty, h1, h2, Calls.callWith_builtin rfl (PySem.evalArgs_none (hm pins s1 σ H1 x [] v [] Q I1 r1 .nil q1))⟩
theorem pe_bm (pa : PlainAttrs T) (slot : Slot T name id) (hty : typeOf (.builtin id) = pure (.type "method_descriptor")) (hm : MtR X id r) (ho : PE X o to) (ha : PA X (e :: es) t)
    (hbase : attributeBase o name X.env (eval o X.env) = eval o X.env := by rfl)
    (hfew : ((backTo cpos (starEach (e :: es) X.env)).all (fun x => !x.1) && (backToKw cpos (keywordEach [] X.env)).all (fun x => x.1.isSome)
      && decide ((e :: es).length + ([] : List Keyword).length + (if ([] : List Keyword).isEmpty then 0 else 1) < 30)) = true := by rfl)
    (hline : (apos.endLine == cpos.line) = true := by rfl) (hs : starEach (e :: es) X.env = (false, eval e X.env) :: starEach es X.env := by rfl) (hplain : (backTo cpos (starEach es X.env)).any (·.1) = false := by rfl) :
    PE X (.Call (.Attribute o name apos) (e :: es) [] cpos) (tBM X.K T r to t) := by
  intro pins s σ H Q I h
  refine wpAny_Call_method_late hbase hfew hline rfl (thn (ho pins s σ H _ I h) fun v s1 ⟨x, H1, I1, r1, ty, q1⟩ => ?_)
  obtain ⟨h1, h2⟩ := tyV_is I1 r1 ty
  refine ⟨T, id, pa, slot, hty, h1, h2, ?_⟩
  have hA := ha cpos pins s1 σ H1 _ I1 q1
  rw [hs] at hA ⊢
  refine Calls.callWith_builtin (by show (false || (backTo cpos (starEach es X.env)).any (·.1)) = false; rw [hplain] <;> rfl) (Calls.evalArgs_plain ?_)
  exact thn hA fun us s2 ⟨vs, H2, I2, r2, q2⟩ => hm pins s2 σ H2 x vs v us Q I2 r1 r2 q2
end
end L2

namespace L2
open PySem PySem.Spec PyProof.Rows

def MtM (X : Cx) (id : String) (r : V → List V → Hp → VK → Prop) : Prop :=
  ∀ (pins : List (Addr × Obj)) (s : Shared) (σ : St) (H : Hp) (x : V) (xs : List V) (v : Value) (us : List Value) (Q : VK), Inv X pins σ H s → RelV x v → Vals xs us → r x xs H Q →
    wpAny (model X.prog X.w) X.A (call (.builtin id) (v :: us)) (EP X pins σ Q) X.xe s

/-! ### lists of values -/
theorem Vals.one : ∀ {x : V} {us : List Value}, Vals [x] us → ∃ u, us = [u] ∧ RelV x u
  | _, _, .cons r .nil => ⟨_, rfl, r⟩
theorem Vals.two : ∀ {x y : V} {us : List Value}, Vals [x, y] us → ∃ u v, us = [u, v] ∧ RelV x u ∧ RelV y v
  | _, _, _, .cons r (.cons q .nil) => ⟨_, _, rfl, r, q⟩
theorem Vals.zero : ∀ {us : List Value}, Vals [] us → us = []
  | _, .nil => rfl
theorem Vals.dropLast {xs : List V} {us : List Value} (h : Vals xs us) : Vals xs.dropLast us.dropLast := by
  induction h with
  | nil => exact .nil
  | cons r t ih =>
    cases t with
    | nil => exact .nil
    | cons q t' => exact .cons r ih
theorem Vals.eraseIdx : ∀ {xs : List V} {us : List Value} (i : Nat), Vals xs us → Vals (xs.eraseIdx i) (us.eraseIdx i)
  | _, _, _, .nil => .nil
  | _, _, 0, .cons _ t => t
  | _, _, i + 1, .cons r t => .cons r (Vals.eraseIdx i t)
theorem Vals.reverse {xs : List V} {us : List Value} (h : Vals xs us) : Vals xs.reverse us.reverse := by
  induction h with
  | nil => exact .nil
  | cons r t ih => rw [List.reverse_cons, List.reverse_cons]; exact Vals.append ih (.cons r .nil)
theorem erase_last {α : Type} (l : List α) : l.eraseIdx (l.length - 1) = l.dropLast := by
  induction l with
  | nil => rfl
  | cons a r ih =>
    cases r with
    | nil => rfl
    | cons b r =>
      have e : (a :: b :: r).length - 1 = ((b :: r).length - 1) + 1 := by
        have h1 : (a :: b :: r).length = r.length + 2 := rfl
        have h2 : (b :: r).length = r.length + 1 := rfl
        omega
      rw [e, List.eraseIdx_cons_succ, ih]
      all_goals rfl
section
variable {X : Cx} {pins : List (Addr × Obj)} {σ : St} {H : Hp} {s : Shared} {l b : Addr} {xs ys zs : List V}

/-! ### the two steps: a tracked list is rewritten, a new list is laid -/
theorem Inv.lset {its its' : List Value} {n : Nat} {f : Array Value → Array Value} {t' : Nat} (I : Inv X pins σ H s) (hH : H l = some (.lst xs))
    (e : s.heap.get? l = some { cls := .type "list", data := .seq its.toArray n }) (hf : f its.toArray = its'.toArray) (hv : Vals ys its') (hz : ys.length ≤ sizeLine) :
    Inv X pins σ (upd H l (.lst ys)) { s with heap := s.heap.update l (Obj.mapSeq f), toks := t' } := by
  have q := PySem.IsL.update e f
  rw [hf] at q
  refine I.write (x := l) (e := l) (by rw [hH]; exact trivial) (.inl rfl) (fun b' u hb hu => (Heap.get?_update_other s.heap (Obj.mapSeq f) (Ne.symm hb)).trans hu) ⟨_, q⟩ ?_
  exact ⟨hz, its', _, hv, q⟩
theorem Inv.lnew {its : List Value} {t' : Nat} (I : Inv X pins σ H s) (hv : Vals ys its) (hz : ys.length ≤ sizeLine) :
    Inv X pins σ (upd H s.heap.objs.size (.lst ys)) { s with heap := s.heap.push { cls := .type "list", data := .seq its.toArray }, toks := t' } :=
  I.laid (fun _ _ q => Heap.get?_push_of_some _ q) (Nat.le_refl _) ⟨hz, its, 0, hv, Heap.get?_push_size _ rfl⟩
theorem Inv.fresh (I : Inv X pins σ H s) : H s.heap.objs.size = none := I.hok.fresh (Nat.le_refl _)
theorem Inv.lstM (I : Inv X pins σ H s) (hH : H l = some (.lst xs)) : xs.length ≤ sizeLine ∧ ∃ (its : List Value) (n : Nat), Vals xs its ∧ xs.length = its.length ∧ s.heap.get? l = some { cls := .type "list", data := .seq its.toArray n } := by
  obtain ⟨z, its, n, r, e⟩ := I.hok l _ hH
  exact ⟨z, its, n, r, r.length, e⟩

end

section
variable {X : Cx}

/-! ### methods -/
def rAppend : V → List V → Hp → VK → Prop := fun x vs H Q => ∃ l xs y, x = .ref l ∧ vs = [y] ∧ H l = some (.lst xs) ∧ xs.length < sizeLine ∧ Q .non (upd H l (.lst (xs ++ [y])))
theorem mt_append : MtM X "list.append" rAppend := by
  intro pins s σ H x vs v us Q I rx rv h
  obtain ⟨l, xs, y, rfl, rfl, hH, hz, q⟩ := h
  cases rx
  obtain ⟨u, rfl, ru⟩ := rv.one
  obtain ⟨z, its, n, r, hl, e⟩ := I.lstM hH
  refine call_meets F.slot_list_append ⟨_, e, rfl⟩ F.entry_list_append (F.args_list_append_2 _ _) (PySem.list_append l its.toArray n u (by rw [List.size_toArray]; omega)) ⟨e, ?_⟩
  refine ⟨.non, _, I.lset (its' := its ++ [u]) hH e (by simp) (r.append (.cons ru .nil)) ?_, rfl, q⟩
  rw [List.length_append, List.length_singleton]
  omega

def rExtend : V → List V → Hp → VK → Prop := fun x vs H Q => ∃ l b xs zs, x = .ref l ∧ vs = [.ref b] ∧ H l = some (.lst xs) ∧ H b = some (.lst zs) ∧ xs.length + zs.length ≤ sizeLine ∧ Q .non (upd H l (.lst (xs ++ zs)))
def rPop : V → List V → Hp → VK → Prop := fun x vs H Q => ∃ l xs y, x = .ref l ∧ vs = [] ∧ H l = some (.lst xs) ∧ xs[xs.length - 1]? = some y ∧ Q y (upd H l (.lst xs.dropLast))
theorem mt_pop : MtM X "list.pop" rPop := by
  intro pins s σ H x vs v us Q I rx rv h
  obtain ⟨l, xs, y, rfl, rfl, hH, hy, q⟩ := h
  cases rx
  have hus := rv.zero
  subst hus
  obtain ⟨z, its, n, r, hl, e⟩ := I.lstM hH
  obtain ⟨u, hu, ru⟩ := r.get hy
  have hy' : its.toArray[its.toArray.size - 1]? = some u := by
    show its.toArray[its.length - 1]? = some u
    rw [← Array.getElem?_toList, ← hl]
    exact hu
  refine call_meets F.slot_list_pop ⟨_, e, rfl⟩ F.entry_list_pop (F.args_list_pop_1 _) (MeetsSeq.list_pop_last l its.toArray n u hy' (by rw [List.size_toArray]; omega)) ⟨e, ?_⟩
  refine ⟨y, _, I.lset (its' := its.dropLast) hH e ?_ r.dropLast ?_, ru, q⟩
  · show its.toArray.eraseIdxIfInBounds (its.toArray.size - 1) = its.dropLast.toArray
    rw [List.size_toArray, List.eraseIdxIfInBounds_toArray, erase_last]
  · rw [List.length_dropLast]
    omega

def rPopAt : V → List V → Hp → VK → Prop := fun x vs H Q => ∃ l xs i k y, x = .ref l ∧ vs = [.int i] ∧ H l = some (.lst xs) ∧ -(2 ^ 63) ≤ i ∧ i < 2 ^ 63 ∧ seqIndex? i xs.length = some k ∧ xs[k]? = some y ∧ Q y (upd H l (.lst (xs.eraseIdx k)))
def rReverse : V → List V → Hp → VK → Prop := fun x vs H Q => ∃ l xs, x = .ref l ∧ vs = [] ∧ H l = some (.lst xs) ∧ Q .non (upd H l (.lst xs.reverse))
def rClear : V → List V → Hp → VK → Prop := fun x vs H Q => ∃ l xs, x = .ref l ∧ vs = [] ∧ H l = some (.lst xs) ∧ Q .non (upd H l (.lst []))
/-! ### list + list, list += list, list * int -/
def rCat : R2 := fun x y H Q => ∃ l b xs zs, x = .ref l ∧ y = .ref b ∧ H l = some (.lst xs) ∧ H b = some (.lst zs) ∧ xs.length + zs.length ≤ sizeLine ∧ ∀ p, H p = none → Q (.ref p) (upd H p (.lst (xs ++ zs)))
/-- a list times an int (a negative one is nothing) -/
def rRep : R2 := fun x y H Q => ∃ l k xs, x = .ref l ∧ y = .int k ∧ H l = some (.lst xs) ∧ -(2 ^ 63) ≤ k ∧ k < 2 ^ 63 ∧ xs.length * k.toNat ≤ sizeLine ∧
  ∀ p, H p = none → Q (.ref p) (upd H p (.lst (List.replicate k.toNat xs).flatten))
/-! ### del xs[i] -/
end

/-! ### xs[a:b] = ys -/
section
variable {prog : Program} {w : World} {A : Around} {E : Value → Shared → Prop} {s : Shared}
set_option maxRecDepth 100000 in
end

section
variable {X : Cx}
end
end L2

namespace L2
open PySem PySem.Spec PyProof.Rows

/-! ### lists of pairs as tables -/
section
variable {κ : Type} [DecidableEq κ]
def valV (kvs : List (κ × V)) (k : κ) : Option V := (kvs.find? fun kv => decide (kv.1 = k)).map (·.2)
/-- in its place, or at the end -/
def putK (kvs : List (κ × V)) (k : κ) (v : V) : List (κ × V) :=
  if (kvs.any fun kv => decide (kv.1 = k)) = true then kvs.map (fun kv => if kv.1 = k then (kv.1, v) else kv) else kvs ++ [(k, v)]
def dropK (kvs : List (κ × V)) (k : κ) : List (κ × V) := kvs.filter fun kv => decide (kv.1 ≠ k)

theorem valV_pos {p : κ × V} {r : List (κ × V)} {k : κ} (e : p.1 = k) : valV (p :: r) k = some p.2 := by simp [valV, List.find?_cons, e]
theorem valV_neg {p : κ × V} {r : List (κ × V)} {k : κ} (e : ¬ p.1 = k) : valV (p :: r) k = valV r k := by simp [valV, List.find?_cons, e]
theorem RelO.getD {o : Option V} {u : Option Value} {d : V} {d' : Value} (r : RelO o u) (rd : RelV d d') : RelV (o.getD d) (u.getD d') := by
  cases o with
  | none => cases u with
    | none => exact rd
    | some _ => exact (show False from r).elim
  | some _ => cases u with
    | none => exact (show False from r).elim
    | some _ => exact r

/-- raw tables of the same keys -/
theorem KV.val {kvs : List (κ × V)} {vs : List (κ × Value)} (r : KV kvs vs) (k : κ) : RelO (valV kvs k) (valueAt vs k) := by
  unfold KV at r
  induction r with
  | nil => exact True.intro
  | @cons p q ps qs h t ih =>
    obtain ⟨h1, h2⟩ := h
    by_cases e : p.1 = k
    · have e' : q.1 = k := h1.symm.trans e
      have b : valueAt (q :: qs) k = some q.2 := by simp [valueAt, List.find?_cons, e']
      rw [valV_pos e, b]; exact h2
    · have e' : ¬ q.1 = k := fun z => e (h1.trans z)
      have b : valueAt (q :: qs) k = valueAt qs k := by simp [valueAt, List.find?_cons, e']
      rw [valV_neg e, b]; exact ih
theorem KV.any {kvs : List (κ × V)} {vs : List (κ × Value)} (r : KV kvs vs) (k : κ) : (kvs.any fun kv => decide (kv.1 = k)) = vs.any fun kv => decide (kv.1 = k) := by
  unfold KV at r
  induction r with
  | nil => rfl
  | cons h t ih => rw [List.any_cons, List.any_cons, ih, h.1]
theorem KV.drop {kvs : List (κ × V)} {vs : List (κ × Value)} (r : KV kvs vs) (k : κ) : KV (dropK kvs k) (without vs k) := by
  unfold KV at r ⊢
  unfold dropK without
  induction r with
  | nil => exact .nil
  | @cons p q ps qs h t ih =>
    obtain ⟨h1, h2⟩ := h
    rw [List.filter_cons, List.filter_cons]
    by_cases e : p.1 = k
    · have a : ¬ decide (p.1 ≠ k) = true := by simp [e]
      have b : ¬ decide (q.1 ≠ k) = true := by simp [h1.symm.trans e]
      rw [if_neg a, if_neg b]; exact ih
    · have e' : ¬ q.1 = k := fun z => e (h1.trans z)
      have a : decide (p.1 ≠ k) = true := by simp [e]
      have b : decide (q.1 ≠ k) = true := by simp [e']
      rw [if_pos a, if_pos b]; exact .cons ⟨h1, h2⟩ ih
theorem KV.keys {kvs : List (κ × V)} {vs : List (κ × Value)} (r : KV kvs vs) : kvs.map (·.1) = vs.map (·.1) := by
  unfold KV at r
  induction r with
  | nil => rfl
  | cons h t ih => rw [List.map_cons, List.map_cons, ih, h.1]
theorem KV.length {kvs : List (κ × V)} {vs : List (κ × Value)} (r : KV kvs vs) : kvs.length = vs.length := Paired.length r
end


/-! ### a tracked dict, its keys ints and texts or tuples of these -/
/-- raw entries of a dict with tuple keys -/
abbrev KT (H : Hp) : List (List Key × V) → List (List Key × Addr × Value) → Prop := Paired fun p q => p.1 = q.1 ∧ H q.2.1 = some (.tup (p.1.map kV)) ∧ RelV p.2 q.2.2
theorem KT.val {H : Hp} {kvs : List (List Key × V)} {xs : List (List Key × Addr × Value)} (r : KT H kvs xs) (k : List Key) : RelO (valV kvs k) ((atKey xs k).map (·.2)) := by
  induction r with
  | nil => exact True.intro
  | @cons p q ps qs h t ih =>
    obtain ⟨h1, _, h2⟩ := h
    by_cases e : p.1 = k
    · have e' : q.1 = k := h1.symm.trans e
      have b : atKey (q :: qs) k = some q.2 := by simp [atKey, List.find?_cons, e']
      rw [valV_pos e, b]; exact h2
    · have e' : ¬ q.1 = k := fun z => e (h1.trans z)
      have b : atKey (q :: qs) k = atKey qs k := by simp [atKey, List.find?_cons, e']
      rw [valV_neg e, b]; exact ih
theorem KT.keeps {H H' : Hp} {kvs : List (List Key × V)} {xs : List (List Key × Addr × Value)} (r : KT H kvs xs) (ht : ∀ b ys, H b = some (.tup ys) → H' b = some (.tup ys)) : KT H' kvs xs :=
  Paired.mapP r fun _ _ z => ⟨z.1, ht _ _ z.2.1, z.2.2⟩

section
variable {P : Program} {w : World} {H : Hp} {h : Heap} {a : Addr}
theorem rd_of {u : HO} (ok : HOk P w H h) (e : Rd H a u) : ObjOk P w H h a u := e.ok ok
theorem dk_rd {kvs : List (Key × V)} (ok : HOk P w H h) (e : Rd H a (.dK kvs)) : kvs.length ≤ sizeLine ∧ (a == sysModules) = false ∧ ∃ vs, KV kvs vs ∧ h.DictOf (mixKind P w) a vs :=
  show ObjOk P w H h a (.dK kvs) from rd_of ok e
theorem dk_of {kvs : List (Key × V)} (ok : HOk P w H h) (e : H a = some (.dK kvs)) : kvs.length ≤ sizeLine ∧ (a == sysModules) = false ∧ ∃ vs, KV kvs vs ∧ h.DictOf (mixKind P w) a vs := dk_rd ok (.inl e)
end

/-- what the dict at a holds at the key y -/
def DGet (H : Hp) (a : Addr) (y : V) (r : Option V) : Prop :=
  (∃ kvs k, Rd H a (.dK kvs) ∧ y = kV k ∧ r = valV kvs k) ∨ ∃ kvs k b, Rd H a (.dT kvs) ∧ y = .ref b ∧ H b = some (.tup (k.map kV)) ∧ r = valV kvs k
/-- the heap behind a[y] = v -/
def DPut (H : Hp) (a : Addr) (y v : V) (H' : Hp) : Prop :=
  (∃ kvs k, H a = some (.dK kvs) ∧ y = kV k ∧ kvs.length < sizeLine ∧ H' = upd H a (.dK (putK kvs k v))) ∨
  ∃ kvs k b, H a = some (.dT kvs) ∧ y = .ref b ∧ H b = some (.tup (k.map kV)) ∧ kvs.length < sizeLine ∧ H' = upd H a (.dT (putK kvs k v))
theorem DGet.k {H : Hp} {a : Addr} {kvs : List (Key × V)} {k : Key} (e : H a = some (.dK kvs)) : DGet H a (kV k) (valV kvs k) := .inl ⟨kvs, k, .inl e, rfl, rfl⟩
theorem DGet.t {H : Hp} {a b : Addr} {kvs : List (List Key × V)} {k : List Key} (e : H a = some (.dT kvs)) (eb : H b = some (.tup (k.map kV))) : DGet H a (.ref b) (valV kvs k) := .inr ⟨kvs, k, b, .inl e, rfl, eb, rfl⟩
theorem DPut.k {H : Hp} {a : Addr} {kvs : List (Key × V)} {k : Key} {v : V} (e : H a = some (.dK kvs)) (hl : kvs.length < sizeLine) : DPut H a (kV k) v (upd H a (.dK (putK kvs k v))) := .inl ⟨kvs, k, e, rfl, hl, rfl⟩
theorem DPut.t {H : Hp} {a b : Addr} {kvs : List (List Key × V)} {k : List Key} {v : V} (e : H a = some (.dT kvs)) (eb : H b = some (.tup (k.map kV))) (hl : kvs.length < sizeLine) :
    DPut H a (.ref b) v (upd H a (.dT (putK kvs k v))) := .inr ⟨kvs, k, b, e, rfl, eb, hl, rfl⟩


section
variable {X : Cx} {pins : List (Addr × Obj)} {σ : St} {H : Hp} {s : Shared} {a : Addr} {y v : V} {u r : Value} {o : Option V} {A : Around} {E : Value → Shared → Prop}

theorem Inv.big (I : Inv X pins σ H s) : sysModules < s.heap.objs.size := by
  have h : mainGlobals < s.heap.objs.size := (I.mod.glob.keeps I.bk).lt
  exact Nat.lt_trans (by decide) h

end

section
variable {X : Cx} {pins : List (Addr × Obj)} {σ : St} {H : Hp} {s : Shared} {a : Addr} {kvs : List (Key × V)} {k : Key} {u : Value} {A : Around} {E : Value → Shared → Prop}
end


/-! ### readings and rules -/
/-- the element of a subscription, not a slice -/
def NoSl (i : Expr) : Prop := ∀ ov iv, subscripted i false ov iv = operate [ov, iv] (getItem ov iv)
/-- d[y] -/
def tDGet (td ty : TE) : TE := fun σ H Q => td σ H fun x H1 => ty σ H1 fun y H2 => ∃ a v, x = .ref a ∧ DGet H2 a y (some v) ∧ Q v H2
/-- y in d, y not in d -/
def tDIn (ty td : TE) : TE := fun σ H Q => ty σ H fun y H1 => td σ H1 fun x H2 => ∃ a o, x = .ref a ∧ DGet H2 a y o ∧ Q (.bl o.isSome) H2
def tDNotIn (ty td : TE) : TE := fun σ H Q => ty σ H fun y H1 => td σ H1 fun x H2 => ∃ a o, x = .ref a ∧ DGet H2 a y o ∧ Q (.bl (!o.isSome)) H2
/-- d[y] = v -/
def sDPut (td ty tv : TE) : TS := fun D σ H => tv σ H fun v H1 => td σ H1 fun x H2 => ty σ H2 fun y H3 => ∃ a H4, x = .ref a ∧ DPut H3 a y v H4 ∧ D.nx σ H4
/-- d[y] op= v -/
def sDAug (td ty tv : TE) (rd : V → V → Hp → VK → Prop) : TS := fun D σ H => td σ H fun x H1 => ty σ H1 fun y H2 => ∃ a v, x = .ref a ∧ DGet H2 a y (some v) ∧
  tv σ H2 fun y2 H3 => rd v y2 H3 fun z H4 => ∃ H5, DPut H4 a y z H5 ∧ D.nx σ H5
/-- del d[y] -/
def sDDel (td ty : TE) : TS := fun D σ H => td σ H fun x H1 => ty σ H1 fun y H2 => ∃ a kvs k, x = .ref a ∧ H2 a = some (.dK kvs) ∧ y = kV k ∧ (valV kvs k).isSome = true ∧ D.nx σ (upd H2 a (.dK (dropK kvs k)))

section
variable {X : Cx} {o i e value : Expr} {pos pos' tpos : Pos} {td ty tv : TE}
end


/-! ### displays -/
theorem dk_empty {P : Program} {w : World} {H : Hp} (h : Heap) (hb : sysModules < h.objs.size) : ObjOk P w H (h.push { cls := .type "dict", data := .dict #[] }) h.objs.size (.dK []) :=
  ⟨Nat.zero_le _, beq_eq_false_iff_ne.mpr (Ne.symm (Nat.ne_of_lt hb)), [], .nil, Heap.DictOf.new h⟩
/-- {}, to be a dict of the kind that is wanted -/
def tDNewK : TE := fun _ H Q => ∀ p, H p = none → Q (.ref p) (upd H p (.dK []))
def tDNewT : TE := fun _ H Q => ∀ p, H p = none → Q (.ref p) (upd H p (.dT []))
section
variable {X : Cx} {pos : Pos}
theorem pe_dnewK : PE X (.Dict [] [] pos) tDNewK := fun pins s σ H Q I h =>
  wpAny_Dict_empty ⟨.ref s.heap.objs.size, _, I.laid (a := s.heap.objs.size) (o := .dK []) (t' := s.toks) (fun _ _ q => Heap.get?_push_of_some _ q) (Nat.le_refl _) (dk_empty s.heap I.big), rfl, h _ (I.hok.fresh (Nat.le_refl _))⟩
end

/-- the pairs of a display, from the left -/
def tPairs : List (TE × TE) → St → Hp → (List (V × V) → Hp → Prop) → Prop
  | [], _, H, Q => Q [] H
  | (tk, tv) :: r, σ, H, Q => tk σ H fun x H1 => tv σ H1 fun y H2 => tPairs r σ H2 fun ps H3 => Q ((x, y) :: ps) H3
abbrev VV : List (V × V) → List (Value × Value) → Prop := Paired fun p q => RelV p.1 q.1 ∧ RelV p.2 q.2
def PPs (X : Cx) (pos : Pos) (keys : List (Option Expr)) (values : List Expr) (trs : List (TE × TE)) : Prop :=
  ∀ (pins : List (Addr × Obj)) (s : Shared) (σ : St) (H : Hp) (Q : List (V × V) → Hp → Prop), Inv X pins σ H s → tPairs trs σ H Q →
    wpAny (model X.prog X.w) X.A (evalPairs (pairTrees keys values X.env pos)) (fun vs s' => ∃ ps H', Inv X pins σ H' s' ∧ VV ps vs ∧ Q ps H') X.xe s
def mergeK (kvs more : List (Key × V)) : List (Key × V) := more.foldl (fun acc kv => putK acc kv.1 kv.2) kvs
/-- {k: v, ..} with keys ints and texts; the new dict stands empty while the pairs are made -/
def tDisp (trs : List (TE × TE)) : TE := fun σ H Q => ∀ p, H p = none → tPairs trs σ (upd H p (.dK [])) fun ps H2 => H2 p = some (.dK []) ∧ ∃ kvs : List (Key × V), ps = kvs.map (fun kv => (kV kv.1, kv.2)) ∧ kvs.length ≤ 15 ∧ Q (.ref p) (upd H2 p (.dK (mergeK [] kvs)))
/-! ### methods -/
/-- a method call o.m(e) of a built-in, with one argument: what must be seen of the text -/
structure M1 (X : Cx) (o : Expr) (m : Str) (apos : Pos) (e : Expr) (cpos : Pos) : Prop where
  base : attributeBase o m X.env (eval o X.env) = eval o X.env
  few : ((backTo cpos (starEach [e] X.env)).all (fun x => !x.1) && (backToKw cpos (keywordEach [] X.env)).all (fun x => x.1.isSome)
    && decide (([e] : List Expr).length + ([] : List Keyword).length + (if ([] : List Keyword).isEmpty then 0 else 1) < 30)) = true
  line : (apos.endLine == cpos.line) = true
  trees : backTo cpos (starEach [e] X.env) = [(false, eval e X.env)]
structure M2 (X : Cx) (o : Expr) (m : Str) (apos : Pos) (e f : Expr) (cpos : Pos) : Prop where
  base : attributeBase o m X.env (eval o X.env) = eval o X.env
  few : ((backTo cpos (starEach [e, f] X.env)).all (fun x => !x.1) && (backToKw cpos (keywordEach [] X.env)).all (fun x => x.1.isSome)
    && decide (([e, f] : List Expr).length + ([] : List Keyword).length + (if ([] : List Keyword).isEmpty then 0 else 1) < 30)) = true
  line : (apos.endLine == cpos.line) = true
  trees : backTo cpos (starEach [e, f] X.env) = [(false, eval e X.env), (false, eval f X.env)]

/-- a is a dict, whatever its keys -/
def IsD (H : Hp) (a : Addr) : Prop := (∃ kvs, Rd H a (.dK kvs)) ∨ ∃ kvs, Rd H a (.dT kvs)
section
variable {X : Cx} {pins : List (Addr × Obj)} {σ : St} {H : Hp} {s : Shared} {a : Addr} {y d : V} {u r : Value} {o : Option V} {A : Around} {E : Value → Shared → Prop}
end

def tDGet1 (td ty : TE) : TE := fun σ H Q => td σ H fun x H1 => ∃ a, x = .ref a ∧ IsD H1 a ∧ ty σ H1 fun y H2 => ∃ o, DGet H2 a y o ∧ Q (o.getD .non) H2
def tDGet2 (td ty tx : TE) : TE := fun σ H Q => td σ H fun x H1 => ∃ a, x = .ref a ∧ IsD H1 a ∧ ty σ H1 fun y H2 => tx σ H2 fun z H3 => ∃ o, DGet H3 a y o ∧ Q (o.getD z) H3
/-- d.pop(k): there; d.pop(k, x): there or not -/
def tDPop1 (td ty : TE) : TE := fun σ H Q => td σ H fun x H1 => ∃ a, x = .ref a ∧ IsD H1 a ∧ ty σ H1 fun y H2 => ∃ kvs k v, H2 a = some (.dK kvs) ∧ y = kV k ∧ valV kvs k = some v ∧ Q v (upd H2 a (.dK (dropK kvs k)))
def tDPop2 (td ty tx : TE) : TE := fun σ H Q => td σ H fun x H1 => ∃ a, x = .ref a ∧ IsD H1 a ∧ ty σ H1 fun y H2 => tx σ H2 fun z H3 => ∃ kvs k, H3 a = some (.dK kvs) ∧ y = kV k ∧
  (∀ v, valV kvs k = some v → Q v (upd H3 a (.dK (dropK kvs k)))) ∧ (valV kvs k = none → Q z H3)
section
variable {X : Cx} {o e f : Expr} {apos cpos : Pos} {td ty tx : TE}
end

/-! ### dict(d): a copy -/
section
variable {X : Cx} {pins : List (Addr × Obj)} {σ : St} {H : Hp} {s : Shared} {a : Addr} {kvs : List (Key × V)} {A : Around} {E : Value → Shared → Prop}
end


section
variable {X : Cx} {pins : List (Addr × Obj)} {σ : St} {H : Hp} {s : Shared} {a : Addr} {y : V} {u : Value} {A : Around} {E : Value → Shared → Prop}
end
end L2

namespace Att
open PySem PySem.W PySem.Calls PyProof.Rows

/-! ### the script -/
theorem ints_of_wellAll {P : Params} {h : Heap} : ∀ (ns : List Int) (vs : List Value), WellAll P h vs (ns.map WData.int) → IntsAre vs ns := by
  intro ns
  induction ns with
  | nil =>
    intro vs w
    rw [List.map_nil] at w
    cases w
    exact .nil
  | cons n ns ih =>
    intro vs w
    rw [List.map_cons] at w
    cases w with
    | cons a b =>
      cases a
      exact .cons _ _ (ih _ b)

theorem script_of {l : OpenLaw} {n : Nat} (hn : l.most = some n) {P : Params} {h : Heap} {args : List WData} {vals : List Value}
    (hpre : l.row.toRowW.claim.pre args = true) (hwl : WellAll P h vals args) :
    ∃ a vs ns, vals = [Value.ref a] ∧ args = [WData.list (ns.map WData.int)] ∧ h.get? a = some { cls := .type "list", data := .seq vs.toArray } ∧ IntsAre vs ns ∧ ns.length ≤ n := by
  have hsh : WShape.hasAll [] args [.list .int] = true := (pre_splitW hpre).1
  have hc : l.pre.holds [] { args := args } = true := (pre_splitW hpre).2
  obtain ⟨d, r, rfl, h1, h2⟩ := hasAllW_cons hsh
  obtain rfl := hasAllW_nil h2
  obtain ⟨xs, rfl, h3⟩ := hasW_list h1
  obtain ⟨ns, rfl⟩ := items_int h3
  have hlen : ns.length ≤ n := by
    unfold OpenLaw.pre at hc
    have h4 : (WTm.not (.lt (.lit (.int (n : Int))) (.len (.arg 0)))).holds [] { args := [.list (ns.map .int)] } = true := by
      have h4 := (holds_andW hc).1
      rw [hn] at h4
      exact h4
    have h5 := condW_of h4 (w_not (w_lt w_lit (w_len_list (w_arg rfl))))
    rw [List.length_map] at h5
    refine Nat.le_of_not_lt fun q => ?_
    have q' : (n : Int) < ((ns.length : Nat) : Int) := by omega
    first
      | (rw [decide_eq_true q'] at h5; exact absurd h5 (by decide))
      | (simp at h5; omega)
  cases hwl with
  | cons w1 w2 =>
    cases w2
    cases w1 with
    | list ho hall => exact ⟨_, _, ns, rfl, rfl, ho, ints_of_wellAll ns _ hall, hlen⟩

theorem post_true (l : OpenLaw) (args : List WData) : l.row.toRowW.claim.post args (.bool true) args = true :=
  postW_of (r := l.row.toRowW) (X := (true == true))
    (show WShape.has [] (.bool true) .bool = true by first | rfl | decide | simp [WShape.has, WShape.arms, WShape.armsAll])
    (show (WTm.eq .res (.lit (.bool true))).value [] { args := args, res := some (.bool true), after := args } = some (.bool (true == true)) from w_eq_bool (w_res rfl) w_lit) rfl

/-! ### the attachment: holds_open's last premise (the goal 'hc' behind k_head) from a wpAny of the law's body -/
/-- the same from a codeAny of the CALL (for a layer whose function contracts speak of calls) -/
theorem attach_call {l : OpenLaw} {n : Nat} {q : Program} {loose : List Str} {XP : (Str → Option Value) → Heap → Prop} {YP : World → Heap → Prop} {d : DefRec}
    (hn : l.most = some n) (hdf : d.params.defaults = [])
    (call : ∀ (w : World) (s₀ s₁ : Shared) (mg mb : Str → Option Value) (fa : Addr) (o : Obj) (pm cd doc : Value) (a : Addr) (vs : List Value) (ns : List Int),
      Ground q loose [] XP w s₀ mg mb s₁.heap → YP w s₁.heap →
      s₁.heap.get? fa = some o → o.data = .func (docDef d.name d.params d.body d.scope pm cd doc) → s₁.heap.CodeRec cd d.name → mg d.name = some (.ref fa) →
      s₁.heap.get? a = some { cls := .type "list", data := .seq vs.toArray } → IntsAre vs ns → ns.length ≤ n → s₁.gens = #[] →
      codeAny (model l.prog w) callerA (.call (.ref fa) ⟨[.ref a], []⟩) (fun r s' => r = .ok (.ret (.bool true)) ∧ OldK s₁.heap s'.heap ∧ s'.os = s₁.os ∧ AllBare s'.gens) s₁) :
    WalkO q loose XP YP l.row.toRowW d [] (fun f vs => PySem.call f vs) := by
  intro w s₀ s₁ mg mb G Y fa o pm cd doc dV kV ho hd hcd hD hmg hg args vals as hpre hlay hrd hwl hlo
  obtain rfl : dV = .none := Dflts.none hD hdf
  obtain rfl : kV = .none := Dflts.noKw hD
  obtain ⟨a, vs, ns, rfl, rfl, hobj, hints, hlen⟩ := script_of hn hpre hwl
  refine enter_call (codeAny_mono (call w s₀ s₁ mg mb fa o pm cd doc a vs ns G Y ho (fd_plain hd) hcd hmg hobj hints hlen hg) fun r s' hq => ?_)
  obtain ⟨rfl, h2, h3, h4⟩ := hq
  exact ⟨.inl ⟨.bool true, .bool true, [], rfl, fun _ => rfl, .bool true, post_true l _, fun _ => ⟨List.Pairwise.nil, fun _ hm => (nomatch hm)⟩⟩, h2, h3, h4⟩

/-! ### rules over ANY heap (no ledger) from facts about the written part K: the library's own take a ledger (News) for what they write -/
section
variable {prog : Program} {w : World} {A : Around} {E : Value → Shared → Prop} {s : Shared} {K : Frag}

/-! the whole heap as the ledger: makes every rule that writes through a ledger a rule over any heap -/
def noObjs (h : Heap) : Heap := { h with objs := #[] }
def ledger (h : Heap) (L d : Addr) : List (Addr × Obj) := (List.range h.objs.size).filterMap fun a => if a = L ∨ a = d then none else (h.get? a).map fun o => (a, o)
end
end Att

namespace L2
open PySem PySem.Spec PyProof.Rows

theorem vals_ints : ∀ {vs : List Value} {ns : List Int}, IntsAre vs ns → Vals (ns.map V.int) vs
  | _, _, .nil => .nil
  | _, _, .cons n t h => .cons ⟨t, rfl⟩ (vals_ints h)

/-- nothing is tracked but the script, known to the object (or it is an object of the module) -/
def Only (H : Hp) : Prop := ∀ b, H b = none ∨ ∃ o xs, H b = some (.frz o (.lst xs))

/-- THE HEAD: the law's promise, at the heap behind the top. F, the promise of the law's def, may use that base is part of the heap (so K.In base, base.Ns mainGlobals mg stand in Mod) -/
theorem law_call {P : Program} {w : World} {K : PySem.W.Frag} {mg mb : Str → Option Value} {CX : CXT} {k : Nat} {fa a : Addr} {fd : FuncData} {x : Str} {sp : Sp} {s₁ : Shared} {vs : List Value} {ns : List Int}
    (KX : K.In s₁.heap) (hns : s₁.heap.Ns mainGlobals mg) (hb : s₁.heap.Ns builtinsNs mb) (hbb : ∀ x : Str, x ≠ "__name__" → mb x = bootBuiltins x) (hlim : s₁.heap.NoLimit) (hg : s₁.gens = #[])
    (ha : s₁.heap.get? a = some { cls := .type "list", data := .seq vs.toArray }) (hi : IntsAre vs ns) (hl : ns.length ≤ sizeLine) (hr : Room k callerA)
    (F : ∀ base : Heap, K.In base → base.Ns mainGlobals mg → FnOk P w K mg base CX k fa fd [x] sp) (hbind : ∀ (s : Shared) (u : Value), BindsTo s fd ⟨[u], []⟩ [(x, u)])
    (hsp : ∀ H : Hp, Only H → SqL K H a (ns.map V.int) → sp [.ref a] H (fun v _ => v = .bl true) fun _ _ _ => False)
    (hCX : ∀ H e s', CX [] H s₁ (fun _ _ _ => False) e s' → False) :
    codeAny (model P w) callerA (.call (.ref fa) ⟨[.ref a], []⟩) (fun r s' => r = .ok (.ret (.bool true)) ∧ OldK s₁.heap s'.heap ∧ s'.os = s₁.os ∧ AllBare s'.gens) s₁ := by
  have rv := vals_ints hi
  have lenV := hi.length
  -- from an abstract heap in which nothing but the script may be tracked
  have core : ∀ H : Hp, Only H → SqL K H a (ns.map V.int) → HOk P w H s₁.heap → (∀ b, H b ≠ none → b = a) → (H a ≠ none → K.lookup a = none) →
      codeAny (model P w) callerA (.call (.ref fa) ⟨[.ref a], []⟩) (fun r s' => r = .ok (.ret (.bool true)) ∧ OldK s₁.heap s'.heap ∧ s'.os = s₁.os ∧ AllBare s'.gens) s₁ := by
    intro H hO hS hok hA hK
    have base_of : ∀ {b : Addr} {o : Obj}, s₁.heap.get? b = some o → H b = none → (hidT s₁.heap H).get? b = some o := fun e n => hidT_get e n
    have noA : ∀ {b : Addr} {o : Obj} {es : Array DictEntry} {ep : Nat}, s₁.heap.get? b = some o → o.data = .dict es ep → H b = none := fun {b o es ep} e d => by
      cases q : H b with
      | none => rfl
      | some u =>
        have e' : b = a := hA b (by rw [q]; simp)
        subst e'
        rw [ha] at e; cases e
        have d' : Data.seq vs.toArray _ = Data.dict es ep := d
        cases d'
    have nsK : ∀ {b : Addr} {m : Str → Option Value}, s₁.heap.Ns b m → (hidT s₁.heap H).Ns b m := fun {b m} ⟨o, es, ep, e, d, r⟩ => ⟨o, es, ep, base_of e (noA e d), d, r⟩
    have hKb : K.In (hidT s₁.heap H) := fun b o e => base_of (KX b o e) (by
      cases q : H b with
      | none => rfl
      | some u =>
        have e' : b = a := hA b (by rw [q]; simp)
        subst e'
        rw [hK (by rw [q]; simp)] at e; cases e)
    have hM : Mod K mg (hidT s₁.heap H) := ⟨hKb, nsK hns, ⟨mb, nsK hb, hbb⟩, let ⟨mc, h1, h2⟩ := hlim; ⟨mc, nsK h1, h2⟩⟩
    have e0 : Env0 P w K mg (hidT s₁.heap H) callerA [] s₁ H := ⟨rfl, hM, fun b o e => of_hidT e, Nat.le_of_eq (hidT_size _ _), trivial, fun b hb => absurd (show b ∈ ([] : List Addr) from hb) (by simp), hok, .of_eq hg⟩
    refine codeAny_mono ((F _ hKb (nsK hns)).run callerA [] s₁ H ⟨[.ref a], []⟩ [.ref a] [.ref a] _ _ hr e0 (hbind s₁ (.ref a)) (.cons rfl .nil) (hsp H hO hS)) fun r s' h => ?_
    cases r with
    | error e => exact (hCX H e s' h).elim
    | ok fl =>
      cases fl with
      | next => exact False.elim h
      | brk => exact False.elim h
      | cont => exact False.elim h
      | ret u =>
        obtain ⟨v, H', os, bare, un, hok', r', q⟩ := h
        have q' : v = .bl true := q
        subst q'
        obtain rfl : u = Value.bool true := r'
        refine ⟨rfl, OldK.of_keep fun b o e => ?_, os, bare⟩
        cases q : H b with
        | none => exact un.keep b o e q (by intro z; exact absurd (show b ∈ ([] : List Addr) from z) (by simp)) (by simp)
        | some u =>
          rcases hO b with z | ⟨ob, xs, z⟩
          · rw [q] at z; cases z
          · have z2 := un.frzs b ob _ z
            obtain ⟨e1, _⟩ := hok b _ z
            obtain ⟨e2, _⟩ := hok' b _ z2
            rw [e] at e1; cases e1
            exact e2
  cases hk : K.lookup a with
  | some o =>
    -- the script is one of the module's own objects
    have e := KX a o hk
    rw [ha] at e
    cases e
    refine core (fun _ => none) (fun _ => .inl rfl) (.inr ⟨_, vs.toArray, _, hk, rfl, rfl, rfl, by rw [List.size_toArray, lenV]; exact hl, by simpa using rv⟩) (fun b u z => by have z' : (none : Option HO) = some u := z; cases z') (fun b z => absurd rfl z) fun z => absurd rfl z
  | none =>
    refine core (fun b => if b = a then some (.frz { cls := .type "list", data := .seq vs.toArray } (.lst (ns.map V.int))) else none) (fun b => ?_) (.inl (.inr ⟨{ cls := .type "list", data := .seq vs.toArray }, if_pos rfl⟩)) (fun b u z => ?_) (fun b z => ?_) fun _ => hk
    · by_cases hb : b = a
      · exact .inr ⟨_, _, if_pos hb⟩
      · exact .inl (if_neg hb)
    · by_cases hb : b = a
      · have z' := (if_pos hb).symm.trans z
        cases z'
        subst hb
        exact ⟨ha, by rw [List.length_map]; exact hl, vs, _, rv, ha⟩
      · have z' := (if_neg hb).symm.trans z
        cases z'
    · by_cases hb : b = a
      · exact hb
      · exact absurd (if_neg hb) z
end L2

namespace L2
open PySem PySem.Spec PyProof.Rows

abbrev KOf {K : PySem.W.Frag} {h : Heap} (_ : K.In h) : PySem.W.Frag := K

/-- the goal that k_head leaves (case hc), from the law's promise. F gives the function object fd (K's own) once, then the promise over every base -/
theorem walk_of {l : PySem.W.OpenLaw} {n k : Nat} {q : Program} {loose : List Str} {XP : (Str → Option Value) → Heap → Prop} {YP : World → Heap → Prop} {d : DefRec} {K : Params → PySem.W.Frag} {CX : World → CXT} {sp : World → Sp} {x : Str}
    (hn : l.most = some n) (hn2 : n ≤ sizeLine) (hdf : d.params.defaults = []) (hr : Room k callerA)
    (hY : ∀ (w : World) (h : Heap), YP w h → (K w.params).In h)
    (F : ∀ (w : World) (mg : Str → Option Value) (fa : Addr) (h : Heap), (K w.params).In h → h.Ns mainGlobals mg → mg d.name = some (.ref fa) →
      ∃ fd : FuncData, (∀ (s : Shared) (u : Value), BindsTo s fd ⟨[u], []⟩ [(x, u)]) ∧
        ∀ base : Heap, (K w.params).In base → base.Ns mainGlobals mg → FnOk l.prog w (K w.params) mg base (CX w) k fa fd [x] (sp w))
    (hsp : ∀ (w : World) (H : Hp) (a : Addr) (ns : List Int), ns.length ≤ n → Only H → SqL (K w.params) H a (ns.map V.int) → sp w [.ref a] H (fun v _ => v = .bl true) fun _ _ _ => False)
    (hCX : ∀ (w : World) (H : Hp) (s : Shared) (e : Value) (s' : Shared), CX w [] H s (fun _ _ _ => False) e s' → False) :
    PySem.W.WalkO q loose XP YP l.row.toRowW d [] (fun f vs => PySem.call f vs) := by
  refine Att.attach_call hn hdf fun w s₀ s₁ mg mb fa o pm cd doc a vs ns G Y ho hd hcd hmg hobj hints hlen hg => ?_
  have KX := hY w _ Y
  obtain ⟨fd, hb, hF⟩ := F w mg fa _ KX G.T.g hmg
  exact law_call KX G.T.g G.T.b G.T.builtins G.T.nolimit hg hobj hints (Nat.le_trans hlen hn2) hr hF hb (fun H hO hS => hsp w H a ns hlen hO hS) fun H e s' => hCX w H s₁ e s'
end L2


/-! SHORT WORDS over the layer: a def of the text, its body, what a loop and a test want. -/
namespace L2
open PySem PySem.Spec PyProof.Rows

/-! ### the text by places -/
/-- the j-th statement of a class's body -/
def inClass (s : Stmt) (j : Nat) : Stmt := match s with
  | .ClassDef _ _ _ body _ _ _ _ _ _ _ => body.getD j (.Pass ⟨0, 0, 0, 0⟩)
  | _ => .Pass ⟨0, 0, 0, 0⟩
def defArgs (s : Stmt) : Arguments := match s with
  | .FunctionDef _ a _ _ _ _ _ _ _ _ => a
  | _ => { posonlyargs := [], args := [], vararg := none, kwonlyargs := [], kw_defaults := [], kwarg := none, defaults := [] }
def defBody (s : Stmt) : List Stmt := match s with
  | .FunctionDef _ _ b _ _ _ _ _ _ _ => b
  | _ => []
def defScope (s : Stmt) : Scope := match s with
  | .FunctionDef _ _ _ _ _ _ sc _ _ _ => sc
  | _ => { kind := .function, names := [], isGenerator := false, isCoroutine := false }

/-! ### no exception leaves a def -/
abbrev CX0 : CXT := fun _ _ _ _ _ _ => False
abbrev E0 : XK := fun _ _ _ => False
theorem pass0 {X : Cx} : Passes CX0 X E0 := fun _ _ _ _ _ _ _ h => h.elim

/-! ### a def (or method) of the text as it stands behind the top -/
structure Fun (K : PySem.W.Frag) (x qual : Str) (st : Stmt) (f : Addr) (fd : FuncData) : Prop where
  ex : ∃ (oc : Value) (od : Option Addr) (kV doc pm : Value) (an : Option Addr) (cdv ct : Value) (osl : Array (Option Value)),
    fd = PySem.W.fnOf x qual (defArgs st) (defBody st) (defScope st) .none kV doc pm an cdv ct ∧ K.lookup f = some ⟨oc, od, .func fd, osl⟩ ∧ PySem.W.codeIn K cdv qual = true
  kp : PySem.W.keepIn K (.ref f) = true
section
variable {P : Program} {w : World} {K : PySem.W.Frag} {mg : Str → Option Value} {base : Heap}
/-- THE RULE for a def: its body as a term of rules, and the reading of that term -/
theorem Fun.ok {x qual : Str} {st : Stmt} {f : Addr} {fd : FuncData} {N ps : List Str} {k : Nat} {sp : Sp} (F : Fun K x qual st f fd) (S : FnScope N ps (defScope st)) (len : ∀ vs H Q E, sp vs H Q E → vs.length = ps.length)
    (hbody : ∀ (cdv : Value) (A : Around) (outer : List Env) (s : Shared) (H : Hp) (vs : List V) (Q : VK) (E : XK), Room k (A.deeper (envOfC qual (defScope st) s.heap.objs.size f cdv)) → sp vs H Q E →
      ∃ t, PSs (cxOf CX0 P w K mg base N qual (defScope st) f cdv A outer s H E).nox (defBody st) t ∧ t { nx := fun _ H' => Q .non H', rt := Q } (start N vs) H) : FnOk P w K mg base CX0 (k + 1) f fd ps sp := by
  obtain ⟨oc, od, kV, doc, pm, an, cdv, ct, osl, rfl, lk, hcd⟩ := F.ex
  refine fn_of lk hcd S len fun A outer s H vs Q E hr hsp => ?_
  obtain ⟨t, h, q⟩ := hbody cdv A outer s H vs Q E hr hsp
  exact ⟨t, h.nox, q⟩
/-- how its arguments bind (no defaults): h is «fun _ _ _ _ _ _ us hl => match us, hl with | [_, _], _ => rfl», one _ a parameter -/
theorem Fun.binds {x qual : Str} {st : Stmt} {f : Addr} {fd : FuncData} {ps : List Str} (F : Fun K x qual st f fd)
    (h : ∀ (kV doc pm : Value) (an : Option Addr) (cdv ct : Value) (us : List Value), us.length = ps.length → bindArgs (PySem.W.fnOf x qual (defArgs st) (defBody st) (defScope st) .none kV doc pm an cdv ct) ⟨us, []⟩ = pure (ps.zip us)) : Binds K fd ps [] := by
  obtain ⟨oc, od, kV, doc, pm, an, cdv, ct, osl, rfl, lk, hcd⟩ := F.ex
  exact .all (h kV doc pm an cdv ct)
theorem fun_mk {x qual : Str} {st : Stmt} {f : Addr} {oc : Value} {od an : Option Addr} {osl : Array (Option Value)} {kV doc pm cdv ct : Value} (l : K.lookup f = some ⟨oc, od, .func (PySem.W.fnOf x qual (defArgs st) (defBody st) (defScope st) .none kV doc pm an cdv ct), osl⟩)
    (c : PySem.W.codeIn K cdv qual = true) (k : PySem.W.keepIn K (.ref f) = true) : Fun K x qual st f (PySem.W.fnOf x qual (defArgs st) (defBody st) (defScope st) .none kV doc pm an cdv ct) := ⟨⟨oc, od, kV, doc, pm, an, cdv, ct, osl, rfl, l, c⟩, k⟩
end
/-! ### expressions in short: the name that stands in the i-th slot -/
section
variable {X : Cx}
theorem pv (i : Nat) {x : Str} {pos : Pos} (hN : X.N[i]? = some x := by rfl) (hv : Vis X.env.scope x := by first | exact Or.inl rfl | exact Or.inr (Or.inl rfl) | exact Or.inr (Or.inr rfl)) (hd : (x == ("__debug__" : Str)) = false := by decide)
    (hcd : (x == ("__classdict__" : Str)) = false := by decide) : PE X (.Name x pos) (tVar i) := pe_var hN hv hd hcd
end

/-! ### tests -/
theorem iteF {A B : Prop} (h : B) : if false = true then A else B := by
  rw [if_neg Bool.false_ne_true]
  exact h
theorem iteT {A B : Prop} (h : A) : if true = true then A else B := by
  rw [if_pos rfl]
  exact h
theorem ite2 {c A B : Prop} [Decidable c] (h1 : c → A) (h2 : ¬ c → B) : if c then A else B := by
  by_cases h : c
  · rw [if_pos h]
    exact h1 h
  · rw [if_neg h]
    exact h2 h
/-! ### heaps -/
/-- all that was tracked is as it was -/
def Same (H H' : Hp) : Prop := ∀ b o, H b = some o → H' b = some o
theorem Same.refl (H : Hp) : Same H H := fun _ _ h => h
theorem Same.trans {H H1 H2 : Hp} (a : Same H H1) (b : Same H1 H2) : Same H H2 := fun c o h => b c o (a c o h)
theorem Same.free {H H' : Hp} (e : Same H H') {l : Addr} (h : H' l = Option.none) : H l = Option.none := by
  cases q : H l with
  | none => rfl
  | some o =>
    rw [e l o q] at h
    cases h
theorem Same.seq {K : PySem.W.Frag} {H H' : Hp} {a : Addr} {xs : List V} (e : Same H H') (h : SqL K H a xs) : SqL K H' a xs := by
  rcases h with (h | ⟨o, h⟩) | h
  · exact .inl (.inl (e _ _ h))
  · exact .inl (.inr ⟨o, e _ _ h⟩)
  · exact .inr h

/-! ### a dict's pairs: keys that differ -/
section
variable {κ : Type} [DecidableEq κ]
end
end L2

/-! ### a comprehension of one clause: its block is a context of its own -/
namespace L2
open PySem PySem.Spec PyProof.Rows

/-- the cells that a block draws from around it -/
def clOf (env : Env) : List (Str × NameKind) → List (Str × Addr) → List (Str × Addr)
  | [], acc => acc
  | y :: r, acc => clOf env r (if (y.2 == NameKind.free) = true then (y.1, (env.cells.lookup y.1).getD 0) :: acc else acc)

theorem closure_go {env : Env} : ∀ (ns : List (Str × NameKind)) (acc : List (Str × Addr)), (∀ y ∈ ns, y.2 = .free → ∃ c, env.cells.lookup y.1 = some c) →
    (forIn ns acc fun (x : Str × NameKind) (cs : List (Str × Addr)) => if (x.2 == NameKind.free) = true then (cellOf env x.1 >>= fun a => pure (ForInStep.yield ((x.1, a) :: cs))) else (pure (ForInStep.yield cs) : Sem (ForInStep (List (Str × Addr))))) = pure (clOf env ns acc)
  | [], acc, _ => rfl
  | y :: r, acc, h => by
    rw [List.forIn_cons]
    have ih := fun a => closure_go r a fun z hz => h z (List.mem_cons_of_mem _ hz)
    by_cases hk : (y.2 == NameKind.free) = true
    · obtain ⟨c, hc⟩ := h y List.mem_cons_self (eq_of_beq hk)
      have e : cellOf env y.1 = pure c := by unfold cellOf; rw [hc]
      rw [if_pos hk, e]
      show (forIn r ((y.1, c) :: acc) _ : Sem (List (Str × Addr))) = _
      rw [ih]
      show pure (clOf env r ((y.1, c) :: acc)) = pure (clOf env r (if (y.2 == NameKind.free) = true then (y.1, (env.cells.lookup y.1).getD 0) :: acc else acc))
      rw [if_pos hk, hc]
      rfl
    · rw [if_neg hk]
      show (forIn r acc _ : Sem (List (Str × Addr))) = _
      rw [ih]
      show pure (clOf env r acc) = pure (clOf env r (if (y.2 == NameKind.free) = true then (y.1, (env.cells.lookup y.1).getD 0) :: acc else acc))
      rw [if_neg hk]

theorem closure_of {scope : Scope} {env : Env} (h : ∀ y ∈ scope.names, y.2 = .free → ∃ c, env.cells.lookup y.1 = some c) : closureFor scope env = pure (clOf env scope.names []) := by
  have q := closure_go (env := env) scope.names [] h
  have e : closureFor scope env = ((forIn scope.names ([] : List (Str × Addr)) fun (x : Str × NameKind) (cs : List (Str × Addr)) => if (x.2 == NameKind.free) = true then (cellOf env x.1 >>= fun a => pure (ForInStep.yield ((x.1, a) :: cs))) else (pure (ForInStep.yield cs) : Sem (ForInStep (List (Str × Addr))))) >>= fun cs => pure cs) := rfl
  rw [e, q]
  rfl

theorem clOf_from {env : Env} : ∀ (ns : List (Str × NameKind)) (acc : List (Str × Addr)) {x : Str} {c : Addr}, (∀ y ∈ ns, y.2 = .free → ∃ c, env.cells.lookup y.1 = some c) → (clOf env ns acc).lookup x = some c → env.cells.lookup x = some c ∨ acc.lookup x = some c
  | [], acc, x, c, _, h => .inr h
  | y :: r, acc, x, c, h, e => by
    have e : (clOf env r (if (y.2 == NameKind.free) = true then (y.1, (env.cells.lookup y.1).getD 0) :: acc else acc)).lookup x = some c := e
    rcases clOf_from r _ (fun z hz => h z (List.mem_cons_of_mem _ hz)) e with q | q
    · exact .inl q
    · by_cases hk : (y.2 == NameKind.free) = true
      · rw [if_pos hk, List.lookup_cons] at q
        obtain ⟨d, hd⟩ := h y List.mem_cons_self (eq_of_beq hk)
        cases hx : x == y.1 with
        | true =>
          rw [hx] at q
          dsimp only at q
          rw [hd] at q
          have hxy : x = y.1 := eq_of_beq hx
          subst hxy
          exact .inl (hd.trans q)
        | false =>
          rw [hx] at q
          exact .inr q
      · rw [if_neg hk] at q
        exact .inr q
theorem clOf_some {env : Env} : ∀ (ns : List (Str × NameKind)) (acc : List (Str × Addr)) {x : Str}, ((x, NameKind.free) ∈ ns ∨ ∃ c, acc.lookup x = some c) → ∃ c, (clOf env ns acc).lookup x = some c
  | [], acc, x, h => by
    rcases h with h | h
    · cases h
    · exact h
  | y :: r, acc, x, h => by
    show ∃ c, (clOf env r (if (y.2 == NameKind.free) = true then (y.1, (env.cells.lookup y.1).getD 0) :: acc else acc)).lookup x = some c
    refine clOf_some r _ ?_
    rcases h with h | ⟨c, hc⟩
    · rcases List.mem_cons.mp h with e | h
      · subst e
        refine .inr ⟨(env.cells.lookup x).getD 0, ?_⟩
        rw [if_pos (by rfl), List.lookup_cons, beq_self_eq_true]
      · exact .inl h
    · by_cases hk : (y.2 == NameKind.free) = true
      · rw [if_pos hk]
        cases hx : x == y.1 with
        | true => exact .inr ⟨_, by rw [List.lookup_cons, hx]⟩
        | false => exact .inr ⟨c, by rw [List.lookup_cons, hx]; exact hc⟩
      · rw [if_neg hk]
        exact .inr ⟨c, hc⟩

theorem relabel_from {env : Env} {x : Str} {k : NameKind} : ∀ (ns : List (Str × NameKind)), (ns.map fun (n, k) => if (k == NameKind.free && env.scope.kind == .function && env.kindOf n == some .cell) then (n, NameKind.cell) else (n, k)).lookup x = some k →
    ns.lookup x = some k ∨ (ns.lookup x = some .free ∧ k = .cell)
  | [], h => by cases h
  | (n, j) :: r, h => by
    have ih := relabel_from (env := env) (x := x) (k := k) r
    rw [List.map_cons] at h
    dsimp only at h
    by_cases hc : (j == NameKind.free && env.scope.kind == .function && env.kindOf n == some .cell) = true
    · rw [if_pos hc, List.lookup_cons] at h
      rw [List.lookup_cons]
      cases hx : x == n with
      | true =>
        rw [hx] at h
        have hj : (j == NameKind.free) = true := by
          rw [Bool.and_eq_true, Bool.and_eq_true] at hc
          exact hc.1.1
        have hj := eq_of_beq hj
        subst hj
        exact .inr ⟨rfl, (Option.some.inj h).symm⟩
      | false =>
        rw [hx] at h
        exact ih h
    · rw [if_neg hc, List.lookup_cons] at h
      rw [List.lookup_cons]
      cases hx : x == n with
      | true =>
        rw [hx] at h
        exact .inl h
      | false =>
        rw [hx] at h
        exact ih h
theorem relabel_free {env : Env} {x : Str} : ∀ (ns : List (Str × NameKind)), ns.lookup x = some .free →
    (ns.map fun (n, k) => if (k == NameKind.free && env.scope.kind == .function && env.kindOf n == some .cell) then (n, NameKind.cell) else (n, k)).lookup x = some .cell ∨
    (ns.map fun (n, k) => if (k == NameKind.free && env.scope.kind == .function && env.kindOf n == some .cell) then (n, NameKind.cell) else (n, k)).lookup x = some .free
  | [], h => by cases h
  | (n, j) :: r, h => by
    have ih := relabel_free (env := env) (x := x) r
    rw [List.map_cons]
    dsimp only
    rw [List.lookup_cons] at h
    by_cases hc : (j == NameKind.free && env.scope.kind == .function && env.kindOf n == some .cell) = true
    · rw [if_pos hc, List.lookup_cons]
      cases hx : x == n with
      | true => exact .inl rfl
      | false =>
        rw [hx] at h
        exact ih h
    · rw [if_neg hc, List.lookup_cons]
      cases hx : x == n with
      | true =>
        rw [hx] at h
        exact .inr h
      | false =>
        rw [hx] at h
        exact ih h

/-- the context of the block: C its names' place, s and H ahead of it, fp what its iterator turns -/
def cxComp (X : Cx) (N : List Str) (scope : Scope) (cl : List (Str × Addr)) (C : Addr) (s : Shared) (H : Hp) (fp : List Addr) : Cx where
  prog := X.prog
  w := X.w
  K := X.K
  mg := X.mg
  base := X.base
  A := X.A
  N := N
  s₀ := s
  H₀ := H
  env := compEnvC scope cl C X.env
  outer := X.stack
  stack := X.stack
  ex := fp
  fn := fun _ => false
  calm := X.calm
  pn := []
  xe := fun _ _ => False

/-- the block's values at the beginning of a turn: k names of its own, and those from around (by their places there) -/
def cσ (k : Nat) (js : List Nat) (σ : St) : St := List.replicate k none ++ js.map fun j => σ.getD j none

/-- what the scope of a block must have -/
structure CScope (X : Cx) (N : List Str) (scope : Scope) (k : Nat) (js : List Nat) : Prop where
  kind : scope.kind = .function
  cell : ∀ y ∈ scope.names, y.2 ≠ .cell
  loc : ∀ y ∈ scope.names, y.2 = .local → scope.names.lookup y.1 = some .local
  free : ∀ y ∈ scope.names, y.2 = .free → X.env.kindOf y.1 = some .cell ∨ X.env.kindOf y.1 = some .free
  len : N.length = k + js.length
  names : ∀ (i j : Nat), js[i]? = some j → X.N[j]? = N[k + i]?
  js : ∀ (i : Nat) (x : Str), N[k + i]? = some x → scope.names.lookup x = some .free

section
variable {X : Cx} {pins : List (Addr × Obj)} {σ : St} {H : Hp} {s : Shared} {N : List Str} {scope : Scope} {k : Nat} {js : List Nat}

theorem CScope.cells (S : CScope X N scope k js) (ok : X.Ok) : ∀ y ∈ scope.names, y.2 = .free → ∃ c, X.env.cells.lookup y.1 = some c := fun y hy hf => ok.has _ (S.free y hy hf)

theorem inv_comp {fp : List Addr} {h1 : Heap} {t1 : Nat} (I : Inv X pins σ H s) (S : CScope X N scope k js) (f : ∀ b ∈ fp, FpOk X pins H b) (fo : ∀ b ∈ fp, ∃ o, s.heap.get? b = some o)
    (hn : h1.Ns s.heap.objs.size fun _ => none) (hk : ∀ b o, s.heap.get? b = some o → h1.get? b = some o) :
    Inv (cxComp X N scope (clOf X.env scope.names []) s.heap.objs.size s H fp) [] (cσ k js σ) H { s with heap := h1, toks := t1 } := by
  have cs := S.cells I.ok
  have clE : ∀ {x : Str} {c : Addr}, (clOf X.env scope.names []).lookup x = some c → X.env.cells.lookup x = some c := fun {x c} e => by
    rcases clOf_from scope.names [] cs e with q | q
    · exact q
    · cases q
  refine ⟨⟨I.ok.mod, S.kind, I.ok.glob, I.ok.blt, Nat.le_refl _, fun x y c e1 e2 => I.ok.inj x y c (clE e1) (clE e2), fun x hx => ?_, fun x c hf _ => (nomatch hf), I.ok.hd, I.ok.frames, .inl rfl, fun b hb => ⟨?_, fun x c e => ?_⟩, I.bs,
    Nat.le_trans I.ok.bsz I.sz, fun b o e hb => ?_, fun b hb z => ?_, I.stack, I.stkFree⟩, rfl, I.bare, Un.kept hk, ⟨_, hn, fun i x v e1 e2 e3 => ?_⟩, fun x c e => ?_, I.hok.fresh (Nat.le_refl _), fun x c e => I.freeC x c (clE e), fun p hp => ?_, I.hok.kept hk, ?_⟩
  · have hx : (relabel scope X.env).names.lookup x = some .cell ∨ (relabel scope X.env).names.lookup x = some .free := hx
    have fr : scope.names.lookup x = some .free := by
      rcases hx with q | q
      · rcases relabel_from scope.names q with z | z
        · exact absurd rfl (S.cell _ (PySem.mem_of_lookup z))
        · exact z.1
      · rcases relabel_from scope.names q with z | z
        · exact z
        · exact z.1
    exact clOf_some scope.names [] (.inl (PySem.mem_of_lookup fr))
  · obtain ⟨o, ho⟩ := fo b hb
    exact Nat.ne_of_lt (Heap.lt_size ho)
  · exact (f b hb).2.2.2.2.1 x c (clE e)
  · rcases (f b hb).2.2.2.1 with z | z
    · exact I.ok.noex b o e z
    · exact absurd (Nat.lt_of_lt_of_le (Nat.lt_of_lt_of_le (Heap.lt_size e) I.ok.bsz) z) (Nat.lt_irrefl _)
  · rcases List.mem_cons.mp (I.stkSub b z) with q | q
    · exact (f b hb).2.1 q
    · exact (f b hb).2.2.1 q
  · have e1 : N[i]? = some x := e1
    have hi : k ≤ i := by
      by_cases hi : i < k
      · unfold cσ at e2
        rw [List.getElem?_append_left (by rw [List.length_replicate]; exact hi), List.getElem?_replicate, if_pos hi] at e2
        cases e2
      · omega
    obtain ⟨d, rfl⟩ : ∃ d, i = k + d := ⟨i - k, by omega⟩
    unfold cσ at e2
    rw [List.getElem?_append_right (by rw [List.length_replicate]; omega), List.length_replicate, List.getElem?_map] at e2
    have ed : k + d - k = d := by omega
    rw [ed] at e2
    cases ej : js[d]? with
    | none => rw [ej] at e2; cases e2
    | some j =>
      rw [ej] at e2
      have e2 : σ.getD j none = some v := Option.some.inj e2
      have e2' : σ[j]? = some (some v) := by
        rw [List.getD_eq_getElem?_getD] at e2
        cases q : σ[j]? with
        | none => rw [q] at e2; cases e2
        | some z => rw [q] at e2; rw [show z = some v from e2]
      have en : X.N[j]? = some x := (S.names d j ej).trans e1
      have fr := S.js d x e1
      have kx := S.free _ (PySem.mem_of_lookup fr) rfl
      obtain ⟨m, _, hl⟩ := I.loc
      obtain ⟨u, r, l⟩ := hl j x v en e2' (by rcases kx with q | q; exact .inr (.inl q); exact .inr (.inr q))
      refine ⟨u, r, .inr ⟨?_, ?_⟩⟩
      · exact relabel_free (env := X.env) scope.names fr
      · rcases l with ⟨l, _⟩ | ⟨_, c, ec, ic⟩
        · rcases kx with q | q
          · dsimp only at q; rw [q] at l; cases l
          · dsimp only at q; rw [q] at l; cases l
        · obtain ⟨c', e'⟩ := clOf_some (env := X.env) scope.names [] (.inl (PySem.mem_of_lookup fr))
          have e'' := clE e'
          rw [ec] at e''
          cases e''
          exact ⟨c, e', ic.keeps hk⟩
  · obtain ⟨v, q⟩ := I.cell x c (clE e)
    exact ⟨v, q.keeps hk⟩
  · have hp : p ∈ ([] : List (Addr × Obj)) := hp
    cases hp
  · show (cσ k js σ).length = N.length
    unfold cσ
    rw [List.length_append, List.length_replicate, List.length_map, S.len]
end

/-- what is known there is known here -/
def SubS (σ σ' : St) : Prop := ∀ (i : Nat) v, σ[i]? = some (some v) → σ'[i]? = some (some v)
theorem SubS.refl (σ : St) : SubS σ σ := fun _ _ h => h
/-- a name of the block's own is stored -/
theorem SubS.own {σ σ' : St} {k i : Nat} {js : List Nat} {v : Option V} (h : SubS (cσ k js σ) σ') (hi : i < k) : SubS (cσ k js σ) (σ'.set i v) := fun j u e => by
  have hj : j ≠ i := fun z => by
    subst z
    unfold cσ at e
    rw [List.getElem?_append_left (by rw [List.length_replicate]; exact hi), List.getElem?_replicate, if_pos hi] at e
    cases e
  rw [List.getElem?_set_ne (Ne.symm hj)]
  exact h j u e

/-- a comprehension: what its clause walks; its own names, those from around; the target, the test, the element -/
def CompGoal (J : It) (k : Nat) (js : List Nat) (g : TG) (tt : TT) (te : TE) (σ : St) (H1 : Hp) (Q : VK) : Prop := ∀ p, H1 p = none → ∃ W : Nat → Nat → List V → Hp → Prop, (∃ m, W 0 m [] (upd H1 p (.lst []))) ∧
  ∀ i m ys H, W i m ys H → H p = some (.lst ys) ∧ ((J.stop i H ∧ Q (.ref p) H) ∨ (J.go i H ∧ ys.length < sizeLine ∧ ∀ x H', J.yld i H x H' → g x (cσ k js σ) H' fun σ2 H2 => SubS (cσ k js σ) σ2 ∧ tt σ2 H2 fun b H3 =>
    if b = true then te σ2 H3 fun y H4 => H4 p = some (.lst ys) ∧ ∃ m', m' < m ∧ W (i + 1) m' (ys ++ [y]) (upd H4 p (.lst (ys ++ [y]))) else ∃ m', m' < m ∧ W (i + 1) m' ys H3))
def tComp (wi : TI) (k : Nat) (js : List Nat) (g : TG) (tt : TT) (te : TE) : TE := fun σ H Q => wi σ H fun J H1 => CompGoal J k js g tt te σ H1 Q

/-- no test -/
def tYes : TT := fun _ H Q => Q true H

/-- the tests of a clause -/
def PIfs (Y : Cx) (ifs : List Expr) (t : TT) : Prop :=
  ∀ (pins : List (Addr × Obj)) (s : Shared) (σ : St) (H : Hp) (Q : Bool → Hp → Prop), Inv Y pins σ H s → t σ H Q →
    wpAny (model Y.prog Y.w) Y.A (forIn ifs true fun c r => if r = true then do let ok ← isTrue c Y.env (eval c Y.env); pure (ForInStep.yield ok) else pure (ForInStep.yield r)) (TP Y pins σ Q) Y.xe s
theorem pif0 {Y : Cx} : PIfs Y [] tYes := fun _ _ _ H _ I h => wpAny_tests_nil ⟨H, I, h⟩
theorem pif1 {Y : Cx} {c : Expr} {t : TT} (h : PT Y c t) : PIfs Y [c] t := fun pins s σ H Q I hq => wpAny_tests_one (h pins s σ H Q I hq)

section
variable {prog : Program} {w : World} {A : Around} {R : Result → Shared → Prop} {s : Shared}
theorem compLoop_any {elt target iter : Expr} {ifs : List Expr} {scope : Scope} {pos : Pos} {it acc : Value} {env : Env} (I : Nat → Shared → Prop)
    (turn : ∀ n s, I n s → wpAny (model prog w) A (pyNext it) (fun r s₁ => match r with
      | none => R (.ok .next) s₁
      | some v => wpAny (model prog w) A (letOwnedTupleGo target it v) (fun _ s₀ => wpAny (model prog w) A (assign target env v) (fun _ s₂ =>
          wpAny (model prog w) A (forIn ifs true fun c r => if r = true then do let ok ← isTrue c env (eval c env); pure (ForInStep.yield ok) else pure (ForInStep.yield r)) (fun ok s₃ =>
            if ok = true then wpAny (model prog w) A (eval elt env) (fun x s₄ =>
              wpAny (model prog w) A (call (.builtin "list.append") [acc, x]) (fun _ s₅ => ∃ m, m < n ∧ I m s₅) (fun _ _ => False) s₄) (fun _ _ => False) s₃
            else ∃ m, m < n ∧ I m s₃) (fun _ _ => False) s₂) (fun _ _ => False) s₀) (fun _ _ => False) s₁) (fun _ _ => False) s)
    (n : Nat) (h : I n s) :
    codeAny (model prog w) A (.compLoop (.ListComp elt [⟨target, iter, ifs, 0⟩] scope pos) 0 it acc env) R s := by
  refine codeAny_loop rfl I (fun n s hI => ?_) n h
  show wpAny _ A ((compTurn (.ListComp elt [⟨target, iter, ifs, 0⟩] scope pos) 0 it acc env).onRaise (fun x => do noteFrame x env; theTreesLotGoes x)) _ _ s
  refine wpAny_noted ?_
  rw [compTurn_list]
  refine wpAny_bind (wpAny_standAt (wpAny_bind (wpAny_mono (turn n s hI) (fun r s₁ h₁ => ?_) fun _ _ h' => h'.elim)))
  cases r with
  | none => exact wpAny_pure h₁
  | some v =>
    refine wpAny_bind (wpAny_mono h₁ (fun _ s₀ h₀ => ?_) fun _ _ h' => h'.elim)
    refine wpAny_bind (wpAny_mono h₀ (fun _ s₂ h₂ => wpAny_bind (wpAny_mono h₂ (fun ok s₃ h₃ => ?_) fun _ _ h' => h'.elim)) fun _ _ h' => h'.elim)
    cases ok with
    | false => exact wpAny_pure ⟨rfl, h₃⟩
    | true =>
      exact wpAny_bind (wpAny_bind (wpAny_mono h₃ (fun x s₄ h₄ => wpAny_bind (wpAny_mono h₄ (fun _ s₅ h₅ => wpAny_pure (wpAny_pure ⟨rfl, h₅⟩)) fun _ _ h' => h'.elim)) fun _ _ h' => h'.elim))
end

section
variable {X : Cx} {tg iter elt : Expr} {ifs : List Expr} {scope : Scope} {pos : Pos} {N : List Str} {k : Nat} {js : List Nat} {wi : TI} {g : TG} {tt : TT} {te : TE}

/-- behind the block: what the context around it holds -/
theorem comp_core {pins : List (Addr × Obj)} {s2 : Shared} {σ : St} {H2 : Hp} {it : Addr} {fp : List Addr} {tn : Nat → Heap → Prop} {J : It} {Q : VK} {RR : Value → Addr → Result → Shared → Prop} {E : Value → Shared → Prop} (hc : X.calm = true) (S : CScope X N scope k js)
    (hb : ∀ (cl : List (Str × Addr)) (C : Addr) (s : Shared) (H : Hp) (fp : List Addr), PG (cxComp X N scope cl C s H fp) tg g ∧ PIfs (cxComp X N scope cl C s H fp) ifs tt ∧ PE (cxComp X N scope cl C s H fp) elt te)
    (I2 : Inv X pins σ H2 s2) (T : Turn X.prog X.w X.K tg J fp it tn) (st2 : tn 0 s2.heap) (f2 : ∀ b ∈ fp, FpOk X pins H2 b)
    (h : ∀ p, H2 p = none → ∃ W : Nat → Nat → List V → Hp → Prop, (∃ m, W 0 m [] (upd H2 p (.lst []))) ∧
      ∀ i m ys H, W i m ys H → H p = some (.lst ys) ∧ ((J.stop i H ∧ Q (.ref p) H) ∨ (J.go i H ∧ ys.length < sizeLine ∧ ∀ x H', J.yld i H x H' → g x (cσ k js σ) H' fun σ2 H2 => SubS (cσ k js σ) σ2 ∧ tt σ2 H2 fun b H3 =>
        if b = true then te σ2 H3 fun y H4 => H4 p = some (.lst ys) ∧ ∃ m', m' < m ∧ W (i + 1) m' (ys ++ [y]) (upd H4 p (.lst (ys ++ [y]))) else ∃ m', m' < m ∧ W (i + 1) m' ys H3)))
    (hR : ∀ (p C : Addr) (s' : Shared) (H' : Hp) (m : Str → Option Value), Inv X pins σ H' s' → Q (.ref p) H' → s'.heap.Ns C m → H' C = none → C ≠ X.env.locals → X.s₀.heap.objs.size ≤ C → (∀ x c, X.env.cells.lookup x = some c → c ≠ C) → (∀ q ∈ X.pn ++ pins, q.1 ≠ C) → RR (.ref p) C (.ok .next) s') :
    wpAny (model X.prog X.w) X.A (newList []) (fun acc s₃ => wpAny (model X.prog X.w) X.A (newFunctionEnv scope X.env.globals (clOf X.env scope.names []) [] X.env.qual none .none (some X.env)) (fun cenv s₄ =>
      codeAny (model X.prog X.w) X.A (.compStart (.ListComp elt [⟨tg, iter, ifs, 0⟩] scope pos) 0 (.ref it) acc { cenv with scope := relabel scope X.env }) (RR acc cenv.locals) s₄) E s₃) E s2 := by
  have hf : H2 s2.heap.objs.size = none := I2.hok.fresh (Nat.le_refl _)
  obtain ⟨W, ⟨m0, w0⟩, turn⟩ := h s2.heap.objs.size hf
  have I3 : Inv X pins σ (upd H2 s2.heap.objs.size (.lst [])) { s2 with heap := s2.heap.push { cls := .type "list", dict := none, data := .seq ([] : List Value).toArray }, toks := s2.toks } := I2.lnew (ys := []) .nil (Nat.zero_le _)
  refine wpAny_newObj_type (wpAny_newFunctionEnv S.cell (by intro y hy; simp at hy) (fun h₁ hns₁ hsb₁ => ?_) S.kind)
  dsimp only at hns₁ hsb₁ ⊢
  generalize hp : s2.heap.objs.size = p at *
  generalize hH3 : s2.heap.push { cls := .type "list", dict := none, data := .seq ([] : List Value).toArray } = g3 at hns₁ hsb₁ I3 ⊢
  have k23 : ∀ b o, s2.heap.get? b = some o → g3.get? b = some o := fun b o e => hH3 ▸ Heap.get?_push_of_some _ e
  have k34 : ∀ b o, g3.get? b = some o → h₁.get? b = some o := fun b o e => hsb₁.extBut b o (Nat.ne_of_lt (Heap.lt_size e)) (Heap.get?_push_of_some _ e)
  have npf : ∀ b ∈ fp, b ≠ p := fun b hb z => by
    obtain ⟨o, ho, _⟩ := T.obj _ _ st2 b hb
    have := Heap.lt_size ho
    rw [hp, z] at this
    exact Nat.lt_irrefl _ this
  have f3 : ∀ b ∈ fp, FpOk X pins (upd H2 p (.lst [])) b := fun b hb => ⟨by rw [upd_ne (npf b hb)]; exact (f2 b hb).1, (f2 b hb).2⟩
  have fo3 : ∀ b ∈ fp, ∃ o, g3.get? b = some o := fun b hb => by
    obtain ⟨o, ho, _⟩ := T.obj _ _ st2 b hb
    exact ⟨o, k23 b o ho⟩
  have J0 := inv_comp (s := { s2 with heap := g3, toks := s2.toks }) (h1 := h₁) (t1 := s2.toks + ([] : List (Str × Value)).length) I3 S f3 fo3 hns₁ k34
  have st4 : tn 0 h₁ := T.keep _ _ _ st2 fun b hb o e => k34 b o (k23 b o e)
  obtain ⟨hG, hT, hE⟩ := hb (clOf X.env scope.names []) g3.objs.size { s2 with heap := g3, toks := s2.toks } (upd H2 p (.lst [])) fp
  generalize hY : cxComp X N scope (clOf X.env scope.names []) g3.objs.size { s2 with heap := g3, toks := s2.toks } (upd H2 p (.lst [])) fp = Y at *
  have yp : Y.prog = X.prog := by rw [← hY]; rfl
  have yw : Y.w = X.w := by rw [← hY]; rfl
  have yK : Y.K = X.K := by rw [← hY]; rfl
  have yA : Y.A = X.A := by rw [← hY]; rfl
  have yc : Y.calm = true := by rw [← hY]; exact hc
  have yx : Y.xe = fun _ _ => False := by rw [← hY]; rfl
  have ye : Y.env = compEnvC scope (clOf X.env scope.names []) g3.objs.size X.env := by rw [← hY]; rfl
  have ypn : Y.pn = [] := by rw [← hY]; rfl
  have yex : Y.ex = fp := by rw [← hY]; rfl
  have yfs : Y.fs = frs X.stack := by rw [← hY]; rfl
  -- the iterator's records, seen from the block
  have clE : ∀ {x : Str} {c : Addr}, (clOf X.env scope.names []).lookup x = some c → X.env.cells.lookup x = some c := fun {x c} e => by
    rcases clOf_from scope.names [] (S.cells I2.ok) e with q | q
    · exact q
    · cases q
  have stat : ∀ {H' : Hp}, (∀ b ∈ fp, H' b = none) → ∀ b ∈ fp, FpOk Y [] H' b := fun hn b hb => by
    refine ⟨hn b hb, ?_, ?_, ?_, fun x c e => ?_, fun q hq => ?_⟩
    · rw [ye]
      obtain ⟨o, ho⟩ := fo3 b hb
      exact Nat.ne_of_lt (Heap.lt_size ho)
    · rw [yfs]
      intro z
      rcases List.mem_cons.mp (I2.stkSub b z) with q | q
      · exact (f2 b hb).2.1 q
      · exact (f2 b hb).2.2.1 q
    · rw [yex]; exact .inl hb
    · rw [ye] at e
      exact (f2 b hb).2.2.2.2.1 x c (clE e)
    · rw [ypn] at hq; cases hq
  have endH : ∀ {σ' : St} {H' : Hp} {s' : Shared}, Inv Y [] σ' H' s' → Q (.ref p) H' → RR (.ref p) g3.objs.size (.ok .next) s' := fun {σ' H' s'} I' q => by
    have u := I'.base
    have ho := I'.os
    rw [yfs, yex] at u
    subst hY
    have IX : Inv X pins σ H' s' := I3.call' (ch := fp) ho u I'.hok I'.bare fun b hb => ⟨(f2 b hb).2.2.2.1, (f2 b hb).2.1, (f2 b hb).2.2.2.2.1, (f2 b hb).2.2.2.2.2⟩
    obtain ⟨m, hn, _⟩ := I'.loc
    refine hR p g3.objs.size s' H' m IX q hn I'.free (fun z => ?_) (Nat.le_trans I3.sz (Nat.le_refl _)) (fun x c e z => ?_) fun r hr z => ?_
    · exact absurd (z ▸ I3.lt) (Nat.lt_irrefl _)
    · obtain ⟨v, o, ho, _⟩ := I3.cell x c e
      exact absurd (z ▸ Heap.lt_size ho) (Nat.lt_irrefl _)
    · obtain ⟨ho, _⟩ := I3.pin r hr
      exact absurd (z ▸ Heap.lt_size ho) (Nat.lt_irrefl _)
  have loop : codeAny (model X.prog X.w) X.A (.compLoop (.ListComp elt [⟨tg, iter, ifs, 0⟩] scope pos) 0 (.ref it) (.ref p) (compEnvC scope (clOf X.env scope.names []) g3.objs.size X.env)) (RR (.ref p) g3.objs.size) { s2 with heap := h₁, toks := s2.toks + ([] : List (Str × Value)).length } := by
    refine compLoop_any (fun n s' => ∃ i ys H', Inv Y [] (cσ k js σ) H' s' ∧ tn i s'.heap ∧ (∀ b ∈ fp, H' b = none) ∧ W i n ys H') ?_ m0 ⟨0, [], _, J0, st4, fun b hb => (f3 b hb).1, w0⟩
    rintro n s5 ⟨i, ys, H5, I5, st5, fr5, w5⟩
    obtain ⟨hys, w5⟩ := turn i n ys H5 w5
    rw [← yp, ← yw, ← yA, ← ye]
    have T' : Turn Y.prog Y.w Y.K tg J fp it tn := by rw [yp, yw, yK]; exact T
    rcases w5 with ⟨stop, q⟩ | ⟨go, hz, step⟩
    · refine thn (T'.done Y rfl rfl rfl yc i [] s5 _ H5 _ I5 (stat fr5) st5 stop) fun r s6 ⟨hr, I6⟩ => ?_
      subst hr
      exact endH I6 q
    · refine thn (T'.item Y rfl rfl rfl yc i [] s5 _ H5 _ I5 (stat fr5) st5 go) fun r s6 ⟨u, hr, h6⟩ => ?_
      subst hr
      refine thn h6 fun _ s7 ⟨x, H7, I7, r7, y7, st7, fr7⟩ => ?_
      have I7' := I7.pinned (stat fr7) (T.obj _ _ st7)
      have fin : ∀ {σ8 : St} {H8 : Hp} {s8 : Shared}, SubS (cσ k js σ) σ8 → Inv Y ([] ++ pinsAt fp s7.heap) σ8 H8 s8 → Inv Y [] (cσ k js σ) H8 s8 ∧ tn (i + 1) s8.heap ∧ ∀ b ∈ fp, H8 b = none := fun {σ8 H8 s8} sb I8 => by
        refine ⟨?_, T.keep _ _ _ st7 fun b hb o e => (I8.pin (b, o) (List.mem_append_right _ (List.mem_append_right _ (mem_pinsAt hb e)))).1, fun b hb => ?_⟩
        · exact (I8.unpinned (pins := [])).weak (by rw [I5.len, I8.len]) sb
        · obtain ⟨o, e, d⟩ := T.obj _ _ st7 b hb
          exact (I8.pin (b, o) (List.mem_append_right _ (List.mem_append_right _ (mem_pinsAt hb e)))).2.1
      have wE : ∀ {α : Type} {t : Sem α} {P : α → Shared → Prop} {s' : Shared}, wpAny (model Y.prog Y.w) Y.A t P Y.xe s' → wpAny (model Y.prog Y.w) Y.A t P (fun _ _ => False) s' := fun {α t P s'} h => by rw [yx] at h; exact h
      refine thn (wE (hG _ s7 _ H7 x u _ I7' r7 (step x H7 y7))) fun _ s8 ⟨σ8, H8, I8, sb, q8⟩ => ?_
      refine thn (wE (hT _ s8 σ8 H8 _ I8 q8)) fun b s9 ⟨H9, I9, q9⟩ => ?_
      cases b with
      | false =>
        have q9 : ∃ m', m' < n ∧ W (i + 1) m' ys H9 := q9
        obtain ⟨m', hm, w9⟩ := q9
        obtain ⟨a1, a2, a3⟩ := fin sb I9
        exact ⟨m', hm, i + 1, ys, H9, a1, a2, a3, w9⟩
      | true =>
        refine thn (wE (hE _ s9 σ8 H9 _ I9 q9)) fun y s10 ⟨v, H10, I10, r10, e10, m', hm, w10⟩ => ?_
        refine thn (wE (mt_append _ s10 σ8 H10 (.ref p) [v] (.ref p) [y] (fun _ H11 => ∃ m', m' < n ∧ W (i + 1) m' (ys ++ [v]) H11) I10 rfl (.cons r10 .nil) ⟨p, ys, v, rfl, rfl, e10, hz, m', hm, w10⟩)) fun z s11 ⟨_, H11, I11, _, m2, hm2, w11⟩ => ?_
        obtain ⟨a1, a2, a3⟩ := fin sb I11
        exact ⟨m2, hm2, i + 1, ys ++ [v], H11, a1, a2, a3, w11⟩
  refine codeAny_compStart_list loop ?_
  exact T.self _ _ _ _ _ st4 loop

theorem pe_comp (hc : X.calm = true) (S : CScope X N scope k js) (hi : PI X tg iter wi)
    (hb : ∀ (cl : List (Str × Addr)) (C : Addr) (s : Shared) (H : Hp) (fp : List Addr), PG (cxComp X N scope cl C s H fp) tg g ∧ PIfs (cxComp X N scope cl C s H fp) ifs tt ∧ PE (cxComp X N scope cl C s H fp) elt te)
    (hs : ∀ x, foldedSetIterable iter X.env x = pure x := by intro _; rfl) : PE X (.ListComp elt [⟨tg, iter, ifs, 0⟩] scope pos) (tComp wi k js g tt te) := by
  intro pins s σ H Q I h
  rw [eval_ListComp]
  refine wpAny_comprehension_free (use := none) rfl hs (closure_of (S.cells I.ok)) S.kind S.loc (thn (hi pins s σ H _ I h) fun v s1 h1 => thn h1 fun itv s2 h2 => ?_)
  obtain ⟨it, fp, tn, J, H2, e, I2, T, st2, f2, q⟩ := h2
  subst e
  refine comp_core (RR := fun acc C => compPost (model X.prog X.w) X.A X.xe none (EP X pins σ Q) acc C) hc S hb I2 T st2 f2 q ?_
  intro p C s' H' m IX q' hn hC hL h0 hcl hpn
  refine ⟨m, hn, fun h' sb => ⟨.ref p, H', ?_, rfl, q'⟩⟩
  exact IX.turned (t' := s'.toks) (fun b o hb e => (sb.2 b hb).trans e) hC (Ne.symm hL).symm (.inr h0) hcl hpn

/-- name = [.. for ..] on one row: the name is stored ahead of the block's end -/
theorem ps_setC {i : Nat} {x : Str} {pos' cpos : Pos} (hN : X.N.Nodup) (hi' : X.N[i]? = some x) (hx : Loc X.env.scope x) (hc : X.calm = true) (S : CScope X N scope k js) (hi : PI X tg iter wi)
    (hb : ∀ (cl : List (Str × Addr)) (C : Addr) (s : Shared) (H : Hp) (fp : List Addr), PG (cxComp X N scope cl C s H fp) tg g ∧ PIfs (cxComp X N scope cl C s H fp) ifs tt ∧ PE (cxComp X N scope cl C s H fp) elt te)
    (hsw : swapsWith (.ListComp elt [⟨tg, iter, ifs, 0⟩] scope cpos) (some (.Name x pos')) pos.line X.env = pure true := by rfl)
    (hs : ∀ x, foldedSetIterable iter X.env x = pure x := by intro _; rfl) (hf : X.fn x = true ∨ X.env.scope.names.lookup x = some .local := by first | exact .inl rfl | exact .inr rfl | assumption) :
    PS X (.Assign [.Name x pos'] (.ListComp elt [⟨tg, iter, ifs, 0⟩] scope cpos) pos) (tAsg (tComp wi k js g tt te) (gName i)) := by
  intro pins s σ H D I h
  rw [exec_Assign_Name_used _ _ _ _ hsw]
  refine wpAny_bind (wpAny_standAt (wpAny_bind ?_))
  show wpAny _ X.A (do let _ ← comprehension (.ListComp elt [⟨tg, iter, ifs, 0⟩] scope cpos) scope X.env _ (newList []) false (eval iter X.env) (some (assign (.Name x pos') X.env))) _ _ s
  refine wpAny_bind (wpAny_mono (wpAny_comprehension_free (use := some (assign (.Name x pos') X.env)) (Q := fun _ s' => SP X pins D .next s') rfl hs (closure_of (S.cells I.ok)) S.kind S.loc (thn (hi pins s σ H _ I h) fun v s1 h1 => thn h1 fun itv s2 h2 => ?_))
    (fun _ s' hq => wpAny_pure (wpAny_pure hq)) fun _ _ e => e)
  obtain ⟨it, fp, tn, J, H2, e, I2, T, st2, f2, q⟩ := h2
  subst e
  refine comp_core (Q := fun v H' => D.nx (σ.set i (some v)) H') (RR := fun acc C => compPost (model X.prog X.w) X.A X.xe (some (assign (.Name x pos') X.env)) (fun _ s' => SP X pins D .next s') acc C) hc S hb I2 T st2 f2 q ?_
  intro p C s' H' m IX q' hn hC hL h0 hcl hpn
  show wpAny _ X.A (assign (.Name x pos') X.env (.ref p)) _ _ s'
  refine wpAny_assign_Name (store_ok2 (v := .ref p) IX hN hi' hx rfl (fun s'' I'' ⟨a, sb, ha⟩ => ?_) hf)
  have hCa : C ≠ a := by
    rcases ha with z | z
    · rw [z]; exact hL
    · exact fun e => hcl x a z e.symm
  refine ⟨m, hn.sameBut sb hCa, fun h' sb' => ⟨σ.set i (some (.ref p)), H', ?_, q'⟩⟩
  exact I''.turned (t' := s''.toks) (fun b o hb e => (sb'.2 b hb).trans e) hC hL (.inr h0) hcl hpn
end

/-- the look at a block's scope, by reckoning -/
def cOk (osc : Scope) (ON N : List Str) (scope : Scope) (k : Nat) (js : List Nat) : Bool :=
  (scope.kind == .function) && scope.names.all (fun y => !(y.2 == .cell)) && scope.names.all (fun y => !(y.2 == .local) || scope.names.lookup y.1 == some .local) &&
  scope.names.all (fun y => !(y.2 == .free) || (osc.names.lookup y.1 == some .cell || osc.names.lookup y.1 == some .free)) && (N.length == k + js.length) &&
  (List.range js.length).all (fun i => ON[js.getD i 0]? == N[k + i]?) && (N.drop k).all fun x => scope.names.lookup x == some .free
theorem cscope_of {X : Cx} {N : List Str} {scope : Scope} {k : Nat} {js : List Nat} (h : cOk X.env.scope X.N N scope k js = true) : CScope X N scope k js := by
  unfold cOk at h
  simp only [Bool.and_eq_true] at h
  obtain ⟨⟨⟨⟨⟨⟨h1, h2⟩, h3⟩, h4⟩, h5⟩, h6⟩, h7⟩ := h
  have h5 := eq_of_beq h5
  rw [List.all_eq_true] at h2 h3 h4 h6 h7
  refine ⟨eq_of_beq h1, fun y hy e => ?_, fun y hy e => ?_, fun y hy e => ?_, h5, fun i j e => ?_, fun i x e => ?_⟩
  · have q := h2 y hy
    rw [e] at q
    exact absurd q (by decide)
  · have q := h3 y hy
    rw [e] at q
    exact eq_of_beq (by simpa using q)
  · have q := h4 y hy
    rw [e] at q
    have q : (X.env.scope.names.lookup y.1 == some .cell || X.env.scope.names.lookup y.1 == some .free) = true := by simpa using q
    rw [Bool.or_eq_true] at q
    rcases q with q | q
    · exact .inl (eq_of_beq q)
    · exact .inr (eq_of_beq q)
  · have hi : i < js.length := (List.getElem?_eq_some_iff.mp e).1
    have q := eq_of_beq (h6 i (List.mem_range.mpr hi))
    rw [List.getD_eq_getElem?_getD, e] at q
    exact q
  · refine eq_of_beq (h7 x ?_)
    rw [List.mem_iff_getElem?]
    exact ⟨i, by rw [List.getElem?_drop]; exact e⟩
end L2

/-! ### more of Python's own: isinstance, all, any, repr, texts walked and cut, lists compared -/
namespace L2
open PySem PySem.Spec PyProof.Rows
section
variable {X : Cx}
/-- isinstance(x, T), T one of Python's own -/
theorem call_isinst : CallR X (.builtin "isinstance") (fun xs H Q => ∃ x T t b, xs = [x, .ty T] ∧ TyOf X.K H x t ∧ PySem.W.kitOne X.K t (.type T) = some b ∧ Q (.bl b) H) := by
  intro pins s σ H xs us Q I r h
  obtain ⟨x, T, t, b, rfl, ty, e, q⟩ := h
  obtain ⟨u, c, rfl, ru, rc⟩ := vals2 r
  cases rc
  exact isinst_ok I ru ty e fun tk => ⟨.bl b, H, I.tok tk, rfl, q⟩
/-- a text's cut -/
def rSlS : V → Option Int → Option Int → Hp → VK → Prop := fun x lo hi H Q => ∃ z, x = .str z ∧ z.length ≤ sizeLine ∧ Q (.str (Txt.slice z lo hi)) H
theorem sl_str : SlR X rSlS := by
  intro pins s σ H x v vl vu lo hi sl Q I rx hs pl pu h
  obtain ⟨z, rfl, hz, q⟩ := h
  obtain ⟨t, rfl⟩ := rx
  refine ⟨"str", _, F.slot_str_getitem.lookup, typeIs_str _ _ _, ?_⟩
  have fin : ∀ {l u : Option (Int × Tok)}, l.map (·.1) = lo → u.map (·.1) = hi → s.heap.IsSlice sl l u none → wpAny (model X.prog X.w) X.A (getItem (.str z t) (.ref sl)) (EP X pins σ Q) X.xe s := fun {l u} el eu hsl => by
    refine wpAny_getItem_str_slice (st := none) hsl rfl ?_
    have e : sliceMade z t l u none = sliceMade z t l u none := rfl
    subst el eu
    exact post_val_or_str ⟨Nat.le_trans (Txt.slice_le z _ _) hz, fun t' k => ⟨.str (Txt.slice z _ _), H, I.tok k, ⟨t', rfl⟩, q⟩⟩
  obtain ⟨o, ho, hc, hd⟩ := hs
  cases pl with
  | none =>
    cases pu with
    | none => exact fin (l := none) (u := none) rfl rfl ⟨o, ho, hc, hd⟩
    | int j uj => exact fin (l := none) (u := some (j, uj)) rfl rfl ⟨o, ho, hc, hd⟩
  | int i ui =>
    cases pu with
    | none => exact fin (l := some (i, ui)) (u := none) rfl rfl ⟨o, ho, hc, hd⟩
    | int j uj => exact fin (l := some (i, ui)) (u := some (j, uj)) rfl rfl ⟨o, ho, hc, hd⟩
end

/-! ### a text walked -/
def Its (x : Str) : It := ⟨fun i _ => i < x.length, fun i H v H' => H' = H ∧ ∃ c, x.cps[i]? = some c ∧ v = .str ⟨#[c]⟩, fun i _ => x.length ≤ i⟩
theorem turn_str {P : Program} {w : World} {K : PySem.W.Frag} {tg : Expr} {x : Str} {I : Addr} {St : Nat → Heap → Prop} (W : ∀ A : Around, A.handled = none → Walks P w A I [I] [I] x.cps.size (SignAt x) St)
    (hob : ∀ i h, St i h → ∃ o, h.get? I = some o ∧ ∀ v, o.data ≠ .cell v) (ht : ∀ v, letOwnedTupleGo tg (.ref I) v = pure ())
    (hself : ∀ (A : Around) (i : Nat) (s : Shared) (Q : Value → Shared → Prop) (E : Value → Shared → Prop), St i s.heap → Q (.ref I) s → wpAny (model P w) A (pyIter (.ref I)) Q E s) : Turn P w K tg (Its x) [I] I (fun i h => i ≤ x.length ∧ St i h) where
  mem := by simp
  obj := fun i h st b hb => by
    have e : b = I := by simpa using hb
    subst e
    exact hob i h st.2
  keep := fun i h h' st k => ⟨st.1, (W { handled := none } rfl).frame i h h' st.2 k⟩
  item := by
    intro X hP hw hK hc i pins s σ H E J hf st hg
    subst hP hw hK
    obtain ⟨f0, f1, f2, f3, f4, f5⟩ := hf I (by simp)
    refine (W X.A (J.ok.hd hc)).item i s _ _ hg st.2 fun v h' tk hv st' k => ?_
    have J1 : Inv X pins σ H { s with heap := h', toks := tk } := J.turned (fun b o hb e => k b o (by simpa using hb) e) f0 f1 f3 f4 f5
    obtain ⟨c, u, hc', rfl⟩ := hv
    exact ⟨_, rfl, wpAny_of_eq (ht _) ⟨.str ⟨#[c]⟩, H, J1, ⟨u, rfl⟩, ⟨rfl, c, hc', rfl⟩, ⟨hg, st'⟩, fun b hb => (hf b hb).1⟩⟩
  done := by
    intro X hP hw hK hc i pins s σ H E J hf st hg
    subst hP hw hK
    obtain ⟨f0, f1, f2, f3, f4, f5⟩ := hf I (by simp)
    have e : i = x.cps.size := Nat.le_antisymm st.1 hg
    subst e
    exact (W X.A (J.ok.hd hc)).done s _ _ st.2 fun h' tk k => ⟨rfl, J.turned (fun b o hb e => k b o (by simpa using hb) e) f0 f1 f3 f4 f5⟩
  self := fun A _ s Q E st h => hself A _ s Q E st.2 h
section
variable {X : Cx} {tg : Expr}
def iStr (tl : TE) : TI := fun σ H R => tl σ H fun x H1 => ∃ z, x = .str z ∧ R (Its z) H1
theorem pi_str {l : Expr} {tl : TE} (hl : PE X l tl) (hc : X.calm = true) (ht : ∀ it v, letOwnedTupleGo tg it v = pure () := by intro _ _; rfl) : PI X tg l (iStr tl) := by
  intro pins s σ H R I h
  refine thn (hl pins s σ H _ I h) fun v s1 ⟨x, H1, I1, r, z, e, q⟩ => ?_
  subst e
  obtain ⟨t, rfl⟩ := r
  cases ha : z.cps.all (· < 128)
  · refine wpAny_pyIter_wide ha ?_
    exact ⟨_, [_], _, Its z, H1, rfl, I1.kept (t' := s1.toks) fun b u e => Heap.get?_push_of_some _ e, turn_str (fun A' hA => Walks.strWide hA _ z t) (fun i h st => by
      obtain ⟨o, ho, _, hd⟩ := st
      exact ⟨o, ho, fun v z => by rw [hd] at z; cases z⟩) (ht _) (fun A _ s Q E st h => wpAny_pyIter_striter_wide st h), ⟨Nat.zero_le _, _, Heap.get?_push_size _ rfl, rfl, rfl⟩, fun b hb => by
      have e : b = s1.heap.objs.size := by simpa using hb
      subst e
      exact I1.fpOk (Nat.le_refl _) (I1.hok.fresh (Nat.le_refl _)), q⟩
  · refine wpAny_pyIter_ascii ha ?_
    exact ⟨_, [_], _, Its z, H1, rfl, I1.kept (t' := s1.toks) fun b u e => Heap.get?_push_of_some _ e, turn_str (fun A' hA => Walks.strAscii hA _ z t) (fun i h st => by
      obtain ⟨o, ho, _, hd⟩ := st
      exact ⟨o, ho, fun v z => by rw [hd] at z; cases z⟩) (ht _) (fun A _ s Q E st h => wpAny_pyIter_striter_ascii st h), ⟨Nat.zero_le _, _, Heap.get?_push_size _ rfl, rfl, rfl⟩, fun b hb => by
      have e : b = s1.heap.objs.size := by simpa using hb
      subst e
      exact I1.fpOk (Nat.le_refl _) (I1.hok.fresh (Nat.le_refl _)), q⟩
end

/-! ### all, any of a list of truths -/
section
variable {X : Cx}
theorem vals_bls : ∀ {bs : List Bool} {us : List Value}, Vals (bs.map V.bl) us → us = bs.map Value.bool
  | [], _, .nil => rfl
  | b :: bs, _, .cons r t => by
    cases r
    rw [vals_bls (bs := bs) t]
    rfl
theorem range_all {bs : List Bool} {f : Nat → Bool} (h : ∀ i b, bs[i]? = some b → f i = b) : (List.range bs.length).all f = bs.all id := by
  rw [Bool.eq_iff_iff, List.all_eq_true, List.all_eq_true]
  constructor
  · intro q b hb
    obtain ⟨i, hi⟩ := List.mem_iff_getElem?.mp hb
    have hl : i < bs.length := (List.getElem?_eq_some_iff.mp hi).1
    rw [← h i b hi]
    exact q i (List.mem_range.mpr hl)
  · intro q i hi
    have hl := List.mem_range.mp hi
    rw [h i bs[i] (by simp [hl])]
    exact q _ (List.getElem_mem hl)
theorem call_all (hc : X.calm = true) : CallR X (.builtin "all") (fun xs H Q => ∃ (a : Addr) (bs : List Bool), xs = [.ref a] ∧ H a = some (.lst (bs.map V.bl)) ∧ Q (.bl (bs.all id)) H) := by
  intro pins s σ H xs us Q I r h
  obtain ⟨a, bs, rfl, ha, q⟩ := h
  obtain ⟨u, rfl, ru⟩ := vals1 r
  cases ru
  obtain ⟨its, r, pl, hz⟩ := I.list (SqL.of ha)
  have e := vals_bls r
  have hlt := I.hok.lt ha
  have I1 : Inv X pins σ H { s with heap := s.heap.push { cls := .type "list_iterator", data := .fields #[.ref a, .int 0 0] } } := I.kept (t' := s.toks) fun b u e => Heap.get?_push_of_some _ e
  refine call_all_walk (wpAny_pyIter_list pl.isList ⟨_, _, _, _, _, _, fun i => bs.getD i true, rfl, Walks.list (A := X.A.in1) (I.ok.hd hc) _ a (Nat.ne_of_lt hlt) its.toArray, ⟨⟨_, Heap.get?_push_size _ rfl, rfl, rfl⟩, pl.isList.push _⟩, ?_, fun h' tk k => ?_⟩)
  · intro i v s' Q' E' hv hQ
    rw [e] at hv
    have hv : (bs.map Value.bool)[i]? = some v := by simpa using hv
    rw [List.getElem?_map] at hv
    cases eb : bs[i]? with
    | none => rw [eb] at hv; cases hv
    | some b =>
      rw [eb] at hv
      cases hv
      refine wpAny_truthy_bool ?_
      have e2 : bs.getD i true = b := by rw [List.getD_eq_getElem?_getD, eb]; rfl
      rw [← e2]
      exact hQ
  · refine ⟨.bl (bs.all id), H, I1.turned (fun b o hb e => k b o (by simpa using hb) e) (I.hok.fresh (Nat.le_refl _)) (fun z => ?_) (.inr I.sz) (fun x c e z => ?_) (fun p hp z => ?_), ?_, q⟩
    · exact absurd (z ▸ I.lt) (Nat.lt_irrefl _)
    · obtain ⟨v, o, ho, _⟩ := I.cell x c e
      exact absurd (z ▸ Heap.lt_size ho) (Nat.lt_irrefl _)
    · obtain ⟨ho, _⟩ := I.pin p hp
      exact absurd (z ▸ Heap.lt_size ho) (Nat.lt_irrefl _)
    · show Value.bool _ = Value.bool _
      have e3 : its.toArray.size = bs.length := by rw [e]; simp
      rw [e3, range_all fun i b hb => by rw [List.getD_eq_getElem?_getD, hb]; rfl]

/-! ### two lists compared -/
def eqVs : List V → List V → Bool
  | [], [] => true
  | x :: xs, y :: ys => eqV x y && eqVs xs ys
  | _, _ => false
def rEqL (neg : Bool) : R2 := fun x y H Q => ∃ a b xs ys, x = .ref a ∧ y = .ref b ∧ H a = some (.lst xs) ∧ H b = some (.lst ys) ∧
  ((xs.length ≠ ys.length ∧ Q (.bl neg) H) ∨ (xs.length = ys.length ∧ xs.all flatV = true ∧ ys.all flatV = true ∧ Q (.bl (if neg then !eqVs xs ys else eqVs xs ys)) H))
end
end L2

/-! ### what one uses of comprehensions -/
namespace L2
open PySem PySem.Spec PyProof.Rows
theorem Same.upd {H : Hp} {p : Addr} {o : HO} (h : H p = none) : Same H (upd H p o) := fun b u e => by
  rw [upd_ne (ne_of_none e h)]
  exact e
/-- what an iterator yields, whatever is laid beside -/
structure Feeds (J : It) (H : Hp) (xs : List V) : Prop where
  go : ∀ i H', Same H H' → i < xs.length → J.go i H'
  yld : ∀ i H' x H'', Same H H' → J.yld i H' x H'' → H'' = H' ∧ (i < xs.length → xs[i]? = some x)
  stop : ∀ i H', Same H H' → xs.length ≤ i → J.stop i H'
theorem feeds_str (z : Str) (H : Hp) : Feeds (Its z) H (z.cps.toList.map fun c => V.str ⟨#[c]⟩) where
  go := fun i H' _ h => by
    show i < z.cps.size
    simpa using h
  yld := fun i H' x H'' _ h => by
    obtain ⟨e, c, hc, rfl⟩ := h
    refine ⟨e, fun _ => ?_⟩
    rw [List.getElem?_map, Array.getElem?_toList, hc]
    rfl
  stop := fun i H' _ h => by
    show z.cps.size ≤ i
    simpa using h
theorem feeds_list {K : PySem.W.Frag} {a : Addr} {xs : List V} {H : Hp} (h : SqL K H a xs) : Feeds (Itl K a) H xs where
  go := fun i H' s hi => ⟨xs, xs[i], s.seq h, by simp [hi]⟩
  yld := fun i H' x H'' s q => ⟨q.1, fun _ => q.2 xs (s.seq h)⟩
  stop := fun i H' s hi => ⟨xs, s.seq h, hi⟩
/-- a comprehension whose test and element lay nothing -/
theorem comp_pure {J : It} {xs : List V} {k : Nat} {js : List Nat} {g : TG} {tt : TT} {te : TE} {σ : St} {H : Hp} {Q : VK} (pb : V → Bool) (fe : V → V) (F : Feeds J H xs) (hlen : xs.length ≤ sizeLine)
    (hbody : ∀ (i : Nat) (x : V) (H' : Hp) (C1 : V → Hp → Prop) (C0 : Hp → Prop), xs[i]? = some x → Same H H' → (pb x = true → C1 (fe x) H') → (pb x = false → C0 H') →
      g x (cσ k js σ) H' fun σ2 H2 => SubS (cσ k js σ) σ2 ∧ tt σ2 H2 fun b H3 => if b = true then te σ2 H3 C1 else C0 H3)
    (hq : ∀ p, H p = none → Q (.ref p) (upd H p (.lst ((xs.filter pb).map fe)))) :
    CompGoal J k js g tt te σ H Q := by
  intro p hp
  refine ⟨fun i m ys H' => m = xs.length - i ∧ i ≤ xs.length ∧ ys = ((xs.take i).filter pb).map fe ∧ H' = upd H p (.lst ys), ⟨xs.length, rfl, Nat.zero_le _, rfl, rfl⟩, ?_⟩
  rintro i m ys H' ⟨rfl, hi, rfl, rfl⟩
  refine ⟨upd_same, ?_⟩
  have hs : Same H (upd H p (.lst (((xs.take i).filter pb).map fe))) := Same.upd hp
  by_cases hlt : i < xs.length
  · refine .inr ⟨F.go i _ hs hlt, ?_, fun x H'' hy => ?_⟩
    · rw [List.length_map]
      have h1 : ((xs.take i).filter pb).length ≤ (xs.take i).length := List.length_filter_le _ _
      rw [List.length_take] at h1
      omega
    · obtain ⟨rfl, hx⟩ := F.yld i _ x H'' hs hy
      have hx := hx hlt
      have et : (xs.take (i + 1)).filter pb = (xs.take i).filter pb ++ (if pb x = true then [x] else []) := PySem.take_succ_filter pb xs i x hx
      refine hbody i x _ _ _ hx hs (fun hb => ⟨upd_same, xs.length - (i + 1), by omega, rfl, hlt, ?_, ?_⟩) (fun hb => ⟨xs.length - (i + 1), by omega, rfl, hlt, ?_, rfl⟩)
      · rw [et, if_pos hb, List.map_append]
        rfl
      · rw [upd_upd]
      · rw [et, hb]
        simp
  · have e : i = xs.length := by omega
    subst e
    refine .inl ⟨F.stop _ _ hs (Nat.le_refl _), ?_⟩
    rw [List.take_length]
    exact hq p hp
/-- a cut: what the rest of a block asks is said by a word of one's own -/
theorem pss_imp {X : Cx} {sts : List Stmt} {t : TS} (R : TS) (h : PSs X sts t) (hR : ∀ D σ H, R D σ H → t D σ H) : PSs X sts R := fun pins s σ H D I hq => h pins s σ H D I (hR D σ H hq)
end L2

/-! ### reversed(xs), enumerate(xs), walked -/
namespace L2
open PySem PySem.Spec PyProof.Rows
/-- the list at a, from behind; n its length when the walk began -/
def Itv (K : PySem.W.Frag) (a : Addr) (n : Nat) : It :=
  ⟨fun i H => i < n ∧ ∃ xs, SqL K H a xs ∧ xs.length = n, fun i H x H' => H' = H ∧ ∀ xs, SqL K H a xs → xs[n - 1 - i]? = some x, fun i _ => n ≤ i⟩
/-- pairs (number, item) of the list at a: each a new tuple -/
def Ite (K : PySem.W.Frag) (a : Addr) : It :=
  ⟨fun i H => ∃ xs x, SqL K H a xs ∧ xs[i]? = some x, fun i H v H' => ∃ T x, v = .ref T ∧ H T = none ∧ H' = upd H T (.tup [.int i, x]) ∧ ∀ xs, SqL K H a xs → xs[i]? = some x, fun i H => ∃ xs, SqL K H a xs ∧ xs.length ≤ i⟩
section
variable {X : Cx} {tg : Expr}
/-- reversed(xs) behind a for's or a comprehension's in -/
def iRev (K : PySem.W.Frag) (ta : TA) : TI := fun σ H R => ta σ H fun vs H1 => ∃ a xs, vs = [.ref a] ∧ SqL K H1 a xs ∧ R (Itv K a xs.length) H1
/-- enumerate(xs), the list tracked -/
def iEnum (K : PySem.W.Frag) (ta : TA) : TI := fun σ H R => ta σ H fun vs H1 => ∃ a xs, vs = [.ref a] ∧ H1 a = some (.lst xs) ∧ R (Ite K a) H1
end
/-! ### what an iterator yields where the heap may grow -/
structure FeedsG (J : It) (H : Hp) (n : Nat) (Y : Nat → V → Hp → Prop) : Prop where
  go : ∀ i H', Same H H' → i < n → J.go i H'
  yld : ∀ i H' x H'', Same H H' → i < n → J.yld i H' x H'' → Same H' H'' ∧ Y i x H''
  stop : ∀ i H', Same H H' → n ≤ i → J.stop i H'
theorem Feeds.g {J : It} {H : Hp} {xs : List V} (F : Feeds J H xs) : FeedsG J H xs.length (fun i x _ => xs[i]? = some x) where
  go := F.go
  yld := fun i H' x H'' s hi h => by
    obtain ⟨e, q⟩ := F.yld i H' x H'' s h
    exact ⟨e ▸ Same.refl H', q hi⟩
  stop := F.stop
end L2

/-! ### repr of lists and tuples: the text of what they hold -/
namespace L2
open PySem PySem.Spec PyProof.Rows
mutual
/-- what a value is, whole (lists and tuples within) -/
inductive Dat (H : Hp) : V → PyData → Prop
  | non : Dat H .non .none
  | bl (b : Bool) : Dat H (.bl b) (.bool b)
  | int (i : Int) : Dat H (.int i) (.int i)
  | str (x : Str) : Dat H (.str x) (.str x)
  | lst {a : Addr} {xs : List V} {ds : List PyData} (e : H a = some (.lst xs)) (h : DatAll H xs ds) : Dat H (.ref a) (.list ds)
  | tup {a : Addr} {xs : List V} {ds : List PyData} (e : H a = some (.tup xs)) (h : DatAll H xs ds) : Dat H (.ref a) (.tuple ds)
inductive DatAll (H : Hp) : List V → List PyData → Prop
  | nil : DatAll H [] []
  | cons {x : V} {xs : List V} {d : PyData} {ds : List PyData} (h : Dat H x d) (t : DatAll H xs ds) : DatAll H (x :: xs) (d :: ds)
end
mutual
theorem Dat.reads {P : Program} {w : World} {H : Hp} {h : Heap} (ok : HOk P w H h) : ∀ {v : V} {d : PyData} {u : Value}, Dat H v d → RelV v u → (∃ as, Reads h u d as) ∧ d.hasDict = false
  | _, _, _, .non, r => by cases r; exact ⟨⟨_, .none⟩, by simp only [PyData.hasDict]⟩
  | _, _, _, .bl b, r => by cases r; exact ⟨⟨_, .bool b⟩, by simp only [PyData.hasDict]⟩
  | _, _, _, .int i, r => by obtain ⟨t, rfl⟩ := r; exact ⟨⟨_, .int i t⟩, by simp only [PyData.hasDict]⟩
  | _, _, _, .str x, r => by obtain ⟨t, rfl⟩ := r; exact ⟨⟨_, .str x t⟩, by simp only [PyData.hasDict]⟩
  | _, _, _, .lst e hd, r => by
    cases r
    obtain ⟨z, its, n, rv, ho⟩ := (show ObjOk P w H h _ (.lst _) from ok _ _ e)
    obtain ⟨⟨as, q⟩, hh⟩ := DatAll.reads ok hd rv
    exact ⟨⟨_, .list ho rfl rfl (by simpa using q)⟩, by simp only [PyData.hasDict]; exact hh⟩
  | _, _, _, .tup e hd, r => by
    cases r
    obtain ⟨z, its, rv, o, ho, hc, n, hdt⟩ := (show ObjOk P w H h _ (.tup _) from ok _ _ e)
    obtain ⟨⟨as, q⟩, hh⟩ := DatAll.reads ok hd rv
    exact ⟨⟨_, .tuple ho hc hdt (by simpa using q)⟩, by simp only [PyData.hasDict]; exact hh⟩
theorem DatAll.reads {P : Program} {w : World} {H : Hp} {h : Heap} (ok : HOk P w H h) : ∀ {xs : List V} {ds : List PyData} {us : List Value}, DatAll H xs ds → Vals xs us → (∃ as, ReadsAll h us ds as) ∧ PyData.hasDictAll ds = false
  | _, _, _, .nil, .nil => ⟨⟨_, .nil⟩, by simp only [PyData.hasDictAll]⟩
  | _, _, _, .cons hd t, .cons r rr => by
    obtain ⟨⟨as, q⟩, h1⟩ := Dat.reads ok hd r
    obtain ⟨⟨bs, q'⟩, h2⟩ := DatAll.reads ok t rr
    exact ⟨⟨_, .cons q q'⟩, by simp only [PyData.hasDictAll, h1, h2, Bool.or_self]⟩
end
mutual
theorem Dat.same {H H' : Hp} (s : Same H H') : ∀ {v : V} {d : PyData}, Dat H v d → Dat H' v d
  | _, _, .non => .non
  | _, _, .bl b => .bl b
  | _, _, .int i => .int i
  | _, _, .str x => .str x
  | _, _, .lst e h => .lst (s _ _ e) (DatAll.same s h)
  | _, _, .tup e h => .tup (s _ _ e) (DatAll.same s h)
theorem DatAll.same {H H' : Hp} (s : Same H H') : ∀ {xs : List V} {ds : List PyData}, DatAll H xs ds → DatAll H' xs ds
  | _, _, .nil => .nil
  | _, _, .cons h t => .cons (Dat.same s h) (DatAll.same s t)
end
section
variable {X : Cx}
/-- repr(x) of anything that is known whole -/
theorem call_repr (hg : X.A.guards = some []) (hu : X.A.units + 100 < cLine) : CallR X (.builtin "repr") (fun xs H Q => ∃ v d, xs = [v] ∧ Dat H v d ∧ d.showable = true ∧ d.depth ≤ 90 ∧ d.shown.length ≤ sizeLine ∧ Q (.str d.shown) H) := by
  intro pins s σ H xs us Q I r h
  obtain ⟨v, d, rfl, hd, hs, hdp, hz, q⟩ := h
  obtain ⟨u, rfl, ru⟩ := vals1 r
  have flat : ∀ {h' : Heap} {tk : Nat} (t : Tok), (∀ b o, s.heap.get? b = some o → h'.get? b = some o) → EP X pins σ Q (.str d.shown t) { s with heap := h', toks := tk } := fun {h' tk} t k => ⟨.str d.shown, H, I.kept k, ⟨t, rfl⟩, q⟩
  obtain ⟨⟨as, rd⟩, nd⟩ := hd.reads I.hok ru
  cases hd with
  | non => cases ru; exact PySem.P.repr_of_none (flat _ fun _ _ e => e)
  | bl b => cases ru; exact PySem.P.repr_of_bool (by have := flat (h' := s.heap) (tk := s.toks + 1) s.toks fun _ _ e => e; simpa only [PyData.shown] using this)
  | int i =>
    obtain ⟨t, rfl⟩ := ru
    have hs' : i.natAbs.log2 < 1920 := by simpa [PyData.showable] using hs
    exact PySem.P.repr_of_int hs' (by have := flat (h' := s.heap) (tk := s.toks + 1) s.toks fun _ _ e => e; simpa only [PyData.shown] using this)
  | str x =>
    obtain ⟨t, rfl⟩ := ru
    refine PySem.P.repr_of_str (by have := flat (h' := s.heap) (tk := s.toks + 1) s.toks fun _ _ e => e; simpa only [PyData.shown] using this) (by simpa only [PyData.shown] using hz)
  | lst e hx =>
    cases ru
    exact repr_of_reads' rd hs (PyData.noDict_hsm nd) hg (by omega) (fun _ _ e => e) (fun h' t tk k => flat t k) hz
  | tup e hx =>
    cases ru
    exact repr_of_reads' rd hs (PyData.noDict_hsm nd) hg (by omega) (fun _ _ e => e) (fun h' t tk k => flat t k) hz
end
end L2

/-! ### xs[::-1], list(reversed(xs)) -/
namespace L2
open PySem PySem.Spec PyProof.Rows
section
variable {X : Cx} {e stp : Expr} {te ts : TE} {pos p2 : Pos}
def tRevSl (K : PySem.W.Frag) (te ts : TE) : TE := fun σ H Q => te σ H fun x H1 => tPart ts σ H1 fun o H2 => ∃ a xs, x = .ref a ∧ o = some (-1) ∧ SqL K H2 a xs ∧ ∀ p, H2 p = none → Q (.ref p) (upd H2 p (.lst xs.reverse))
end
section
variable {prog : Program} {w : World} {A : Around} {E : Value → Shared → Prop} {s : Shared}
end
section
variable {X : Cx} {e : Expr} {ta : TA} {p p' pos pos' : Pos}
def tListRev (K : PySem.W.Frag) (ta : TA) : TE := fun σ H Q => ta σ H fun vs H1 => ∃ a xs, vs = [.ref a] ∧ SqL K H1 a xs ∧ ∀ l, H1 l = none → Q (.ref l) (upd H1 l (.lst xs.reverse))
end
/-! ### the same rules with the written part named (for a comprehension's block) -/
section
variable {X : Cx} {K : PySem.W.Frag}
end
end L2

/-! ### range by threes, zip of two lists, lists of numbers that differ -/
namespace L2
open PySem PySem.Spec PyProof.Rows
section
variable {X : Cx} {tg : Expr}
def rNeI : R2 := fun x y H Q => ∃ (a b : Addr) (ns ms : List Int), x = .ref a ∧ y = .ref b ∧ H a = some (.lst (ns.map V.int)) ∧ H b = some (.lst (ms.map V.int)) ∧ Q (.bl (!decide (ns = ms))) H
end
def Itr3 (lo : Int) (n : Nat) : It := ⟨fun i _ => i < n, fun i H x H' => H' = H ∧ x = .int (lo + i * 3), fun i _ => n ≤ i⟩
def rsz3 (i j : Int) : Nat := (Builtin.Range.rangeSize i j 3).toNat
section
variable {X : Cx} {tg : Expr}
def iRng3 (ta : TA) : TI := fun σ H R => ta σ H fun vs H1 => ∃ i j : Int, vs = [.int i, .int j, .int 3] ∧ (0 ≤ i ∧ i < 100000 ∧ 0 ≤ j ∧ j < 100000) ∧ R (Itr3 i (rsz3 i j)) H1
end
/-! ### zip -/
section
variable {X : Cx} {pins : List (Addr × Obj)} {σ : St} {H : Hp} {s : Shared} {h' : Heap}
end
/-- pairs of the lists at a and b: each a new tuple -/
def Itz (K : PySem.W.Frag) (a b : Addr) : It :=
  ⟨fun i H => ∃ xs ys x y, SqL K H a xs ∧ SqL K H b ys ∧ xs[i]? = some x ∧ ys[i]? = some y,
    fun i H v H' => ∃ T x y, v = .ref T ∧ H T = none ∧ H' = upd H T (.tup [x, y]) ∧ (∀ xs, SqL K H a xs → xs[i]? = some x) ∧ ∀ ys, SqL K H b ys → ys[i]? = some y,
    fun i H => ∃ xs ys, SqL K H a xs ∧ SqL K H b ys ∧ (xs.length ≤ i ∨ ys.length ≤ i)⟩
section
variable {X : Cx} {tg : Expr}
def iZip (K : PySem.W.Frag) (ta : TA) : TI := fun σ H R => ta σ H fun vs H1 => ∃ a b, vs = [.ref a, .ref b] ∧ (∃ xs, H1 a = some (.lst xs)) ∧ (∃ ys, H1 b = some (.lst ys)) ∧ R (Itz K a b) H1
end
end L2

/-! ### a class's own function called by the class's name; setdefault; sum; cuts by steps; walks over a dict's keys -/
namespace L2
open PySem PySem.Spec PyProof.Rows
structure ClsFn (K : PySem.W.Frag) (C : Addr) (m : Str) (f : Addr) : Prop where
  sp : PySem.W.specialIn K (.ref C) "__getattribute__" = some (some (.builtin "type.__getattribute__"))
  rd : PySem.W.readsIn K C (.type "type") = true
  at_ : PySem.W.findCls K (.ref C) (.type "type") m = some (.val (.ref f))
  kp : PySem.W.keepIn K (.ref f) = true
section
variable {X : Cx} {CX : CXT} {k : Nat} {f C : Addr} {fd : FuncData} {ps : List Str} {sp : Sp} {dvs : List V} {ds : List Value} {E : XK} {x m : Str} {p pos apos : Pos} {e : Expr} {es : List Expr} {t : TA}
/-- C.m(e, ..) -/
theorem pe_ccall {pl : Sem Bool} (c : ClsFn X.K C m f) (hg : Gl X x) (hm : X.mg x = some (.ref C)) (F : FnOk X.prog X.w X.K X.mg X.base CX k f fd ps sp) (hr : Room k X.A) (hb : Binds X.K fd ps ds) (hd : Vals dvs ds) (hx : Passes CX X E) (ha : PA X (e :: es) t)
    (hdb : (x == ("__debug__" : Str)) = false := by decide) (hst : starEach (e :: es) X.env = (false, eval e X.env) :: starEach es X.env := by rfl) (hpl : (backTo pos (starEach es X.env)).any (·.1) = false := by rfl)
    (ht : eval (.Call (.Attribute (.Name x p) m apos) (e :: es) [] pos) X.env = (do
      let ov ← eval (.Name x p) X.env
      standAt apos.atName
      let (f, first) ← holding [ov] (getMethod ov m pl)
      callWith pos f first (backTo pos (starEach (e :: es) X.env)) (backToKw pos (keywordEach [] X.env))) := by rfl) :
    PE X (.Call (.Attribute (.Name x p) m apos) (e :: es) [] pos) (tCall sp dvs E t) := by
  intro pins s σ H Q I h
  refine PySem.W.methodCall_KW (pl := pl) (ld_glob I hg hm ?_ hdb) ht
  refine PySem.W.method_cls I.kIn c.sp (PySem.W.cls_value I.kIn c.rd c.at_ rfl ?_)
  refine PySem.W.callWith_K (first := []) (h₀ := X.base) I.ok.mod.kin c.kp (thn (ha pos pins _ σ H _ (I.tok _) h) fun us s2 ⟨vs, H2, I2, r, q2⟩ => ⟨I2.kIn, ?_⟩) hst hpl
  exact run_fn F hr hb hd hx I2 r q2
end
/-! ### d.setdefault(k, x) -/
section
variable {X : Cx} {o e f : Expr} {apos cpos : Pos} {td ty tx : TE}
def tDSet2 (td ty tx : TE) : TE := fun σ H Q => td σ H fun x H1 => ∃ a, x = .ref a ∧ IsD H1 a ∧ ty σ H1 fun y H2 => tx σ H2 fun z H3 => ∃ kvs k, H3 a = some (.dK kvs) ∧ y = kV k ∧ kvs.length < sizeLine ∧
  (∀ v, valV kvs k = some v → Q v H3) ∧ (valV kvs k = none → Q z (upd H3 a (.dK (putK kvs k z))))
end
/-! ### sum of a list of numbers -/
section
variable {X : Cx}
end
/-! ### list(range(n)) -/
section
variable {X : Cx} {e : Expr} {ta : TA} {p pos p' pos' : Pos}
def tListRng (ta : TA) : TE := fun σ H Q => ta σ H fun vs H1 => ∃ j : Nat, vs = [.int j] ∧ j ≤ 1000 ∧ ∀ l, H1 l = none → Q (.ref l) (upd H1 l (.lst ((List.range j).map fun i : Nat => V.int (i : Int))))
end
/-! ### xs[lo::st] -/
section
variable {X : Cx} {e lo stp : Expr} {te tl ts : TE} {pos p2 : Pos}
def tStepSl (K : PySem.W.Frag) (te tl ts : TE) : TE := fun σ H Q => te σ H fun x H1 => tPart tl σ H1 fun o1 H2 => tPart ts σ H2 fun o H3 => ∃ a xs i, x = .ref a ∧ o1 = some i ∧ 0 ≤ i ∧ o = some 3 ∧ SqL K H3 a xs ∧
  ∀ p zs, H3 p = none → zs.length ≤ xs.length → (∀ z ∈ zs, z ∈ xs) → Q (.ref p) (upd H3 p (.lst zs))
end
/-! ### a dict's keys, walked: the dict stands as it is meanwhile -/
def NFz (X : Cx) (a : Addr) : Prop := ∀ o u, X.H₀ a ≠ some (.frz o u)
section
variable {X : Cx} {pins : List (Addr × Obj)} {σ : St} {H : Hp} {s : Shared} {d : Addr} {kvs : List (Key × V)}
end
def Itk (d : Addr) (o : Obj) (kvs : List (Key × V)) : It :=
  ⟨fun i H => i < kvs.length ∧ H d = some (.frz o (.dK kvs)), fun i H x H' => H' = H ∧ ∃ k v, kvs[i]? = some (k, v) ∧ x = kV k, fun i H => kvs.length ≤ i ∧ H d = some (.frz o (.dK kvs))⟩
section
variable {X : Cx} {tg e : Expr} {te : TE}
def iKeys (X : Cx) (te : TE) : TI := fun σ H R => te σ H fun x H1 => ∃ a kvs, x = .ref a ∧ H1 a = some (.dK kvs) ∧ ∀ o, NFz X a → R (Itk a o kvs) (upd H1 a (.frz o (.dK kvs)))
def tThaw (X : Cx) (t : TE) : TE := fun σ H Q => t σ H fun v H' => ∃ d o kvs, H' d = some (.frz o (.dK kvs)) ∧ NFz X d ∧ Q v (upd H' d (.dK kvs))
end
end L2

/-! ### own exceptions: how they leave a frame -/
namespace L2
open PySem PySem.Spec PyProof.Rows
/-- an exception in flight: the newest entry of its trace, which is no frame's -/
structure Fly (h : Heap) (e T : Addr) (oe : Obj) : Prop where
  at_ : h.get? e = some oe
  fs : ∃ vs, oe.data = .fields vs ∧ vs[1]? = some (.ref T)
  ne : T ≠ e
  tr : ∃ oT ts, h.get? T = some oT ∧ oT.data = .fields ts ∧ ts[3]? = some .none
section
variable {M : Model} {A : Around} {E : Value → Shared → Prop} {s : Shared}
theorem new_entry {base : Heap} {env : Env} {outer : List Env} {L e : Addr} {oe : Obj} {vs : Array Value} {head : Value} {hadNext : Bool} {Q : Unit → Shared → Prop}
    (hfr : A.frames = some (env :: outer)) (hl : s.heap.FunFrames base (env :: outer)) (hf : env.frame = some L)
    (he : s.heap.get? e = some oe) (hd : oe.data = .fields vs) (hsz : 1 < vs.size)
    (h : ∀ h' T, s.heap.objs.size ≤ T → Fly h' e T (oe.mapFields (·.setIfInBounds 1 (.ref T))) → (∀ b o, b ≠ e → b ∉ (env :: outer).filterMap (·.frame) → s.heap.get? b = some o → h'.get? b = some o) →
      (∀ b o, b ≠ e → s.heap.get? b = some o → ∃ sl, h'.get? b = some { o with slots := sl }) → Q () { s with heap := h' }) :
    wpAny M A (do let a ← frameOf env; let pl ← entryPlaceOf L hadNext; let b ← EntryCells.newEntry head a .none (rawInt L) .none pl; setField (.ref e) 1 b) (fun _ s' => wpAny M A (setFlight (.ref e) none) Q E s') E s := by
  have hene : e ∉ (env :: outer).filterMap (·.frame) := fun hm => by
    obtain ⟨_, o, ho, hnf⟩ := hl.mem hm
    rw [he] at ho; injection ho with ho; subst ho; exact hnf vs hd
  refine wpAny_bind (wpAny_frameOf_fun hfr hl hf fun h₁ hs₁ => ?_)
  refine wpAny_bind (wpAny_entryPlaceOf fun pl hpl => ?_)
  unfold EntryCells.newEntry newFields
  refine wpAny_bind (wpAny_newObj_type ?_ (hpl.sizeOk5 _ _ _ _ _))
  have he₁ : h₁.get? e = some oe := (hs₁.2.1 e hene).trans he
  have he₂ := Heap.get?_push_of_some (h := h₁) { cls := .type "traceback", dict := none, data := .fields ([head, .ref L, .none, rawInt L, .none] ++ (if pl.isEmpty then List.replicate 6 Value.none else pl)).toArray } he₁
  refine wpAny_setField he₂ hd hsz ?_
  have hTe : h₁.objs.size ≠ e := Nat.ne_of_gt (Heap.lt_size he₁)
  have hd₃ := Obj.data_mapFields hd (·.setIfInBounds 1 (Value.ref h₁.objs.size))
  have he₃ := Heap.get?_update_self (Obj.mapFields (·.setIfInBounds 1 (Value.ref h₁.objs.size))) he₂ (Obj.isFreed_of_fields hd₃)
  have hT₃ := (Heap.get?_update_other (h₁.push { cls := .type "traceback", dict := none, data := .fields ([head, .ref L, .none, rawInt L, .none] ++ (if pl.isEmpty then List.replicate 6 Value.none else pl)).toArray })
    (Obj.mapFields (·.setIfInBounds 1 (Value.ref h₁.objs.size))) (Ne.symm hTe)).trans (Heap.get?_push_size h₁ rfl)
  unfold setFlight
  refine wpAny_bind (wpAny_field he₃ hd₃ (x := .ref h₁.objs.size) (by simp [hsz]) ?_)
  rw [if_pos (show (Value.ref h₁.objs.size != Value.none) = true from by simp)]
  refine wpAny_setField hT₃ rfl (by simp only [List.size_toArray, List.length_append, List.length_cons, List.length_nil] <;> omega) (h _ h₁.objs.size ?_ ?_ ?_ ?_)
  · rw [hs₁.1]; exact Nat.le_refl _
  · refine ⟨?_, ⟨_, hd₃, by simp [hsz]⟩, hTe, _, _, Heap.get?_update_self _ hT₃ (Obj.isFreed_of_fields (Obj.data_mapFields rfl _)), Obj.data_mapFields rfl _, by first | (simp; done) | (rcases hpl with rfl | ⟨_, _, _, _, _, _, _, rfl⟩ <;> simp)⟩
    rw [Heap.get?_update_other _ _ hTe]; exact he₃
  · intro b o hbe hbf hb
    have hb₁ := (hs₁.2.1 b hbf).trans hb
    have hbT : h₁.objs.size ≠ b := Nat.ne_of_gt (Heap.lt_size hb₁)
    rw [Heap.get?_update_other _ _ hbT, Heap.get?_update_other _ _ (Ne.symm hbe)]
    exact Heap.get?_push_of_some _ hb₁
  · intro b o hbe hb
    obtain ⟨sl, hb₁⟩ := hs₁.2.2 b o hb
    have hbT : h₁.objs.size ≠ b := Nat.ne_of_gt (Heap.lt_size hb₁)
    refine ⟨sl, ?_⟩
    rw [Heap.get?_update_other _ _ hbT, Heap.get?_update_other _ _ (Ne.symm hbe)]
    exact Heap.get?_push_of_some _ hb₁
/-- the first frame that it leaves -/
theorem leave_first {base : Heap} {env : Env} {outer : List Env} {L e : Addr} {oe : Obj} {vs : Array Value} {Q : Unit → Shared → Prop}
    (hfr : A.frames = some (env :: outer)) (hl : s.heap.FunFrames base (env :: outer)) (hf : env.frame = some L)
    (he : s.heap.get? e = some oe) (hd : oe.data = .fields vs) (h1 : vs[1]? = some .none)
    (h : ∀ h' T, s.heap.objs.size ≤ T → Fly h' e T (oe.mapFields (·.setIfInBounds 1 (.ref T))) → (∀ b o, b ≠ e → b ∉ (env :: outer).filterMap (·.frame) → s.heap.get? b = some o → h'.get? b = some o) →
      (∀ b o, b ≠ e → s.heap.get? b = some o → ∃ sl, h'.get? b = some { o with slots := sl }) → Q () { s with heap := h' }) : wpAny M A (leaving env (.ref e)) Q E s := by
  unfold leaving noteFrame
  simp only [hf]
  refine wpAny_bind (wpAny_bind (wpAny_field he hd h1 ?_))
  rw [if_neg (by decide)]
  exact new_entry hfr hl hf he hd (Array.getElem?_eq_some_iff.mp h1).1 h
/-- each further one -/
theorem leave_next {base : Heap} {env : Env} {outer : List Env} {L e T : Addr} {oe : Obj} {Q : Unit → Shared → Prop}
    (hfr : A.frames = some (env :: outer)) (hl : s.heap.FunFrames base (env :: outer)) (hf : env.frame = some L) (ht : Fly s.heap e T oe)
    (h : ∀ h' T', s.heap.objs.size ≤ T' → Fly h' e T' (oe.mapFields (·.setIfInBounds 1 (.ref T'))) → (∀ b o, b ≠ e → b ≠ T → b ∉ (env :: outer).filterMap (·.frame) → s.heap.get? b = some o → h'.get? b = some o) →
      (∀ b o, b ≠ e → b ≠ T → s.heap.get? b = some o → ∃ sl, h'.get? b = some { o with slots := sl }) → Q () { s with heap := h' }) : wpAny M A (leaving env (.ref e)) Q E s := by
  obtain ⟨he, ⟨vs, hd, h1⟩, hTe, oT, ts, hT, hdT, h3⟩ := ht
  unfold leaving noteFrame
  simp only [hf]
  refine wpAny_bind (wpAny_bind (wpAny_field he hd h1 ?_))
  rw [if_pos (show (Value.ref T != Value.none) = true from by simp)]
  refine wpAny_bind (wpAny_field hT hdT h3 ?_)
  rw [if_neg (show ¬ ((Value.none == rawInt L) = true) from by simp [rawInt])]
  refine wpAny_bind (wpAny_setField hT hdT (Array.getElem?_eq_some_iff.mp h3).1 ?_)
  have other : ∀ b, b ≠ T → (s.heap.update T (Obj.mapFields (·.setIfInBounds 3 Value.none))).get? b = s.heap.get? b := fun b hb => Heap.get?_update_other _ _ (Ne.symm hb)
  have noRecord : ∀ b o, s.heap.get? b = some o → (∀ vs, o.data ≠ .fields vs) → b ≠ T := fun b o hb hnf q => by
    rw [q, hT] at hb; injection hb with hb; subst hb; exact hnf ts hdT
  refine new_entry hfr (hl.of_keeps fun b o hb hnf => ⟨o, (other b (noRecord b o hb hnf)).trans hb, rfl⟩) hf ((other e (Ne.symm hTe)).trans he) hd (Array.getElem?_eq_some_iff.mp h1).1
    fun h' T' hn fl k1 k2 => h h' T' ?_ fl (fun b o hbe hbT hbf hb => k1 b o hbe hbf ((other b hbT).trans hb)) fun b o hbe hbT hb => k2 b o hbe ((other b hbT).trans hb)
  have hn' : (s.heap.update T (Obj.mapFields (·.setIfInBounds 3 Value.none))).objs.size ≤ T' := hn
  rw [Heap.size_after_update] at hn'
  exact hn'
end
/-! ### an own exception made: its class's own __init__ -/
structure TailHas (bm : List Value) : Prop where
  hasB : bm.contains (.type "ValueError") = true
  hasBase : bm.contains (.type "BaseException") = true
  noAttr : bm.contains (.type "AttributeError") = false
  noName : bm.contains (.type "NameError") = false
abbrev excNew (C t : Addr) : Obj := { cls := .ref C, data := .fields #[.ref t, .none, .none, .none, .bool false, .none] }
section
variable {prog : Program} {w : World} {A : Around} {E : Value → Shared → Prop} {h : Heap} {g : Array GenState} {d : Drawn} {t : Nat} {os : OsState}
variable {nm q : Str} {C N : Addr} {bs bm : List Value} {hdct : Bool} {sn : List Str} {sub : List Value} {ab : Bool} {col : Option Bool} {dd : Option Addr} {k0 k1 k2 k3 k5 : Option Value}
theorem exc_check_new {M : Model} (T : TailHas bm) {rest : List Value} {Q : Unit → Shared → Prop} (hC : h.get? C = some (excClassObj nm q C N bs bm hdct sn sub ab col dd k0 k1 k2 k3 k5 "ValueError.__new__"))
    (hq : Q () ⟨h, g, d, t, os⟩) : wpAny M A (checkBuiltinCall "ValueError.__new__" ⟨.ref C :: rest, []⟩) Q E ⟨h, g, d, t, os⟩ := by
  have F := PySem.F.excBase_ValueError
  have hcont : (Value.ref C :: bm).contains (.type "ValueError") = true := by rw [List.contains_cons, T.hasB, Bool.or_true]
  have hstar := F.noStar
  simp only [checkBuiltinCall, F.newKind, F.newSplit, F.newRow]
  repeat (first | refine wpAny_loadPart_at hC ?_ | (refine wpAny_isSubtype_exc hC ?_; rw [hcont]) | refine wpAny_staticBase_exc hC ?_ | refine wpAny_madeBy_exc hC ?_ | simp only [bne_self_eq_false, Bool.false_eq_true, if_false] | wp_step)
  exact hq
theorem exc_new_code (T : TailHas bm) {R : Result → Shared → Prop} {rest : List Value} (hC : h.get? C = some (excClassObj nm q C N bs bm hdct sn sub ab col dd k0 k1 k2 k3 k5 "ValueError.__new__"))
    (hq : R (.ok (.ret (.ref (h.objs.size + 1)))) ⟨(h.push { cls := .type "tuple", data := .seq rest.toArray }).push (excNew C h.objs.size), g, d, t, os⟩) (hrest : rest.length ≤ sizeLine := by size_fits) :
    codeAny (model prog w) A (.builtin "ValueError.__new__" ⟨.ref C :: rest, []⟩) R ⟨h, g, d, t, os⟩ := by
  have F := PySem.F.excBase_ValueError
  have hends := F.ends
  have hcB : (Value.ref C :: bm).contains (.type "ValueError") = true := by rw [List.contains_cons, T.hasB, Bool.or_true]
  have hcA : (Value.ref C :: bm).contains (.type "AttributeError") = false := by rw [List.contains_cons, T.noAttr]; rfl
  have hcN : (Value.ref C :: bm).contains (.type "NameError") = false := by rw [List.contains_cons, T.noName]; rfl
  refine codeAny_builtinAt F.entry ?_
  unfold Builtin.«BaseException.__new__»
  refine PySem.wpAt_bind ?_
  show PySem.wpAt _ _ _ (stack >>= _) _ _ _
  refine PySem.wpAt_bind (PySem.wpAt_stack fun p below => PySem.wpAt_of_wpAny ?_)
  wp_walk
  refine PySem.wpAt_of_wpAny ?_
  rw [F.owner]
  repeat (first | with_reducible refine wpAny_madeHere_exc F.canon hC ?_ | with_reducible refine wpAny_loadPart_at hC ?_ | (with_reducible refine wpAny_isSubtype_exc hC ?_; first | rw [hcB] | rw [hcA] | rw [hcN]) | wp_step)
  show R _ _
  rw [Heap.size_push]
  exact hq
theorem exc_type_call (T : TailHas bm) {K : PySem.W.Frag} {rest : List Value} {fI : Addr} {Q : Fin → Shared → Prop}
    (hC : h.get? C = some (excClassObj nm q C N bs bm hdct sn sub ab col dd k0 k1 k2 k3 k5 "ValueError.__new__")) (X : K.In h) (hi : PySem.W.findIn K (.ref C) "__init__" = some (some (.ref fI))) (hf : PySem.W.typeIn K (.ref fI) = some (.type "function"))
    (hq : wpAny (model prog w) A (call (.ref fI) (.ref (h.objs.size + 1) :: rest)) (fun r s' => r = .none ∧ Q (.done (.ret (.ref (h.objs.size + 1)))) s') E ⟨(h.push { cls := .type "tuple", data := .seq rest.toArray }).push (excNew C h.objs.size), g, d, t, os⟩) (hrest : rest.length ≤ sizeLine := by size_fits) :
    wpAny (model prog w) A (Builtin.«type.__call__» ⟨.ref C :: rest, []⟩) Q E ⟨h, g, d, t, os⟩ := by
  have F := PySem.F.excBase_ValueError
  repeat (first | with_reducible refine wpAny_loadPart_at hC ?_ | with_reducible refine wpAny_madeBy_exc hC ?_ | wp_step)
  refine codeAny_call_builtin_code (Code.quiet_builtin _ F.quiet) (exc_check_new T hC ?_)
  refine exc_new_code T hC ?_ hrest
  show wpAny _ _ _ _ _ _
  have hk : ∀ b o, h.get? b = some o → ((h.push { cls := .type "tuple", data := .seq rest.toArray }).push (excNew C h.objs.size)).get? b = some o := fun b o e => Heap.get?_push_of_some _ (Heap.get?_push_of_some _ e)
  have hC₁ := hk _ _ hC
  have X₁ : K.In ((h.push { cls := .type "tuple", data := .seq rest.toArray }).push (excNew C h.objs.size)) := X.keeps hk
  have hget : ((h.push { cls := .type "tuple", data := .seq rest.toArray }).push (excNew C h.objs.size)).get? (h.objs.size + 1) = some (excNew C h.objs.size) := by heap_get
  have hcC : (Value.ref C :: bm).contains (.ref C) = true := by simp
  unfold isInstance
  repeat (first | with_reducible refine wpAny_loadPart_at hget ?_ | (with_reducible refine wpAny_isSubtype_exc hC₁ ?_; rw [hcC]) | wp_step)
  show wpAny _ _ (typeLookup (.ref C) _) _ _ _
  refine (PySem.W.looks_findIn X₁ hi).here ?_
  refine wpAny_holding (wpAny_bind ?_)
  refine (PySem.W.bind_fn X₁ (.ref (h.objs.size + 1)) hf).here ?_
  refine wpAny_bind (wpAny_mono hq (fun r s' hr => ?_) fun _ _ x => x)
  obtain ⟨rfl, hQ⟩ := hr
  wp_walk
  exact hQ
theorem exc_call (T : TailHas bm) {K : PySem.W.Frag} {rest : List Value} {fI : Addr} {Q : Value → Shared → Prop}
    (hC : h.get? C = some (excClassObj nm q C N bs bm hdct sn sub ab col dd k0 k1 k2 k3 k5 "ValueError.__new__")) (X : K.In h) (hi : PySem.W.findIn K (.ref C) "__init__" = some (some (.ref fI))) (hf : PySem.W.typeIn K (.ref fI) = some (.type "function"))
    (hq : wpAny (model prog w) (A.under (.builtin "type.__call__" ⟨.ref C :: rest, []⟩)) (call (.ref fI) (.ref (h.objs.size + 1) :: rest)) (fun r s' => r = .none ∧ Q (.ref (h.objs.size + 1)) s') E ⟨(h.push { cls := .type "tuple", data := .seq rest.toArray }).push (excNew C h.objs.size), g, d, t, os⟩) (hrest : rest.length ≤ sizeLine := by size_fits) :
    wpAny (model prog w) A (call (.ref C) rest) Q E ⟨h, g, d, t, os⟩ := by
  have f1 := tc_lookup
  have f2 := tc_bind (.ref C)
  have hT : (⟨h, g, d, t, os⟩ : Shared).TypeIs (.ref C) "type" := ⟨_, hC, rfl⟩
  refine wpAny_call (codeAny_of_tree ?_)
  show wpAny _ _ (callAny (.ref C) _) _ _ _
  repeat (any_goals (first | assumption | with_reducible refine wpAny_loadPart_at hC ?_ | wp_step))
  refine ⟨rfl, ?_⟩
  exact codeAny_call_builtin_at (Code.quiet_builtin _ (by decide +kernel)) entry_typeCall (wpAny_check_type_call_sub hC (exc_type_call (hrest := hrest) T hC X hi hf hq))
end
/-! ### exceptions among the tracked things -/
/-- at a stands an exception of the class at C, its dict at dd; n: it is in no flight yet -/
def excP (a C : Addr) (dd : Option Addr) (n : Bool) (h : Heap) : Prop := ∃ vs : Array Value, h.get? a = some { cls := .ref C, dict := dd, data := .fields vs } ∧ vs.size = 6 ∧ (n = true → vs[1]? = some .none)
theorem ext_ok {P : Program} {w : World} {H : Hp} {h : Heap} {a C : Addr} {dd : Option Addr} {n : Bool} (p : excP a C dd n h) : ObjOk P w H h a (.ext (excP a C dd n)) := by
  obtain ⟨vs, e, r⟩ := p
  exact ⟨⟨vs, e, r⟩, ⟨_, e⟩, fun h1 h2 ⟨ws, e1, r1⟩ k => ⟨ws, k _ e1, r1⟩⟩
theorem ext_at {P : Program} {w : World} {H : Hp} {h : Heap} {a C : Addr} {dd : Option Addr} {n : Bool} (ok : HOk P w H h) (e : H a = some (.ext (excP a C dd n))) : excP a C dd n h :=
  (show ObjOk P w H h a (.ext (excP a C dd n)) from ok a _ e).1
theorem upd_self {H : Hp} {a : Addr} {o : HO} (h : H a = some o) : upd H a o = H := by
  funext b
  by_cases hb : b = a
  · subst hb
    rw [upd_same, h]
  · rw [upd_ne hb]
/-- what the fragment knows of an own exception's class -/
structure ExcC (K : PySem.W.Frag) (C : Addr) : Prop where
  obj : ∃ nm q N bs bm hdct sn sub ab col dd k0 k1 k2 k3 k5, K.lookup C = some (excClassObj nm q C N bs bm hdct sn sub ab col dd k0 k1 k2 k3 k5 "ValueError.__new__") ∧ TailHas bm
structure ExcMk (K : PySem.W.Frag) (C f : Addr) : Prop extends ExcC K C where
  init : PySem.W.findIn K (.ref C) "__init__" = some (some (.ref f))
  fn : PySem.W.typeIn K (.ref f) = some (.type "function")
  kp : PySem.W.keepIn K (.ref C) = true
section
variable {X : Cx} {CX : CXT} {k : Nat} {f C : Addr} {fd : FuncData} {ps : List Str} {sp : Sp} {E : XK} {x m : Str} {p pos apos : Pos} {e o : Expr} {es : List Expr} {ta : TE} {t : TA}
def tMakeX (C : Addr) (sp : Sp) (E : XK) (t : TA) : TE := fun σ H Q => t σ H fun vs H1 => ∀ x, H1 x = none → sp (.ref x :: vs) (upd H1 x (.ext (excP x C none true))) (fun v H2 => v = .non ∧ Q (.ref x) H2) E
theorem run_makeX {pins : List (Addr × Obj)} {σ : St} {H : Hp} {s : Shared} {Q : VK} {us : List Value} {vs : List V} (M : ExcMk X.K C f) (F : FnOk X.prog X.w X.K X.mg X.base CX k f fd ps sp) (hr : Room (k + 1) X.A) (hb : Binds X.K fd ps [])
    (hx : Passes CX X E) (I : Inv X pins σ H s) (r : Vals vs us) (hus : us.length ≤ 100)
    (h : ∀ x, H x = none → sp (.ref x :: vs) (upd H x (.ext (excP x C none true))) (fun v H2 => v = .non ∧ Q (.ref x) H2) E) :
    wpAny (model X.prog X.w) X.A (call (.ref C) us) (EP X pins σ Q) X.xe s := by
  have hq := h (s.heap.objs.size + 1) (I.hok.fresh (Nat.le_succ _))
  obtain ⟨nm, q, N, bs, bm, hdct, sn, sub, ab, col, dd, k0, k1, k2, k3, k5, lk, T⟩ := M.obj
  have hC := I.kIn _ _ lk
  have hk : ∀ b u, s.heap.get? b = some u → ((s.heap.push { cls := .type "tuple", data := .seq us.toArray }).push (excNew C s.heap.objs.size)).get? b = some u := fun b u e => Heap.get?_push_of_some _ (Heap.get?_push_of_some _ e)
  have hget : ((s.heap.push { cls := .type "tuple", data := .seq us.toArray }).push (excNew C s.heap.objs.size)).get? (s.heap.objs.size + 1) = some (excNew C s.heap.objs.size) := by heap_get
  have I2 : Inv X pins σ (upd H (s.heap.objs.size + 1) (.ext (excP (s.heap.objs.size + 1) C none true))) { s with heap := (s.heap.push { cls := .type "tuple", data := .seq us.toArray }).push (excNew C s.heap.objs.size) } :=
    I.laid (t' := s.toks) hk (Nat.le_succ _) (ext_ok ⟨_, hget, rfl, fun _ => rfl⟩)
  have r2 : Vals (V.ref (s.heap.objs.size + 1) :: vs) (Value.ref (s.heap.objs.size + 1) :: us) := .cons rfl r
  have hl : (Value.ref (s.heap.objs.size + 1) :: us ++ ([] : List Value)).length = ps.length := by
    have e := r2.length
    rw [F.len _ _ _ _ hq] at e
    rw [List.append_nil]
    exact e.symm
  obtain ⟨hp, g, d, tk, os⟩ := s
  refine exc_call (hrest := Nat.le_trans hus (by decide)) T hC I.kIn M.init M.fn (wpAny_call (codeAny_mono (F.run _ X.stack _ _ ⟨Value.ref (hp.objs.size + 1) :: us, []⟩ (Value.ref (hp.objs.size + 1) :: us) _ _ E (hr.make C us []) (I2.env0.make C us []) ?_ r2 hq) fun r s' hq' => ?_))
  · have := hb _ (Value.ref (hp.objs.size + 1) :: us) I2.kIn hl
    rw [List.append_nil] at this
    exact this
  · cases r with
    | error e => exact hx pins σ _ _ e s' I2 hq'
    | ok fl =>
      cases fl with
      | ret u =>
        obtain ⟨v, H', I3, rv, ev, q3⟩ := I2.after hq'
        subst ev
        exact ⟨rv, ⟨V.ref (hp.objs.size + 1), H', I3, rfl, q3⟩⟩
      | next => exact False.elim hq'
      | brk => exact False.elim hq'
      | cont => exact False.elim hq'
theorem pe_makeX (M : ExcMk X.K C f) (F : FnOk X.prog X.w X.K X.mg X.base CX k f fd ps sp) (hr : Room (k + 1) X.A) (hg : Gl X x) (hm : X.mg x = some (.ref C)) (hb : Binds X.K fd ps []) (hx : Passes CX X E)
    (ha : PA X (e :: es) t) (hlen : ∀ vs H Q E, sp vs H Q E → vs.length ≤ 100) (hdb : (x == ("__debug__" : Str)) = false := by decide) (he : starEach (e :: es) X.env = (false, eval e X.env) :: starEach es X.env := by rfl) (hpl : (backTo pos (starEach es X.env)).any (·.1) = false := by rfl) :
    PE X (.Call (.Name x p) (e :: es) [] pos) (tMakeX C sp E t) := by
  intro pins s σ H Q I h
  refine wpAny_Call_Name_kw (ld_glob I hg hm ?_ hdb)
  refine PySem.W.callWith_K (h₀ := X.base) I.ok.mod.kin M.kp (thn (ha pos pins s σ H _ I h) fun us s1 ⟨vs, H1, I1, r, q⟩ => ⟨I1.kIn, ?_⟩) he hpl
  refine run_makeX M F hr hb hx I1 r ?_ q
  have h1 := hlen _ _ _ _ (q _ (I1.hok.fresh (Nat.le_refl _)))
  have h2 := r.length
  rw [List.length_cons] at h1
  rw [List.nil_append]
  omega
end
/-! ### ValueError.__init__(self, x) -/
theorem find_vinit (K : PySem.W.Frag) : PySem.W.findCls K (.type "ValueError") (.type "type") "__init__" = some (.val (.builtin "ValueError.__init__")) := by kernel_rfl
section
variable {prog : Program} {w : World} {A : Around} {E : Value → Shared → Prop} {h : Heap} {g : Array GenState} {d : Drawn} {t : Nat} {os : OsState}
variable {nm q : Str} {C N : Addr} {bs bm : List Value} {hdct : Bool} {sn : List Str} {sub : List Value} {ab : Bool} {col : Option Bool} {dd : Option Addr} {k0 k1 k2 k3 k5 : Option Value}
theorem exc_check_init {M : Model} (T : TailHas bm) {e : Addr} {oe : Obj} {rest : List Value} {Q : Unit → Shared → Prop}
    (hC : h.get? C = some (excClassObj nm q C N bs bm hdct sn sub ab col dd k0 k1 k2 k3 k5 "ValueError.__new__")) (he : h.get? e = some oe) (hcls : oe.cls = .ref C) (hq : Q () ⟨h, g, d, t, os⟩) :
    wpAny M A (checkBuiltinCall "ValueError.__init__" ⟨.ref e :: rest, []⟩) Q E ⟨h, g, d, t, os⟩ := by
  have F := PySem.F.excBase_ValueError
  have hcB : (Value.ref C :: bm).contains (.type "ValueError") = true := by rw [List.contains_cons, T.hasB, Bool.or_true]
  have hshort := F.noStar
  simp only [checkBuiltinCall, F.initKind, F.initSplit, F.initRow]
  repeat (first | (with_reducible refine wpAny_loadPart_at he ?_; rw [hcls]) | with_reducible refine wpAny_loadPart_at hC ?_ | (with_reducible refine wpAny_isSubtype_exc hC ?_; rw [hcB]) | wp_step)
  refine wpAny_onRaise ?_
  rw [show ∀ (a b : String) (n : Nat), Bind.check ⟨.positional, "*", "ValueError", .self, [⟨"args", .varPos, false⟩]⟩ a b n (List.map (fun x => x.fst) ({ pos := Value.ref e :: rest } : Args).kw) = pure () from
    fun a b n => check_star_args _ _ _ _ _ _]
  exact wpAny_pure hq
theorem exc_vinit (T : TailHas bm) {e : Addr} {vs : Array Value} {de : Option Addr} {x : Value} {Q : Value → Shared → Prop}
    (hC : h.get? C = some (excClassObj nm q C N bs bm hdct sn sub ab col dd k0 k1 k2 k3 k5 "ValueError.__new__")) (he : h.get? e = some { cls := .ref C, dict := de, data := .fields vs }) (hv : vs.size = 6)
    (hq : ∀ h' T', h.get? T' = none → (∀ b o, b ≠ e → h.get? b = some o → h'.get? b = some o) → h'.get? e = some { cls := .ref C, dict := de, data := .fields (vs.setIfInBounds 0 (.ref T')) } → Q .none ⟨h', g, d, t, os⟩) :
    wpAny (model prog w) A (call (.builtin "ValueError.__init__") [.ref e, x]) Q E ⟨h, g, d, t, os⟩ := by
  have F := PySem.F.excBase_ValueError
  have hsz : 0 < vs.size := by omega
  refine wpAny_call (codeAny_call_builtin F.init.plain F.initEntry (exc_check_init T hC he rfl ?_))
  unfold Builtin.«BaseException.__init__»
  wp_walk
  have h0 : vs[0]? = some vs[0] := Array.getElem?_eq_getElem hsz
  rw [h0]
  have he2 := Heap.get?_push_of_some { cls := .type "tuple", data := .seq #[x] } he
  have fin : Q .none ⟨(h.push { cls := .type "tuple", data := .seq #[x] }).update e (Obj.mapFields (·.setIfInBounds 0 (.ref h.objs.size))), g, d, t, os⟩ := by
    refine hq _ h.objs.size (Heap.get?_none_of_le (Nat.le_refl _)) (fun b o hb e' => ?_) ?_
    · rw [Heap.get?_update_other _ _ (Ne.symm hb)]
      exact Heap.get?_push_of_some _ e'
    · exact Heap.get?_update_self _ he2 rfl
  generalize vs[0] = v0
  refine wpAny_pure ?_
  refine wpAny_bind (wpAny_setField he2 rfl hsz ?_)
  cases v0 with
  | ref a => exact wpAny_letGo (wpAny_pure fin)
  | _ => exact wpAny_pure (wpAny_pure fin)
end
section
variable {X : Cx} {p pos apos : Pos} {e1 e2 : Expr} {t : TA}
/-- ValueError.__init__(self, x): nothing that is told of it changes -/
def tVInit (K : PySem.W.Frag) (t : TA) : TE := fun σ H Q => t σ H fun vs H1 => ∃ a C dd n x, vs = [.ref a, x] ∧ H1 a = some (.ext (excP a C dd n)) ∧ ExcC K C ∧ Q .non H1
theorem pe_vinit {pl : Sem Bool} (hg : Gl X "ValueError") (hm : X.mg "ValueError" = none) (ha : PA X [e1, e2] t)
    (hst : starEach [e1, e2] X.env = (false, eval e1 X.env) :: starEach [e2] X.env := by rfl) (hpl : (backTo pos (starEach [e2] X.env)).any (·.1) = false := by rfl)
    (ht : eval (.Call (.Attribute (.Name "ValueError" p) "__init__" apos) [e1, e2] [] pos) X.env = (do
      let ov ← eval (.Name "ValueError" p) X.env
      standAt apos.atName
      let (f, first) ← holding [ov] (getMethod ov "__init__" pl)
      callWith pos f first (backTo pos (starEach [e1, e2] X.env)) (backToKw pos (keywordEach [] X.env))) := by rfl) :
    PE X (.Call (.Attribute (.Name "ValueError" p) "__init__" apos) [e1, e2] [] pos) (tVInit X.K t) := by
  intro pins s σ H Q I h
  refine PySem.W.methodCall_KW (pl := pl) (ld_blt I hg hm Boot.«ValueError» ?_) ht
  obtain ⟨m, F⟩ := I.fr
  refine PySem.W.method_type F I.mod.kin (by kernel_rfl) (by decide +kernel) (find_vinit X.K) (by decide +kernel) ?_
  refine PyProof.Rows.callWith_builtin1 (thn (ha pos pins _ σ H _ (I.tok _) h) fun us s1 ⟨vs, H1, I1, r1, q1⟩ => ?_) hst hpl
  obtain ⟨a, C, dd, n, x, rfl, hx, hc, q⟩ := q1
  cases r1 with
  | cons r rr =>
    cases rr with
    | cons r' rr =>
      cases rr
      cases r
      obtain ⟨nm, q', N, bs, bm, hdct, sn, sub, ab, col, dd', k0, k1, k2, k3, k5, lk, T⟩ := hc.obj
      obtain ⟨ws, he, hw, hn⟩ := ext_at I1.hok hx
      obtain ⟨hp, g, d, tk, os⟩ := s1
      refine exc_vinit T (I1.kIn _ _ lk) he hw fun h' T' hT k he' => ⟨.non, H1, ?_, rfl, q⟩
      have I2 := I1.write (h' := h') (t' := tk) (x := a) (e := a) (o := .ext (excP a C dd n)) (by rw [hx]; exact True.intro) (.inl rfl) k ⟨_, he'⟩ (ext_ok ⟨_, he', by simp [hw], fun z => by rw [Array.getElem?_setIfInBounds_ne (by decide)]; exact hn z⟩)
      rw [upd_self hx] at I2
      exact I2
end
end L2

/-! ### an exception's own attributes -/
namespace L2
open PySem PySem.Spec PyProof.Rows PySem.Builtin.ObjectAttr
theorem refuse_value (self : Value) : refuseLoop self "__setattr__" [.type "ValueError", .type "Exception", .type "BaseException", .type "object"] = pure () := by kernel_rfl
section
variable {prog : Program} {w : World} {A : Around} {E : Value → Shared → Prop} {h : Heap} {g : Array GenState} {d : Drawn} {t : Nat} {os : OsState}
variable {nm q : Str} {C N x : Addr} {bs bm : List Value} {sn : List Str} {sub : List Value} {ab : Bool} {col : Option Bool} {dd : Option Addr} {k0 k1 k2 k3 k5 : Option Value} {newId : String}
  {mA : Str → Option Value} {name : Str} {v : Value} {K : PySem.W.Frag}
theorem exc_check_sa {M : Model} {o : Obj} {nameV : Value} {Q : Unit → Shared → Prop} (hob : bm.contains (.type "object") = true)
    (hC : h.get? C = some (excClassObj nm q C N bs bm true sn sub ab col dd k0 k1 k2 k3 k5 newId)) (hx : h.get? x = some o) (hc : o.cls = .ref C) (hq : Q () ⟨h, g, d, t, os⟩) :
    wpAny M A (checkBuiltinCall "object.__setattr__" ⟨[.ref x, nameV, v], []⟩) Q E ⟨h, g, d, t, os⟩ := by
  have SF := PySem.F.store_object
  have hcB : (Value.ref C :: bm).contains (.type "object") = true := by rw [List.contains_cons, hob, Bool.or_true]
  have ha := SF.args (.ref x) nameV v
  simp only [checkBuiltinCall, SF.kind, SF.split]
  refine wpAny_bind ?_
  · unfold isInstance
    repeat (first | (with_reducible refine wpAny_loadPart_at hx ?_; rw [hc]) | (with_reducible refine wpAny_isSubtype_exc hC ?_; rw [hcB]) | wp_step)
    exact hq
theorem exc_store_entry {tk : Tok} {Q : Fin → Shared → Prop} {ns : List Str} (hpass : ∀ self, refuseLoop self "__setattr__" bm = pure ()) (X : K.In h) (hna : PySem.W.findIn K (.ref C) name = some none)
    (hC : h.get? C = some (excClassObj nm q C N bs bm true sn sub ab col dd k0 k1 k2 k3 k5 newId)) (I : h.Inst x C mA)
    (hq : ∀ h' tk', h'.Inst x C (fun y => if y = name then some v else mA y) →
      (∀ b o, b ≠ x → (∀ o₀ dx, h.get? x = some o₀ → o₀.dict = some dx → b ≠ dx) → h.get? b = some o → h'.get? b = some o) →
      (∀ o₀, h.get? x = some o₀ → ∃ o₁, h'.get? x = some o₁ ∧ o₁.cls = o₀.cls ∧ o₁.data = o₀.data ∧ o₁.slots = o₀.slots ∧ (∀ dx, o₀.dict = some dx → o₁.dict = some dx) ∧ (o₀.dict = none → ∃ dx, o₁.dict = some dx ∧ h.objs.size ≤ dx)) → Q (.done (.ret .none)) ⟨h', g, d, tk', os⟩) (hw : Within mA ns) (hsz : ns.length ≤ 1000) :
    wpAny (model prog w) A (Builtin.«object.__setattr__» ⟨[.ref x, .str name tk, v], []⟩) Q E ⟨h, g, d, t, os⟩ := by
  obtain ⟨o, hx, hc, hnc, hd⟩ := I
  have hpass := hpass (.ref x)
  unfold Builtin.«object.__setattr__»
  repeat (first | rw [refuse_eq] | (rw [refuseLoop_ref, hpass]) | (with_reducible refine wpAny_loadPart_at hx ?_; rw [hc]) | with_reducible refine wpAny_mroOf_exc hC ?_ | (with_reducible refine (PySem.W.looks_findIn X hna).here ?_) | wp_step)
  rcases hd with ⟨hdn, hmA⟩ | ⟨dx, hdx, hne, hns⟩
  ·
    rw [hdn, if_neg (by simp [typeHasDict])]
    split
    · rename_i hcd
      cases hcd
    split
    · rename_i c hcd
      exact absurd hcd (hnc c)
    · have hx₁ : (h.push { cls := .type "dict", data := .dict #[] }).get? x = some o := Heap.get?_push_of_some _ hx
      have hxs : x ≠ h.objs.size := Nat.ne_of_lt (Heap.lt_size hx)
      refine wpAny_bind (wpAny_alloc' ?_)
      refine wpAny_bind (wpAny_update' hx₁ ?_)
      refine wpAny_pure ?_
      have hgd : ((h.push { cls := .type "dict", data := .dict #[] }).update x fun o => { cls := o.cls, dict := some h.objs.size, data := o.data, slots := o.slots }).get? h.objs.size
          = some { cls := .type "dict", data := .dict #[] } :=
        (Heap.get?_update_ne _ _ _ _ hxs.symm).trans (Heap.get?_push_at rfl rfl)
      have hnd : ((h.push { cls := .type "dict", data := .dict #[] }).update x fun o => { cls := o.cls, dict := some h.objs.size, data := o.data, slots := o.slots }).Ns h.objs.size (fun _ => none) :=
        ⟨_, #[], _, hgd, rfl, fun e he => absurd he (by simp), fun _ => rfl⟩
      show wpAny _ _ (storeInDict h.objs.size (.str name tk) name v) _ _ _
      unfold storeInDict newKeyGuard
      refine wpAny_bind (wpAny_pure (wpAny_bind (wpAny_nsSet1 (Heap.Ns1.of_empty hnd) fun h' hn' hs => ?_)))
      obtain ⟨oD, esD, epD, hoD, hdD, hcD⟩ := hn'.count (Within.cons name v Within.nil)
      refine wpAny_bind (wpAny_lookBehind hoD (by rw [hdD]; exact pastItsLine_dict (Nat.le_trans hcD (by rw [List.length_cons, List.length_nil, sizeLine_eq]; omega))) ?_)
      wp_walk
      have hx' : h'.get? x = some { cls := o.cls, dict := some h.objs.size, data := o.data, slots := o.slots } := ?_
      refine hq h' _ ⟨{ cls := o.cls, dict := some h.objs.size, data := o.data, slots := o.slots }, hx', hc, hnc, .inr ⟨h.objs.size, rfl, hxs.symm, ?_⟩⟩ (fun b ob hbx _ hb => ?_)
        (fun o₀ h₀ => by obtain rfl : o = o₀ := Option.some.inj (hx.symm.trans h₀); exact ⟨_, hx', rfl, rfl, rfl, (fun dx e => by rw [hdn] at e; cases e), fun _ => ⟨_, rfl, Nat.le_refl _⟩⟩)
      · obtain ⟨o', es, ep, e1, e2, e3, eu, e4⟩ := hn'
        exact ⟨o', es, ep, e1, e2, e3, eu, fun y => by rw [e4 y]; by_cases hy : y = name <;> simp [hy, hmA]⟩
      · exact (hs.2 b (Nat.ne_of_lt (Heap.lt_size hb))).trans ((Heap.get?_update_ne _ _ _ _ hbx).trans (Heap.get?_push_of_some _ hb))
      · refine (hs.2 x hxs).trans (Heap.get?_update_self _ hx₁ ?_)
        have hfr := (Heap.get?_some_iff.mp hx).2
        obtain ⟨oc, od, odt, osl⟩ := o
        cases odt <;> first | rfl | exact hfr
  ·
    rw [hdx]
    refine wpAny_pure ?_
    show wpAny _ _ (storeInDict dx (.str name tk) name v) _ _ _
    unfold storeInDict newKeyGuard
    refine wpAny_bind (wpAny_pure (wpAny_bind (wpAny_nsSet1 hns fun h' hn' hs => ?_)))
    obtain ⟨oD, esD, epD, hoD, hdD, hcD⟩ := hn'.count (Within.cons name v hw)
    refine wpAny_bind (wpAny_lookBehind hoD (by rw [hdD]; exact pastItsLine_dict (Nat.le_trans hcD (by rw [List.length_cons, sizeLine_eq]; omega))) ?_)
    wp_walk
    refine hq h' _ ⟨o, (hs.2 x hne.symm).trans hx, hc, hnc, .inr ⟨dx, hdx, hne, hn'⟩⟩ (fun b ob _ hbd hb => ?_)
      (fun o₀ h₀ => ⟨o₀, (hs.2 x hne.symm).trans h₀, rfl, rfl, rfl, (fun _ e => e), fun e => by obtain rfl : o = o₀ := Option.some.inj (hx.symm.trans h₀); rw [hdx] at e; cases e⟩)
    exact (hs.2 b (hbd o dx hx hdx)).trans hb
theorem exc_store {Q : Unit → Shared → Prop} {ns : List Str} (hpass : ∀ self, refuseLoop self "__setattr__" bm = pure ()) (hob : bm.contains (.type "object") = true) (X : K.In h)
    (hs : PySem.W.findIn K (.ref C) "__setattr__" = some (some (.builtin "object.__setattr__"))) (hna : PySem.W.findIn K (.ref C) name = some none)
    (hC : h.get? C = some (excClassObj nm q C N bs bm true sn sub ab col dd k0 k1 k2 k3 k5 newId)) (I : h.Inst x C mA)
    (hq : ∀ h' tk', h'.Inst x C (fun y => if y = name then some v else mA y) →
      (∀ b o, b ≠ x → (∀ o₀ dx, h.get? x = some o₀ → o₀.dict = some dx → b ≠ dx) → h.get? b = some o → h'.get? b = some o) →
      (∀ o₀, h.get? x = some o₀ → ∃ o₁, h'.get? x = some o₁ ∧ o₁.cls = o₀.cls ∧ o₁.data = o₀.data ∧ o₁.slots = o₀.slots ∧ (∀ dx, o₀.dict = some dx → o₁.dict = some dx) ∧ (o₀.dict = none → ∃ dx, o₁.dict = some dx ∧ h.objs.size ≤ dx)) → Q () ⟨h', g, d, tk', os⟩) (hw : Within mA ns) (hsz : ns.length ≤ 1000) :
    wpAny (model prog w) A (setAttr (.ref x) name v) Q E ⟨h, g, d, t, os⟩ := by
  obtain ⟨o, hx, hc, hnc, hd⟩ := id I
  have J : ∃ od, PySem.W.InstAt h x o C od := by
    rcases hd with ⟨hdn, _⟩ | ⟨dx, hdx, _, oD, es, ep, h1, _⟩
    · exact ⟨none, hx, hc, by cases e : o.data <;> simp_all [PySem.W.notCls], by rw [hdn]; trivial⟩
    · exact ⟨some oD, hx, hc, by cases e : o.data <;> simp_all [PySem.W.notCls], by rw [hdx]; exact h1⟩
  obtain ⟨od, J⟩ := J
  refine PySem.W.set_plain (s := ⟨h, g, d, t, os⟩) X J hs ?_
  exact codeAny_call_builtin PySem.F.store_object.slot.plain PySem.F.store_object.entry (exc_check_sa hob hC hx hc (exc_store_entry hpass X hna hC I (fun h' tk' a b c => hq h' tk' a b c) hw hsz))
end
end L2

/-! ### own attributes of exceptions, in the layer -/
namespace L2
open PySem PySem.Spec PyProof.Rows
/-- what is asked of an own exception's class for its attributes -/
structure ExcF (K : PySem.W.Frag) (C : Addr) : Prop where
  obj : ∃ nm q N bs bm sn sub ab col dd k0 k1 k2 k3 k5, K.lookup C = some (excClassObj nm q C N bs bm true sn sub ab col dd k0 k1 k2 k3 k5 "ValueError.__new__") ∧ (∀ self, refuseLoop self "__setattr__" bm = pure ()) ∧ bm.contains (.type "object") = true
  sa : PySem.W.findIn K (.ref C) "__setattr__" = some (some (.builtin "object.__setattr__"))
section
variable {X : Cx} {pins : List (Addr × Obj)} {σ : St} {H : Hp} {s : Shared} {a C : Addr} {n : Bool} {f : Str} {y : V} {u : Value} {A : Around} {E : Value → Shared → Prop}
theorem rel_within {fs : List (Str × V)} {mA : Str → Option Value} (r : ∀ f, RelO (fs.lookup f) (mA f)) : PySem.Within mA (fs.map (·.1)) := by
  intro g hg
  have := r g
  cases e : fs.lookup g with
  | none => rw [e] at this; cases q : mA g with
    | none => rw [q] at hg; simp at hg
    | some v => rw [q] at this; cases this
  | some v =>
    obtain ⟨l1, l2, h1, _⟩ := List.lookup_eq_some_iff.mp e
    rw [h1]
    simp
/-- two tracked objects changed, the second one perhaps new -/
theorem Inv.two {h' : Heap} {t' : Nat} {dx : Addr} {o1 o2 : HO} {φ : Heap → Prop} (I : Inv X pins σ H s) (e : H a = some (.ext φ)) (hd1 : (∀ xs, H dx ≠ some (.tup xs)) ∧ (∀ y, H dx ≠ some (.own y)) ∧ (∀ o u, H dx ≠ some (.frz o u)) ∧ ∀ ps, H dx ≠ some (.tbl ps)) (hd2 : H dx = none → s.heap.objs.size ≤ dx) (hne : dx ≠ a)
    (k : ∀ b o, b ≠ a → b ≠ dx → s.heap.get? b = some o → h'.get? b = some o) (ha : ∃ o, h'.get? a = some o) (hx : ∃ o, h'.get? dx = some o)
    (n1 : ObjOk X.prog X.w (upd (upd H a o1) dx o2) h' a o1) (n2 : ObjOk X.prog X.w (upd (upd H a o1) dx o2) h' dx o2) : Inv X pins σ (upd (upd H a o1) dx o2) { s with heap := h', toks := t' } := by
  have na : ∀ b, H b = none → b ≠ a := fun b q z => by rw [z, e] at q; cases q
  have nd : ∀ b o, s.heap.get? b = some o → H b = none → b ≠ dx := fun b o q q' z => by
    subst z
    exact absurd (Nat.lt_of_lt_of_le (Heap.lt_size q) (hd2 q')) (Nat.lt_irrefl _)
  have far : ∀ b, b ≠ a → b ≠ dx → upd (upd H a o1) dx o2 b = H b := fun b h1 h2 => by rw [upd_ne h2, upd_ne h1]
  refine I.step (g' := s.gens) (d' := s.drawn) (ch := []) (fun _ z => nomatch z) (fun b o _ _ _ q n => k b o (na b n) (nd b o q n) q) (fun b o _ _ _ q n => ⟨o.slots, k b o (na b n) (nd b o q n) q⟩) (fun b o _ q n => by rw [far b (na b n) (nd b o q n)]; exact n)
    (fun b o _ q => ?_) (fun b xs q => ?_) (fun b o u q => ?_) (fun b ps q => ⟨#[], ?_⟩) (fun m hm => ?_) (fun b u q => ?_) I.bare
  · by_cases h1 : b = a
    · rw [h1]; exact ha
    · by_cases h2 : b = dx
      · rw [h2]; exact hx
      · exact ⟨o, k b o h1 h2 q⟩
  · rw [far b (fun z => by rw [z, e] at q; cases q) (fun z => hd1.1 xs (by rw [← z]; exact q))]; exact q
  · rw [far b (fun z => by rw [z, e] at q; cases q) (fun z => hd1.2.2.1 o u (by rw [← z]; exact q))]; exact q
  · rw [far b (fun z => by rw [z, e] at q; cases q) (fun z => hd1.2.2.2 ps (by rw [← z]; exact q)), q]; simp
  · obtain ⟨o, es, ep, q, r⟩ := hm
    exact ⟨o, es, ep, k _ o (na _ I.free) (nd _ o q I.free) q, r⟩
  · by_cases h2 : b = dx
    · subst h2
      rw [upd_same] at q
      cases q
      exact n2
    · rw [upd_ne h2] at q
      by_cases h1 : b = a
      · subst h1
        rw [upd_same] at q
        cases q
        exact n1
      · rw [upd_ne h1] at q
        refine (I.hok b u q).stay (fun c v hc q' => k c v ?_ ?_ q') (fun c q' => ?_) fun c ys q' => ?_
        · rcases hc with z | z
          · rw [z]; exact h1
          · exact fun z' => by rw [z', e] at z; cases z
        · rcases hc with z | z
          · rw [z]; exact h2
          · exact fun z' => hd1.2.1 b (by rw [← z']; exact z)
        · rw [far c (fun z => by rw [z, e] at q'; cases q') (fun z => hd1.2.1 b (by rw [← z]; exact q'))]; exact q'
        · rw [far c (fun z => by rw [z, e] at q'; cases q') (fun z => hd1.1 ys (by rw [← z]; exact q'))]; exact q'
theorem rel_put {fs : List (Str × V)} {mA : Str → Option Value} (r : ∀ f, RelO (fs.lookup f) (mA f)) (ry : RelV y u) : ∀ g, RelO ((putF f y fs).lookup g) (if g = f then some u else mA g) := fun g => by
  rw [lookup_putF]
  by_cases h : g = f
  · rw [if_pos h, if_pos h]; exact ry
  · rw [if_neg h, if_neg h]; exact r g
/-- the first attribute -/
theorem setattr_x1 {Q : Unit → Shared → Prop} (I : Inv X pins σ H s) (e : H a = some (.ext (excP a C none n))) (c : ExcF X.K C) (na : NoAttr X.K C f) (ry : RelV y u)
    (h : ∀ dx s', H dx = none → dx ≠ a → Inv X pins σ (upd (upd H a (.ext (excP a C (some dx) n))) dx (.xd [(f, y)])) s' → Q () s') : wpAny (model X.prog X.w) A (setAttr (.ref a) f u) Q E s := by
  obtain ⟨nm, q, N, bs, bm, sn, sub, ab, col, dd, k0, k1, k2, k3, k5, lk, hp, ho⟩ := c.obj
  obtain ⟨vs, he, hv, hn⟩ := ext_at I.hok e
  have hC := I.kIn _ _ lk
  have I0 := I
  obtain ⟨hh, g, d, tk, os⟩ := s
  refine exc_store (mA := fun _ => none) (ns := []) hp ho I.kIn c.sa na hC ⟨_, he, rfl, (fun c z => by cases z), .inl ⟨rfl, fun _ => rfl⟩⟩ (fun h' tk' inst kk same => ?_) (fun g hg => by simp at hg) (by simp)
  obtain ⟨o1, e1, ec, ed, es, _, enew⟩ := same _ he
  obtain ⟨dx, ex, hdx⟩ := enew rfl
  obtain ⟨o2, e2, _, _, hd2⟩ := inst
  rw [e1] at e2
  cases e2
  rcases hd2 with ⟨z, _⟩ | ⟨d', hd', ne', ns'⟩
  · rw [ex] at z; cases z
  rw [ex] at hd'
  cases hd'
  have hHdx : H dx = none := I0.hok.fresh hdx
  have eo : o1 = { cls := .ref C, dict := some dx, data := .fields vs } := by
    obtain ⟨oc, od, odt, osl⟩ := o1
    simp only at ec ed es ex
    subst ec ed es ex
    rfl
  rw [eo] at e1
  refine h dx _ hHdx ne' (I0.two (t' := tk') e ⟨(fun xs z => by rw [hHdx] at z; cases z), (fun y z => by rw [hHdx] at z; cases z), (fun o u z => by rw [hHdx] at z; cases z), (fun ps z => by rw [hHdx] at z; cases z)⟩ (fun _ => hdx) ne' (fun b o hb _ q => kk b o hb (fun o0 dx0 h0 h1 => by rw [he] at h0; cases h0; cases h1) q) ⟨_, e1⟩ (let ⟨o, _, _, h1, _⟩ := ns'; ⟨o, h1⟩) (ext_ok ⟨vs, e1, hv, hn⟩) ⟨_, ns', ?_⟩)
  exact rel_put (fs := []) (fun _ => trivial) ry
/-- a further one -/
theorem setattr_x2 {dx : Addr} {fs : List (Str × V)} {Q : Unit → Shared → Prop} (I : Inv X pins σ H s) (e : H a = some (.ext (excP a C (some dx) n))) (ed : H dx = some (.xd fs)) (hne : dx ≠ a) (hl : fs.length ≤ 900) (c : ExcF X.K C) (na : NoAttr X.K C f) (ry : RelV y u)
    (h : ∀ s', Inv X pins σ (upd H dx (.xd (putF f y fs))) s' → Q () s') : wpAny (model X.prog X.w) A (setAttr (.ref a) f u) Q E s := by
  obtain ⟨nm, q, N, bs, bm, sn, sub, ab, col, dd, k0, k1, k2, k3, k5, lk, hp, ho⟩ := c.obj
  obtain ⟨vs, he, hv, hn⟩ := ext_at I.hok e
  obtain ⟨mA, ns, r⟩ := (show ObjOk X.prog X.w H s.heap dx (.xd fs) from I.hok dx _ ed)
  have hC := I.kIn _ _ lk
  have I0 := I
  obtain ⟨hh, g, d, tk, os⟩ := s
  refine exc_store (mA := mA) (ns := fs.map (·.1)) hp ho I.kIn c.sa na hC ⟨_, he, rfl, (fun c z => by cases z), .inr ⟨dx, rfl, hne, ns⟩⟩ (fun h' tk' inst kk same => ?_) (rel_within r) (by rw [List.length_map]; omega)
  obtain ⟨o1, e1, ec, edt, es, eold, _⟩ := same _ he
  have ex := eold dx rfl
  obtain ⟨o2, e2, _, _, hd2⟩ := inst
  rw [e1] at e2
  cases e2
  rcases hd2 with ⟨z, _⟩ | ⟨d', hd', ne', ns'⟩
  · rw [ex] at z; cases z
  rw [ex] at hd'
  cases hd'
  have eo : o1 = { cls := .ref C, dict := some dx, data := .fields vs } := by
    obtain ⟨oc, od, odt, osl⟩ := o1
    simp only at ec edt es ex
    subst ec edt es ex
    rfl
  rw [eo] at e1
  have I2 := I0.two (t' := tk') (o1 := .ext (excP a C (some dx) n)) (o2 := .xd (putF f y fs)) e ⟨(fun xs z => by rw [ed] at z; cases z), (fun y z => by rw [ed] at z; cases z), (fun o u z => by rw [ed] at z; cases z), (fun ps z => by rw [ed] at z; cases z)⟩ (fun z => by rw [ed] at z; cases z) hne (fun b o hb hb2 q => kk b o hb (fun o0 dx0 h0 h1 => by rw [he] at h0; cases h0; cases h1; exact hb2) q) ⟨_, e1⟩ (let ⟨o, _, _, h1, _⟩ := ns'; ⟨o, h1⟩) (ext_ok ⟨vs, e1, hv, hn⟩) ⟨_, ns', rel_put r ry⟩
  rw [upd_self e] at I2
  exact h _ I2
end
section
variable {X : Cx} {o value : Expr} {f : Str} {pos pos' : Pos} {ta tv : TE}
def sFldX (K : PySem.W.Frag) (ta tv : TE) (f : Str) : TS := fun D σ H => tv σ H fun y H1 => ta σ H1 fun x H2 => ∃ a C n, x = .ref a ∧ ExcF K C ∧ NoAttr K C f ∧
  ((H2 a = some (.ext (excP a C none n)) ∧ ∀ dx, H2 dx = none → dx ≠ a → D.nx σ (upd (upd H2 a (.ext (excP a C (some dx) n))) dx (.xd [(f, y)]))) ∨
    ∃ dx fs, H2 a = some (.ext (excP a C (some dx) n)) ∧ H2 dx = some (.xd fs) ∧ dx ≠ a ∧ fs.length ≤ 900 ∧ D.nx σ (upd H2 dx (.xd (putF f y fs))))
/-- self.f = v of an exception -/
theorem ps_fldX (ha : PE X o ta) (hv : PE X value tv) (hs : swapsWith value (some (.Attribute o f pos')) pos.line X.env = pure false) : PS X (.Assign [.Attribute o f pos'] value pos) (sFldX X.K ta tv f) := by
  intro pins s σ H D I h
  refine plainObj_wpAny_Assign_Attribute (thn (hv pins s σ H _ I h) fun u s1 ⟨y, H1, I1, ry, q⟩ => thn (ha pins s1 σ H1 _ I1 q) fun ov s2 ⟨x, H2, I2, rx, a, C, n, ex, c, na, q2⟩ => ?_) hs
  subst ex
  obtain rfl : ov = Value.ref a := rx
  rcases q2 with ⟨e, q3⟩ | ⟨dx, fs, e, ed, ne, hl, q3⟩
  · exact setattr_x1 I2 e c na ry fun dx s3 hn ne I3 => ⟨σ, _, I3, q3 dx hn ne⟩
  · exact setattr_x2 I2 e ed ne hl c na ry fun s3 I3 => ⟨σ, _, I3, q3⟩
end
end L2

/-! ### e.f of an exception -/
namespace L2
open PySem PySem.Spec PyProof.Rows PySem.Builtin.ObjectAttr
section
variable {prog : Program} {w : World} {A : Around} {E : Value → Shared → Prop} {s : Shared} {K : PySem.W.Frag} {x C : Addr} {ox : Obj} {od : Option Obj} {name : Str} {expr : Bool} {Q : Value → Shared → Prop} {v : Value}
theorem exc_getattr (X : K.In s.heap) (I : PySem.W.InstAt s.heap x ox C od) (hga : PySem.W.findIn K (.ref C) "__getattribute__" = some (some (.builtin "BaseException.__getattribute__"))) (hhk : PySem.W.findIn K (.ref C) "__getattr__" = some none)
    (hm : PySem.W.mroIn K C (.type "BaseException") = some true) (hf : PySem.W.findObj K C od name = some (.value v)) (hh : PySem.W.handedIn v = true) (h : Q v { s with toks := s.toks + 1 }) :
    wpAny (model prog w) A (getAttr (.ref x) name expr) Q E s := by
  have ht := I.type (M := model prog w)
  refine wpAny_bind (wpAny_mkText (wpAny_holding (wpAny_bind (ht _ _ _ _ (fun _ _ e => e) (wpAny_bind (PySem.W.looks_findIn X hga _ _ _ _ (fun _ _ e => e) ?_))))))
  dsimp only
  rw [show (onTheHeap (Value.ref C) && Value.builtin "BaseException.__getattribute__" == Value.builtin "object.__getattribute__") = false from by rw [show (Value.builtin "BaseException.__getattribute__" == Value.builtin "object.__getattribute__") = false from by decide +kernel, Bool.and_false], if_neg (by decide)]
  have hb : PySem.W.Looks (model prog w) s.heap (hookBefore (.ref C)) none := PySem.W.looks_hook X (by show (if onTheHeap (Value.ref C) = true then _ else _) = _; exact hhk)
  refine wpAny_bind (hb _ _ _ _ (fun _ _ e => e) (wpAny_bind (wpAny_attempt (wpAny_holding ?_))))
  unfold callGetattribute
  rw [show (expr && onTheHeap (Value.builtin "BaseException.__getattribute__")) = false from Bool.and_false _, if_neg (by decide)]
  unfold boundAndCalled
  rw [PySem.F.attr_ValueError.ga.bind]
  refine wpAny_bind (wpAny_pure ?_)
  show wpAny _ _ (call (.builtin "BaseException.__getattribute__") [.ref x, .str name s.toks]) _ _ _
  refine wpAny_call ?_
  refine codeAny_call_builtin PySem.F.attr_ValueError.ga.plain PySem.F.entry_bexc_ga ?_
  refine @PySem.W.check_slot (model prog w) _ _ { s with toks := s.toks + 1 } "BaseException.__getattribute__" "BaseException" "__getattribute__" (.ref x) [.str name s.toks] [] _ (by decide +kernel) (by decide +kernel) (ht.andThen (PySem.W.looks_mroIn X hm)) (PySem.F.args_bexc_ga (.ref x) (.str name s.toks)) ?_
  unfold Builtin.«object.__getattribute__»
  refine wpAny_bind (wpAny_pure ?_)
  refine wpAny_bind (wpAny_pure ?_)
  refine wpAny_bind (ht _ _ _ _ (fun _ _ e => e) ?_)
  refine wpAny_bind (PySem.W.looks_find X I hf _ _ _ _ (fun _ _ e => e) ?_)
  refine wpAny_pure ?_
  show wpAny _ _ (handedOut v) _ _ _
  rw [PySem.W.handedOut_of hh]
  exact wpAny_pure h
end
structure ExcG (K : PySem.W.Frag) (C : Addr) : Prop where
  ga : PySem.W.findIn K (.ref C) "__getattribute__" = some (some (.builtin "BaseException.__getattribute__"))
  hk : PySem.W.findIn K (.ref C) "__getattr__" = some none
  mro : PySem.W.mroIn K C (.type "BaseException") = some true
  hd : PySem.W.hasDictIn K C = true
section
variable {X : Cx} {e : Expr} {f : Str} {pos : Pos} {ta : TE}
theorem getattr_x {pins : List (Addr × Obj)} {σ : St} {H : Hp} {s : Shared} {a C dx : Addr} {n b : Bool} {fs : List (Str × V)} {v : V} {A : Around} {E : Value → Shared → Prop} {Q : Value → Shared → Prop} (I : Inv X pins σ H s) (e : H a = some (.ext (excP a C (some dx) n))) (ed : H dx = some (.xd fs))
    (c : ExcG X.K C) (na : NoAttr X.K C f) (l : fs.lookup f = some v) (h : ∀ u s', Inv X pins σ H s' → RelV v u → Q u s') : wpAny (model X.prog X.w) A (getAttr (.ref a) f b) Q E s := by
  obtain ⟨vs, he, _, _⟩ := ext_at I.hok e
  obtain ⟨mA, ns, r⟩ := (show ObjOk X.prog X.w H s.heap dx (.xd fs) from I.hok dx _ ed)
  obtain ⟨od, ho, hl⟩ := lookIn_ns ns
  obtain ⟨u, hu, ru⟩ := RelO.some_of (v := v) (o := mA f) (by rw [← l]; exact r f)
  exact exc_getattr I.kIn ⟨he, rfl, rfl, ho⟩ c.ga c.hk c.mro (PySem.W.findObj_own c.hd na rfl (by rw [hl, hu])) (handed_of ru) (h u _ (I.tok _) ru)
def tFldX (K : PySem.W.Frag) (ta : TE) (f : Str) : TE := fun σ H Q => ta σ H fun x H1 => ∃ a C dx n fs v, x = .ref a ∧ H1 a = some (.ext (excP a C (some dx) n)) ∧ H1 dx = some (.xd fs) ∧ ExcG K C ∧ NoAttr K C f ∧ fs.lookup f = some v ∧ Q v H1
theorem pe_fldX (he : PE X e ta) (hb : attributeBase e f X.env (eval e X.env) = eval e X.env) : PE X (.Attribute e f pos) (tFldX X.K ta f) := by
  intro pins s σ H Q I h
  refine attr_of hb (thn (he pins s σ H _ I h) fun u s1 ⟨x, H1, I1, rx, a, C, dx, n, fs, v, ex, ea, ed, c, na, l, q⟩ => ?_)
  subst ex
  obtain rfl : u = Value.ref a := rx
  exact getattr_x I1 ea ed c na l fun u' s2 I2 ru => ⟨v, H1, I2, ru, q⟩
end
end L2

/-! ### raise, and how an exception passes a def -/
namespace L2
open PySem PySem.Spec PyProof.Rows
/-- an exception behind a call: tracked, of its class, its dict; the newest entry of its trace is young and tracked nowhere -/
def CX1 (P : Program) (w : World) : CXT := fun outer H s E e s' => ∃ (a C : Addr) (dd : Option Addr) (T : Addr) (oe : Obj) (H' : Hp), e = .ref a ∧ s'.os = s.os ∧ AllBare s'.gens ∧ Un (frs outer) [] H H' s.heap s'.heap ∧ HOk P w H' s'.heap ∧
  H' a = some (.ext (excP a C dd false)) ∧ Fly s'.heap a T oe ∧ H' T = none ∧ s.heap.objs.size ≤ T ∧ E (.ref C) dd H'
/-- an exception at hand: not in flight yet, or with a young entry -/
def Flies (X : Cx) (pins : List (Addr × Obj)) (H : Hp) (h : Heap) (a : Addr) : Prop := (∃ oe vs, h.get? a = some oe ∧ oe.data = .fields vs ∧ vs[1]? = some .none) ∨ ∃ T oe, Fly h a T oe ∧ H T = none ∧ X.s₀.heap.objs.size ≤ T ∧ ∀ p ∈ X.pn ++ pins, p.1 ≠ T
section
variable {X : Cx} {pins : List (Addr × Obj)} {σ : St} {H : Hp} {s : Shared} {a C : Addr} {dd : Option Addr} {n : Bool} {E : XK}
/-- it leaves the def -/
theorem leave_def (I : Inv X pins σ H s) (hst : X.stack = X.env :: X.outer) (hfr : X.env.frame = some X.env.locals) (hex : X.ex = []) (e : H a = some (.ext (excP a C dd n))) (fl : Flies X pins H s.heap a) (q : E (.ref C) dd (upd H a (.ext (excP a C dd false)))) {Ex : Value → Shared → Prop} :
    wpAny (model X.prog X.w) X.A (leaving X.env (.ref a)) (fun _ s'' => CX1 X.prog X.w X.outer X.H₀ X.s₀ E (.ref a) s'') Ex s := by
  obtain ⟨vs, he, hv, hn⟩ := ext_at I.hok e
  have hfs : X.A.frames = some (X.env :: X.outer) := by rw [← hst]; exact I.ok.frames
  have hl : s.heap.FunFrames X.base (X.env :: X.outer) := by rw [← hst]; exact I.stack
  have frames0 : ∀ b ∈ (X.env :: X.outer).filterMap (·.frame), H b = none := fun b hb => I.stkFree b (by rw [hst]; exact hb)
  have mem : ∀ b, b ∈ (X.env :: X.outer).filterMap (·.frame) → b = X.env.locals ∨ b ∈ X.fs := fun b hb => by
    rw [List.filterMap_cons, hfr] at hb
    rcases List.mem_cons.mp hb with z | z
    · exact .inl z
    · exact .inr z
  -- what stands behind it
  have fin : ∀ (h' : Heap) (T T' : Addr), (X.s₀.heap.objs.size ≤ T ∨ T = a) → (H T = none ∨ T = a) → s.heap.objs.size ≤ T' → Fly h' a T' (({ cls := .ref C, dict := dd, data := .fields vs } : Obj).mapFields (·.setIfInBounds 1 (.ref T'))) →
      (∀ b o, b ≠ a → b ≠ T → b ∉ (X.env :: X.outer).filterMap (·.frame) → s.heap.get? b = some o → h'.get? b = some o) → (∀ b o, b ≠ a → b ≠ T → s.heap.get? b = some o → ∃ sl, h'.get? b = some { o with slots := sl }) →
      CX1 X.prog X.w X.outer X.H₀ X.s₀ E (.ref a) { s with heap := h' } := by
    intro h' T T' hT1 hT2 hT' f k1 k2
    have hT'n : H T' = none := I.hok.fresh hT'
    have ha' : ∀ b, H b = none → b ≠ a := fun b z z' => by rw [z', e] at z; cases z
    have old : ∀ b o, X.s₀.heap.get? b = some o → b ≠ T ∨ T = a := fun b o z => by
      rcases hT1 with y | y
      · exact .inl fun z' => absurd (Nat.lt_of_lt_of_le (Heap.lt_size z) (by rw [z']; exact y)) (Nat.lt_irrefl _)
      · exact .inr y
    refine ⟨a, C, dd, T', _, upd H a (.ext (excP a C dd false)), rfl, I.os, I.bare, ⟨fun b o z z0 hb _ => ?_, fun b o z z0 hb _ => ?_, fun b o z z0 _ => ?_, fun b o z _ => ?_, fun b xs z => ?_, fun b o u z => ?_, fun b ps z => ?_⟩, fun b u z => ?_, upd_same, f, ?_, Nat.le_trans I.sz hT', q⟩
    · have hx : b ∉ X.ex := by rw [hex]; simp
      have g := I.base.keep b o z z0 hb hx
      have g0 := I.base.free b o z z0 hx
      refine k1 b o (ha' b g0) ?_ (fun hm => ?_) g
      · rcases old b o z with y | y
        · exact y
        · rw [y]; exact ha' b g0
      · rcases mem b hm with y | y
        · exact absurd (Nat.lt_of_lt_of_le (Heap.lt_size z) (by rw [y]; exact I.ok.above)) (Nat.lt_irrefl _)
        · exact hb y
    · have hx : b ∉ X.ex := by rw [hex]; simp
      obtain ⟨sl, g⟩ := I.base.slot b o z z0 hb hx
      have g0 := I.base.free b o z z0 hx
      obtain ⟨sl', g'⟩ := k2 b _ (ha' b g0) (by
        rcases old b o z with y | y
        · exact y
        · rw [y]; exact ha' b g0) g
      exact ⟨sl', g'⟩
    · have hx : b ∉ X.ex := by rw [hex]; simp
      have g0 := I.base.free b o z z0 hx
      rw [upd_ne (ha' b g0)]
      exact g0
    · have hx : b ∉ X.ex := by rw [hex]; simp
      obtain ⟨o', g⟩ := I.base.there b o z hx
      by_cases hba : b = a
      · rw [hba]; exact ⟨_, f.at_⟩
      · by_cases hbT : b = T
        · rcases old b o z with y | y
          · exact absurd hbT y
          · exact absurd (hbT.trans y) hba
        · obtain ⟨sl, g'⟩ := k2 b o' hba hbT g
          exact ⟨_, g'⟩
    · have g := I.base.tups b xs z
      rw [upd_ne (fun y => by rw [y, e] at g; cases g)]
      exact g
    · have g := I.base.frzs b o u z
      rw [upd_ne (fun y => by rw [y, e] at g; cases g)]
      exact g
    · obtain ⟨more, g⟩ := I.base.tbls b ps z
      refine ⟨more, ?_⟩
      rw [upd_ne (fun y => by rw [y, e] at g; cases g)]
      exact g
    · by_cases hb : b = a
      · subst hb
        rw [upd_same] at z
        cases z
        exact ext_ok ⟨_, f.at_, by simp [hv], fun y => nomatch y⟩
      · rw [upd_ne hb] at z
        have notF : ∀ c u', H c = some u' → c ∉ (X.env :: X.outer).filterMap (·.frame) := fun c u' y hm => by rw [frames0 c hm] at y; cases y
        have notT : ∀ c u', c ≠ a → H c = some u' → c ≠ T := fun c u' ya y y' => by
          rcases hT2 with t | t
          · rw [y', t] at y; cases y
          · exact ya (y'.trans t)
        refine (I.hok b u z).stay (fun c v hc y => ?_) (fun c y => ?_) fun c ys y => ?_
        · rcases hc with y' | y'
          · subst y'
            exact k1 c v hb (notT c u hb z) (notF c u z) y
          · have hca : c ≠ a := fun w' => by rw [w', e] at y'; cases y'
            exact k1 c v hca (notT c _ hca y') (notF c _ y') y
        · rw [upd_ne (fun w' => by rw [w', e] at y; cases y)]; exact y
        · rw [upd_ne (fun w' => by rw [w', e] at y; cases y)]; exact y
    · rw [upd_ne (ha' _ hT'n)]
      exact hT'n
  rcases fl with ⟨oe, vs', h1, h2, h3⟩ | ⟨T, oe, f, hT0, hT, _⟩
  · rw [he] at h1
    cases h1
    cases h2
    refine leave_first (base := X.base) hfs hl hfr he rfl h3 fun h' T' hT' f k1 k2 => fin h' a T' (.inr rfl) (.inr rfl) hT' f (fun b o hb _ hf g => k1 b o hb hf g) (fun b o hb _ g => k2 b o hb g)
  · have hoe : oe = { cls := .ref C, dict := dd, data := .fields vs } := by
      have := f.at_
      rw [he] at this
      cases this
      rfl
    subst hoe
    refine leave_next (base := X.base) hfs hl hfr f fun h' T' hT' f' k1 k2 => fin h' T T' (.inl hT) (.inl hT0) hT' f' k1 k2
/-- from a callee through this def -/
theorem after_exc {e : Value} {s' : Shared} (I : Inv X pins σ H s) (h : CX1 X.prog X.w X.stack H s E e s') : ∃ (a C : Addr) (dd : Option Addr) (H' : Hp), e = .ref a ∧ Inv X pins σ H' s' ∧ H' a = some (.ext (excP a C dd false)) ∧ Flies X pins H' s'.heap a ∧ E (.ref C) dd H' := by
  obtain ⟨a, C, dd, T, oe, H', rfl, os, bare, un, hok, ea, f, hT, hTs, q⟩ := h
  exact ⟨a, C, dd, H', rfl, I.call' os un hok bare (fun b z => absurd z (by simp)), ea, .inr ⟨T, oe, f, hT, Nat.le_trans I.sz hTs, fun p hp z => absurd (Nat.lt_of_lt_of_le (Heap.lt_size (I.pin p hp).1) (by rw [z]; exact hTs)) (Nat.lt_irrefl _)⟩, q⟩
end
/-! ### raise C(..) -/
section
variable {M : Model} {A : Around} {E : Value → Shared → Prop} {env : Env}
variable {nm q : Str} {C N : Addr} {bs bm : List Value} {hdct : Bool} {sn : List Str} {sub : List Value} {ab : Bool} {col : Option Bool} {dd : Option Addr} {k0 k1 k2 k3 k5 : Option Value} {newId : String}
theorem exc_raiseStmt {s : Shared} {x : Sem Value} {Q : Flow → Shared → Prop} (hh : A.handled = none)
    (h : wpAny M A x (fun v s₁ => ∃ (e C N : Addr) (de : Option Addr) (vs : Array Value) (nm q : Str) (bs bm : List Value) (hdct : Bool) (sn : List Str) (sub : List Value) (ab : Bool) (col : Option Bool) (dd : Option Addr) (k0 k1 k2 k3 k5 : Option Value), v = .ref e ∧ s₁.heap.get? C = some (excClassObj nm q C N bs bm hdct sn sub ab col dd k0 k1 k2 k3 k5 "ValueError.__new__") ∧ bm.contains (.type "BaseException") = true ∧
      s₁.heap.get? e = some { cls := .ref C, dict := de, data := .fields vs } ∧ vs[1]? = some .none ∧ E (.ref e) s₁) E s) :
    wpAny M A (raiseStmt env (some x) none) Q E s := by
  unfold raiseStmt
  refine wpAny_bind (wpAny_mono h (fun v s₁ h₁ => ?_) fun _ _ x => x)
  obtain ⟨e, C, N, de, vs, nm, q, bs, bm, hdct, sn, sub, ab, col, dd, k0, k1, k2, k3, k5, rfl, hC, hbase, he, h1, hE⟩ := h₁
  have hcB : (Value.ref C :: bm).contains (.type "BaseException") = true := by rw [List.contains_cons, hbase, Bool.or_true]
  obtain ⟨hp, g, d, tk, os⟩ := s₁
  repeat (first | with_reducible refine wpAny_loadPart_at he ?_ | with_reducible refine wpAny_field he rfl h1 ?_ | with_reducible refine wpAny_loadPart_at hC ?_ | (with_reducible refine wpAny_isSubtype_exc hC ?_; rw [hcB]) | wp_step)
  exact wpAny_raiseNew_none hh hE
end
section
variable {X : Cx} {e : Expr} {pos : Pos} {t : TE} {E : XK}
def sRaise (K : PySem.W.Frag) (E : XK) (t : TE) : TS := fun _ σ H => t σ H fun v H1 => ∃ a C dd, v = .ref a ∧ H1 a = some (.ext (excP a C dd true)) ∧ ExcC K C ∧ E (.ref C) dd (upd H1 a (.ext (excP a C dd false)))
/-- what is wanted of an exception, in a body: any that is at hand and as E wishes -/
def Wants (X : Cx) (E : XK) : Prop := ∀ (pins : List (Addr × Obj)) (σ : St) (H : Hp) (s : Shared) (a C : Addr) (dd : Option Addr) (n : Bool), Inv X pins σ H s → H a = some (.ext (excP a C dd n)) → Flies X pins H s.heap a → E (.ref C) dd (upd H a (.ext (excP a C dd false))) → X.xe (.ref a) s
theorem ps_raise (hc : X.calm = true) (hw : Wants X E) (he : PE X e t) : PS X (.Raise (some e) none pos) (sRaise X.K E t) := by
  intro pins s σ H D I h
  rw [arm_exec_Raise]
  have key : wpAny (model X.prog X.w) X.A (do let v ← eval e X.env; standAt pos; pure v) (fun v s₁ => ∃ (e C N : Addr) (de : Option Addr) (vs : Array Value) (nm q : Str) (bs bm : List Value) (hdct : Bool) (sn : List Str) (sub : List Value) (ab : Bool) (col : Option Bool) (dd : Option Addr) (k0 k1 k2 k3 k5 : Option Value), v = .ref e ∧ s₁.heap.get? C = some (excClassObj nm q C N bs bm hdct sn sub ab col dd k0 k1 k2 k3 k5 "ValueError.__new__") ∧ bm.contains (.type "BaseException") = true ∧
      s₁.heap.get? e = some { cls := .ref C, dict := de, data := .fields vs } ∧ vs[1]? = some .none ∧ X.xe (.ref e) s₁) X.xe s := by
    refine wpAny_bind (thn (he pins s σ H _ I h) fun u s1 ⟨v, H1, I1, r1, a, C, dd, ev, ea, c, q⟩ => ?_)
    subst ev
    obtain rfl : u = Value.ref a := r1
    refine wpAny_bind (wpAny_standAt (wpAny_pure ?_))
    obtain ⟨nm, q', N, bs, bm, hdct, sn, sub, ab, col, dd', k0, k1, k2, k3, k5, lk, T⟩ := c.obj
    obtain ⟨vs, hea, hv, hn⟩ := ext_at I1.hok ea
    exact ⟨a, C, N, dd, vs, nm, q', bs, bm, hdct, sn, sub, ab, col, dd', k0, k1, k2, k3, k5, rfl, I1.kIn _ _ lk, T.hasBase, hea, hn rfl, hw pins σ H1 s1 a C dd true I1 ea (.inl ⟨_, vs, hea, rfl, hn rfl⟩) q⟩
  first
    | exact wpAny_bind (wpAny_standAt (exc_raiseStmt (I.ok.hd hc) key))
    | (simp only [evalOpt, Option.map]; exact wpAny_bind (wpAny_standAt (exc_raiseStmt (I.ok.hd hc) key)))
    | (show wpAny _ _ (do standAt pos; raiseStmt X.env (some (do let v ← eval e X.env; standAt pos; pure v)) none) _ _ s; exact wpAny_bind (wpAny_standAt (exc_raiseStmt (I.ok.hd hc) key)))
/-- a callee's exception, by the same wish -/
theorem passes_of (hw : Wants X E) (hst : True) : Passes (CX1 X.prog X.w) X E := by
  intro pins σ H s e s' I h
  obtain ⟨a, C, dd, H', rfl, I', ea, fl, q⟩ := after_exc I h
  refine hw pins σ H' s' a C dd false I' ea fl ?_
  rw [upd_self ea]
  exact q
end
/-- of a def's body: what leaves it is as its own promise wishes -/
theorem wants_def {P : Program} {w : World} {K : PySem.W.Frag} {mg : Str → Option Value} {base : Heap} {N : List Str} {qual : Str} {scope : Scope} {f : Addr} {cd : Value} {A : Around} {outer : List Env} {s : Shared} {H : Hp} {E : XK}
    (hfr : (envOfC qual scope s.heap.objs.size f cd).frame = some s.heap.objs.size := by rfl) : Wants (cxOf (CX1 P w) P w K mg base N qual scope f cd A outer s H E) E := by
  intro pins σ H1 s1 a C dd n I ea fl q
  exact leave_def I rfl hfr rfl ea fl q
end L2

/-! ### try .. except C as n -/
namespace L2
open PySem PySem.Spec PyProof.Rows
section
variable {M : Model} {A : Around} {E : Value → Shared → Prop} {s : Shared}
theorem note_first {base : Heap} {env : Env} {outer : List Env} {L e : Addr} {oe : Obj} {vs : Array Value} {Q : Unit → Shared → Prop}
    (hfr : A.frames = some (env :: outer)) (hl : s.heap.FunFrames base (env :: outer)) (hf : env.frame = some L)
    (he : s.heap.get? e = some oe) (hd : oe.data = .fields vs) (h1 : vs[1]? = some .none)
    (h : ∀ h' T, s.heap.objs.size ≤ T → Fly h' e T (oe.mapFields (·.setIfInBounds 1 (.ref T))) → (∀ b o, b ≠ e → b ∉ (env :: outer).filterMap (·.frame) → s.heap.get? b = some o → h'.get? b = some o) →
      (∀ b o, b ≠ e → s.heap.get? b = some o → ∃ sl, h'.get? b = some { o with slots := sl }) → Q () { s with heap := h' }) : wpAny M A (noteFrame (.ref e) env) (fun _ s' => wpAny M A (setFlight (.ref e) none) Q E s') E s := by
  unfold noteFrame
  simp only [hf]
  refine wpAny_bind (wpAny_field he hd h1 ?_)
  rw [if_neg (by decide)]
  exact new_entry hfr hl hf he hd (Array.getElem?_eq_some_iff.mp h1).1 h
theorem note_next {base : Heap} {env : Env} {outer : List Env} {L e T : Addr} {oe : Obj} {Q : Unit → Shared → Prop}
    (hfr : A.frames = some (env :: outer)) (hl : s.heap.FunFrames base (env :: outer)) (hf : env.frame = some L) (ht : Fly s.heap e T oe)
    (h : ∀ h' T', s.heap.objs.size ≤ T' → Fly h' e T' (oe.mapFields (·.setIfInBounds 1 (.ref T'))) → (∀ b o, b ≠ e → b ≠ T → b ∉ (env :: outer).filterMap (·.frame) → s.heap.get? b = some o → h'.get? b = some o) →
      (∀ b o, b ≠ e → b ≠ T → s.heap.get? b = some o → ∃ sl, h'.get? b = some { o with slots := sl }) → Q () { s with heap := h' }) : wpAny M A (noteFrame (.ref e) env) (fun _ s' => wpAny M A (setFlight (.ref e) none) Q E s') E s := by
  obtain ⟨he, ⟨vs, hd, h1⟩, hTe, oT, ts, hT, hdT, h3⟩ := ht
  unfold noteFrame
  simp only [hf]
  refine wpAny_bind (wpAny_field he hd h1 ?_)
  rw [if_pos (show (Value.ref T != Value.none) = true from by simp)]
  refine wpAny_bind (wpAny_field hT hdT h3 ?_)
  rw [if_neg (show ¬ ((Value.none == rawInt L) = true) from by simp [rawInt])]
  refine wpAny_bind (wpAny_setField hT hdT (Array.getElem?_eq_some_iff.mp h3).1 ?_)
  have other : ∀ b, b ≠ T → (s.heap.update T (Obj.mapFields (·.setIfInBounds 3 Value.none))).get? b = s.heap.get? b := fun b hb => Heap.get?_update_other _ _ (Ne.symm hb)
  have noRecord : ∀ b o, s.heap.get? b = some o → (∀ vs, o.data ≠ .fields vs) → b ≠ T := fun b o hb hnf q => by
    rw [q, hT] at hb; injection hb with hb; subst hb; exact hnf ts hdT
  refine new_entry hfr (hl.of_keeps fun b o hb hnf => ⟨o, (other b (noRecord b o hb hnf)).trans hb, rfl⟩) hf ((other e (Ne.symm hTe)).trans he) hd (Array.getElem?_eq_some_iff.mp h1).1
    fun h' T' hn fl k1 k2 => h h' T' ?_ fl (fun b o hbe hbT hbf hb => k1 b o hbe hbf ((other b hbT).trans hb)) fun b o hbe hbT hb => k2 b o hbe ((other b hbT).trans hb)
  have hn' : (s.heap.update T (Obj.mapFields (·.setIfInBounds 3 Value.none))).objs.size ≤ T' := hn
  rw [Heap.size_after_update] at hn'
  exact hn'
end
/-- it is held here: its newest entry T' -/
structure Held (X : Cx) (pins : List (Addr × Obj)) (H : Hp) (h : Heap) (a T : Addr) : Prop where
  fly : ∃ oe, Fly h a T oe
  no : H T = none
  young : X.s₀.heap.objs.size ≤ T
  pin : ∀ p ∈ X.pn ++ pins, p.1 ≠ T
section
variable {X : Cx} {pins : List (Addr × Obj)} {σ : St} {H : Hp} {s : Shared} {a C : Addr} {dd : Option Addr} {n : Bool}
/-- the trace's entries and the frames' slots changed -/
theorem Inv.noted {h' : Heap} {T T' : Addr} {vs : Array Value} (I : Inv X pins σ H s) (hst : X.stack = X.env :: X.outer) (hfr : X.env.frame = some X.env.locals) (e : H a = some (.ext (excP a C dd n))) (hv : vs.size = 6)
    (hT : T = a ∨ (H T = none ∧ X.s₀.heap.objs.size ≤ T ∧ (∀ p ∈ X.pn ++ pins, p.1 ≠ T) ∧ ∃ oT ts, s.heap.get? T = some oT ∧ oT.data = .fields ts)) (he : h'.get? a = some { cls := .ref C, dict := dd, data := .fields vs })
    (k1 : ∀ b o, b ≠ a → b ≠ T → b ∉ (X.env :: X.outer).filterMap (·.frame) → s.heap.get? b = some o → h'.get? b = some o) (k2 : ∀ b o, b ≠ a → b ≠ T → s.heap.get? b = some o → ∃ sl, h'.get? b = some { o with slots := sl }) :
    Inv X pins σ (upd H a (.ext (excP a C dd false))) { s with heap := h' } := by
  have frames0 : ∀ b ∈ (X.env :: X.outer).filterMap (·.frame), H b = none := fun b hb => I.stkFree b (by rw [hst]; exact hb)
  have mem : ∀ b, b ∈ (X.env :: X.outer).filterMap (·.frame) → b = X.env.locals ∨ b ∈ X.fs := fun b hb => by
    rw [List.filterMap_cons, hfr] at hb
    rcases List.mem_cons.mp hb with z | z
    · exact .inl z
    · exact .inr z
  have ha' : ∀ b, H b = none → b ≠ a := fun b z z' => by rw [z', e] at z; cases z
  obtain ⟨m0, ⟨oL, esL, epL, hL, hdL, rL⟩, _⟩ := id I.loc
  have LT : X.env.locals ≠ T := fun z => by
    rcases hT with y | ⟨_, _, _, oT, ts, g1, g2⟩
    · exact ha' _ I.free (z.trans y)
    · rw [z, g1] at hL; cases hL; rw [g2] at hdL; cases hdL
  have chT : ∀ b, b ∉ (if T = a then [] else [T] : List Addr) → b ≠ a → b ≠ T := fun b hb hba z => by
    by_cases hTa : T = a
    · exact hba (z.trans hTa)
    · rw [if_neg hTa] at hb
      exact hb (by rw [z]; simp)
  refine I.step (g' := s.gens) (t' := s.toks) (d' := s.drawn) (ch := if T = a then [] else [T]) (fun b hb => ?_) (fun b o hbL hbf hc q z => k1 b o (ha' b z) (chT b hc (ha' b z)) (fun hm => (mem b hm).elim hbL hbf) q) (fun b o _ _ hc q z => k2 b o (ha' b z) (chT b hc (ha' b z)) q)
    (fun b o _ q z => by rw [upd_ne (ha' b z)]; exact z) (fun b o hc q => ?_) (fun b xs z => ?_) (fun b o u z => ?_) (fun b ps z => ⟨#[], ?_⟩) (fun m hm => ?_) (fun b u z => ?_) I.bare
  · by_cases hTa : T = a
    · rw [if_pos hTa] at hb; cases hb
    · rw [if_neg hTa] at hb
      have hb : b = T := by simpa using hb
      subst hb
      rcases hT with y | ⟨g0, g1, g2, oT, ts, g3, g4⟩
      · exact absurd y hTa
      · refine ⟨.inr g1, Ne.symm LT, fun x c q z => ?_, g2⟩
        obtain ⟨v, o, ho, hd⟩ := I.cell x c q
        rw [z, g3] at ho; cases ho; rw [g4] at hd; cases hd
  · by_cases hba : b = a
    · rw [hba]; exact ⟨_, he⟩
    · obtain ⟨sl, g⟩ := k2 b o hba (chT b hc hba) q
      exact ⟨_, g⟩
  · rw [upd_ne (fun y => by rw [y, e] at z; cases z)]; exact z
  · rw [upd_ne (fun y => by rw [y, e] at z; cases z)]; exact z
  · rw [upd_ne (fun y => by rw [y, e] at z; cases z), z]; simp
  · obtain ⟨o, es, ep, q, hd, r⟩ := hm
    obtain ⟨sl, g⟩ := k2 _ o (ha' _ I.free) LT q
    exact ⟨_, es, ep, g, hd, r⟩
  · by_cases hb : b = a
    · subst hb
      rw [upd_same] at z
      cases z
      exact ext_ok ⟨vs, he, hv, fun y => nomatch y⟩
    · rw [upd_ne hb] at z
      have notF : ∀ c u', H c = some u' → c ∉ (X.env :: X.outer).filterMap (·.frame) := fun c u' y hm => by rw [frames0 c hm] at y; cases y
      have notT : ∀ c u', c ≠ a → H c = some u' → c ≠ T := fun c u' ya y y' => by
        rcases hT with t | ⟨t, _⟩
        · exact ya (y'.trans t)
        · rw [y', t] at y; cases y
      refine (I.hok b u z).stay (fun c v hc y => ?_) (fun c y => ?_) fun c ys y => ?_
      · rcases hc with y' | y'
        · subst y'
          exact k1 c v hb (notT c u hb z) (notF c u z) y
        · have hca : c ≠ a := fun w' => by rw [w', e] at y'; cases y'
          exact k1 c v hca (notT c _ hca y') (notF c _ y') y
      · rw [upd_ne (fun w' => by rw [w', e] at y; cases y)]; exact y
      · rw [upd_ne (fun w' => by rw [w', e] at y; cases y)]; exact y
/-- a frame notes it, and it is held -/
theorem note_held {M : Model} {E : Value → Shared → Prop} {Q : Unit → Shared → Prop} (I : Inv X pins σ H s) (hst : X.stack = X.env :: X.outer) (hfr : X.env.frame = some X.env.locals) (e : H a = some (.ext (excP a C dd n))) (fl : Flies X pins H s.heap a)
    (h : ∀ s' T, Inv X pins σ (upd H a (.ext (excP a C dd false))) s' → Held X pins (upd H a (.ext (excP a C dd false))) s'.heap a T → Q () s') :
    wpAny M X.A (noteFrame (.ref a) X.env) (fun _ s' => wpAny M X.A (setFlight (.ref a) none) Q E s') E s := by
  obtain ⟨vs, he, hv, hn⟩ := ext_at I.hok e
  have hfs : X.A.frames = some (X.env :: X.outer) := by rw [← hst]; exact I.ok.frames
  have hl : s.heap.FunFrames X.base (X.env :: X.outer) := by rw [← hst]; exact I.stack
  have ha' : ∀ b, H b = none → b ≠ a := fun b z z' => by rw [z', e] at z; cases z
  have hold : ∀ {h' : Heap} {T' : Addr} {oe : Obj}, s.heap.objs.size ≤ T' → Fly h' a T' oe → Held X pins (upd H a (.ext (excP a C dd false))) h' a T' := fun {h' T' oe} hT f =>
    ⟨⟨oe, f⟩, by rw [upd_ne (ha' _ (I.hok.fresh hT))]; exact I.hok.fresh hT, Nat.le_trans I.sz hT, fun p hp z => absurd (Nat.lt_of_lt_of_le (Heap.lt_size (I.pin p hp).1) (by rw [z]; exact hT)) (Nat.lt_irrefl _)⟩
  rcases fl with ⟨oe, vs', h1, h2, h3⟩ | ⟨T, oe, f, hT0, hT, hTp⟩
  · rw [he] at h1
    cases h1
    cases h2
    exact note_first (base := X.base) hfs hl hfr he rfl h3 fun h' T' hT' f k1 k2 => h _ T' (I.noted (vs := vs.setIfInBounds 1 (.ref T')) (T := a) (T' := T') hst hfr e (by simp [hv]) (.inl rfl) f.at_ (fun b o hb _ hf g => k1 b o hb hf g) fun b o hb _ g => k2 b o hb g) (hold hT' f)
  · have hoe : oe = { cls := .ref C, dict := dd, data := .fields vs } := by
      have := f.at_
      rw [he] at this
      cases this
      rfl
    subst hoe
    obtain ⟨oT, ts, g1, g2, _⟩ := f.tr
    exact note_next (base := X.base) hfs hl hfr f fun h' T' hT' f' k1 k2 => h _ T' (I.noted (vs := vs.setIfInBounds 1 (.ref T')) (T := T) (T' := T') hst hfr e (by simp [hv]) (.inr ⟨hT0, hT, hTp, oT, ts, g1, g2⟩) f'.at_ k1 k2) (hold hT' f')
end
end L2

namespace L2
open PySem PySem.Spec PyProof.Rows
section
variable {X : Cx} {pins : List (Addr × Obj)} {σ : St} {H : Hp} {s : Shared} {a T : Addr}
/-- within an except's suite -/
abbrev Cx.inExc (X : Cx) (a : Addr) (E : Value → Shared → Prop) : Cx := { X with A := X.A.mark (some (.ref a)), calm := false, xe := E }
theorem Inv.inExc (I : Inv X pins σ H s) (a : Addr) (E : Value → Shared → Prop) : Inv (X.inExc a E) pins σ H s :=
  ⟨⟨I.ok.mod, I.ok.kind, I.ok.glob, I.ok.blt, I.ok.above, I.ok.inj, I.ok.has, I.ok.cab, (fun z => nomatch z), I.ok.frames, I.ok.stk, I.ok.exf, I.ok.bs, I.ok.bsz, I.ok.noex, I.ok.exfs, I.ok.funs, I.ok.frf⟩, I.os, I.bare, I.base, I.loc, I.cell, I.free, I.freeC, I.pin, I.hok, I.len⟩
theorem Inv.outExc {E : Value → Shared → Prop} (ok : X.Ok) (I : Inv (X.inExc a E) pins σ H s) : Inv X pins σ H s := ⟨ok, I.os, I.bare, I.base, I.loc, I.cell, I.free, I.freeC, I.pin, I.hok, I.len⟩
/-- more pins that every state bears -/
abbrev Cx.pinned (X : Cx) (pn : List (Addr × Obj)) (E : Value → Shared → Prop) : Cx := { X with pn := X.pn ++ pn, xe := E }
theorem Inv.toPinned (I : Inv X pins σ H s) (E : Value → Shared → Prop) : Inv (X.pinned pins E) [] σ H s :=
  ⟨⟨I.ok.mod, I.ok.kind, I.ok.glob, I.ok.blt, I.ok.above, I.ok.inj, I.ok.has, I.ok.cab, I.ok.hd, I.ok.frames, I.ok.stk, I.ok.exf, I.ok.bs, I.ok.bsz, I.ok.noex, I.ok.exfs, I.ok.funs, I.ok.frf⟩, I.os, I.bare, I.base, I.loc, I.cell, I.free, I.freeC, fun p hp => I.pin p (by simpa using hp), I.hok, I.len⟩
theorem Inv.ofPinned {E : Value → Shared → Prop} {pins' : List (Addr × Obj)} (ok : X.Ok) (I : Inv (X.pinned pins E) pins' σ H s) : Inv X pins σ H s :=
  ⟨ok, I.os, I.bare, I.base, I.loc, I.cell, I.free, I.freeC, fun p hp => I.pin p (List.mem_append_left _ hp), I.hok, I.len⟩
/-- a name is unbound -/
theorem Inv.unbound {h' : Heap} {t' i : Nat} {x : Str} {u : Option Value} {m : Str → Option Value} (I : Inv X pins σ H s) (hN : X.N.Nodup) (hi : X.N[i]? = some x) (hm : s.heap.Ns X.env.locals m) (hn : h'.Ns X.env.locals (fun y => if y = x then u else m y)) (sb : Heap.SameBut X.env.locals s.heap h') :
    Inv X pins (σ.set i none) H { s with heap := h', toks := t' } := by
  have old : ∀ b o, X.s₀.heap.get? b = some o → b ≠ X.env.locals := fun b o q z => absurd (Nat.lt_of_lt_of_le (Heap.lt_size q) (by rw [z]; exact I.ok.above)) (Nat.lt_irrefl _)
  have loc0 := I.free
  refine ⟨I.ok, I.os, I.bare, ⟨fun b o q z hb hx => ?_, fun b o q z hb hx => ?_, I.base.free, fun b o q hx => ?_, I.base.tups, I.base.frzs, I.base.tbls⟩, ⟨_, hn, fun j y v e1 e2 e3 => ?_⟩, fun y c q => ?_, I.free, I.freeC, fun p hp => ?_, fun b o q => ?_, ?_⟩
  · exact (sb.2 b (old b o q)).trans (I.base.keep b o q z hb hx)
  · obtain ⟨sl, g⟩ := I.base.slot b o q z hb hx
    exact ⟨sl, (sb.2 b (old b o q)).trans g⟩
  · obtain ⟨o', g⟩ := I.base.there b o q hx
    exact ⟨o', (sb.2 b (old b o q)).trans g⟩
  · have hj : j ≠ i := fun z => by
      subst z
      by_cases hl : j < σ.length
      · rw [List.getElem?_set_self hl] at e2; cases e2
      · rw [List.getElem?_eq_none (by rw [List.length_set]; omega)] at e2; cases e2
    rw [List.getElem?_set_ne (Ne.symm hj)] at e2
    obtain ⟨m0, hm0, hl⟩ := I.loc
    obtain ⟨w', rw', lk⟩ := hl j y v e1 e2 e3
    have hyx : y ≠ x := fun z => by
      subst z
      have h1 := (List.getElem?_eq_some_iff.mp e1).1
      exact hj ((List.getElem?_inj h1 hN).mp (e1.trans hi.symm))
    refine ⟨w', rw', ?_⟩
    rcases lk with ⟨k1, k2⟩ | ⟨k1, c, k2, k3⟩
    · refine .inl ⟨k1, ?_⟩
      dsimp only
      rw [if_neg hyx, show m = m0 from (Heap.Ns.eq_nsMap hm).trans (Heap.Ns.eq_nsMap hm0).symm]
      exact k2
    · refine .inr ⟨k1, c, k2, ?_⟩
      obtain ⟨o, g1, g2⟩ := k3
      exact ⟨o, (sb.2 c (I.cne y c k2)).trans g1, g2⟩
  · obtain ⟨v, o, g1, g2⟩ := I.cell y c q
    exact ⟨v, o, (sb.2 c (I.cne y c q)).trans g1, g2⟩
  · obtain ⟨g1, g2, g3, g4⟩ := I.pin p hp
    exact ⟨(sb.2 p.1 g3).trans g1, g2, g3, g4⟩
  · refine (I.hok b o q).stay (fun c v hc g => (sb.2 c ?_).trans g) (fun _ g => g) fun _ _ g => g
    rcases hc with z | z
    · rw [z]; exact fun z' => by rw [z', loc0] at q; cases q
    · exact fun z' => by rw [z', loc0] at z; cases z
  · rw [List.length_set]; exact I.len
/-- what is held lands -/
theorem land_held {M : Model} {A : Around} {E : Value → Shared → Prop} {Q : Unit → Shared → Prop} (I : Inv X pins σ H s) (hd : Held X pins H s.heap a T) (h : ∀ s', Inv X pins σ H s' → Held X pins H s'.heap a T → Q () s') :
    wpAny M A (setFlight (.ref a) none) Q E s := by
  obtain ⟨⟨oe, he, ⟨vs, hdv, h1⟩, ne, oT, ts, hT, hdT, h3⟩, h0, hy, hp⟩ := hd
  have hsz : 3 < ts.size := (Array.getElem?_eq_some_iff.mp h3).1
  refine wpAny_setFlight_none he hdv h1 hT hdT hsz ?_
  obtain ⟨m0, ⟨oL, esL, epL, hL, hdL, rL⟩, _⟩ := id I.loc
  have LT : T ≠ X.env.locals := fun z => by rw [← z, hT] at hL; cases hL; rw [hdT] at hdL; cases hdL
  have I1 : Inv X pins σ H { s with heap := s.heap.update T (Obj.mapFields (·.setIfInBounds 3 .none)) } := I.turned (t' := s.toks) (fun b o hb q => by rw [Heap.get?_update_other _ _ (Ne.symm hb)]; exact q) h0 LT (.inr hy)
    (fun x c q z => by obtain ⟨v, o, ho, hd⟩ := I.cell x c q; rw [z, hT] at ho; cases ho; rw [hdT] at hd; cases hd) hp
  refine h _ I1 ⟨⟨oe, by show (s.heap.update T _).get? a = _; rw [Heap.get?_update_other _ _ ne]; exact he, ⟨vs, hdv, h1⟩, ne, _, _, Heap.get?_update_self _ hT (Obj.isFreed_of_fields (Obj.data_mapFields hdT _)), Obj.data_mapFields hdT _, by simp [hsz]⟩, h0, hy, hp⟩
end
section
variable {M : Model} {A : Around} {E : Value → Shared → Prop}
theorem exc_matches {h : Heap} {g : Array GenState} {d : Drawn} {t : Nat} {os : OsState} {e C D N N' : Addr} {oe : Obj} {nm q nm' q' : Str} {bs bm bs' bm' : List Value} {hdct hdct' : Bool} {sn sn' : List Str} {sub sub' : List Value} {ab ab' : Bool} {col col' : Option Bool} {dd dd' : Option Addr} {k0 k1 k2 k3 k5 j0 j1 j2 j3 j5 : Option Value} {i j : String} {Q : Bool → Shared → Prop}
    (hC : h.get? C = some (excClassObj nm q C N bs bm hdct sn sub ab col dd k0 k1 k2 k3 k5 i)) (hD : h.get? D = some (excClassObj nm' q' D N' bs' bm' hdct' sn' sub' ab' col' dd' j0 j1 j2 j3 j5 j)) (he : h.get? e = some oe) (hcls : oe.cls = .ref C) (hbase : bm'.contains (.type "BaseException") = true)
    (hin : (Value.ref C :: bm).contains (.ref D) = true) (hq : Q true ⟨h, g, d, t, os⟩) : wpAny M A (excMatches (.ref e) (.ref D)) Q E ⟨h, g, d, t, os⟩ := by
  have hcB : (Value.ref D :: bm').contains (.type "BaseException") = true := by rw [List.contains_cons, hbase, Bool.or_true]
  have f := tc_notTuple
  unfold excMatches
  repeat (first | (with_reducible refine wpAny_loadPart_at he ?_; rw [hcls]) | with_reducible refine wpAny_loadPart_at hD ?_ | (with_reducible refine wpAny_isSubtype_exc hD ?_; rw [hcB]) | (with_reducible refine wpAny_isSubtype_exc hC ?_; rw [hin]) | wp_step)
  exact hq
end
/-- the class at C is that at D, or under it -/
structure Under (K : PySem.W.Frag) (C D : Addr) : Prop where
  ex : ∃ nm q N bs bm hdct sn sub ab col dd k0 k1 k2 k3 k5 i, K.lookup C = some (excClassObj nm q C N bs bm hdct sn sub ab col dd k0 k1 k2 k3 k5 i) ∧ (Value.ref C :: bm).contains (.ref D) = true
section
variable {X : Cx} {body suite : List Stmt} {b0 : Stmt} {rest : List ExceptHandler} {c nm : Str} {cp hpos pos : Pos} {tb : XK → TS} {th : TS} {i : Nat} {D : Addr}
def endsAs (i : Nat) (D : Ends) : Ends where
  nx := fun σ H => D.nx (σ.set i none) H
  rt := D.rt
  bk := fun σ H => D.bk (σ.set i none) H
  ct := fun σ H => D.ct (σ.set i none) H
/-- what is caught: the suite is run behind it; of the names only the bound one is known -/
def eTry (K : PySem.W.Frag) (len : Nat) (D : Addr) (i : Nat) (th : TS) (Ds : Ends) : XK := fun Cv dd H => ∃ C, Cv = .ref C ∧ Under K C D ∧ ∀ (a : Addr) (σ : St), H a = some (.ext (excP a C dd false)) → σ.length = len → th (endsAs i Ds) (σ.set i (some (.ref a))) H
def sTry (K : PySem.W.Frag) (len : Nat) (D : Addr) (i : Nat) (tb : XK → TS) (th : TS) : TS := fun Ds σ H => tb (eTry K len D i th Ds) Ds σ H
theorem ps_tryAs (hst : X.stack = X.env :: X.outer) (hfr : X.env.frame = some X.env.locals) (hN : X.N.Nodup) (hi : X.N[i]? = some nm) (hloc : X.env.kindOf nm = some .local) (hg : Gl X c) (hm : X.mg c = some (.ref D)) (hD : ExcC X.K D)
    (hb : ∀ (E : XK) (pn : List (Addr × Obj)) (W : Value → Shared → Prop), Wants (X.pinned pn W) E → PSs (X.pinned pn W) body (tb E)) (hs : ∀ a, PSs (X.inExc a fun _ _ => False) (b0 :: suite) th) (hdb : (c == ("__debug__" : Str)) = false := by decide) :
    PS X (.Try body (.ExceptHandler (some (.Name c cp)) (some nm) (b0 :: suite) hpos :: rest) [] [] pos) (sTry X.K X.N.length D i tb th) := by
  intro pins s σ H Ds I h
  refine wpAny_Try_except ?_
  have hw : Wants (X.pinned pins fun e s₁ => wpAny (model X.prog X.w) X.A (noteFrame e X.env) (fun _ s₂ => wpAny (model X.prog X.w) X.A (setFlight e none) (fun _ s₃ => wpAny (model X.prog X.w) X.A (handleBy e X.env (.ExceptHandler (some (.Name c cp)) (some nm) (b0 :: suite) hpos :: rest)) (SP X pins Ds) X.xe s₃) X.xe s₂) X.xe s₁)
      (eTry X.K X.N.length D i th Ds) := by
    intro pins' σ' H' s' a C dd n I' ea fl q
    have J : Inv X pins σ' H' s' := I'.ofPinned I.ok
    have fl' : Flies X pins H' s'.heap a := by
      rcases fl with z | ⟨T, oe, f, z1, z2, z3⟩
      · exact .inl z
      · exact .inr ⟨T, oe, f, z1, z2, fun p hp => z3 p (List.mem_append_left _ hp)⟩
    obtain ⟨C', eC, un, q⟩ := q
    cases eC
    refine note_held J hst hfr ea fl' fun s2 T I2 held => ?_
    have ea2 : upd H' a (.ext (excP a C dd false)) a = some (.ext (excP a C dd false)) := upd_same
    obtain ⟨vs, he, hv, _⟩ := ext_at I2.hok ea2
    refine wpAny_handleBy_cons (codeAny_handlers_test ?_) (by intro q; cases q)
    refine ld_glob (I2.inExc a fun _ _ => False) hg hm ?_ hdb
    obtain ⟨nm1, q1, N1, bs1, bm1, hd1, sn1, sub1, ab1, col1, dd1, k0, k1, k2, k3, k5, i1, lk, hin⟩ := un.ex
    obtain ⟨nm2, q2, N2, bs2, bm2, hd2, sn2, sub2, ab2, col2, dd2, j0, j1, j2, j3, j5, lk2, T2⟩ := hD.obj
    have hC := I2.kIn _ _ lk
    have hDD := I2.kIn _ _ lk2
    obtain ⟨hp2, g2, d2, t2, os2⟩ := s2
    refine exc_matches hC hDD he rfl T2.hasBase hin ?_
    refine codeAny_handlers_suite_as ?_
    refine land_held I2 held fun s3 I3 held3 => ?_
    refine store_ok (X := X.inExc a fun _ _ => False) (I3.inExc a fun _ _ => False) hN hi (.inl hloc) (show RelV (.ref a) (.ref a) from rfl) (fun s4 I4 => ?_) (.inr hloc)
    refine wpAny_mono (hs a pins s4 _ _ (endsAs i Ds) I4 (q a σ' ea2 I3.len)) (fun f s5 z => ?_) fun _ _ z => z.elim
    have hcls : (X.env.scope.kind == .class || (X.env.scope.kind == .module && X.env.locals != X.env.globals)) = false := by rw [I.ok.kind]; rfl
    have goes : ∀ {σ5 : St} {H5 : Hp} {Q : Unit → Shared → Prop}, Inv X pins σ5 H5 s5 → (∀ s6, Inv X pins (σ5.set i none) H5 s6 → Q () s6) → wpAny (model X.prog X.w) X.A (do bindName X.env nm .none; unbindBehindTheSuite X.env nm hpos) Q X.xe s5 := fun {σ5 H5 Q} J5 hQ => by
      obtain ⟨m, hm5, _⟩ := id J5.loc
      exact wpAny_nameGoes_keeps hloc hm5 hcls fun h' v hn sb => hQ _ (J5.unbound (t' := s5.toks + 1) hN hi hm5 hn sb)
    cases f with
    | next => obtain ⟨σ5, H5, I5, q5⟩ := z; exact goes (I5.outExc I.ok) fun s6 I6 => ⟨_, _, I6, q5⟩
    | brk => obtain ⟨σ5, H5, I5, q5⟩ := z; exact goes (I5.outExc I.ok) fun s6 I6 => ⟨_, _, I6, q5⟩
    | cont => obtain ⟨σ5, H5, I5, q5⟩ := z; exact goes (I5.outExc I.ok) fun s6 I6 => ⟨_, _, I6, q5⟩
    | ret u => obtain ⟨v, σ5, H5, I5, r5, q5⟩ := z; exact goes (I5.outExc I.ok) fun s6 I6 => ⟨v, _, _, I6, r5, q5⟩
  refine wpAny_mono (hb _ pins _ hw [] s σ H Ds (I.toPinned _) h) (fun f s1 z => ?_) fun _ _ z => z
  cases f with
  | next => obtain ⟨σ', H', I', q⟩ := z; exact wpAny_execs_nil ⟨σ', H', I'.ofPinned I.ok, q⟩
  | brk => obtain ⟨σ', H', I', q⟩ := z; exact ⟨σ', H', I'.ofPinned I.ok, q⟩
  | cont => obtain ⟨σ', H', I', q⟩ := z; exact ⟨σ', H', I'.ofPinned I.ok, q⟩
  | ret u => obtain ⟨v, σ', H', I', r, q⟩ := z; exact ⟨v, σ', H', I'.ofPinned I.ok, r, q⟩
end
end L2
namespace L2
open PySem PySem.Spec PyProof.Rows
section
variable {P : Program} {w : World} {K : PySem.W.Frag} {mg : Str → Option Value} {base : Heap}
/-- a def that may raise, by its body -/
theorem Fun.okX {x qual : Str} {st : Stmt} {f : Addr} {fd : FuncData} {N ps : List Str} {k : Nat} {sp : Sp} (F : Fun K x qual st f fd) (S : FnScope N ps (defScope st)) (len : ∀ vs H Q E, sp vs H Q E → vs.length = ps.length)
    (hbody : ∀ (cdv : Value) (A : Around) (outer : List Env) (s : Shared) (H : Hp) (vs : List V) (Q : VK) (E : XK), Room k (A.deeper (envOfC qual (defScope st) s.heap.objs.size f cdv)) → sp vs H Q E →
      ∃ t, PSs (cxOf (CX1 P w) P w K mg base N qual (defScope st) f cdv A outer s H E) (defBody st) t ∧ t { nx := fun _ H' => Q .non H', rt := Q } (start N vs) H) : FnOk P w K mg base (CX1 P w) (k + 1) f fd ps sp := by
  obtain ⟨oc, od, kV, doc, pm, an, cdv, ct, osl, rfl, lk, hcd⟩ := F.ex
  exact fn_of lk hcd S len fun A outer s H vs Q E hr hsp => hbody cdv A outer s H vs Q E hr hsp
end
end L2

/-! ### texts: their methods, and the numbers that they write -/
namespace L2
open PySem PySem.Spec PyProof.Rows
section
variable {X : Cx}
theorem mt_startswith : MtM X "str.startswith" (fun x vs H Q => ∃ a b, x = .str a ∧ vs = [.str b] ∧ Q (.bl (Txt.startswith a b)) H) := by
  intro pins s σ H x vs v us Q I rx rv h
  obtain ⟨a, b, rfl, rfl, q⟩ := h
  obtain ⟨t, rfl⟩ := rx
  obtain ⟨u, rfl, t', rfl⟩ := rv.one
  exact SC.startswith ⟨.bl _, H, I, rfl, q⟩
theorem vals_strs : ∀ (l : List (Str × Tok)), Vals ((l.map (·.1)).map V.str) (strValues l)
  | [] => .nil
  | p :: r => .cons ⟨_, rfl⟩ (vals_strs r)
theorem mt_split : MtM X "str.split" (fun x vs H Q => ∃ a b, x = .str a ∧ vs = [.str b] ∧ a.length ≤ sizeLine ∧ (b.length == 0) = false ∧ (Builtin.Str.partsBetween a (Builtin.Str.occurrences a b 0 a.length (a.length + 1)) b.length).length ≤ sizeLine ∧
    ∀ l, H l = none → Q (.ref l) (upd H l (.lst ((Txt.split a b).map V.str)))) := by
  intro pins s σ H x vs v us Q I rx rv h
  obtain ⟨a, b, rfl, rfl, ha, hb, hp, q⟩ := h
  obtain ⟨t, rfl⟩ := rx
  obtain ⟨u, rfl, t', rfl⟩ := rv.one
  have fin : ∀ (l : List (Str × Tok)) (k : Nat), l.map (·.1) = Txt.split a b → l.length ≤ sizeLine → EP X pins σ Q (.ref s.heap.objs.size) { s with heap := s.heap.push { cls := .type "list", data := .seq (strValues l).toArray }, toks := k } := fun l k e hl => by
    have hv := vals_strs l
    rw [e] at hv
    have hz : ((Txt.split a b).map V.str).length ≤ sizeLine := by rw [List.length_map, ← e, List.length_map]; exact hl
    exact ⟨.ref _, _, I.lnew hv hz, rfl, q _ I.fresh⟩
  cases h1 : (decide (a.length < b.length) || decide (Builtin.Str.strKind a < Builtin.Str.strKind b))
  · cases hf : (Builtin.Str.occurrences a b 0 a.length (a.length + 1)).isEmpty
    · refine call_meets F.slot_str_split (typeIs_str _ _ _) F.entry_str_split (F.args_str_split_2 _ _) (meets_str_split_sep a b t t' h1 hb hf ha hp) ?_
      show EP X pins σ Q (.ref s.heap.objs.size) { s with heap := s.heap.push { cls := .type "list", data := .seq (strsFrom s.toks (Builtin.Str.partsBetween a (Builtin.Str.occurrences a b 0 a.length (a.length + 1)) b.length)).toArray }, toks := _ }
      rw [strsFrom_eq]
      have e : (numbered s.toks (Builtin.Str.partsBetween a (Builtin.Str.occurrences a b 0 a.length (a.length + 1)) b.length)).map (·.1) = Txt.split a b := (numbered_texts _ _).trans ((if_neg (ne_true_of_eq_false h1)).trans (if_neg (ne_true_of_eq_false hf))).symm
      refine fin _ _ e ?_
      have := congrArg List.length (numbered_texts s.toks (Builtin.Str.partsBetween a (Builtin.Str.occurrences a b 0 a.length (a.length + 1)) b.length))
      rw [List.length_map] at this
      omega
    · exact call_meets F.slot_str_split (typeIs_str _ _ _) F.entry_str_split (F.args_str_split_2 _ _) (meets_str_split_not_found a b t t' h1 hb hf)
        (fin [(a, t)] _ ((if_neg (ne_true_of_eq_false h1)).trans (if_pos hf)).symm (by show 1 ≤ 16777216; decide))
  · exact call_meets F.slot_str_split (typeIs_str _ _ _) F.entry_str_split (F.args_str_split_2 _ _) (meets_str_split_cannot_occur a b t t' h1)
      (fin [(a, t)] _ (if_pos h1).symm (by show 1 ≤ 16777216; decide))
theorem strs_vals : ∀ {xs : List Str} {us : List Value}, Vals (xs.map V.str) us → ∃ l : List (Str × Tok), us = strValues l ∧ l.map (·.1) = xs
  | [], _, .nil => ⟨[], rfl, rfl⟩
  | x :: xs, _, .cons ⟨t, e⟩ r => by
    obtain ⟨l, rfl, rfl⟩ := strs_vals r
    subst e
    exact ⟨(x, t) :: l, rfl, rfl⟩
theorem mt_join : MtM X "str.join" (fun x vs H Q => ∃ a b xs, x = .str a ∧ vs = [.ref b] ∧ H b = some (.lst (xs.map V.str)) ∧ JoinOk a xs = true ∧ Q (.str (Txt.join a xs)) H) := by
  intro pins s σ H x vs v us Q I rx rv h
  obtain ⟨a, b, xs, rfl, rfl, hb, hj, q⟩ := h
  obtain ⟨t, rfl⟩ := rx
  obtain ⟨u, rfl, ru⟩ := rv.one
  cases ru
  obtain ⟨z, its, n, r, hl, e⟩ := I.lstM hb
  obtain ⟨l, rfl, rfl⟩ := strs_vals r
  exact SC.join (x := a) (D := b) (l := l) ⟨_, e, rfl, _, rfl⟩ rfl hj fun t' k => ⟨.str _, H, I.tok k, ⟨t', rfl⟩, q⟩
theorem call_int_text : CallR X (.type "int") (fun xs H Q => ∃ x n, xs = [.str x] ∧ PySem.intText? x = some n ∧ x.length ≤ 640 ∧ Q (.int n) H) := by
  intro pins s σ H xs us Q I r h
  obtain ⟨x, n, rfl, hn, hl, q⟩ := h
  obtain ⟨u, rfl, t, rfl⟩ := vals1 r
  exact PySem.W.KIN.call_text hn hl ⟨.int n, H, I.tok _, ⟨_, rfl⟩, q⟩
def CDivW (i j : Int) : Prop := 0 < j ∧ j.natAbs.log2 < 9000
/-- // by a positive divisor, a wide one too -/
theorem op_fdivW : OpR X (binaryOp .FloorDiv) (rI CDivW fun i j => .int (i / j)) := opI fun i j _ _ _ _ _ hc q => by
  have h1 : (0 : Int) < j := hc.1
  exact floordiv_int (by omega) (by rw [Int.fdiv_eq_ediv_of_nonneg i (by omega)]; exact q) (.inl (PyProof.noPylong_of_log2 hc.2))
end
end L2

/-! ### numbers plainly written -/
namespace My
open PySem PySem.NumText PyProof.Rows L2
def figB (c : Nat) : Bool := decide (48 ≤ c) && decide (c ≤ 57)
def countL (l : List Nat) : Bool := decide (1 ≤ l.length) && decide (l.length ≤ 40) && !(decide (l.head? = some 48) && decide (l ≠ [48])) && l.all figB
def wholeL (l : List Nat) : Bool := if l.head? = some 45 then decide (l ≠ [45, 48]) && countL (l.drop 1) else countL l
theorem starts_one (x : Str) (c : Nat) : Txt.startswith x ⟨#[c]⟩ = decide (x.cps.toList.head? = some c) := by
  have h := PySem.StrLaws.subAt_one x c 0
  rw [Bool.eq_iff_iff, decide_eq_true_iff, List.head?_eq_getElem?, ← h]
  show (decide (0 + (⟨#[c]⟩ : Str).length ≤ x.length) && _) = true ↔ _
  rw [Bool.and_eq_true, decide_eq_true_iff]
theorem str_ext {x y : Str} (h : x.cps.toList = y.cps.toList) : x = y := by
  cases x; cases y
  exact congrArg Str.mk (Array.toList_inj.mp h)
theorem slice_tail (x : Str) : (Txt.slice x (some 1) none).cps.toList = x.cps.toList.drop 1 := by
  by_cases h : 1 ≤ x.length
  · rw [slice_from_eq (x := x) (i := 1) (b := x.length) (by decide) (by omega) rfl]
    show (x.cps.toList.drop 1).take _ = _
    rw [List.take_of_length_le]
    have : x.cps.toList.length = x.length := rfl
    rw [List.length_drop]
    omega
  · rw [slice_beyond (by omega)]
    have : x.cps.toList.length = x.length := rfl
    rw [List.drop_eq_nil_of_le (by omega)]
    rfl
theorem fig_all {l : List Nat} (h : l.all figB = true) : AllDigits l := fun c hc => by
  have := List.all_eq_true.mp h c hc
  unfold figB at this
  rw [Bool.and_eq_true, decide_eq_true_iff, decide_eq_true_iff] at this
  exact this
theorem countL_is {l : List Nat} (h : countL l = true) : 1 ≤ l.length ∧ l.length ≤ 40 ∧ (l.head? = some 48 → l = [48]) ∧ AllDigits l := by
  unfold countL at h
  simp only [Bool.and_eq_true, decide_eq_true_iff, Bool.not_eq_true', Bool.and_eq_false_iff, decide_eq_false_iff_not] at h
  obtain ⟨⟨⟨h1, h2⟩, h3⟩, h4⟩ := h
  refine ⟨h1, h2, fun e => ?_, fig_all h4⟩
  rcases h3 with h3 | h3
  · exact absurd e h3
  · exact Classical.byContradiction fun z => h3 z
theorem ne_of_len {l : List Nat} (h : 1 ≤ l.length) : l ≠ [] := fun e => by rw [e] at h; cases h
theorem count_reads {x : Str} (h : countL x.cps.toList = true) : PySem.intText? x = some ((digitsVal x.cps.toList : Nat) : Int) := by
  obtain ⟨h1, h2, h3, h4⟩ := countL_is h
  have : x.cps.toList.length = x.length := rfl
  exact intText_digits h4 (ne_of_len h1) (by omega)
theorem head_of {l : List Nat} {c : Nat} (h : l.head? = some c) : l = c :: l.drop 1 := by
  cases l with
  | nil => cases h
  | cons a r => cases h; rfl
theorem wholeL_is {l : List Nat} (h : wholeL l = true) : (l.head? ≠ some 45 ∧ countL l = true) ∨ (l = 45 :: l.drop 1 ∧ l.drop 1 ≠ [48] ∧ countL (l.drop 1) = true) := by
  unfold wholeL at h
  by_cases e : l.head? = some 45
  · rw [if_pos e, Bool.and_eq_true, decide_eq_true_iff] at h
    have e' := head_of e
    exact .inr ⟨e', fun z => h.1 (by rw [e', z]), h.2⟩
  · rw [if_neg e] at h
    exact .inl ⟨e, h⟩
def wholeVal (l : List Nat) : Int := if l.head? = some 45 then -((digitsVal (l.drop 1) : Nat) : Int) else ((digitsVal l : Nat) : Int)
theorem whole_reads {x : Str} (h : wholeL x.cps.toList = true) : PySem.intText? x = some (wholeVal x.cps.toList) := by
  unfold wholeVal
  have hl : x.cps.toList.length = x.length := rfl
  rcases wholeL_is h with ⟨e, h⟩ | ⟨e, hn, h⟩
  · rw [if_neg e]
    exact count_reads h
  · rw [if_pos (by rw [e]; rfl)]
    obtain ⟨h1, h2, h3, h4⟩ := countL_is h
    refine intText_neg e h4 (ne_of_len h1) ?_
    rw [List.length_drop] at h2
    omega
/-- a count's text, written again -/
theorem count_back {l : List Nat} (h : countL l = true) : (Str.ofString (toString ((digitsVal l : Nat) : Int))).cps.toList = l := by
  obtain ⟨h1, h2, h3, h4⟩ := countL_is h
  rw [PySem.W.KIN.signs_num]
  have hd : Nat.toDigits 10 (digitsVal l) = l.map Char.ofNat := by
    refine toDigits_digitsVal (l.length - 1) l (by omega) h4 ?_
    cases l with
    | nil => cases h1
    | cons c r =>
      by_cases hc : c = 48
      · subst hc
        rw [h3 rfl]
        exact .inl rfl
      · have := h4.head
        exact .inr ⟨c, r, rfl, by omega⟩
  rw [hd, List.map_map]
  have : ∀ c ∈ l, (Char.toNat ∘ Char.ofNat) c = c := fun c hc => by
    have := h4 c hc
    have hv : c.isValidChar := .inl (by omega)
    show (Char.ofNat c).toNat = c
    unfold Char.ofNat
    rw [dif_pos hv]
    rfl
  rw [List.map_congr_left this, List.map_id']
theorem neg_text (m : Nat) (h : 0 < m) : (Str.ofString (toString (-((m : Nat) : Int)))).cps.toList = 45 :: (Str.ofString (toString ((m : Nat) : Int))).cps.toList := by
  rw [signs_ofString, signs_ofString]
  obtain ⟨k, rfl⟩ : ∃ k, m = k + 1 := ⟨m - 1, by omega⟩
  show (("-" ++ Nat.repr (k + 1)).toList).map Char.toNat = 45 :: (Nat.repr (k + 1)).toList.map Char.toNat
  rw [String.toList_append, List.map_append]
  rfl
theorem whole_back {l : List Nat} (h : wholeL l = true) : (Str.ofString (toString (wholeVal l))).cps.toList = l := by
  unfold wholeVal
  rcases wholeL_is h with ⟨e, h⟩ | ⟨e, hn, h⟩
  · rw [if_neg e]
    exact count_back h
  · rw [if_pos (by rw [e]; rfl)]
    have hp : 0 < digitsVal (l.drop 1) := by
      obtain ⟨h1, h2, h3, h4⟩ := countL_is h
      cases ed : l.drop 1 with
      | nil => rw [ed] at h1; cases h1
      | cons c r =>
        rw [ed] at h3 h4 hn
        have := h4.head
        have hc : c ≠ 48 := fun z => by subst z; exact hn (h3 rfl)
        exact digitsVal_pos (by omega)
    rw [neg_text _ hp, count_back h]
    exact e.symm
end My

/-! ### texts in order, texts repeated, things compared whole, lists among lists, a tuple with a dict shown -/
namespace L2
open PySem PySem.Spec PySem.SeqAt PyProof.Rows
section
variable {X : Cx}
theorem op_le_str : OpR X (compareOp .LtE) (fun x y H Q => ∃ i j, x = .str i ∧ y = .str j ∧ Q (.bl (!decide (j.cps.toList < i.cps.toList))) H) := by
  intro pins s σ H x y v u Q I rx ry h
  obtain ⟨i, j, rfl, rfl, q⟩ := h
  obtain ⟨t, rfl⟩ := rx
  obtain ⟨t', rfl⟩ := ry
  exact PySem.P.le_str (fin_bl I q rfl)
theorem op_rep_str : OpR X (binaryOp .Mult) (fun x y H Q => ∃ z n, x = .str z ∧ y = .int n ∧ MulOk z n ∧ Q (.str (Txt.mul z n)) H) := by
  intro pins s σ H x y v u Q I rx ry h
  obtain ⟨z, n, rfl, rfl, ok, q⟩ := h
  obtain ⟨t, rfl⟩ := rx
  obtain ⟨t', rfl⟩ := ry
  exact SB.mul ok fun t' k => ⟨.str _, H, I.tok k, ⟨t', rfl⟩, q⟩
/-- x != y, of things that are known whole -/
theorem op_ne_dat (hu : X.A.units + 100 < cLine) : OpR X (compareOp .NotEq) (fun x y H Q => ∃ d e, Dat H x d ∧ Dat H y e ∧ shaped d = true ∧ shaped e = true ∧ noMix d e = true ∧ Q (.bl (!PySem.Spec.same d e)) H) := by
  intro pins s σ H x y v u Q I rx ry h
  obtain ⟨d, e, hd, he, s1, s2, m, q⟩ := h
  obtain ⟨⟨as, rd⟩, _⟩ := hd.reads I.hok rx
  obtain ⟨⟨bs, re⟩, _⟩ := he.reads I.hok ry
  exact ne_dataH_same rd re s1 s2 (by omega) m ⟨.bl _, H, I, rfl, q⟩
/-- an empty list, not among lists -/
def emB (H : Hp) : Value → Bool
  | .ref a => match H a with
    | some (.lst xs) => xs.isEmpty
    | _ => false
  | _ => false
theorem refs_vals : ∀ {qs : List Addr} {us : List Value}, Vals (qs.map V.ref) us → us = qs.map Value.ref
  | [], _, .nil => rfl
  | a :: r, _, .cons e q => by
    cases e
    rw [refs_vals q]
    rfl
theorem op_notIn_ll (hu : X.A.units + 100 < cLine) : OpR X (compareOp .NotIn) (fun x y H Q => ∃ (e p : Addr) (qs : List Addr), x = .ref e ∧ y = .ref p ∧ H e = some (.lst []) ∧ H p = some (.lst (qs.map V.ref)) ∧ (∀ a ∈ qs, a ≠ e ∧ ∃ xs, H a = some (.lst xs)) ∧ Q (.bl (!qs.any fun a => emB H (.ref a))) H) := by
  intro pins s σ H x y v u Q I rx ry h
  obtain ⟨e, p, qs, rfl, rfl, he, hp, hq, q⟩ := h
  cases rx
  cases ry
  obtain ⟨its, r, pl, hz⟩ := I.list (SqL.of hp)
  obtain ⟨its0, r0, pl0, hz0⟩ := I.list (SqL.of he)
  have e1 := refs_vals r
  subst e1
  have e0 : its0 = [] := by cases r0; rfl
  subst e0
  refine SeqAt.notIn_listAt (emB H) pl.isList (fun w hw => ?_) ⟨.bl _, H, I, rfl, ?_⟩
  · have hw : w ∈ qs.map Value.ref := by simpa using hw
    obtain ⟨a, ha, rfl⟩ := List.mem_map.mp hw
    obtain ⟨ne, xs, hx⟩ := hq a ha
    obtain ⟨itx, rx, px, hzx⟩ := I.list (SqL.of hx)
    have hl := rx.length
    have hb : emB H (.ref a) = xs.isEmpty := by
      show (match H a with | some (.lst xs) => xs.isEmpty | _ => false) = _
      rw [hx]
    rw [hb]
    have hu1 : X.A.in1.units < cLine := by
      show X.A.units + 1 < cLine
      omega
    cases xs with
    | nil =>
      cases rx
      exact SeqAt.EqAt.of_refs ne (SeqAt.RcAt.lists (e := fun _ => true) px.isList pl0.isList rfl hu1 (fun j h1 _ => absurd h1 (Nat.not_lt_zero _)))
    | cons x xs =>
      have h0 : (itx.toArray.size != ([] : List Value).toArray.size) = true := by
        rw [List.size_toArray, bne_iff_ne]
        show itx.length ≠ 0
        rw [List.length_cons] at hl
        omega
      exact SeqAt.EqAt.of_refs ne (SeqAt.RcAt.lists_lengths px.isList pl0.isList h0 hu1)
  · rw [show (qs.map Value.ref).toArray.any (emB H) = (qs.map Value.ref).any (emB H) by simp, List.any_map]
    exact q
/-- what is shown: a thing known whole, or a pair of a text and an empty dict -/
def DatD (H : Hp) (v : V) (d : PyData) : Prop := Dat H v d ∨ ∃ t a x, v = .ref t ∧ H t = some (.tup [.str x, .ref a]) ∧ H a = some (.dK []) ∧ d = .tuple [.str x, .dict []]
theorem call_reprD (hg : X.A.guards = some []) (hu : X.A.units + 100 < cLine) : CallR X (.builtin "repr") (fun xs H Q => ∃ v d, xs = [v] ∧ DatD H v d ∧ d.showable = true ∧ d.depth ≤ 90 ∧ d.shown.length ≤ sizeLine ∧ Q (.str d.shown) H) := by
  intro pins s σ H xs us Q I r h
  obtain ⟨v, d, rfl, hd, hs, hdp, hz, q⟩ := h
  rcases hd with hd | ⟨t, a, x, rfl, et, ea, rfl⟩
  · exact call_repr hg hu pins s σ H _ us Q I r ⟨v, d, rfl, hd, hs, hdp, hz, q⟩
  · obtain ⟨u, rfl, ru⟩ := vals1 r
    cases ru
    obtain ⟨z, its, rv, o, ho, hc, n, hdt⟩ := (show ObjOk X.prog X.w H s.heap t (.tup _) from I.hok _ _ et)
    obtain ⟨u1, u2, rfl, r1, r2⟩ := vals2 rv
    obtain ⟨t1, rfl⟩ := r1
    cases r2
    obtain ⟨z', ym, vs, kv, od, es, ep, hod, ex, hde, ko, pr, nd⟩ := dk_of I.hok ea
    have evs : vs = [] := by cases kv; rfl
    subst evs
    have ees : es.toList = [] := by
      cases h : es.toList with
      | nil => rfl
      | cons y ys => rw [h] at pr; cases pr
    have rd : Reads s.heap (.ref t) (.tuple [.str x, .dict []]) ([] ++ ((a :: [] ++ []) ++ [])) := by
      refine Reads.tuple ho hc hdt ?_
      show ReadsAll s.heap [Value.str x t1, Value.ref a] _ _
      refine .cons (.str x t1) (.cons (Reads.dict hod ex.1 hde ?_ ?_) .nil)
      · rw [ees]; exact .nil
      · rw [ees]; exact .nil
    have nsm : sysModules ∉ ([] ++ ((a :: [] ++ []) ++ []) : List Addr) := by
      intro hm
      have hm : sysModules = a := by simpa using hm
      rw [hm] at ym
      simp at ym
    exact repr_of_reads' rd hs (fun _ => nsm) hg (by omega) (fun _ _ e => e) (fun h' t tk k => ⟨.str _, H, I.kept k, ⟨t, rfl⟩, q⟩) hz
end
section
variable {X : Cx} {e : Expr} {f : Str} {pos : Pos} {ta : TE} {K : PySem.W.Frag}
/-- e.f, where what is known of the classes is named (within an except's suite) -/
theorem pe_fldXK (hK : X.K = K) (he : PE X e ta) (hb : attributeBase e f X.env (eval e X.env) = eval e X.env) : PE X (.Attribute e f pos) (tFldX K ta f) := by
  subst hK
  exact pe_fldX he hb
end
/-! ### words that the elaborator does not run (a def with a long list: the telescopes of PE, PA, PS, PSs cost 2^n there) -/
section
variable {X : Cx} {e : Expr} {es : List Expr} {st : Stmt} {sts : List Stmt} {te : TE} {ta : TA} {t u : TS}
structure PAm (X : Cx) (es : List Expr) (t : TA) : Prop where
  h : PA X es t
structure PEm (X : Cx) (e : Expr) (t : TE) : Prop where
  h : PE X e t
structure PSm (X : Cx) (st : Stmt) (t : TS) : Prop where
  h : PS X st t
structure PSsm (X : Cx) (sts : List Stmt) (t : TS) : Prop where
  h : PSs X sts t
theorem pam_nil : PAm X [] tNil := ⟨pa_nil⟩
theorem pam_cons (hs : ∀ (es : List Expr) (env : Env), starEach (e :: es) env = (false, eval e env) :: starEach es env) (ha : PE X e te) (hr : PAm X es ta) : PAm X (e :: es) (tCons te ta) := ⟨pa_cons ha hr.h (hs _ _)⟩
theorem pem_lst {pos : Pos} (h : PAm X es ta) : PEm X (.List es pos) (tLst ta) := ⟨pe_lst h.h⟩
theorem psm_set {i : Nat} {x : Str} {pos pos' : Pos} (hN : X.N.Nodup) (hi : X.N[i]? = some x) (hx : Loc X.env.scope x) (he : PEm X e te) (hs : swapsWith e (some (.Name x pos')) pos.line X.env = pure false) (hf : X.fn x = true ∨ X.env.scope.names.lookup x = some .local) :
    PSm X (.Assign [.Name x pos'] e pos) (tAsg te (gName i)) := ⟨ps_set hN hi hx he.h hs hf⟩
theorem pssm_cons (h1 : PSm X st t) (h2 : PSsm X sts u) : PSsm X (st :: sts) (tSeq t u) := ⟨pss_cons h1.h h2.h⟩
theorem pssm_one (h1 : PSm X st t) : PSsm X [st] t := ⟨pss_one h1.h⟩
end
section
variable {P : Program} {w : World} {K : PySem.W.Frag} {mg : Str → Option Value} {base : Heap}
theorem Fun.okM {x qual : Str} {st : Stmt} {f : Addr} {fd : FuncData} {N ps : List Str} {k : Nat} {sp : Sp} (F : Fun K x qual st f fd) (S : FnScope N ps (defScope st)) (len : ∀ vs H Q E, sp vs H Q E → vs.length = ps.length)
    (hbody : ∀ (cdv : Value) (A : Around) (outer : List Env) (s : Shared) (H : Hp) (vs : List V) (Q : VK) (E : XK), Room k (A.deeper (envOfC qual (defScope st) s.heap.objs.size f cdv)) → sp vs H Q E →
      ∃ t, PSsm (cxOf CX0 P w K mg base N qual (defScope st) f cdv A outer s H E).nox (defBody st) t ∧ t { nx := fun _ H' => Q .non H', rt := Q } (start N vs) H) : FnOk P w K mg base CX0 (k + 1) f fd ps sp :=
  F.ok S len fun cdv A outer s H vs Q E hr h => by
    obtain ⟨t, h, q⟩ := hbody cdv A outer s H vs Q E hr h
    exact ⟨t, h.h, q⟩
end
end L2

namespace My
open PySem L2 PyProof.Rows
def top (i : Nat) : Stmt := PySem.Challenge.pw_framerooms_k02_values_as_texts.main.body.getD i (.Pass ⟨0, 0, 0, 0⟩)
abbrev s_RoomError___init__ : Stmt := (inClass (top 1) 0)
abbrev s_NoValue___init__ : Stmt := (inClass (top 2) 0)
abbrev s_is_number : Stmt := (top 6)
abbrev s_is_count : Stmt := (top 7)
abbrev s_is_pair : Stmt := (top 8)
abbrev s_value_text : Stmt := (top 9)
abbrev s_value_of : Stmt := (top 10)
abbrev s_is_whole_text : Stmt := (top 11)
abbrev s_is_count_text : Stmt := (top 12)
abbrev s__law_cell : Stmt := (top 14)
abbrev s__law_box : Stmt := (top 15)
abbrev s__law_take : Stmt := (top 16)
abbrev s__law_page : Stmt := (top 17)
abbrev s__law_number : Stmt := (top 18)
abbrev s__law_value : Stmt := (top 19)
abbrev s__law_text : Stmt := (top 20)
abbrev s__law_figures : Stmt := (top 21)
abbrev s__law_bent : Stmt := (top 22)
abbrev s__law_read : Stmt := (top 23)
abbrev s__law_due : Stmt := (top 24)
abbrev s__law_told : Stmt := (top 25)
abbrev s__law_odd : Stmt := (top 26)
abbrev s__law_right : Stmt := (top 27)
abbrev s__law_long_right : Stmt := (top 28)
abbrev s_law : Stmt := (top 29)
theorem sc_RoomError___init__ : FnScope ["self", "text"] ["self", "text"] (defScope s_RoomError___init__) := ⟨rfl, rfl, rfl, by decide +kernel, rfl, by decide +kernel, by decide +kernel⟩
theorem sc_NoValue___init__ : FnScope ["self", "found"] ["self", "found"] (defScope s_NoValue___init__) := ⟨rfl, rfl, rfl, by decide +kernel, rfl, by decide +kernel, by decide +kernel⟩
theorem sc_is_number : FnScope ["thing"] ["thing"] (defScope s_is_number) := ⟨rfl, rfl, rfl, by decide +kernel, rfl, by decide +kernel, by decide +kernel⟩
theorem sc_is_count : FnScope ["thing"] ["thing"] (defScope s_is_count) := ⟨rfl, rfl, rfl, by decide +kernel, rfl, by decide +kernel, by decide +kernel⟩
theorem sc_is_pair : FnScope ["thing"] ["thing"] (defScope s_is_pair) := ⟨rfl, rfl, rfl, by decide +kernel, rfl, by decide +kernel, by decide +kernel⟩
theorem sc_value_text : FnScope ["value"] ["value"] (defScope s_value_text) := ⟨rfl, rfl, rfl, by decide +kernel, rfl, by decide +kernel, by decide +kernel⟩
theorem sc_value_of : FnScope ["text", "parts"] ["text"] (defScope s_value_of) := ⟨rfl, rfl, rfl, by decide +kernel, rfl, by decide +kernel, by decide +kernel⟩
theorem sc_is_whole_text : FnScope ["text"] ["text"] (defScope s_is_whole_text) := ⟨rfl, rfl, rfl, by decide +kernel, rfl, by decide +kernel, by decide +kernel⟩
theorem sc_is_count_text : FnScope ["text"] ["text"] (defScope s_is_count_text) := ⟨rfl, rfl, rfl, by decide +kernel, rfl, by decide +kernel, by decide +kernel⟩
theorem sc__law_cell : FnScope ["_law_script", "_law_k"] ["_law_script", "_law_k"] (defScope s__law_cell) := ⟨rfl, rfl, rfl, by decide +kernel, rfl, by decide +kernel, by decide +kernel⟩
theorem sc__law_box : FnScope ["_law_cell_here"] ["_law_cell_here"] (defScope s__law_box) := ⟨rfl, rfl, rfl, by decide +kernel, rfl, by decide +kernel, by decide +kernel⟩
theorem sc__law_take : FnScope ["_law_box_here", "_law_many", "_law_digit", "_law_one", "_law_other"] ["_law_box_here", "_law_many"] (defScope s__law_take) := ⟨rfl, rfl, rfl, by decide +kernel, rfl, by decide +kernel, by decide +kernel⟩
theorem sc__law_page : FnScope ["_law_page_here"] [] (defScope s__law_page) := ⟨rfl, rfl, rfl, by decide +kernel, rfl, by decide +kernel, by decide +kernel⟩
theorem sc__law_number : FnScope ["_law_box_here", "_law_way", "_law_figures_here"] ["_law_box_here"] (defScope s__law_number) := ⟨rfl, rfl, rfl, by decide +kernel, rfl, by decide +kernel, by decide +kernel⟩
theorem sc__law_value : FnScope ["_law_box_here", "_law_way"] ["_law_box_here"] (defScope s__law_value) := ⟨rfl, rfl, rfl, by decide +kernel, rfl, by decide +kernel, by decide +kernel⟩
theorem sc__law_text : FnScope ["_law_value_here"] ["_law_value_here"] (defScope s__law_text) := ⟨rfl, rfl, rfl, by decide +kernel, rfl, by decide +kernel, by decide +kernel⟩
theorem sc__law_figures : FnScope ["_law_box_here", "_law_least", "_law_many", "_law_ahead"] ["_law_box_here"] (defScope s__law_figures) := ⟨rfl, rfl, rfl, by decide +kernel, rfl, by decide +kernel, by decide +kernel⟩
theorem sc__law_bent : FnScope ["_law_box_here", "_law_text_here", "_law_found", "_law_turn", "_law_way", "_law_signs", "_law_sign", "_law_at"] ["_law_box_here", "_law_text_here"] (defScope s__law_bent) := ⟨rfl, rfl, rfl, by decide +kernel, rfl, by decide +kernel, by decide +kernel⟩
theorem sc__law_read : FnScope ["_law_text_here", "_law_figures_here"] ["_law_text_here"] (defScope s__law_read) := ⟨rfl, rfl, rfl, by decide +kernel, rfl, by decide +kernel, by decide +kernel⟩
theorem sc__law_due : FnScope ["_law_thing", "_law_parts"] ["_law_thing"] (defScope s__law_due) := ⟨rfl, rfl, rfl, by decide +kernel, rfl, by decide +kernel, by decide +kernel⟩
theorem sc__law_told : FnScope ["_law_way", "_law_thing", "_law_found", "e"] ["_law_way", "_law_thing"] (defScope s__law_told) := ⟨rfl, rfl, rfl, by decide +kernel, rfl, by decide +kernel, by decide +kernel⟩
theorem sc__law_odd : FnScope ["_law_box_here", "_law_some"] ["_law_box_here"] (defScope s__law_odd) := ⟨rfl, rfl, rfl, by decide +kernel, rfl, by decide +kernel, by decide +kernel⟩
theorem sc__law_right : FnScope ["_law_thing", "_law_due_here", "_law_found"] ["_law_thing"] (defScope s__law_right) := ⟨rfl, rfl, rfl, by decide +kernel, rfl, by decide +kernel, by decide +kernel⟩
theorem sc__law_long_right : FnScope ["_law_box_here", "_law_sign", "_law_text_here"] ["_law_box_here"] (defScope s__law_long_right) := ⟨rfl, rfl, rfl, by decide +kernel, rfl, by decide +kernel, by decide +kernel⟩
theorem sc_law : FnScope ["_law_script", "_law_k", "_law_box_here", "_law_odd_here", "_law_bent_here", "_law_value_here", "_law_text_here", "_law_turn", "_law_thing"] ["_law_script"] (defScope s_law) := ⟨rfl, rfl, rfl, by decide +kernel, rfl, by decide +kernel, by decide +kernel⟩
structure Adr where
  a_RoomError___init__ : Addr
  d_RoomError___init__ : FuncData
  a_NoValue___init__ : Addr
  d_NoValue___init__ : FuncData
  a_is_number : Addr
  d_is_number : FuncData
  a_is_count : Addr
  d_is_count : FuncData
  a_is_pair : Addr
  d_is_pair : FuncData
  a_value_text : Addr
  d_value_text : FuncData
  a_value_of : Addr
  d_value_of : FuncData
  a_is_whole_text : Addr
  d_is_whole_text : FuncData
  a_is_count_text : Addr
  d_is_count_text : FuncData
  a__law_cell : Addr
  d__law_cell : FuncData
  a__law_box : Addr
  d__law_box : FuncData
  a__law_take : Addr
  d__law_take : FuncData
  a__law_page : Addr
  d__law_page : FuncData
  a__law_number : Addr
  d__law_number : FuncData
  a__law_value : Addr
  d__law_value : FuncData
  a__law_text : Addr
  d__law_text : FuncData
  a__law_figures : Addr
  d__law_figures : FuncData
  a__law_bent : Addr
  d__law_bent : FuncData
  a__law_read : Addr
  d__law_read : FuncData
  a__law_due : Addr
  d__law_due : FuncData
  a__law_told : Addr
  d__law_told : FuncData
  a__law_odd : Addr
  d__law_odd : FuncData
  a__law_right : Addr
  d__law_right : FuncData
  a__law_long_right : Addr
  d__law_long_right : FuncData
  a_law : Addr
  d_law : FuncData
  a_RoomError : Addr
  a_NoValue : Addr
structure Txt (K : PySem.W.Frag) (mg : Str → Option Value) (A : Adr) : Prop where
  F_RoomError___init__ : Fun K "__init__" "RoomError.__init__" s_RoomError___init__ A.a_RoomError___init__ A.d_RoomError___init__
  b_RoomError___init__ : Binds K A.d_RoomError___init__ ["self", "text"] []
  F_NoValue___init__ : Fun K "__init__" "NoValue.__init__" s_NoValue___init__ A.a_NoValue___init__ A.d_NoValue___init__
  b_NoValue___init__ : Binds K A.d_NoValue___init__ ["self", "found"] []
  m_is_number : mg "is_number" = some (.ref A.a_is_number)
  F_is_number : Fun K "is_number" "is_number" s_is_number A.a_is_number A.d_is_number
  b_is_number : Binds K A.d_is_number ["thing"] []
  m_is_count : mg "is_count" = some (.ref A.a_is_count)
  F_is_count : Fun K "is_count" "is_count" s_is_count A.a_is_count A.d_is_count
  b_is_count : Binds K A.d_is_count ["thing"] []
  m_is_pair : mg "is_pair" = some (.ref A.a_is_pair)
  F_is_pair : Fun K "is_pair" "is_pair" s_is_pair A.a_is_pair A.d_is_pair
  b_is_pair : Binds K A.d_is_pair ["thing"] []
  m_value_text : mg "value_text" = some (.ref A.a_value_text)
  F_value_text : Fun K "value_text" "value_text" s_value_text A.a_value_text A.d_value_text
  b_value_text : Binds K A.d_value_text ["value"] []
  m_value_of : mg "value_of" = some (.ref A.a_value_of)
  F_value_of : Fun K "value_of" "value_of" s_value_of A.a_value_of A.d_value_of
  b_value_of : Binds K A.d_value_of ["text"] []
  m_is_whole_text : mg "is_whole_text" = some (.ref A.a_is_whole_text)
  F_is_whole_text : Fun K "is_whole_text" "is_whole_text" s_is_whole_text A.a_is_whole_text A.d_is_whole_text
  b_is_whole_text : Binds K A.d_is_whole_text ["text"] []
  m_is_count_text : mg "is_count_text" = some (.ref A.a_is_count_text)
  F_is_count_text : Fun K "is_count_text" "is_count_text" s_is_count_text A.a_is_count_text A.d_is_count_text
  b_is_count_text : Binds K A.d_is_count_text ["text"] []
  m__law_cell : mg "_law_cell" = some (.ref A.a__law_cell)
  F__law_cell : Fun K "_law_cell" "_law_cell" s__law_cell A.a__law_cell A.d__law_cell
  b__law_cell : Binds K A.d__law_cell ["_law_script", "_law_k"] []
  m__law_box : mg "_law_box" = some (.ref A.a__law_box)
  F__law_box : Fun K "_law_box" "_law_box" s__law_box A.a__law_box A.d__law_box
  b__law_box : Binds K A.d__law_box ["_law_cell_here"] []
  m__law_take : mg "_law_take" = some (.ref A.a__law_take)
  F__law_take : Fun K "_law_take" "_law_take" s__law_take A.a__law_take A.d__law_take
  b__law_take : Binds K A.d__law_take ["_law_box_here", "_law_many"] []
  m__law_page : mg "_law_page" = some (.ref A.a__law_page)
  F__law_page : Fun K "_law_page" "_law_page" s__law_page A.a__law_page A.d__law_page
  b__law_page : Binds K A.d__law_page [] []
  m__law_number : mg "_law_number" = some (.ref A.a__law_number)
  F__law_number : Fun K "_law_number" "_law_number" s__law_number A.a__law_number A.d__law_number
  b__law_number : Binds K A.d__law_number ["_law_box_here"] []
  m__law_value : mg "_law_value" = some (.ref A.a__law_value)
  F__law_value : Fun K "_law_value" "_law_value" s__law_value A.a__law_value A.d__law_value
  b__law_value : Binds K A.d__law_value ["_law_box_here"] []
  m__law_text : mg "_law_text" = some (.ref A.a__law_text)
  F__law_text : Fun K "_law_text" "_law_text" s__law_text A.a__law_text A.d__law_text
  b__law_text : Binds K A.d__law_text ["_law_value_here"] []
  m__law_figures : mg "_law_figures" = some (.ref A.a__law_figures)
  F__law_figures : Fun K "_law_figures" "_law_figures" s__law_figures A.a__law_figures A.d__law_figures
  b__law_figures : Binds K A.d__law_figures ["_law_box_here"] []
  m__law_bent : mg "_law_bent" = some (.ref A.a__law_bent)
  F__law_bent : Fun K "_law_bent" "_law_bent" s__law_bent A.a__law_bent A.d__law_bent
  b__law_bent : Binds K A.d__law_bent ["_law_box_here", "_law_text_here"] []
  m__law_read : mg "_law_read" = some (.ref A.a__law_read)
  F__law_read : Fun K "_law_read" "_law_read" s__law_read A.a__law_read A.d__law_read
  b__law_read : Binds K A.d__law_read ["_law_text_here"] []
  m__law_due : mg "_law_due" = some (.ref A.a__law_due)
  F__law_due : Fun K "_law_due" "_law_due" s__law_due A.a__law_due A.d__law_due
  b__law_due : Binds K A.d__law_due ["_law_thing"] []
  m__law_told : mg "_law_told" = some (.ref A.a__law_told)
  F__law_told : Fun K "_law_told" "_law_told" s__law_told A.a__law_told A.d__law_told
  b__law_told : Binds K A.d__law_told ["_law_way", "_law_thing"] []
  m__law_odd : mg "_law_odd" = some (.ref A.a__law_odd)
  F__law_odd : Fun K "_law_odd" "_law_odd" s__law_odd A.a__law_odd A.d__law_odd
  b__law_odd : Binds K A.d__law_odd ["_law_box_here"] []
  m__law_right : mg "_law_right" = some (.ref A.a__law_right)
  F__law_right : Fun K "_law_right" "_law_right" s__law_right A.a__law_right A.d__law_right
  b__law_right : Binds K A.d__law_right ["_law_thing"] []
  m__law_long_right : mg "_law_long_right" = some (.ref A.a__law_long_right)
  F__law_long_right : Fun K "_law_long_right" "_law_long_right" s__law_long_right A.a__law_long_right A.d__law_long_right
  b__law_long_right : Binds K A.d__law_long_right ["_law_box_here"] []
  m_law : mg "law" = some (.ref A.a_law)
  F_law : Fun K "law" "law" s_law A.a_law A.d_law
  b_law : Binds K A.d_law ["_law_script"] []
  m_RoomError : mg "RoomError" = some (.ref A.a_RoomError)
  X_RoomError : ExcMk K A.a_RoomError A.a_RoomError___init__
  c_RoomError___init__ : ClsFn K A.a_RoomError "__init__" A.a_RoomError___init__
  e_RoomError : ExcF K A.a_RoomError
  g_RoomError : ExcG K A.a_RoomError
  U_RoomError_RoomError : Under K A.a_RoomError A.a_RoomError
  m_NoValue : mg "NoValue" = some (.ref A.a_NoValue)
  X_NoValue : ExcMk K A.a_NoValue A.a_NoValue___init__
  c_NoValue___init__ : ClsFn K A.a_NoValue "__init__" A.a_NoValue___init__
  e_NoValue : ExcF K A.a_NoValue
  g_NoValue : ExcG K A.a_NoValue
  U_NoValue_NoValue : Under K A.a_NoValue A.a_NoValue
  U_NoValue_RoomError : Under K A.a_NoValue A.a_RoomError
  n_NoValue_found : NoAttr K A.a_NoValue "found"
  B_law : ∀ (s : Shared) (u : Value), BindsTo s A.d_law ⟨[u], []⟩ [("_law_script", u)]
  z_ValueError : mg "ValueError" = none
  z_abs : mg "abs" = none
  z_all : mg "all" = none
  z_bool : mg "bool" = none
  z_int : mg "int" = none
  z_isinstance : mg "isinstance" = none
  z_len : mg "len" = none
  z_list : mg "list" = none
  z_max : mg "max" = none
  z_min : mg "min" = none
  z_range : mg "range" = none
  z_repr : mg "repr" = none
  z_str : mg "str" = none
  z_tuple : mg "tuple" = none
  u_FIGURES : ∃ u, RelV (V.str "0123456789") u ∧ mg "FIGURES" = some u
  u_MOST_FIGURES : ∃ u, RelV (V.int 40) u ∧ mg "MOST_FIGURES" = some u
/-! ### the values: what is told of them -/
inductive Plain (H : Hp) : V → Prop
  | non : Plain H .non
  | bl (b : Bool) : Plain H (.bl b)
  | int (i : Int) : Plain H (.int i)
  | str (x : Str) (h : x.length ≤ 100000) : Plain H (.str x)
  | lst {a : Addr} {xs : List V} (e : H a = some (.lst xs)) : Plain H (.ref a)
  | tup {a : Addr} {xs : List V} (e : H a = some (.tup xs)) : Plain H (.ref a)
  | dK {a : Addr} {kvs : List (Key × V)} (e : H a = some (.dK kvs)) : Plain H (.ref a)
/-- all but b is as it was -/
def Kept (b : Addr) (H H' : Hp) : Prop := ∀ c o, c ≠ b → H c = some o → H' c = some o
theorem Plain.kept {b : Addr} {H H' : Hp} {v : V} (p : Plain H v) (n : v ≠ .ref b) (s : Kept b H H') : Plain H' v := by
  cases p with
  | non => exact .non
  | bl b => exact .bl b
  | int i => exact .int i
  | str x h => exact .str x h
  | lst e => exact .lst (s _ _ (fun z => n (by rw [z])) e)
  | tup e => exact .tup (s _ _ (fun z => n (by rw [z])) e)
  | dK e => exact .dK (s _ _ (fun z => n (by rw [z])) e)
theorem Plain.same {H H' : Hp} {v : V} (p : Plain H v) (s : Same H H') : Plain H' v := by
  cases p with
  | non => exact .non
  | bl b => exact .bl b
  | int i => exact .int i
  | str x h => exact .str x h
  | lst e => exact .lst (s _ _ e)
  | tup e => exact .tup (s _ _ e)
  | dK e => exact .dK (s _ _ e)
/-- a thing: its kind, and the kinds of a tuple's items; none of it is the box b -/
structure Thing (b : Addr) (H : Hp) (v : V) : Prop where
  pl : Plain H v
  ne : v ≠ .ref b
  it : ∀ a xs, v = .ref a → H a = some (.tup xs) → xs.length ≤ 1000 ∧ ∀ x ∈ xs, Plain H x ∧ x ≠ .ref b
def isNum : V → Bool
  | .int _ => true
  | _ => false
def wholeB (lo hi : Int) : V → Bool
  | .int i => decide (lo ≤ i) && decide (i ≤ hi)
  | _ => false
def countB : V → Bool
  | .int i => decide (0 ≤ i)
  | _ => false
def pairL : List V → Bool
  | [x, y] => countB x && countB y
  | _ => false
def pairB (H : Hp) : V → Bool
  | .ref a => match H a with
    | some (.tup xs) => pairL xs
    | _ => false
  | _ => false
theorem len2 {xs : List V} (h : xs.length = 2) : ∃ x y, xs = [x, y] := by
  match xs, h with
  | [x, y], _ => exact ⟨x, y, rfl⟩
theorem pairL_len {xs : List V} (h : xs.length ≠ 2) : pairL xs = false := by
  match xs, h with
  | [], _ => rfl
  | [_], _ => rfl
  | [_, _], h => exact absurd rfl h
  | _ :: _ :: _ :: _, _ => rfl
section
variable {P : Program} {w : World} {K : PySem.W.Frag} {mg : Str → Option Value} {base : Heap} {A : Adr}
def spNum : Sp := fun vs H Q _ => ∃ v, vs = [v] ∧ Plain H v ∧ Q (.bl (isNum v)) H
theorem ok_is_number (T : Txt K mg A) : FnOk P w K mg base CX0 1 A.a_is_number A.d_is_number ["thing"] spNum := by
  refine T.F_is_number.ok sc_is_number (fun vs H Q E h => ?_) (fun cdv Ar outer s H vs Q E hr h => ?_)
  · obtain ⟨v, rfl, _⟩ := h
    rfl
  · obtain ⟨v, rfl, p, k⟩ := h
    refine ⟨_, (pss_one (ps_ret (pe_and (pe_callB call_isinst (by rfl) T.z_isinstance Boot.«isinstance» (pa_cons (pv 0) (pa_cons (pe_bltn (v := .ty "int") rfl T.z_int Boot.«int» rfl) pa_nil))) (pe_one (pe_not (pe_callB call_isinst (by rfl) T.z_isinstance Boot.«isinstance» (pa_cons (pv 0) (pa_cons (pe_bltn (v := .ty "bool") rfl T.z_bool Boot.«bool» rfl) pa_nil)))))))), ?_⟩
    cases p with
    | non => exact ⟨_, rfl, _, _, _, _, rfl, .non, rfl, _, rfl, iteF k⟩
    | bl b => exact ⟨_, rfl, _, _, _, _, rfl, .bl b, rfl, _, rfl, iteT ⟨_, rfl, _, _, _, _, rfl, .bl b, rfl, _, rfl, k⟩⟩
    | int i => exact ⟨_, rfl, _, _, _, _, rfl, .int i, rfl, _, rfl, iteT ⟨_, rfl, _, _, _, _, rfl, .int i, rfl, _, rfl, k⟩⟩
    | str x h => exact ⟨_, rfl, _, _, _, _, rfl, .str x, rfl, _, rfl, iteF k⟩
    | lst e => exact ⟨_, rfl, _, _, _, _, rfl, .lst e, rfl, _, rfl, iteF k⟩
    | tup e => exact ⟨_, rfl, _, _, _, _, rfl, .tup e, rfl, _, rfl, iteF k⟩
    | dK e => exact ⟨_, rfl, _, _, _, _, rfl, .dK e, rfl, _, rfl, iteF k⟩
def spCount : Sp := fun vs H Q _ => ∃ v, vs = [v] ∧ Plain H v ∧ Q (.bl (countB v)) H
theorem ok_is_count (T : Txt K mg A) : FnOk P w K mg base CX0 2 A.a_is_count A.d_is_count ["thing"] spCount := by
  have G_is_number : FnOk P w K mg base CX0 1 A.a_is_number A.d_is_number ["thing"] spNum := ok_is_number T
  refine T.F_is_count.ok sc_is_count (fun vs H Q E h => ?_) (fun cdv Ar outer s H vs Q E hr h => ?_)
  · obtain ⟨v, rfl, _⟩ := h
    rfl
  · obtain ⟨v, rfl, p, k⟩ := h
    refine ⟨_, (pss_one (ps_ret (pe_and (pe_call G_is_number hr rfl T.m_is_number T.F_is_number.kp T.b_is_number .nil pass0 (pa_cons (pv 0) pa_nil)) (pe_one (pe_cmpR op_ge (pv 0) pe_int (nomark _)))))), ?_⟩
    refine ⟨_, rfl, v, rfl, p, _, rfl, ?_⟩
    cases p with
    | int i => exact iteT ⟨_, rfl, i, 0, rfl, rfl, k⟩
    | non => exact iteF k
    | bl b => exact iteF k
    | str x h => exact iteF k
    | lst e => exact iteF k
    | tup e => exact iteF k
    | dK e => exact iteF k
def spPair : Sp := fun vs H Q _ => ∃ b v, vs = [v] ∧ Thing b H v ∧ Q (.bl (pairB H v)) H
theorem ok_is_pair (T : Txt K mg A) : FnOk P w K mg base CX0 3 A.a_is_pair A.d_is_pair ["thing"] spPair := by
  have G_is_count : FnOk P w K mg base CX0 2 A.a_is_count A.d_is_count ["thing"] spCount := ok_is_count T
  refine T.F_is_pair.ok sc_is_pair (fun vs H Q E h => ?_) (fun cdv Ar outer s H vs Q E hr h => ?_)
  · obtain ⟨b, v, rfl, _⟩ := h
    rfl
  · obtain ⟨b, v, rfl, th, k⟩ := h
    refine ⟨_, (pss_cons (ps_if (pt_not (pt_val (pe_callB call_isinst (by rfl) T.z_isinstance Boot.«isinstance» (pa_cons (pv 0) (pa_cons (pe_bltn (v := .ty "tuple") rfl T.z_tuple Boot.«tuple» rfl) pa_nil))))) (pss_one (ps_ret pe_bl)) pss_nil) (pss_one (ps_ret (pe_and (pe_cmpR op_eq (pe_callB call_len_seq (by rfl) T.z_len Boot.«len» (pa_cons (pv 0) pa_nil)) pe_int (nomark _)) (pe_and (pe_call G_is_count hr rfl T.m_is_count T.F_is_count.kp T.b_is_count .nil pass0 (pa_cons (pe_ix ix_tup (pv 0) pe_int (fun _ _ => rfl)) pa_nil)) (pe_one (pe_call G_is_count hr rfl T.m_is_count T.F_is_count.kp T.b_is_count .nil pass0 (pa_cons (pe_ix ix_tup (pv 0) pe_int (fun _ _ => rfl)) pa_nil)))))))), ?_⟩
    obtain ⟨p, ne, it⟩ := th
    cases p with
    | @tup a xs e =>
      have k : Q (.bl (match H a with | some (.tup xs) => pairL xs | _ => false)) H := k
      rw [e] at k
      have k : Q (.bl (pairL xs)) H := k
      obtain ⟨hl, hp⟩ := it a xs rfl e
      refine ⟨_, rfl, _, _, _, _, rfl, .tup e, rfl, _, rfl, ?_⟩
      refine ⟨_, rfl, a, xs, rfl, .inr (SqT.of e), rfl, _, rfl, ?_⟩
      by_cases h2 : xs.length = 2
      · obtain ⟨x, y, rfl⟩ := len2 h2
        refine iteT ⟨_, rfl, a, _, _, x, rfl, rfl, SqT.of e, rfl, x, rfl, (hp x (by simp)).1, _, rfl, ?_⟩
        cases ex : countB x with
        | true =>
          refine iteT ⟨_, rfl, a, _, _, y, rfl, rfl, SqT.of e, rfl, y, rfl, (hp y (by simp)).1, ?_⟩
          have k : Q (.bl (countB x && countB y)) H := k
          rw [ex] at k
          exact k
        | false =>
          have k : Q (.bl (countB x && countB y)) H := k
          rw [ex] at k
          exact iteF k
      · rw [pairL_len h2] at k
        have hd : decide (V.int (xs.length : Int) = V.int 2) = false := decide_eq_false fun z => h2 (by injection z with z; omega)
        rw [hd]
        exact iteF k
    | @lst a xs e =>
      have k : Q (.bl (match H a with | some (.tup xs) => pairL xs | _ => false)) H := k
      rw [e] at k
      exact ⟨_, rfl, _, _, _, _, rfl, .lst e, rfl, _, rfl, k⟩
    | @dK a kvs e =>
      have k : Q (.bl (match H a with | some (.tup xs) => pairL xs | _ => false)) H := k
      rw [e] at k
      exact ⟨_, rfl, _, _, _, _, rfl, .dK e, rfl, _, rfl, k⟩
    | non => exact ⟨_, rfl, _, _, _, _, rfl, .non, rfl, _, rfl, k⟩
    | bl b => exact ⟨_, rfl, _, _, _, _, rfl, .bl b, rfl, _, rfl, k⟩
    | int i => exact ⟨_, rfl, _, _, _, _, rfl, .int i, rfl, _, rfl, k⟩
    | str x h => exact ⟨_, rfl, _, _, _, _, rfl, .str x, rfl, _, rfl, k⟩
/-! ### the law's own readers -/
def spRI (K : PySem.W.Frag) : Sp := fun vs H Q _ => ∃ a C dd n x, vs = [.ref a, x] ∧ H a = some (.ext (excP a C dd n)) ∧ ExcC K C ∧ Q .non H
theorem ok_RoomError___init__ (T : Txt K mg A) : FnOk P w K mg base CX0 1 A.a_RoomError___init__ A.d_RoomError___init__ ["self", "text"] (spRI K) := by
  refine T.F_RoomError___init__.ok sc_RoomError___init__ (fun vs H Q E h => ?_) (fun cdv Ar outer s H vs Q E hr h => ?_)
  · obtain ⟨a, C, dd, n, x, rfl, _⟩ := h
    rfl
  · obtain ⟨a, C, dd, n, x, rfl, ea, hc, k⟩ := h
    refine ⟨_, (pss_one (ps_expr (pe_vinit rfl T.z_ValueError (pa_cons (pv 0) (pa_cons (pv 1) pa_nil))))), ?_⟩
    exact ⟨_, rfl, _, rfl, a, C, dd, n, x, rfl, ea, hc, k⟩
def spNV (K : PySem.W.Frag) (C : Addr) : Sp := fun vs H Q _ => ∃ a x, vs = [.ref a, x] ∧ H a = some (.ext (excP a C none true)) ∧ ∀ dx, H dx = none → dx ≠ a → Q .non (upd (upd H a (.ext (excP a C (some dx) true))) dx (.xd [("found", x)]))
theorem ok_NoValue___init__ (T : Txt K mg A) : FnOk P w K mg base CX0 2 A.a_NoValue___init__ A.d_NoValue___init__ ["self", "found"] (spNV K A.a_NoValue) := by
  have G_RoomError___init__ : FnOk P w K mg base CX0 1 A.a_RoomError___init__ A.d_RoomError___init__ ["self", "text"] (spRI K) := ok_RoomError___init__ T
  refine T.F_NoValue___init__.ok sc_NoValue___init__ (fun vs H Q E h => ?_) (fun cdv Ar outer s H vs Q E hr h => ?_)
  · obtain ⟨a, x, rfl, _⟩ := h
    rfl
  · obtain ⟨a, x, rfl, ea, k⟩ := h
    refine ⟨_, (pss_cons (ps_expr (pe_ccall T.c_RoomError___init__ rfl T.m_RoomError G_RoomError___init__ hr T.b_RoomError___init__ .nil pass0 (pa_cons (pv 0) (pa_cons pe_str pa_nil)))) (pss_one (ps_fldX (pv 0) (pv 1) rfl))), ?_⟩
    refine ⟨_, rfl, a, A.a_NoValue, none, true, _, rfl, ea, T.X_NoValue.toExcC, ?_⟩
    exact ⟨_, rfl, _, rfl, a, A.a_NoValue, true, rfl, T.e_NoValue, T.n_NoValue_found, .inl ⟨ea, fun dx hn ne => k dx hn ne⟩⟩
end
end My

namespace My
open PySem L2 PyProof.Rows
section
variable {P : Program} {w : World} {K : PySem.W.Frag} {mg : Str → Option Value} {base : Heap} {A : Adr}
/-- how a refusal of x lies: the exception, its dict, all else as it was -/
def Refused (C : Addr) (x : V) (H : Hp) (E : XK) : Prop := ∀ a dx H', H a = none → H dx = none → dx ≠ a → Same H H' → H' a = some (.ext (excP a C (some dx) false)) → H' dx = some (.xd [("found", x)]) → E (.ref C) (some dx) H'
theorem refuse {C : Addr} {x : V} {H : Hp} {E : XK} (r : Refused C x H E) {a dx : Addr} (ha : H a = none) (hn : upd H a (.ext (excP a C none true)) dx = none) (ne : dx ≠ a) :
    E (.ref C) (some dx) (upd (upd (upd (upd H a (.ext (excP a C none true))) a (.ext (excP a C (some dx) true))) dx (.xd [("found", x)])) a (.ext (excP a C (some dx) false))) := by
  have hdx : H dx = none := by rw [upd_ne ne] at hn; exact hn
  refine r a dx _ ha hdx ne (fun c o e => ?_) upd_same ?_
  · have h1 := ne_of_none e ha
    have h2 := ne_of_none e hdx
    rw [upd_ne h1, upd_ne h2, upd_ne h1, upd_ne h1]
    exact e
  · rw [upd_ne ne, upd_same]
def iText (i : Int) : Str := Str.ofString (toString i)
def pText : List V → Option Str
  | [.int i, .int j] => if 0 ≤ i ∧ 0 ≤ j then some (iText i ++ Str.ofString ":" ++ iText j) else none
  | _ => none
def vText : V → Hp → Option Str
  | .non, _ => some (Str.ofString "none")
  | .int i, _ => some (iText i)
  | .ref a, H => match H a with
    | some (.tup xs) => pText xs
    | _ => none
  | _, _ => none
theorem pText_pair {xs : List V} (h : pairL xs = true) : ∃ i j, xs = [.int i, .int j] ∧ pText xs = some (iText i ++ Str.ofString ":" ++ iText j) := by
  have h2 : xs.length = 2 := Classical.byContradiction fun z => by rw [pairL_len z] at h; cases h
  obtain ⟨x, y, rfl⟩ := len2 h2
  have h : (countB x && countB y) = true := h
  rw [Bool.and_eq_true] at h
  obtain ⟨hx, hy⟩ := h
  cases x with
  | int i =>
    cases y with
    | int j => exact ⟨i, j, rfl, if_pos ⟨of_decide_eq_true hx, of_decide_eq_true hy⟩⟩
    | _ => cases hy
  | _ => cases hx
theorem pText_none {xs : List V} (h : pairL xs = false) : pText xs = none := by
  unfold pText
  split
  · rename_i i j
    have h : (decide (0 ≤ i) && decide (0 ≤ j)) = false := h
    refine if_neg fun z => ?_
    rw [decide_eq_true z.1, decide_eq_true z.2] at h
    cases h
  · rfl
def small (i : Int) : Prop := i.natAbs.log2 < 1920 ∧ (iText i).length ≤ 1000
def smallV (H : Hp) : V → Prop
  | .int i => small i
  | .ref a => ∀ xs, H a = some (.tup xs) → ∀ i, V.int i ∈ xs → small i
  | _ => True
def spVT (C : Addr) : Sp := fun vs H Q E => ∃ b v, vs = [v] ∧ Thing b H v ∧ smallV H v ∧ (∀ x, vText v H = some x → Q (.str x) H) ∧ (vText v H = none → Refused C v H E)
theorem ok_value_text (T : Txt K mg A) : FnOk P w K mg base (CX1 P w) 4 A.a_value_text A.d_value_text ["value"] (spVT A.a_NoValue) := by
  have G_is_number : FnOk P w K mg base CX0 3 A.a_is_number A.d_is_number ["thing"] spNum := (ok_is_number T).mono (by decide)
  have G_is_pair : FnOk P w K mg base CX0 3 A.a_is_pair A.d_is_pair ["thing"] spPair := ok_is_pair T
  have G_NoValue___init__ : FnOk P w K mg base CX0 2 A.a_NoValue___init__ A.d_NoValue___init__ ["self", "found"] (spNV K A.a_NoValue) := ok_NoValue___init__ T
  refine T.F_value_text.okX sc_value_text (fun vs H Q E h => ?_) (fun cdv Ar outer s H vs Q E hr h => ?_)
  · obtain ⟨b, v, rfl, _⟩ := h
    rfl
  · obtain ⟨b, v, rfl, th, sm, k1, k2⟩ := h
    refine ⟨_, (pss_cons (ps_if (pt_cmpR op_isN (pv 0) pe_non (nomark _)) (pss_one (ps_ret pe_str)) pss_nil) (pss_cons (ps_if (pt_val (pe_call G_is_number hr rfl T.m_is_number T.F_is_number.kp T.b_is_number .nil pass0 (pa_cons (pv 0) pa_nil))) (pss_one (ps_ret (pe_callTy call_str_int (by rfl) T.z_str Boot.«str» (pa_cons (pv 0) pa_nil)))) pss_nil) (pss_cons (ps_if (pt_val (pe_call G_is_pair hr rfl T.m_is_pair T.F_is_pair.kp T.b_is_pair .nil pass0 (pa_cons (pv 0) pa_nil))) (pss_one (ps_ret (pe_op op_add_str (pe_op op_add_str (pe_callTy call_str_int (by rfl) T.z_str Boot.«str» (pa_cons (pe_ix ix_tup (pv 0) pe_int (fun _ _ => rfl)) pa_nil)) pe_str) (pe_callTy call_str_int (by rfl) T.z_str Boot.«str» (pa_cons (pe_ix ix_tup (pv 0) pe_int (fun _ _ => rfl)) pa_nil))))) pss_nil) (pss_one (ps_raise rfl wants_def (pe_makeX T.X_NoValue G_NoValue___init__ hr rfl T.m_NoValue T.b_NoValue___init__ pass0 (pa_cons (pv 0) pa_nil) (fun _ _ _ _ h => by rw [G_NoValue___init__.len _ _ _ _ h]; decide))))))), ?_⟩
    refine ⟨_, rfl, rfl, _, rfl, ?_⟩
    have bad : vText v H = none → ∀ k : Ends, sRaise (cxOf (CX1 P w) P w K mg base ["value"] "value_text" (defScope s_value_text) A.a_value_text cdv Ar outer s H E).K E (tMakeX A.a_NoValue (spNV K A.a_NoValue) E0 (tCons (tVar 0) tNil)) k (L2.start ["value"] [v]) H := fun hn k => ⟨_, rfl, fun x hx => ⟨x, _, rfl, upd_same, fun dx hdx ne => ⟨rfl, x, _, some dx, rfl, by rw [upd_ne (fun z => ne z.symm), upd_same], T.X_NoValue.toExcC, refuse (k2 hn) hx hdx ne⟩⟩⟩
    have pl := th.pl
    cases pl with
    | non => exact iteT (k1 _ rfl)
    | int i => exact iteF ⟨_, rfl, _, rfl, .int i, _, rfl, iteT ⟨_, rfl, i, rfl, sm.1, k1 _ rfl⟩⟩
    | bl b => exact iteF ⟨_, rfl, _, rfl, .bl b, _, rfl, iteF ⟨_, rfl, _, _, rfl, th, _, rfl, iteF (bad rfl { nx := fun _ H' => Q .non H', rt := Q })⟩⟩
    | str x h => exact iteF ⟨_, rfl, _, rfl, .str x h, _, rfl, iteF ⟨_, rfl, _, _, rfl, th, _, rfl, iteF (bad rfl { nx := fun _ H' => Q .non H', rt := Q })⟩⟩
    | @lst a xs e =>
      have hv : vText (.ref a) H = none := by
        show (match H a with | some (.tup xs) => pText xs | _ => none) = none
        rw [e]
      refine iteF ⟨_, rfl, _, rfl, .lst e, _, rfl, iteF ⟨_, rfl, _, _, rfl, th, _, rfl, ?_⟩⟩
      rw [show pairB H (.ref a) = false by
        show (match H a with | some (.tup xs) => pairL xs | _ => false) = false
        rw [e]]
      exact iteF (bad hv { nx := fun _ H' => Q .non H', rt := Q })
    | @dK a kvs e =>
      have hv : vText (.ref a) H = none := by
        show (match H a with | some (.tup xs) => pText xs | _ => none) = none
        rw [e]
      refine iteF ⟨_, rfl, _, rfl, .dK e, _, rfl, iteF ⟨_, rfl, _, _, rfl, th, _, rfl, ?_⟩⟩
      rw [show pairB H (.ref a) = false by
        show (match H a with | some (.tup xs) => pairL xs | _ => false) = false
        rw [e]]
      exact iteF (bad hv { nx := fun _ H' => Q .non H', rt := Q })
    | @tup a xs e =>
      have hv : vText (.ref a) H = pText xs := by
        show (match H a with | some (.tup xs) => pText xs | _ => none) = _
        rw [e]
      refine iteF ⟨_, rfl, _, rfl, .tup e, _, rfl, iteF ⟨_, rfl, _, _, rfl, th, _, rfl, ?_⟩⟩
      rw [show pairB H (.ref a) = pairL xs by
        show (match H a with | some (.tup xs) => pairL xs | _ => false) = _
        rw [e]]
      cases ep : pairL xs with
      | false => exact iteF (bad (hv.trans (pText_none ep)) { nx := fun _ H' => Q .non H', rt := Q })
      | true =>
        obtain ⟨i, j, rfl, et⟩ := pText_pair ep
        have sm : ∀ xs, H a = some (.tup xs) → ∀ i, V.int i ∈ xs → small i := sm
        have si := sm _ e i (by simp)
        have sj := sm _ e j (by simp)
        have hL : sizeLine = 16777216 := rfl
        have hli : (Str.ofString (toString i)).length ≤ 1000 := si.2
        have hlj : (Str.ofString (toString j)).length ≤ 1000 := sj.2
        have h1 : (Str.ofString ":").length = 1 := rfl
        refine iteT ⟨_, rfl, a, _, 0, .int i, rfl, rfl, SqT.of e, rfl, i, rfl, si.1, _, _, rfl, rfl, ?_, _, rfl, a, _, 1, .int j, rfl, rfl, SqT.of e, rfl, j, rfl, sj.1, _, _, rfl, rfl, ?_, k1 _ (hv.trans et)⟩
        · omega
        · rw [Str.length_append]
          omega
end
end My

namespace My
open PySem L2 PyProof.Rows
theorem fig_in (c : Nat) : (!(Builtin.Str.occurrences ("0123456789" : Str) ⟨#[c]⟩ 0 ("0123456789" : Str).length 1).isEmpty) = figB c := by
  rw [PySem.StrLaws.found_one]
  have e : ("0123456789" : Str).cps.toList = (List.range 10).map (· + 48) := by decide +kernel
  rw [e, Bool.eq_iff_iff, decide_eq_true_iff, List.mem_map]
  unfold figB
  rw [Bool.and_eq_true, decide_eq_true_iff, decide_eq_true_iff]
  constructor
  · rintro ⟨i, hi, rfl⟩
    have := List.mem_range.mp hi
    omega
  · rintro ⟨h1, h2⟩
    exact ⟨c - 48, List.mem_range.mpr (by omega), by omega⟩
/-- a count plainly written -/
def countT (x : Str) : Bool := decide (1 ≤ x.length) && decide (x.length ≤ 40) && !(Txt.startswith x "0" && decide (x ≠ "0")) && x.cps.toList.all figB
def wholeT (x : Str) : Bool := if Txt.startswith x "-" = true then decide (x ≠ "-0") && countT (Txt.slice x (some 1) none) else countT x
theorem eq_cps (x : Str) (y : Str) (l : List Nat) (h : y.cps.toList = l) : decide (x ≠ y) = decide (x.cps.toList ≠ l) := by
  rw [Bool.eq_iff_iff, decide_eq_true_iff, decide_eq_true_iff]
  subst h
  exact ⟨fun h z => h (str_ext z), fun h z => h (by rw [z])⟩
theorem countT_eq (x : Str) : countT x = countL x.cps.toList := by
  unfold countT countL
  rw [show Txt.startswith x (Str.ofString "0") = _ from starts_one x 48, eq_cps x (Str.ofString "0") [48] (by decide +kernel)]
  rfl
theorem wholeT_eq (x : Str) : wholeT x = wholeL x.cps.toList := by
  unfold wholeT wholeL
  rw [show Txt.startswith x (Str.ofString "-") = _ from starts_one x 45, eq_cps x (Str.ofString "-0") [45, 48] (by decide +kernel), countT_eq, countT_eq, slice_tail]
  by_cases h : x.cps.toList.head? = some 45
  · rw [if_pos (decide_eq_true h), if_pos h]
  · rw [if_neg (fun z => h (of_decide_eq_true z)), if_neg h]
section
variable {P : Program} {w : World} {K : PySem.W.Frag} {mg : Str → Option Value} {base : Heap} {A : Adr}
def spCT : Sp := fun vs H Q _ => ∃ x : Str, vs = [.str x] ∧ x.length ≤ 100000 ∧ ∀ H', Same H H' → Q (.bl (countT x)) H'
theorem ok_is_count_text (T : Txt K mg A) : FnOk P w K mg base CX0 1 A.a_is_count_text A.d_is_count_text ["text"] spCT := by
  refine T.F_is_count_text.ok sc_is_count_text (fun vs H Q E h => ?_) (fun cdv Ar outer s H vs Q E hr h => ?_)
  · obtain ⟨v, rfl, _⟩ := h
    rfl
  · obtain ⟨x, rfl, hx, k⟩ := h
    have hL : sizeLine = 16777216 := rfl
    obtain ⟨u1, c_MOST_FIGURES⟩ := T.u_MOST_FIGURES
    obtain ⟨u2, c_FIGURES⟩ := T.u_FIGURES
    refine ⟨_, (pss_cons (ps_if (pt_not (pt_chain op_le op_le pe_int (pe_callB call_len_str (by rfl) T.z_len Boot.«len» (pa_cons (pv 0) pa_nil)) (pe_glob rfl c_MOST_FIGURES.2 c_MOST_FIGURES.1))) (pss_one (ps_ret pe_bl)) pss_nil) (pss_cons (ps_if (PW.pt (pw_and (pt_val (pe_bm PySem.F.plainAttrs_str PySem.F.slot_str_startswith PySem.F.type_str_startswith mt_startswith (pv 0) (pa_cons pe_str pa_nil))) (pw_and1 (pt_cmpR op_ne (pv 0) pe_str (nomark _))))) (pss_one (ps_ret pe_bl)) pss_nil) (pss_one (ps_ret (pe_callB (call_all rfl) (by rfl) T.z_all Boot.«all» (pa_cons (pe_comp (N := ["sign"]) (k := 1) (js := []) rfl (cscope_of (by kernel_rfl)) (pi_str (pv 0) rfl) (fun _ _ _ _ _ => ⟨(pg_name (i := 0) (show (["sign"] : List Str).Nodup by decide +kernel) rfl (Or.inl rfl) (Or.inr rfl)), pif0, (pe_cmpR op_in_str (pv 0) (pe_glob rfl c_FIGURES.2 c_FIGURES.1) (by with_unfolding_all rfl))⟩)) pa_nil)))))), ?_⟩
    refine ⟨_, rfl, x, rfl, by omega, 1, x.length, rfl, rfl, _, rfl, ?_⟩
    unfold countT at k
    by_cases h1 : (1 : Int) ≤ (x.length : Int)
    · rw [decide_eq_true h1]
      rw [decide_eq_true (show 1 ≤ x.length by omega)] at k
      refine iteT ⟨x.length, 40, rfl, rfl, _, rfl, ?_⟩
      by_cases h2 : (x.length : Int) ≤ 40
      · rw [decide_eq_true h2]
        rw [decide_eq_true (show x.length ≤ 40 by omega)] at k
        refine iteF ?_
        refine ⟨_, rfl, rfl, x, _, rfl, rfl, _, rfl, ?_⟩
        have go : (∀ H', Same H H' → Q (.bl (x.cps.toList.all figB)) H') → tRet (tCB (fun xs H Q => ∃ a bs, xs = [V.ref a] ∧ H a = some (HO.lst (List.map V.bl bs)) ∧ Q (V.bl (bs.all id)) H) (tCons (tComp (iStr (tVar 0)) 1 [] (gName 0) tYes (tOp (fun x y H Q => ∃ i j, x = .str i ∧ y = .str j ∧ Q (.bl (!(Builtin.Str.occurrences j i 0 j.length 1).isEmpty)) H) (tVar 0) (tC (V.str (Str.ofString "0123456789"))))) tNil)) { nx := fun x H' => Q V.non H', rt := Q } (L2.start [Str.ofString "text"] [V.str x]) H := by
          intro k
          refine ⟨_, rfl, x, rfl, ?_⟩
          refine comp_pure (fun _ => true) (fun v => match v with | .str z => .bl (figB (z.cps.getD 0 0)) | _ => .non) (feeds_str x H) ?_ ?_ fun p hp => ?_
          · simp only [List.length_map, Array.length_toList]
            have : x.cps.size = x.length := rfl
            omega
          · intro i y H' C1 C0 hy sm c1 c0
            rw [List.getElem?_map] at hy
            cases ec : x.cps.toList[i]? with
            | none => rw [ec] at hy; cases hy
            | some c =>
              rw [ec] at hy
              cases hy
              refine ⟨(SubS.refl _).own (by decide), ⟨_, rfl, _, _, rfl, rfl, ?_⟩⟩
              rw [fig_in]
              exact c1 rfl
          · refine ⟨p, x.cps.toList.map figB, rfl, ?_, ?_⟩
            · rw [upd_same, List.filter_eq_self.mpr (fun _ _ => rfl), List.map_map, List.map_map]
              rfl
            · rw [List.all_map]
              exact k _ (Same.upd hp)
        cases es : Txt.startswith x "0" with
        | true =>
          rw [es] at k
          refine iteT ⟨_, rfl, rfl, _, rfl, ?_⟩
          by_cases h0 : x = "0"
          · rw [decide_eq_true (show V.str x = V.str (Str.ofString "0") from congrArg V.str h0)]
            rw [decide_eq_false (fun z => z h0)] at k
            exact iteF (go k)
          · rw [decide_eq_false (show ¬ V.str x = V.str (Str.ofString "0") from fun z => h0 (by injection z))]
            rw [decide_eq_true h0] at k
            exact iteT (k H (Same.refl H))
        | false =>
          rw [es] at k
          exact iteF (iteF (go k))
      · rw [decide_eq_false h2]
        rw [decide_eq_false (show ¬ x.length ≤ 40 by omega)] at k
        exact iteT (k H (Same.refl H))
    · rw [decide_eq_false h1]
      rw [decide_eq_false (show ¬ 1 ≤ x.length by omega)] at k
      exact iteF ⟨_, rfl, iteT (k H (Same.refl H))⟩
def spWT : Sp := fun vs H Q _ => ∃ x : Str, vs = [.str x] ∧ x.length ≤ 100000 ∧ ∀ H', Same H H' → Q (.bl (wholeT x)) H'
theorem ok_is_whole_text (T : Txt K mg A) : FnOk P w K mg base CX0 2 A.a_is_whole_text A.d_is_whole_text ["text"] spWT := by
  have G_is_count_text : FnOk P w K mg base CX0 1 A.a_is_count_text A.d_is_count_text ["text"] spCT := ok_is_count_text T
  refine T.F_is_whole_text.ok sc_is_whole_text (fun vs H Q E h => ?_) (fun cdv Ar outer s H vs Q E hr h => ?_)
  · obtain ⟨v, rfl, _⟩ := h
    rfl
  · obtain ⟨x, rfl, hx, k⟩ := h
    have hL : sizeLine = 16777216 := rfl
    refine ⟨_, (pss_cons (ps_if (pt_val (pe_bm PySem.F.plainAttrs_str PySem.F.slot_str_startswith PySem.F.type_str_startswith mt_startswith (pv 0) (pa_cons pe_str pa_nil))) (pss_one (ps_ret (pe_and (pe_cmpR op_ne (pv 0) pe_str (nomark _)) (pe_one (pe_call G_is_count_text hr rfl T.m_is_count_text T.F_is_count_text.kp T.b_is_count_text .nil pass0 (pa_cons (pe_slice sl_str (pv 0) (po_some pe_int) po_none) pa_nil)))))) pss_nil) (pss_one (ps_ret (pe_call G_is_count_text hr rfl T.m_is_count_text T.F_is_count_text.kp T.b_is_count_text .nil pass0 (pa_cons (pv 0) pa_nil))))), ?_⟩
    refine ⟨_, rfl, rfl, x, _, rfl, rfl, _, rfl, ?_⟩
    unfold wholeT at k
    cases es : Txt.startswith x "-" with
    | false =>
      rw [es] at k
      exact iteF ⟨_, rfl, x, rfl, hx, k⟩
    | true =>
      rw [es] at k
      refine iteT ⟨_, rfl, rfl, _, rfl, ?_⟩
      by_cases h0 : x = "-0"
      · rw [decide_eq_true (show V.str x = V.str (Str.ofString "-0") from congrArg V.str h0)]
        have k := k H (Same.refl H)
        rw [if_pos rfl, decide_eq_false (fun z => z h0)] at k
        exact iteF k
      · rw [decide_eq_false (show ¬ V.str x = V.str (Str.ofString "-0") from fun z => h0 (by injection z))]
        rw [if_pos rfl, decide_eq_true h0] at k
        refine iteT ⟨_, rfl, 1, rfl, x, rfl, by omega, _, rfl, Nat.le_trans (Txt.slice_le x _ _) hx, k⟩
end
end My

namespace My
open PySem L2 PyProof.Rows
inductive Vl
  | non
  | int (i : Int)
  | pair (i j : Int)
def pairT : List Str → Option Vl
  | [p, q] => if countT p = true ∧ countT q = true then some (.pair (wholeVal p.cps.toList) (wholeVal q.cps.toList)) else none
  | _ => none
def valT (x : Str) : Option Vl :=
  if x = "none" then some .non else
  if wholeT x = true then some (.int (wholeVal x.cps.toList)) else
  pairT (Txt.split x ":")
def GivesV (C : Addr) (v : V) (H : Hp) (Q : VK) (E : XK) : Option Vl → Prop
  | some .non => ∀ H', Same H H' → Q .non H'
  | some (.int i) => ∀ H', Same H H' → Q (.int i) H'
  | some (.pair i j) => ∀ a H', H a = none → Same H H' → H' a = some (.tup [.int i, .int j]) → Q (.ref a) H'
  | none => Refused C v H E
theorem none_back {H H' : Hp} (s : Same H H') {a : Addr} (h : H' a = none) : H a = none := by
  cases e : H a with
  | none => rfl
  | some o => rw [s _ _ e] at h; cases h
theorem Refused.on {C : Addr} {v : V} {H H' : Hp} {E : XK} (r : Refused C v H E) (s : Same H H') : Refused C v H' E :=
  fun a dx H2 h1 h2 h3 h4 h5 h6 => r a dx H2 (none_back s h1) (none_back s h2) h3 (s.trans h4) h5 h6
theorem count_whole {x : Str} (h : countT x = true) : PySem.intText? x = some (wholeVal x.cps.toList) := by
  rw [countT_eq] at h
  refine whole_reads ?_
  unfold wholeL
  rw [if_neg, h]
  intro e
  obtain ⟨h1, h2, h3, h4⟩ := countL_is h
  rw [head_of e] at h4
  have := h4.head
  omega
theorem part_len {x p : Str} (h : p ∈ Txt.split x ":") : p.length ≤ x.length := by
  have := PySem.join_mem_le ":" _ _ h
  rw [PySem.StrLaws.join_split] at this
  exact this
theorem raise_nv {K : PySem.W.Frag} {C : Addr} (hc : ExcC K C) {k : Ends} {σ : L2.St} {v : V} {H : Hp} {E : XK} (h0 : σ[0]? = some (some v)) (r : Refused C v H E) : sRaise K E (tMakeX C (spNV K C) E0 (tCons (tVar 0) tNil)) k σ H :=
  ⟨v, h0, fun x hx => ⟨x, _, rfl, upd_same, fun dx hdx ne => ⟨rfl, x, _, some dx, rfl, by rw [upd_ne (fun z => ne z.symm), upd_same], hc, refuse r hx hdx ne⟩⟩⟩
theorem whole_len {x : Str} (h : wholeT x = true) : x.length ≤ 41 := by
  rw [wholeT_eq] at h
  have hl : x.cps.toList.length = x.length := rfl
  rcases wholeL_is h with ⟨e, h⟩ | ⟨e, hn, h⟩
  · have := (countL_is h).2.1
    omega
  · have := (countL_is h).2.1
    rw [List.length_drop] at this
    omega
theorem count_len {x : Str} (h : countT x = true) : x.length ≤ 40 := by
  rw [countT_eq] at h
  exact (countL_is h).2.1
theorem not_two {l : List Str} (h : l.length ≠ 2) : pairT l = none := by
  match l, h with
  | [], _ => rfl
  | [_], _ => rfl
  | [_, _], h => exact absurd rfl h
  | _ :: _ :: _ :: _, _ => rfl
section
variable {P : Program} {w : World} {K : PySem.W.Frag} {mg : Str → Option Value} {base : Heap} {A : Adr}
def spVO (C : Addr) : Sp := fun vs H Q E => ∃ v, vs = [v] ∧ Plain H v ∧ (∀ x, v = .str x → GivesV C v H Q E (valT x)) ∧ ((∀ x, v ≠ .str x) → Refused C v H E)
theorem ok_value_of (T : Txt K mg A) : FnOk P w K mg base (CX1 P w) 4 A.a_value_of A.d_value_of ["text"] (spVO A.a_NoValue) := by
  have G_is_count_text : FnOk P w K mg base CX0 3 A.a_is_count_text A.d_is_count_text ["text"] spCT := (ok_is_count_text T).mono (by decide)
  have G_is_whole_text : FnOk P w K mg base CX0 3 A.a_is_whole_text A.d_is_whole_text ["text"] spWT := (ok_is_whole_text T).mono (by decide)
  have G_NoValue___init__ : FnOk P w K mg base CX0 2 A.a_NoValue___init__ A.d_NoValue___init__ ["self", "found"] (spNV K A.a_NoValue) := ok_NoValue___init__ T
  refine T.F_value_of.okX sc_value_of (fun vs H Q E h => ?_) (fun cdv Ar outer s H vs Q E hr h => ?_)
  · obtain ⟨v, rfl, _⟩ := h
    rfl
  · obtain ⟨v, rfl, p, k1, k2⟩ := h
    refine ⟨_, (pss_cons (ps_if (pt_not (pt_val (pe_callB call_isinst (by rfl) T.z_isinstance Boot.«isinstance» (pa_cons (pv 0) (pa_cons (pe_bltn (v := .ty "str") rfl T.z_str Boot.«str» rfl) pa_nil))))) (pss_one (ps_raise rfl wants_def (pe_makeX T.X_NoValue G_NoValue___init__ hr rfl T.m_NoValue T.b_NoValue___init__ pass0 (pa_cons (pv 0) pa_nil) (fun _ _ _ _ h => by rw [G_NoValue___init__.len _ _ _ _ h]; decide)))) pss_nil) (pss_cons (ps_if (pt_cmpR op_eq (pv 0) pe_str (nomark _)) (pss_one (ps_ret pe_non)) pss_nil) (pss_cons (ps_if (pt_val (pe_call G_is_whole_text hr rfl T.m_is_whole_text T.F_is_whole_text.kp T.b_is_whole_text .nil pass0 (pa_cons (pv 0) pa_nil))) (pss_one (ps_ret (pe_callTy call_int_text (by rfl) T.z_int Boot.«int» (pa_cons (pv 0) pa_nil)))) pss_nil) (pss_cons (ps_set (i := 1) sc_value_of.nd rfl (Or.inl rfl) (pe_bm PySem.F.plainAttrs_str PySem.F.slot_str_split PySem.F.type_str_split mt_split (pv 0) (pa_cons pe_str pa_nil))) (pss_cons (ps_if (PW.pt (pw_and (pt_cmpR op_eq (pe_callB call_len_seq (by rfl) T.z_len Boot.«len» (pa_cons (pv 1) pa_nil)) pe_int (nomark _)) (pw_and (pt_val (pe_call G_is_count_text hr rfl T.m_is_count_text T.F_is_count_text.kp T.b_is_count_text .nil pass0 (pa_cons (pe_ix ix_list (pv 1) pe_int (fun _ _ => rfl)) pa_nil))) (pw_and1 (pt_val (pe_call G_is_count_text hr rfl T.m_is_count_text T.F_is_count_text.kp T.b_is_count_text .nil pass0 (pa_cons (pe_ix ix_list (pv 1) pe_int (fun _ _ => rfl)) pa_nil))))))) (pss_one (ps_ret (pe_tup (pa_cons (pe_callTy call_int_text (by rfl) T.z_int Boot.«int» (pa_cons (pe_ix ix_list (pv 1) pe_int (fun _ _ => rfl)) pa_nil)) (pa_cons (pe_callTy call_int_text (by rfl) T.z_int Boot.«int» (pa_cons (pe_ix ix_list (pv 1) pe_int (fun _ _ => rfl)) pa_nil)) pa_nil))))) pss_nil) (pss_one (ps_raise rfl wants_def (pe_makeX T.X_NoValue G_NoValue___init__ hr rfl T.m_NoValue T.b_NoValue___init__ pass0 (pa_cons (pv 0) pa_nil) (fun _ _ _ _ h => by rw [G_NoValue___init__.len _ _ _ _ h]; decide))))))))), ?_⟩
    have hL : sizeLine = 16777216 := rfl
    have hc := T.X_NoValue.toExcC
    cases p with
    | non => exact ⟨_, rfl, _, _, _, _, rfl, .non, rfl, _, rfl, iteT (raise_nv hc (k := { nx := fun _ H' => Q .non H', rt := Q }) rfl (k2 fun x z => by cases z))⟩
    | bl b => exact ⟨_, rfl, _, _, _, _, rfl, .bl b, rfl, _, rfl, iteT (raise_nv hc (k := { nx := fun _ H' => Q .non H', rt := Q }) rfl (k2 fun x z => by cases z))⟩
    | int i => exact ⟨_, rfl, _, _, _, _, rfl, .int i, rfl, _, rfl, iteT (raise_nv hc (k := { nx := fun _ H' => Q .non H', rt := Q }) rfl (k2 fun x z => by cases z))⟩
    | lst e => exact ⟨_, rfl, _, _, _, _, rfl, .lst e, rfl, _, rfl, iteT (raise_nv hc (k := { nx := fun _ H' => Q .non H', rt := Q }) rfl (k2 fun x z => by cases z))⟩
    | tup e => exact ⟨_, rfl, _, _, _, _, rfl, .tup e, rfl, _, rfl, iteT (raise_nv hc (k := { nx := fun _ H' => Q .non H', rt := Q }) rfl (k2 fun x z => by cases z))⟩
    | dK e => exact ⟨_, rfl, _, _, _, _, rfl, .dK e, rfl, _, rfl, iteT (raise_nv hc (k := { nx := fun _ H' => Q .non H', rt := Q }) rfl (k2 fun x z => by cases z))⟩
    | str x hx =>
      have k1 := k1 x rfl
      unfold valT at k1
      refine ⟨_, rfl, _, _, _, _, rfl, .str x, rfl, _, rfl, iteF ?_⟩
      refine ⟨_, rfl, rfl, _, rfl, ?_⟩
      by_cases h0 : x = "none"
      · rw [if_pos h0] at k1
        rw [decide_eq_true (show V.str x = V.str (Str.ofString "none") from congrArg V.str h0)]
        exact iteT (k1 H (Same.refl H))
      · rw [if_neg h0] at k1
        rw [decide_eq_false (show ¬ V.str x = V.str (Str.ofString "none") from fun z => h0 (by injection z))]
        refine iteF ⟨_, rfl, x, rfl, hx, fun H1 s1 => ⟨_, rfl, ?_⟩⟩
        cases hw : wholeT x with
        | true =>
          rw [if_pos hw] at k1
          have := whole_len hw
          have hr := whole_reads (x := x) (by rw [← wholeT_eq]; exact hw)
          exact iteT ⟨_, rfl, x, _, rfl, hr, by omega, k1 H1 s1⟩
        | false =>
          rw [if_neg (by rw [hw]; decide)] at k1
          have hp : (Builtin.Str.partsBetween x (Builtin.Str.occurrences x ":" 0 x.length (x.length + 1)) (":" : Str).length).length ≤ sizeLine := by
            rw [PySem.length_partsBetween]
            have := PySem.StrLaws.occ_length_le x ":" 0 x.length (x.length + 1)
            omega
          refine iteF ⟨_, rfl, rfl, x, _, rfl, rfl, by omega, rfl, hp, fun l hl => ⟨_, rfl, ?_⟩⟩
          have s2 : Same H (upd H1 l (.lst ((Txt.split x ":").map V.str))) := s1.trans (Same.upd hl)
          have hb : upd H1 l (.lst ((Txt.split x ":").map V.str)) l = some (.lst ((Txt.split x ":").map V.str)) := upd_same
          refine ⟨l, _, rfl, .inl (SqL.of hb), rfl, _, rfl, ?_⟩
          by_cases h2 : (Txt.split x ":").length = 2
          · have hm : ∀ z ∈ Txt.split x ":", z.length ≤ x.length := fun z hz => part_len hz
            match es : Txt.split x ":", h2 with
            | [a, b], _ =>
              rw [es] at k1 hb s2 hm
              have k1 : GivesV A.a_NoValue (V.str x) H Q E (if countT a = true ∧ countT b = true then some (.pair (wholeVal a.cps.toList) (wholeVal b.cps.toList)) else none) := k1
              have hla := hm a (by simp)
              have hlb := hm b (by simp)
              refine iteT ⟨_, rfl, l, _, _, .str a, rfl, rfl, SqL.of hb, rfl, a, rfl, by omega, fun H3 s3 => ⟨_, rfl, ?_⟩⟩
              cases ha : countT a with
              | false =>
                rw [if_neg (fun z => by rw [ha] at z; cases z.1)] at k1
                exact iteF (iteF (raise_nv hc (k := { nx := fun _ H' => Q .non H', rt := Q }) rfl (Refused.on k1 (s2.trans s3))))
              | true =>
                refine iteT ⟨_, rfl, l, _, _, .str b, rfl, rfl, SqL.of (s3 _ _ hb), rfl, b, rfl, by omega, fun H4 s4 => ⟨_, rfl, ?_⟩⟩
                cases hb' : countT b with
                | false =>
                  rw [if_neg (fun z => by rw [hb'] at z; cases z.2)] at k1
                  exact iteF (raise_nv hc (k := { nx := fun _ H' => Q .non H', rt := Q }) rfl (Refused.on k1 ((s2.trans s3).trans s4)))
                | true =>
                  rw [if_pos ⟨ha, hb'⟩] at k1
                  have h4 := s4 _ _ (s3 _ _ hb)
                  have := count_len ha
                  have := count_len hb'
                  refine iteT ⟨_, rfl, l, _, _, .str a, rfl, rfl, SqL.of h4, rfl, a, _, rfl, count_whole ha, by omega, _, rfl, l, _, _, .str b, rfl, rfl, SqL.of h4, rfl, b, _, rfl, count_whole hb', by omega, by show 2 ≤ sizeLine; omega, fun q hq => ?_⟩
                  exact k1 q _ (none_back ((s2.trans s3).trans s4) hq) (((s2.trans s3).trans s4).trans (Same.upd hq)) upd_same
          · rw [decide_eq_false (show ¬ V.int ((((Txt.split x ":").map V.str).length : Nat) : Int) = V.int 2 from fun z => h2 (by injection z with z; rw [List.length_map] at z; omega))]
            rw [not_two h2] at k1
            exact iteF (iteF (raise_nv hc (k := { nx := fun _ H' => Q .non H', rt := Q }) rfl (Refused.on k1 s2)))
end
end My

namespace My
open PySem L2 PyProof.Rows
theorem log_small {n : Int} (h0 : 0 < n) (h : n < 1152921504606846976) : n.natAbs.log2 < 9000 := by
  have h1 : n.natAbs < 2 ^ 60 := by
    have : (2 : Nat) ^ 60 = 1152921504606846976 := by decide
    omega
  have := (Nat.log2_lt (by omega)).mpr h1
  omega
section
variable {P : Program} {w : World} {K : PySem.W.Frag} {mg : Str → Option Value} {base : Heap} {A : Adr}
/-! ### the draws -/
def spCell (K : PySem.W.Frag) : Sp := fun vs H Q _ => ∃ (a : Addr) (ns : List Int) (k : Int), vs = [.ref a, .int k] ∧ SqL K H a (ns.map V.int) ∧ 0 ≤ k ∧ k < 1000 ∧ ∀ c, Q (.int c) H
theorem ok__law_cell (T : Txt K mg A) : FnOk P w K mg base CX0 1 A.a__law_cell A.d__law_cell ["_law_script", "_law_k"] (spCell K) := by
  refine T.F__law_cell.ok sc__law_cell (fun vs H Q E h => ?_) (fun cdv Ar outer s H vs Q E hr h => ?_)
  · obtain ⟨a, ns, k, rfl, _⟩ := h
    rfl
  · obtain ⟨a, ns, k, rfl, hS, h0, h1, q⟩ := h
    refine ⟨_, (pss_cons (ps_if (pt_cmpR op_lt (pv 1) (pe_callB call_len_seq (by rfl) T.z_len Boot.«len» (pa_cons (pv 0) pa_nil)) (nomark _)) (pss_one (ps_ret (pe_ix ix_list (pv 0) (pv 1) (fun _ _ => rfl)))) pss_nil) (pss_one (ps_ret (pe_op op_add (pe_op op_mul pe_int (pv 1)) pe_int)))), ?_⟩
    refine ⟨_, rfl, _, rfl, a, _, rfl, .inl hS, k, _, rfl, rfl, _, rfl, ?_⟩
    refine ite2 (fun hk => ?_) (fun hk => ?_)
    · have hk := of_decide_eq_true hk
      rw [List.length_map] at hk
      obtain ⟨j, rfl⟩ : ∃ j : Nat, k = j := ⟨k.toNat, by omega⟩
      have hj : j < ns.length := by omega
      exact ⟨_, rfl, _, rfl, a, _, _, _, rfl, rfl, hS, atI_nat (v := .int ns[j]) (by simp [hj]), q _⟩
    · exact ⟨_, rfl, 7919, k, rfl, rfl, .inl ⟨by decide, by decide⟩, _, _, rfl, rfl, q _⟩
def BoxAt (H : Hp) (b : Addr) (k : Nat) : Prop := ∃ (x y z : Int), H b = some (.lst [.int x, .int y, .int z]) ∧ 0 ≤ x ∧ 0 ≤ y ∧ y < 2147483629 ∧ 0 ≤ z ∧ z ≤ (k : Int)
/-- at b alone something has changed -/
def Only (b : Addr) (H H' : Hp) : Prop := ∀ c, c ≠ b → H' c = H c
theorem Only.upd {b : Addr} {H : Hp} {o : HO} : Only b H (upd H b o) := fun c hc => upd_ne hc
theorem Only.kept {b : Addr} {H H' : Hp} (h : Only b H H') : Kept b H H' := fun c o hc e => (h c hc).trans e
theorem Kept.refl (b : Addr) (H : Hp) : Kept b H H := fun _ _ _ e => e
theorem Kept.trans {b : Addr} {H H1 H2 : Hp} (h : Kept b H H1) (h' : Kept b H1 H2) : Kept b H H2 := fun c o hc e => h' c o hc (h c o hc e)
theorem _root_.L2.Same.kept {b : Addr} {H H' : Hp} (h : Same H H') : Kept b H H' := fun c o _ e => h c o e
theorem BoxAt.same {b : Addr} {k : Nat} {H H' : Hp} (B : BoxAt H b k) (h : Same H H') : BoxAt H' b k := by
  obtain ⟨x, y, z, hb, r⟩ := B
  exact ⟨x, y, z, h _ _ hb, r⟩
theorem BoxAt.mono {b : Addr} {k j : Nat} {H : Hp} (B : BoxAt H b k) (h : k ≤ j) : BoxAt H b j := by
  obtain ⟨x, y, z, hb, h1, h2, h3, h4, h5⟩ := B
  exact ⟨x, y, z, hb, h1, h2, h3, h4, by omega⟩
theorem BoxAt.ne {b p : Addr} {k : Nat} {H : Hp} (B : BoxAt H b k) (h : H p = none) : p ≠ b := by
  obtain ⟨x, y, z, hb, _⟩ := B
  exact (ne_of_none hb h).symm
theorem BoxAt.ne' {b t : Addr} {k : Nat} {H : Hp} {xs : List V} (B : BoxAt H b k) {H0 : Hp} (_ : H0 t = none) (h : H t = some (.tup xs)) : t ≠ b := by
  obtain ⟨x, y, z, hb, _⟩ := B
  exact (ne_of hb h (by intro q; cases q)).symm
/-- an item of a list that is known item by item -/
theorem ix_any {K : PySem.W.Frag} {H : Hp} {p : Addr} {xs : List V} {i : Int} {Q : VK} (Pv : V → Prop) (h : H p = some (.lst xs)) (h0 : 0 ≤ i) (h1 : i < xs.length) (hP : ∀ x ∈ xs, Pv x) (q : ∀ v, Pv v → Q v H) : rIxL K (.ref p) (.int i) H Q := by
  obtain ⟨j, rfl⟩ : ∃ j : Nat, i = j := ⟨i.toNat, by omega⟩
  have hj : j < xs.length := by omega
  exact ⟨p, xs, j, xs[j], rfl, rfl, SqL.of h, atI_nat (by simp [hj]), q _ (hP _ (List.getElem_mem hj))⟩
def spBox : Sp := fun vs H Q _ => ∃ c, vs = [.int c] ∧ ∀ b H', H b = none → BoxAt H' b 0 → Same H H' → Q (.ref b) H'
theorem ok__law_box (T : Txt K mg A) : FnOk P w K mg base CX0 1 A.a__law_box A.d__law_box ["_law_cell_here"] spBox := by
  refine T.F__law_box.ok sc__law_box (fun vs H Q E h => ?_) (fun cdv Ar outer s H vs Q E hr h => ?_)
  · obtain ⟨c, rfl, _⟩ := h
    rfl
  · obtain ⟨c, rfl, q⟩ := h
    refine ⟨_, (pss_one (ps_ret (pe_lst (pa_cons (pe_callB (call_max2 rfl) (by rfl) T.z_max Boot.«max» (pa_cons pe_int (pa_cons (pe_op op_sub (pv 0) (pe_op op_pow pe_int pe_int)) pa_nil))) (pa_cons (pe_op op_mod (pv 0) pe_int) (pa_cons pe_int pa_nil)))))), ?_⟩
    refine ⟨_, rfl, 10, 18, rfl, rfl, ⟨by decide, by decide, by decide⟩, c, _, rfl, rfl, 0, _, rfl, ?_⟩
    refine ⟨_, rfl, c, 2147483629, rfl, rfl, (show (0 : Int) < 2147483629 by decide), (show 3 ≤ sizeLine by decide), fun p hp => ?_⟩
    refine q p _ hp ⟨_, _, 0, upd_same, ?_, ?_, ?_, by decide, by decide⟩ (Same.upd hp)
    · split <;> omega
    · omega
    · omega
def spTake : Sp := fun vs H Q _ => ∃ (b : Addr) (n : Int) (k : Nat), vs = [.ref b, .int n] ∧ BoxAt H b k ∧ k ≤ 100000 ∧ 0 < n ∧ n < 1152921504606846976 ∧
  ∀ (r : Int) (H' : Hp), 0 ≤ r → r < n → BoxAt H' b (k + 1) → Only b H H' → Q (.int r) H'
theorem ok__law_take (T : Txt K mg A) : FnOk P w K mg base CX0 1 A.a__law_take A.d__law_take ["_law_box_here", "_law_many"] spTake := by
  refine T.F__law_take.ok sc__law_take (fun vs H Q E h => ?_) (fun cdv Ar outer s H vs Q E hr h => ?_)
  · obtain ⟨b, n, k, rfl, _⟩ := h
    rfl
  · obtain ⟨b, n, k, rfl, ⟨x, y, z, hb, hx, hy, hy2, hz, hz2⟩, hk, hn, hn2, q⟩ := h
    refine ⟨_, (pss_cons (ps_if (pt_cmpR op_gt (pe_ix ix_list (pv 0) pe_int (fun _ _ => rfl)) pe_int (nomark _)) (pss_cons (ps_set (i := 2) sc__law_take.nd rfl (Or.inl rfl) (pe_op op_mod (pe_ix ix_list (pv 0) pe_int (fun _ _ => rfl)) (pv 1))) (pss_cons (ps_asg (pe_op op_fdivW (pe_ix ix_list (pv 0) pe_int (fun _ _ => rfl)) (pv 1)) (pg_sub (pv 0) pe_int set_list)) (pss_one (ps_ret (pv 2))))) pss_nil) (pss_cons (ps_asg (pe_op op_add (pe_ix ix_list (pv 0) pe_int (fun _ _ => rfl)) pe_int) (pg_sub (pv 0) pe_int set_list)) (pss_cons (ps_set (i := 3) sc__law_take.nd rfl (Or.inl rfl) (pe_op op_mod (pe_op op_pow (pe_op op_add (pe_op op_add (pe_ix ix_list (pv 0) pe_int (fun _ _ => rfl)) (pe_op op_mul pe_int (pe_ix ix_list (pv 0) pe_int (fun _ _ => rfl)))) pe_int) pe_int) pe_int)) (pss_cons (ps_set (i := 4) sc__law_take.nd rfl (Or.inl rfl) (pe_op op_mod (pe_op op_pow (pe_op op_add (pe_op op_add (pe_op op_fdivW (pv 3) pe_int) (pe_op op_mul pe_int (pe_ix ix_list (pv 0) pe_int (fun _ _ => rfl)))) pe_int) pe_int) pe_int)) (pss_one (ps_ret (pe_op op_mod (pe_op op_add (pe_op op_fdivW (pv 3) pe_int) (pe_op op_mul pe_int (pe_op op_fdivW (pv 4) pe_int))) (pv 1)))))))), ?_⟩
    refine ⟨_, rfl, b, _, _, _, rfl, rfl, SqL.of hb, rfl, _, _, rfl, rfl, _, rfl, ?_⟩
    refine ite2 (fun h0 => ?_) (fun h0 => ?_)
    · refine ⟨_, rfl, b, _, _, _, rfl, rfl, SqL.of hb, rfl, _, rfl, x, n, rfl, rfl, hn, ?_⟩
      refine ⟨_, rfl, b, _, _, _, rfl, rfl, SqL.of hb, rfl, _, rfl, x, n, rfl, rfl, ⟨hn, log_small hn hn2⟩, ?_⟩
      refine ⟨_, rfl, b, _, 0, 0, rfl, rfl, hb, rfl, ?_⟩
      refine ⟨_, rfl, q _ _ (Int.emod_nonneg _ (by omega)) (Int.emod_lt_of_pos _ hn) ⟨_, y, z, upd_same, Int.ediv_nonneg hx (by omega), hy, hy2, hz, by omega⟩ Only.upd⟩
    · refine ⟨_, rfl, b, _, _, _, rfl, rfl, SqL.of hb, rfl, z, 1, rfl, rfl, ?_⟩
      refine ⟨_, rfl, b, _, 2, 2, rfl, rfl, hb, rfl, ?_⟩
      have hb' : upd H b (.lst [.int x, .int y, .int (z + 1)]) b = some (.lst [.int x, .int y, .int (z + 1)]) := upd_same
      refine ⟨_, rfl, b, _, _, _, rfl, rfl, SqL.of hb', rfl, _, rfl, b, _, _, _, rfl, rfl, SqL.of hb', rfl, 7919, z + 1, rfl, rfl, .inl ⟨by decide, by decide⟩, y, _, rfl, rfl, _, 29, rfl, rfl, _, 5, rfl, rfl, ⟨by decide, by decide, ?_⟩, _, 2147483647, rfl, rfl, (show (0 : Int) < 2147483647 by decide), ?_⟩
      · omega
      dsimp only
      generalize e1 : (y + 7919 * (z + 1) + 29) ^ (5 : Int).toNat % 2147483647 = one
      have b1 : 0 ≤ one := by rw [← e1]; exact Int.emod_nonneg _ (by decide)
      have b2 : one < 2147483647 := by rw [← e1]; exact Int.emod_lt_of_pos _ (by decide)
      refine ⟨_, rfl, one, 8, rfl, rfl, ⟨by decide, by decide⟩, _, rfl, b, _, _, _, rfl, rfl, SqL.of hb', rfl, 104729, z + 1, rfl, rfl, .inl ⟨by decide, by decide⟩, _, _, rfl, rfl, _, 3, rfl, rfl, _, 3, rfl, rfl, ⟨by decide, by decide, ?_⟩, _, 2147483629, rfl, rfl, (show (0 : Int) < 2147483629 by decide), ?_⟩
      · omega
      dsimp only
      generalize e2 : (one / 8 + 104729 * (z + 1) + 3) ^ (3 : Int).toNat % 2147483629 = other
      have b3 : 0 ≤ other := by rw [← e2]; exact Int.emod_nonneg _ (by decide)
      have b4 : other < 2147483629 := by rw [← e2]; exact Int.emod_lt_of_pos _ (by decide)
      refine ⟨_, rfl, one, 4, rfl, rfl, ⟨by decide, by decide⟩, _, rfl, other, 4, rfl, rfl, ⟨by decide, by decide⟩, 536870909, _, rfl, rfl, .inl ⟨by decide, by decide⟩, _, _, rfl, rfl, _, rfl, _, n, rfl, rfl, hn, ?_⟩
      exact q _ _ (Int.emod_nonneg _ (by omega)) (Int.emod_lt_of_pos _ hn) ⟨x, y, z + 1, upd_same, hx, hy, hy2, by omega, by omega⟩ Only.upd

end
end My

namespace My
open PySem L2 PyProof.Rows
theorem len_app (x y : Str) : (x ++ y).length = x.length + y.length := by
  show (x.cps ++ y.cps).size = x.cps.size + y.cps.size
  rw [Array.size_append]
theorem sign_at {z : Str} {i : Int} (h0 : 0 ≤ i) (h1 : i < z.length) : ∃ c, atI z.cps.toList i = some c := by
  obtain ⟨j, rfl⟩ : ∃ j : Nat, i = j := ⟨i.toNat, by omega⟩
  have hj : j < z.cps.toList.length := by
    have : z.length = z.cps.toList.length := by rw [Array.length_toList]; rfl
    omega
  exact ⟨z.cps.toList[j], atI_nat (by simp [hj])⟩
/-- all its signs are low -/
def Lo (x : Str) : Prop := ∀ c ∈ x.cps.toList, c < 1000
theorem Lo.app {x y : Str} (h : Lo x) (h' : Lo y) : Lo (x ++ y) := by
  intro c hc
  rcases mem_cps_append.mp hc with hc | hc
  · exact h c hc
  · exact h' c hc
theorem Lo.slice {x : Str} (h : Lo x) (l u : Option Int) : Lo (Txt.slice x l u) := by
  intro c hc
  unfold Txt.slice at hc
  split at hc
  · exact h c hc
  · rw [List.toList_toArray] at hc
    obtain ⟨i, _, hi⟩ := List.mem_filterMap.mp hc
    exact h c (Array.mem_toList_iff.mpr (Array.mem_of_getElem? hi))
theorem Lo.one {c : Nat} (h : c < 1000) : Lo ⟨#[c]⟩ := by
  intro d hd
  have hd : d ∈ [c] := hd
  rw [List.mem_singleton.mp hd]
  exact h
theorem Lo.join {sep : Str} {ts : List Str} (h : Lo sep) (h' : ∀ t ∈ ts, Lo t) : Lo (Str.join sep ts) := by
  intro c hc
  rcases (mem_join sep c ts).mp hc with ⟨t, ht, hc⟩ | ⟨_, hc⟩
  · exact h' t ht c hc
  · exact h c hc
theorem sign_lo {z : Str} {i : Int} (hz : Lo z) (h0 : 0 ≤ i) (h1 : i < z.length) : ∃ c, atI z.cps.toList i = some c ∧ c < 1000 := by
  obtain ⟨j, rfl⟩ : ∃ j : Nat, i = j := ⟨i.toNat, by omega⟩
  have hj : j < z.cps.toList.length := by
    have : z.length = z.cps.toList.length := by rw [Array.length_toList]; rfl
    omega
  exact ⟨z.cps.toList[j], atI_nat (by simp [hj]), hz _ (List.getElem_mem hj)⟩
/-- a comprehension over a range, whose element draws from the box b -/
theorem comp_box {lo : Int} {n k m k0 : Nat} {b : Addr} {js : List Nat} {g : TG} {te : TE} {σ : L2.St} {H : Hp} {Q : VK} (R : V → Prop) (hlen : n ≤ sizeLine) (B : BoxAt H b k0)
    (hbody : ∀ (i : Nat) (H' : Hp) (C1 : V → Hp → Prop), i < n → Kept b H H' → BoxAt H' b (k0 + i * m) → (∀ v H'', R v → BoxAt H'' b (k0 + i * m + m) → Kept b H' H'' → C1 v H'') →
      g (.int (lo + i)) (cσ k js σ) H' fun σ2 H2 => SubS (cσ k js σ) σ2 ∧ te σ2 H2 C1)
    (hq : ∀ p H' ys, H p = none → Kept b H H' → BoxAt H' b (k0 + n * m) → H' p = some (.lst ys) → ys.length = n → (∀ v ∈ ys, R v) → Q (.ref p) H') :
    CompGoal (Itr lo n) k js g tYes te σ H Q := by
  intro p hp
  have hpb : p ≠ b := B.ne hp
  refine ⟨fun i m' ys H' => m' = n - i ∧ i ≤ n ∧ ys.length = i ∧ H' p = some (.lst ys) ∧ Kept b H H' ∧ BoxAt H' b (k0 + i * m) ∧ ∀ v ∈ ys, R v,
    ⟨n, rfl, Nat.zero_le _, rfl, upd_same, (Same.upd hp).kept, by rw [Nat.zero_mul]; exact B.same (Same.upd hp), fun v e => by cases e⟩, ?_⟩
  rintro i m' ys H' ⟨rfl, hi, hyl, hl, hs, hB, hE⟩
  refine ⟨hl, ?_⟩
  by_cases hlt : i < n
  · refine .inr ⟨hlt, by omega, fun x H'' hy => ?_⟩
    obtain ⟨rfl, rfl⟩ := hy
    refine hbody i _ _ hlt hs hB fun v H4 r4 B4 s4 => ?_
    have hp4 : H4 p = some (.lst ys) := s4 _ _ hpb hl
    refine ⟨hp4, n - (i + 1), by omega, rfl, hlt, by simp [hyl], upd_same, fun c o hc e => ?_, ?_, fun v' e => ?_⟩
    · rw [upd_ne (ne_of_none e hp)]
      exact s4 _ _ hc (hs _ _ hc e)
    · obtain ⟨x, y, z, hb, r⟩ := B4
      refine ⟨x, y, z, ?_, ?_⟩
      · rw [upd_ne (fun z => hpb z.symm)]
        exact hb
      · rw [show k0 + (i + 1) * m = k0 + i * m + m by rw [Nat.succ_mul]; omega]
        exact r
    · rcases List.mem_append.mp e with e | e
      · exact hE _ e
      · rw [List.mem_singleton.mp e]
        exact r4
  · have e : i = n := by omega
    subst e
    exact .inl ⟨Nat.le_refl _, hq p H' ys hp hs hB hl hyl hE⟩
def big : Int := 10000000000000000000000000000000
def aNum (i : Int) : Prop := -big < i ∧ i < big
def okVl : Vl → Prop
  | .non => True
  | .int i => aNum i
  | .pair i j => 0 ≤ i ∧ 0 ≤ j ∧ aNum i ∧ aNum j
def ValAt (H : Hp) (v : V) : Vl → Prop
  | .non => v = .non
  | .int i => v = .int i
  | .pair i j => ∃ a, v = .ref a ∧ H a = some (.tup [.int i, .int j])
def vlText : Vl → Str
  | .non => "none"
  | .int i => iText i
  | .pair i j => iText i ++ Str.ofString ":" ++ iText j
theorem pw {j : Int} (h0 : 0 ≤ j := by decide) (h1 : j ≤ 1000000 := by decide) : CPow 10 j := ⟨h0, h1, by decide⟩
section
variable {P : Program} {w : World} {K : PySem.W.Frag} {mg : Str → Option Value} {base : Heap} {A : Adr}
def spPage : Sp := fun vs H Q _ => vs = [] ∧ ∀ z : Str, z.length ≤ 94 → 0 < z.length → Lo z → Q (.str z) H
theorem ok__law_page (T : Txt K mg A) : FnOk P w K mg base CX0 1 A.a__law_page A.d__law_page [] spPage := by
  refine T.F__law_page.ok sc__law_page (fun vs H Q E h => ?_) (fun cdv Ar outer s H vs Q E hr h => ?_)
  · obtain ⟨rfl, _⟩ := h
    rfl
  · obtain ⟨rfl, q⟩ := h
    refine ⟨_, (pss_cons (ps_set (i := 0) sc__law_page.nd rfl (Or.inl rfl) pe_str) (pss_one (ps_ret (pe_op op_add_str (pv 0) pe_str)))), ?_⟩
    exact ⟨_, rfl, _, _, rfl, rfl, by decide +kernel, q _ (by decide +kernel) (by decide +kernel) (by unfold Lo; decide +kernel)⟩
def spDraw (j : Nat) (post : Addr → V → Hp → Prop) : Sp := fun vs H Q _ => ∃ b k, vs = [.ref b] ∧ BoxAt H b k ∧ k + j ≤ 2000 ∧ ∀ v H', BoxAt H' b (k + j) → Kept b H H' → post b v H' → Q v H'
theorem ok__law_number (T : Txt K mg A) : FnOk P w K mg base CX0 2 A.a__law_number A.d__law_number ["_law_box_here"] (spDraw 3 fun _ v _ => ∃ i, v = .int i ∧ aNum i) := by
  have G__law_take : FnOk P w K mg base CX0 1 A.a__law_take A.d__law_take ["_law_box_here", "_law_many"] spTake := ok__law_take T
  refine T.F__law_number.ok sc__law_number (fun vs H Q E h => ?_) (fun cdv Ar outer s H vs Q E hr h => ?_)
  · obtain ⟨b, k, rfl, _⟩ := h
    rfl
  · obtain ⟨b, k, rfl, B, hk, q⟩ := h
    have hb : big = 10000000000000000000000000000000 := rfl
    refine ⟨_, (pss_cons (ps_set (i := 1) sc__law_number.nd rfl (Or.inl rfl) (pe_call G__law_take hr rfl T.m__law_take T.F__law_take.kp T.b__law_take .nil pass0 (pa_cons (pv 0) (pa_cons pe_int pa_nil)))) (pss_cons (ps_if (pt_cmpR op_eq (pv 1) pe_int (nomark _)) (pss_one (ps_ret (pe_op op_sub (pe_call G__law_take hr rfl T.m__law_take T.F__law_take.kp T.b__law_take .nil pass0 (pa_cons (pv 0) (pa_cons pe_int pa_nil))) pe_int))) pss_nil) (pss_cons (ps_if (pt_cmpR op_eq (pv 1) pe_int (nomark _)) (pss_one (ps_ret (pe_ix ix_list (pe_lst (pa_cons pe_int (pa_cons pe_int (pa_cons (pe_op op_pow pe_int pe_int) (pa_cons (pe_op op_pow pe_int pe_int) (pa_cons (pe_op op_pow pe_int pe_int) (pa_cons (pe_op op_sub (pe_op op_pow pe_int pe_int) pe_int) (pa_cons (pe_op op_sub pe_int (pe_op op_pow pe_int pe_int)) (pa_cons (pe_op op_sub (pe_op op_pow pe_int pe_int) pe_int) pa_nil))))))))) (pe_call G__law_take hr rfl T.m__law_take T.F__law_take.kp T.b__law_take .nil pass0 (pa_cons (pv 0) (pa_cons pe_int pa_nil))) (fun _ _ => rfl)))) pss_nil) (pss_cons (ps_set (i := 2) sc__law_number.nd rfl (Or.inl rfl) (pe_op op_add (pe_op op_mul (pe_call G__law_take hr rfl T.m__law_take T.F__law_take.kp T.b__law_take .nil pass0 (pa_cons (pv 0) (pa_cons (pe_op op_pow pe_int pe_int) pa_nil))) (pe_op op_pow pe_int pe_int)) (pe_call G__law_take hr rfl T.m__law_take T.F__law_take.kp T.b__law_take .nil pass0 (pa_cons (pv 0) (pa_cons (pe_op op_pow pe_int pe_int) pa_nil))))) (pss_one (ps_ret (pe_ix ix_list (pe_lst (pa_cons (pv 2) (pa_cons (pe_op op_sub pe_int (pv 2)) pa_nil))) (pe_op op_sub (pv 1) pe_int) (fun _ _ => rfl)))))))), ?_⟩
    refine ⟨_, rfl, b, 4, k, rfl, B, by omega, by decide, by decide, fun way H1 w0 w1 B1 O1 => ?_⟩
    refine ⟨_, rfl, rfl, _, rfl, ?_⟩
    refine ite2 (fun h0 => ?_) (fun h0 => ?_)
    · refine ⟨_, rfl, b, 12, k + 1, rfl, B1, by omega, by decide, by decide, fun r H2 r0 r1 B2 O2 => ?_⟩
      exact ⟨r, 3, rfl, rfl, q _ _ (B2.mono (by omega)) (O1.kept.trans O2.kept) ⟨_, rfl, by constructor <;> omega⟩⟩
    · refine ⟨_, rfl, rfl, _, rfl, ?_⟩
      refine ite2 (fun h1 => ?_) (fun h1 => ?_)
      · refine ⟨10, 9, rfl, rfl, pw, 10, 28, rfl, rfl, pw, 10, 29, rfl, rfl, pw, 10, 30, rfl, rfl, pw, _, 1, rfl, rfl, 10, 30, rfl, rfl, pw, 1, _, rfl, rfl, 10, 20, rfl, rfl, pw, _, 1, rfl, rfl, (show 8 ≤ sizeLine by decide), fun p hp => ⟨_, rfl, b, 8, k + 1, rfl, B1.same (Same.upd hp), by omega, by decide, by decide, fun r H2 r0 r1 B2 O2 => ?_⟩⟩
        refine ix_any (fun v => ∃ i, v = .int i ∧ aNum i) ((O2 p (B1.ne hp)).trans upd_same) r0 r1 ?_ fun v hv => q _ _ (B2.mono (by omega)) ((O1.kept.trans (Same.upd hp).kept).trans O2.kept) hv
        intro x hx
        simp only [List.mem_cons, List.not_mem_nil, or_false] at hx
        rcases hx with rfl | rfl | rfl | rfl | rfl | rfl | rfl | rfl <;> exact ⟨_, rfl, by decide, by decide⟩
      · have e15 : (10 : Int) ^ (15 : Int).toNat = 1000000000000000 := by decide
        refine ⟨_, rfl, 10, 15, rfl, rfl, pw, b, _, k + 1, rfl, B1, by omega, by decide, by decide, fun r1 H2 r10 r11 B2 O2 => ?_⟩
        refine ⟨10, 15, rfl, rfl, pw, r1, _, rfl, rfl, .inr ⟨by decide, by decide⟩, _, rfl, 10, 15, rfl, rfl, pw, b, _, k + 2, rfl, B2, by omega, by decide, by decide, fun r2 H3 r20 r21 B3 O3 => ?_⟩
        rw [e15] at r11 r21
        refine ⟨_, r2, rfl, rfl, ⟨_, rfl, _, rfl, 0, _, rfl, rfl, (show 2 ≤ sizeLine by decide), fun p hp => ⟨_, rfl, way, 2, rfl, rfl, ?_⟩⟩⟩
        have h0 : way ≠ 0 := fun z => h0 (by rw [z]; rfl)
        have h1 : way ≠ 1 := fun z => h1 (by rw [z]; rfl)
        refine ix_any (fun v => ∃ i, v = .int i ∧ aNum i) upd_same (by omega) (by show way - 2 < (2 : Int); omega) ?_ fun v hv => q _ _ ((B3.same (Same.upd hp)).mono (by omega)) (((O1.kept.trans O2.kept).trans O3.kept).trans (Same.upd hp).kept) hv
        rw [e15]
        intro x hx
        simp only [List.mem_cons, List.not_mem_nil, or_false] at hx
        rcases hx with rfl | rfl <;> exact ⟨_, rfl, by constructor <;> omega⟩
end
end My

namespace My
open PySem L2 PyProof.Rows
theorem digits_len : ∀ (k m : Nat), m < 10 ^ (k + 1) → (Nat.toDigits 10 m).length ≤ k + 1
  | 0, m, h => by rw [Nat.toDigits_of_lt_base (by omega)]; exact Nat.le_refl _
  | k + 1, m, h => by
    by_cases h0 : m < 10
    · rw [Nat.toDigits_of_lt_base h0]
      show 1 ≤ _
      omega
    · have hm : m % 10 < 10 := Nat.mod_lt m (by decide)
      have t : Nat.toDigits 10 (m / 10) ++ Nat.toDigits 10 (m % 10) = Nat.toDigits 10 (10 * (m / 10) + m % 10) := Nat.toDigits_append_toDigits (by decide) (by omega) hm
      rw [Nat.div_add_mod] at t
      rw [← t, List.length_append, Nat.toDigits_of_lt_base hm]
      have ih := digits_len k (m / 10) (by rw [Nat.pow_succ] at h; omega)
      show _ + 1 ≤ _
      omega
theorem len_nat {m : Nat} {k : Nat} (h : m < 10 ^ (k + 1)) : (iText (m : Int)).length ≤ k + 1 := by
  have e := PySem.W.KIN.signs_num m
  have := digits_len k m h
  have hl : (iText (m : Int)).cps.toList.length = (iText (m : Int)).length := rfl
  rw [← hl]
  show (Str.ofString (toString (m : Int))).cps.toList.length ≤ _
  rw [e, List.length_map]
  exact this
theorem len_int {i : Int} {k : Nat} (h : i.natAbs < 10 ^ (k + 1)) : (iText i).length ≤ k + 2 := by
  by_cases h0 : 0 ≤ i
  · obtain ⟨m, rfl⟩ := Int.eq_ofNat_of_zero_le h0
    have := len_nat (m := m) (k := k) (by simpa using h)
    omega
  · obtain ⟨m, rfl⟩ : ∃ m : Nat, i = -((m : Nat) : Int) := ⟨i.natAbs, by omega⟩
    have e := neg_text m (by omega)
    have := len_nat (m := m) (k := k) (by simpa using h)
    have hl : (iText (-(m : Int))).cps.toList.length = (iText (-(m : Int))).length := rfl
    have hl2 : (iText (m : Int)).cps.toList.length = (iText (m : Int)).length := rfl
    have e2 := congrArg List.length e
    rw [List.length_cons] at e2
    have hl3 : (Str.ofString (toString (-(m : Int)))).cps.toList.length = (iText (-(m : Int))).length := rfl
    have hl4 : (Str.ofString (toString (m : Int))).cps.toList.length = (iText (m : Int)).length := rfl
    omega
theorem log_of {i : Int} (h : i.natAbs < 10 ^ 42) : i.natAbs.log2 < 1920 := by
  by_cases h0 : i.natAbs = 0
  · rw [h0]
    decide
  · have h1 : i.natAbs < 2 ^ 140 := Nat.lt_trans h (by decide)
    have := (Nat.log2_lt h0).mpr h1
    omega
theorem small_of {i : Int} (h : i.natAbs < 10 ^ 42) : small i := ⟨log_of h, Nat.le_trans (len_int (k := 41) h) (by decide)⟩
theorem abs_num {i : Int} (h : aNum i) : i.natAbs < 10 ^ 42 := by
  have : i.natAbs < 10000000000000000000000000000000 := by
    have h1 : -10000000000000000000000000000000 < i := h.1
    have h2 : i < 10000000000000000000000000000000 := h.2
    omega
  exact Nat.lt_trans this (by decide)
theorem len_num {i : Int} (h : aNum i) : (iText i).length ≤ 60 := Nat.le_trans (len_int (k := 41) (abs_num h)) (by decide)
section
variable {P : Program} {w : World} {K : PySem.W.Frag} {mg : Str → Option Value} {base : Heap} {A : Adr}
def isVal : Addr → V → Hp → Prop := fun b v H' => ∃ r, ValAt H' v r ∧ okVl r ∧ v ≠ .ref b
theorem ok__law_value (T : Txt K mg A) : FnOk P w K mg base CX0 3 A.a__law_value A.d__law_value ["_law_box_here"] (spDraw 7 isVal) := by
  have G__law_take : FnOk P w K mg base CX0 2 A.a__law_take A.d__law_take ["_law_box_here", "_law_many"] spTake := (ok__law_take T).mono (by decide)
  have G__law_number : FnOk P w K mg base CX0 2 A.a__law_number A.d__law_number ["_law_box_here"] (spDraw 3 fun _ v _ => ∃ i, v = .int i ∧ aNum i) := ok__law_number T
  refine T.F__law_value.ok sc__law_value (fun vs H Q E h => ?_) (fun cdv Ar outer s H vs Q E hr h => ?_)
  · obtain ⟨b, k, rfl, _⟩ := h
    rfl
  · obtain ⟨b, k, rfl, B, hk, q⟩ := h
    refine ⟨_, (pss_cons (ps_set (i := 1) sc__law_value.nd rfl (Or.inl rfl) (pe_call G__law_take hr rfl T.m__law_take T.F__law_take.kp T.b__law_take .nil pass0 (pa_cons (pv 0) (pa_cons pe_int pa_nil)))) (pss_cons (ps_if (pt_cmpR op_eq (pv 1) pe_int (nomark _)) (pss_one (ps_ret pe_non)) pss_nil) (pss_cons (ps_if (pt_cmpR op_lt (pv 1) pe_int (nomark _)) (pss_one (ps_ret (pe_call G__law_number hr rfl T.m__law_number T.F__law_number.kp T.b__law_number .nil pass0 (pa_cons (pv 0) pa_nil)))) pss_nil) (pss_one (ps_ret (pe_tup (pa_cons (pe_callB call_abs (by rfl) T.z_abs Boot.«abs» (pa_cons (pe_call G__law_number hr rfl T.m__law_number T.F__law_number.kp T.b__law_number .nil pass0 (pa_cons (pv 0) pa_nil)) pa_nil)) (pa_cons (pe_callB call_abs (by rfl) T.z_abs Boot.«abs» (pa_cons (pe_call G__law_number hr rfl T.m__law_number T.F__law_number.kp T.b__law_number .nil pass0 (pa_cons (pv 0) pa_nil)) pa_nil)) pa_nil)))))))), ?_⟩
    refine ⟨_, rfl, b, 5, k, rfl, B, by omega, by decide, by decide, fun way H1 w0 w1 B1 O1 => ?_⟩
    refine ⟨_, rfl, rfl, _, rfl, ?_⟩
    refine ite2 (fun h0 => ?_) (fun h0 => ?_)
    · exact q _ _ (B1.mono (by omega)) O1.kept ⟨.non, rfl, trivial, by intro z; cases z⟩
    · refine ⟨_, rfl, way, 3, rfl, rfl, _, rfl, ?_⟩
      refine ite2 (fun h1 => ?_) (fun h1 => ?_)
      · refine ⟨_, rfl, b, k + 1, rfl, B1, by omega, fun v H2 B2 K2 ⟨i, e, hi⟩ => ?_⟩
        subst e
        exact q _ _ (B2.mono (by omega)) (O1.kept.trans K2) ⟨.int i, rfl, hi, by intro z; cases z⟩
      · refine ⟨_, rfl, b, k + 1, rfl, B1, by omega, fun v H2 B2 K2 ⟨i, e, hi⟩ => ?_⟩
        subst e
        refine ⟨i, rfl, _, rfl, b, k + 4, rfl, B2, by omega, fun v H3 B3 K3 ⟨j, e, hj⟩ => ?_⟩
        subst e
        refine ⟨j, rfl, (show 2 ≤ sizeLine by decide), fun p hp => ?_⟩
        refine q _ _ ((B3.same (Same.upd hp)).mono (by omega)) (((O1.kept.trans K2).trans K3).trans (Same.upd hp).kept) ⟨.pair _ _, ⟨p, rfl, upd_same⟩, ?_, ?_⟩
        · have h1 : -10000000000000000000000000000000 < i := hi.1
          have h2 : i < 10000000000000000000000000000000 := hi.2
          have h3 : -10000000000000000000000000000000 < j := hj.1
          have h4 : j < 10000000000000000000000000000000 := hj.2
          have hb : big = 10000000000000000000000000000000 := rfl
          refine ⟨by omega, by omega, ⟨?_, ?_⟩, ⟨?_, ?_⟩⟩ <;> omega
        · intro z
          cases z
          exact B3.ne hp rfl
def spLT : Sp := fun vs H Q _ => ∃ v r, vs = [v] ∧ ValAt H v r ∧ okVl r ∧ Q (.str (vlText r)) H
theorem ok__law_text (T : Txt K mg A) : FnOk P w K mg base CX0 1 A.a__law_text A.d__law_text ["_law_value_here"] spLT := by
  refine T.F__law_text.ok sc__law_text (fun vs H Q E h => ?_) (fun cdv Ar outer s H vs Q E hr h => ?_)
  · obtain ⟨v, r, rfl, _⟩ := h
    rfl
  · obtain ⟨v, r, rfl, va, ok, q⟩ := h
    have hL : sizeLine = 16777216 := rfl
    refine ⟨_, (pss_cons (ps_if (pt_cmpR op_isN (pv 0) pe_non (nomark _)) (pss_one (ps_ret pe_str)) pss_nil) (pss_cons (ps_if (pt_val (pe_callB call_isinst (by rfl) T.z_isinstance Boot.«isinstance» (pa_cons (pv 0) (pa_cons (pe_bltn (v := .ty "tuple") rfl T.z_tuple Boot.«tuple» rfl) pa_nil)))) (pss_one (ps_ret (pe_op op_add_str (pe_op op_add_str (pe_callTy call_str_int (by rfl) T.z_str Boot.«str» (pa_cons (pe_ix ix_tup (pv 0) pe_int (fun _ _ => rfl)) pa_nil)) pe_str) (pe_callTy call_str_int (by rfl) T.z_str Boot.«str» (pa_cons (pe_ix ix_tup (pv 0) pe_int (fun _ _ => rfl)) pa_nil))))) pss_nil) (pss_one (ps_ret (pe_callTy call_str_int (by rfl) T.z_str Boot.«str» (pa_cons (pv 0) pa_nil)))))), ?_⟩
    cases r with
    | non =>
      cases va
      exact ⟨_, rfl, rfl, _, rfl, iteT q⟩
    | int i =>
      cases va
      exact ⟨_, rfl, rfl, _, rfl, iteF ⟨_, rfl, _, _, _, _, rfl, .int i, rfl, _, rfl, iteF ⟨_, rfl, i, rfl, log_of (abs_num ok), q⟩⟩⟩
    | pair i j =>
      obtain ⟨a, rfl, e⟩ := va
      obtain ⟨h0, h1, h2, h3⟩ := ok
      have hli : (Str.ofString (toString i)).length ≤ 60 := len_num h2
      have hlj : (Str.ofString (toString j)).length ≤ 60 := len_num h3
      have h1 : (Str.ofString ":").length = 1 := rfl
      refine ⟨_, rfl, rfl, _, rfl, iteF ⟨_, rfl, _, _, _, _, rfl, .tup e, rfl, _, rfl, iteT ?_⟩⟩
      refine ⟨_, rfl, a, _, 0, .int i, rfl, rfl, SqT.of e, rfl, i, rfl, log_of (abs_num h2), _, _, rfl, rfl, ?_, _, rfl, a, _, 1, .int j, rfl, rfl, SqT.of e, rfl, j, rfl, log_of (abs_num h3), _, _, rfl, rfl, ?_, q⟩
      · omega
      · rw [len_app]
        omega
end
end My

namespace My
open PySem L2 PyProof.Rows
section
variable {P : Program} {w : World} {K : PySem.W.Frag} {mg : Str → Option Value} {base : Heap} {A : Adr}
def isTxt (n : Nat) : Addr → V → Hp → Prop := fun _ v _ => ∃ z : Str, v = .str z ∧ z.length ≤ n ∧ Lo z
theorem ok__law_figures (T : Txt K mg A) : FnOk P w K mg base CX0 2 A.a__law_figures A.d__law_figures ["_law_box_here"] (spDraw 50 (isTxt 43)) := by
  have G__law_take : FnOk P w K mg base CX0 1 A.a__law_take A.d__law_take ["_law_box_here", "_law_many"] spTake := ok__law_take T
  refine T.F__law_figures.ok sc__law_figures (fun vs H Q E h => ?_) (fun cdv Ar outer s H vs Q E hr h => ?_)
  · obtain ⟨b, k, rfl, _⟩ := h
    rfl
  · obtain ⟨b, k, rfl, B, hk, q⟩ := h
    have hL : sizeLine = 16777216 := rfl
    refine ⟨_, (pss_cons (ps_set (i := 1) sc__law_figures.nd rfl (Or.inl rfl) (pe_ix ix_list (pe_lst (pa_cons pe_int (pa_cons pe_int pa_nil))) (pe_call G__law_take hr rfl T.m__law_take T.F__law_take.kp T.b__law_take .nil pass0 (pa_cons (pv 0) (pa_cons pe_int pa_nil))) (fun _ _ => rfl))) (pss_cons (ps_set (i := 2) sc__law_figures.nd rfl (Or.inl rfl) (pe_op op_add (pv 1) (pe_call G__law_take hr rfl T.m__law_take T.F__law_take.kp T.b__law_take .nil pass0 (pa_cons (pv 0) (pa_cons pe_int pa_nil))))) (pss_cons (ps_set (i := 3) sc__law_figures.nd rfl (Or.inl rfl) (pe_call G__law_take hr rfl T.m__law_take T.F__law_take.kp T.b__law_take .nil pass0 (pa_cons (pv 0) (pa_cons pe_int pa_nil)))) (pss_one (ps_ret (pe_op op_add_str (pe_ix ix_list (pe_lst (pa_cons pe_str (pa_cons pe_str (pa_cons pe_str (pa_cons pe_str (pa_cons pe_str (pa_cons pe_str pa_nil))))))) (pv 3) (fun _ _ => rfl)) (pe_bm PySem.F.plainAttrs_str PySem.F.slot_str_join PySem.F.type_str_join mt_join pe_str (pa_cons (pe_comp (N := ["_law_k", "_law_box_here"]) (k := 1) (js := [0]) rfl (cscope_of (by kernel_rfl)) (pi_range1 rfl T.z_range (pa_cons (pv 2) pa_nil)) (fun _ _ _ _ _ => ⟨(pg_name (i := 0) (show (["_law_k", "_law_box_here"] : List Str).Nodup by decide +kernel) rfl (Or.inl rfl) (Or.inr rfl)), pif0, (pe_ix ix_str pe_str (pe_call G__law_take hr rfl T.m__law_take T.F__law_take.kp T.b__law_take .nil pass0 (pa_cons (pv 1) (pa_cons pe_int pa_nil))) (fun _ _ => rfl))⟩)) pa_nil)))))))), ?_⟩
    refine ⟨(show 2 ≤ sizeLine by decide), fun p hp => ⟨_, rfl, b, 2, k, rfl, B.same (Same.upd hp), by omega, by decide, by decide, fun r H1 r0 r1 B1 O1 => ?_⟩⟩
    refine ix_any (fun v => ∃ i : Int, v = .int i ∧ 0 ≤ i ∧ i ≤ 39) ((O1 p (B.ne hp)).trans upd_same) r0 r1 (by intro x hx; simp only [List.mem_cons, List.not_mem_nil, or_false] at hx; rcases hx with rfl | rfl <;> exact ⟨_, rfl, by decide, by decide⟩) fun v hv => ?_
    obtain ⟨least, rfl, l0, l1⟩ := hv
    have K1 : Kept b H H1 := (Same.upd hp).kept.trans O1.kept
    refine ⟨_, rfl, _, rfl, b, 4, k + 1, rfl, B1, by omega, by decide, by decide, fun r2 H2 r20 r21 B2 O2 => ?_⟩
    refine ⟨least, r2, rfl, rfl, ?_⟩
    refine ⟨_, rfl, b, 6, k + 2, rfl, B2, by omega, by decide, by decide, fun r3 H3 r30 r31 B3 O3 => ?_⟩
    have K3 : Kept b H H3 := (K1.trans O2.kept).trans O3.kept
    refine ⟨(show 6 ≤ sizeLine by decide), fun p6 hp6 => ⟨_, rfl, ?_⟩⟩
    refine ix_any (fun v => ∃ z : Str, v = .str z ∧ z.length ≤ 1 ∧ Lo z) upd_same r30 r31 (by intro x hx; simp only [List.mem_cons, List.not_mem_nil, or_false] at hx; rcases hx with rfl | rfl | rfl | rfl | rfl | rfl <;> exact ⟨_, rfl, by decide +kernel, by unfold Lo; decide +kernel⟩) fun v hv => ?_
    obtain ⟨z, rfl, hz, hzl⟩ := hv
    have B4 := B3.same (Same.upd (o := .lst [V.str (Str.ofString ""), V.str (Str.ofString "-"), V.str (Str.ofString "0"), V.str (Str.ofString "+"), V.str (Str.ofString ""), V.str (Str.ofString "")]) hp6)
    have K4 := K3.trans (Same.upd (o := .lst [V.str (Str.ofString ""), V.str (Str.ofString "-"), V.str (Str.ofString "0"), V.str (Str.ofString "+"), V.str (Str.ofString ""), V.str (Str.ofString "")]) hp6).kept
    refine ⟨rfl, _, rfl, least + r2, rfl, by omega, by omega, ?_⟩
    refine comp_box (b := b) (k0 := k + 3) (m := 1) (fun v => ∃ c, v = .str ⟨#[c]⟩ ∧ c < 1000) (by omega) B4 ?_ ?_
    · intro i H5 C1 hi K5 B5 c1
      refine ⟨(SubS.refl _).own (by decide), ⟨_, rfl, b, 10, k + 3 + i * 1, rfl, B5, by omega, by decide, by decide, fun r H6 h0 h1 B6 O6 => ?_⟩⟩
      obtain ⟨c, hc, hcl⟩ := sign_lo (z := "1203456789") (by unfold Lo; decide +kernel) h0 (by exact h1)
      exact ⟨_, r, c, rfl, rfl, by decide +kernel, hc, c1 _ _ ⟨c, rfl, hcl⟩ B6 O6.kept⟩
    · intro p7 H7 ys _ K7 B7 h7 hl hR
      obtain ⟨xs, rfl, hx⟩ : ∃ xs : List Str, ys = xs.map V.str ∧ ∀ x ∈ xs, x.length = 1 ∧ Lo x := by
        clear h7 hl
        induction ys with
        | nil => exact ⟨[], rfl, fun x h => by cases h⟩
        | cons y ys ih =>
          obtain ⟨xs, rfl, hx⟩ := ih fun v hv => hR v (List.mem_cons_of_mem _ hv)
          obtain ⟨c, rfl, hcl⟩ := hR y (List.mem_cons_self ..)
          exact ⟨⟨#[c]⟩ :: xs, rfl, fun x h => by rcases List.mem_cons.mp h with rfl | h; exact ⟨rfl, Lo.one hcl⟩; exact hx x h⟩
      rw [List.length_map] at hl
      have hj : Builtin.Str.tooLong (xs.toArray.foldl (fun a p => a + p.length + (Str.ofString "").length) 0) = false := PySem.StrLaws.joinFits (B := 1) (fun y hy => Nat.le_of_eq (hx y hy).1) (by
        have : (Str.ofString "").length = 0 := by decide +kernel
        rw [this]
        omega)
      have hlen : (Txt.join (Str.ofString "") xs).length ≤ 42 := by
        have h1 := PySem.StrLaws.join_length_le (Str.ofString "") xs
        have h2 := PySem.StrLaws.sumLen_le xs (B := 1) (fun y hy => Nat.le_of_eq (hx y hy).1)
        have h3 : (Str.ofString "").length = 0 := by decide +kernel
        rw [h3] at h1
        show (Builtin.Str.glued _ xs).length ≤ 42
        rw [PySem.StrLaws.glued_eq_join]
        omega
      have hlo : Lo (Txt.join (Str.ofString "") xs) := by
        show Lo (Builtin.Str.glued _ xs)
        rw [PySem.StrLaws.glued_eq_join]
        exact Lo.join (by unfold Lo; decide +kernel) fun t ht => (hx t ht).2
      refine ⟨_, p7, xs, rfl, rfl, h7, by unfold JoinOk; rw [hj]; rfl, z, _, rfl, rfl, by omega, ?_⟩
      exact q _ _ (B7.mono (by omega)) (K4.trans K7) ⟨_, rfl, by rw [len_app]; omega, hzl.app hlo⟩
end
end My

namespace My
open PySem L2 PyProof.Rows
section
variable {P : Program} {w : World} {K : PySem.W.Frag} {mg : Str → Option Value} {base : Heap} {A : Adr}
def spBent : Sp := fun vs H Q _ => ∃ (b : Addr) (x : Str) (k : Nat), vs = [.ref b, .str x] ∧ BoxAt H b k ∧ k + 9 ≤ 2000 ∧ x.length ≤ 400 ∧ Lo x ∧
  ∀ (z : Str) (H' : Hp), BoxAt H' b (k + 9) → Kept b H H' → z.length ≤ 4 * x.length + 3 → Lo z → Q (.str z) H'
theorem ok__law_bent (T : Txt K mg A) : FnOk P w K mg base CX0 2 A.a__law_bent A.d__law_bent ["_law_box_here", "_law_text_here"] spBent := by
  have G__law_take : FnOk P w K mg base CX0 1 A.a__law_take A.d__law_take ["_law_box_here", "_law_many"] spTake := ok__law_take T
  have G__law_page : FnOk P w K mg base CX0 1 A.a__law_page A.d__law_page [] spPage := ok__law_page T
  refine T.F__law_bent.ok sc__law_bent (fun vs H Q E h => ?_) (fun cdv Ar outer s H vs Q E hr h => ?_)
  · obtain ⟨b, x, k, rfl, _⟩ := h
    rfl
  · obtain ⟨b, x, k, rfl, B, hk, hx, hlo, q⟩ := h
    have hL : sizeLine = 16777216 := rfl
    refine ⟨_, (pss_cons (ps_set (i := 2) sc__law_bent.nd rfl (Or.inl rfl) (pv 1)) (pss_cons (ps_for PassesOwn.never rfl (pi_range1 rfl T.z_range (pa_cons (pe_op op_add pe_int (pe_call G__law_take hr rfl T.m__law_take T.F__law_take.kp T.b__law_take .nil pass0 (pa_cons (pv 0) (pa_cons pe_int pa_nil)))) pa_nil)) (pg_name (i := 3) sc__law_bent.nd rfl (Or.inl rfl) (Or.inl rfl)) (pss_cons (ps_set (i := 4) sc__law_bent.nd rfl (Or.inl rfl) (pe_call G__law_take hr rfl T.m__law_take T.F__law_take.kp T.b__law_take .nil pass0 (pa_cons (pv 0) (pa_cons pe_int pa_nil)))) (pss_cons (ps_set (i := 5) sc__law_bent.nd rfl (Or.inl rfl) (pe_ix ix_list (pe_lst (pa_cons (pe_call0 G__law_page hr rfl T.m__law_page T.F__law_page.kp T.b__law_page .nil pass0) (pa_cons pe_str (pa_cons (pe_op op_add_str (pe_call0 G__law_page hr rfl T.m__law_page T.F__law_page.kp T.b__law_page .nil pass0) pe_str) pa_nil)))) (pe_call G__law_take hr rfl T.m__law_take T.F__law_take.kp T.b__law_take .nil pass0 (pa_cons (pv 0) (pa_cons pe_int pa_nil))) (fun _ _ => rfl))) (pss_cons (ps_set (i := 6) sc__law_bent.nd rfl (Or.inl rfl) (pe_ix ix_str (pv 5) (pe_call G__law_take hr rfl T.m__law_take T.F__law_take.kp T.b__law_take .nil pass0 (pa_cons (pv 0) (pa_cons (pe_callB call_len_str (by rfl) T.z_len Boot.«len» (pa_cons (pv 5) pa_nil)) pa_nil))) (fun _ _ => rfl))) (pss_cons (ps_set (i := 7) sc__law_bent.nd rfl (Or.inl rfl) (pe_call G__law_take hr rfl T.m__law_take T.F__law_take.kp T.b__law_take .nil pass0 (pa_cons (pv 0) (pa_cons (pe_op op_add (pe_callB call_len_str (by rfl) T.z_len Boot.«len» (pa_cons (pv 2) pa_nil)) pe_int) pa_nil)))) (pss_one (ps_set (i := 2) sc__law_bent.nd rfl (Or.inl rfl) (pe_op op_add_str (pe_op op_add_str (pe_slice sl_str (pv 2) po_none (po_some (pv 7))) (pe_ix ix_list (pe_lst (pa_cons pe_str (pa_cons (pv 6) (pa_cons (pv 6) (pa_cons (pv 6) pa_nil))))) (pv 4) (fun _ _ => rfl))) (pe_slice sl_str (pv 2) (po_some (pe_op op_add (pv 7) (pe_ix ix_list (pe_lst (pa_cons pe_int (pa_cons pe_int (pa_cons pe_int (pa_cons pe_int pa_nil))))) (pv 4) (fun _ _ => rfl)))) po_none))))))))) (pss_one (ps_ret (pv 2))))), ?_⟩
    refine ⟨_, rfl, _, rfl, b, 2, k, rfl, B, by omega, by decide, by decide, fun r H0 r0 r1 B0 O0 => ⟨1, r, rfl, rfl, 1 + r, rfl, by omega, by omega, ?_⟩⟩
    refine for_range (lo := 0) (n := (1 + r).toNat) (fun i σ H' => ∃ (f : Str) (x3 x4 x5 x6 x7 : Option V), σ = [some (.ref b), some (.str x), some (.str f), x3, x4, x5, x6, x7] ∧ f.length + 1 ≤ 2 ^ i * (x.length + 1) ∧ Lo f ∧ BoxAt H' b (k + 1 + 4 * i) ∧ Kept b H H')
      ⟨x, none, none, none, none, none, rfl, by rw [Nat.pow_zero, Nat.one_mul]; exact Nat.le_refl _, hlo, B0, O0.kept⟩ ?_ ?_
    · rintro i σ H1 hi ⟨f, x3, x4, x5, x6, x7, rfl, hf, hfl, B1, K1⟩
      have hf4 : f.length + 1 ≤ 4 * (x.length + 1) := Nat.le_trans hf (Nat.mul_le_mul_right _ (Nat.pow_le_pow_right (by decide) (by omega : i ≤ 2)))
      have hfs : f.length ≤ sizeLine := by omega
      refine ⟨_, rfl, b, 4, k + 1 + 4 * i, rfl, B1, by omega, by decide, by decide, fun way H2 w0 w1 B2 O2 => ?_⟩
      refine ⟨rfl, fun p1 hp1 hp1' lo1 => ⟨rfl, fun p2 hp2 hp2' lo2 => ⟨p2, _, rfl, rfl, ?_, ?_⟩⟩⟩
      · show p2.length + 1 ≤ _
        omega
      refine ⟨(show 3 ≤ sizeLine by decide), fun l hl => ⟨_, rfl, b, 3, k + 1 + 4 * i + 1, rfl, B2.same (Same.upd hl), by omega, by decide, by decide, fun r2 H3 r20 r21 B3 O3 => ?_⟩⟩
      refine ix_any (fun v => ∃ z : Str, v = .str z ∧ 0 < z.length ∧ z.length ≤ 95 ∧ Lo z) ((O3 l (B2.ne hl)).trans upd_same) r20 r21 ?_ fun v hv => ?_
      · have hn : (Str.ofString "\n").length = 1 := by decide +kernel
        intro y hy
        simp only [List.mem_cons, List.not_mem_nil, or_false] at hy
        rcases hy with rfl | rfl | rfl
        · exact ⟨_, rfl, hp1', by omega, lo1⟩
        · exact ⟨_, rfl, by decide +kernel, by decide +kernel, by unfold Lo; decide +kernel⟩
        · exact ⟨_, rfl, by rw [len_app]; omega, by rw [len_app]; omega, lo2.app (by unfold Lo; decide +kernel)⟩
      obtain ⟨z, rfl, z0, z1, zl⟩ := hv
      have K3 : Kept b H H3 := ((K1.trans O2.kept).trans (Same.upd hl).kept).trans O3.kept
      refine ⟨_, rfl, _, rfl, _, rfl, z, rfl, by omega, b, z.length, k + 1 + 4 * i + 2, rfl, B3, by omega, by omega, by omega, fun r4 H4 r40 r41 B4 O4 => ?_⟩
      obtain ⟨c, hc, hcl⟩ := sign_lo zl r40 r41
      refine ⟨z, r4, c, rfl, rfl, by omega, hc, ?_⟩
      refine ⟨_, rfl, _, rfl, f, rfl, hfs, f.length, 1, rfl, rfl, b, f.length + 1, k + 1 + 4 * i + 3, rfl, B4, by omega, by omega, by omega, fun at_ H5 a0 a1 B5 O5 => ?_⟩
      have K5 : Kept b H H5 := (K3.trans O4.kept).trans O5.kept
      refine ⟨_, rfl, _, rfl, at_, rfl, f, rfl, hfs, _, rfl, _, rfl, _, rfl, (show 4 ≤ sizeLine by decide), fun l6 hl6 => ⟨_, rfl, ?_⟩⟩
      refine ix_any (fun v => ∃ z : Str, v = .str z ∧ z.length ≤ 1 ∧ Lo z) upd_same w0 w1 ?_ fun v hv => ?_
      · intro y hy
        simp only [List.mem_cons, List.not_mem_nil, or_false] at hy
        rcases hy with rfl | rfl | rfl | rfl
        · exact ⟨_, rfl, by decide +kernel, by unfold Lo; decide +kernel⟩
        · exact ⟨_, rfl, Nat.le_refl 1, Lo.one hcl⟩
        · exact ⟨_, rfl, Nat.le_refl 1, Lo.one hcl⟩
        · exact ⟨_, rfl, Nat.le_refl 1, Lo.one hcl⟩
      obtain ⟨y, rfl, y1, yl⟩ := hv
      have g1 := Txt.slice_le f none (some at_)
      refine ⟨_, _, rfl, rfl, by omega, _, rfl, _, rfl, (show 4 ≤ sizeLine by decide), fun l7 hl7 => ⟨_, rfl, ?_⟩⟩
      refine ix_any (fun v => ∃ i : Int, v = .int i ∧ 0 ≤ i ∧ i ≤ 1) upd_same w0 w1 ?_ fun v hv => ?_
      · intro y hy
        simp only [List.mem_cons, List.not_mem_nil, or_false] at hy
        rcases hy with rfl | rfl | rfl | rfl <;> exact ⟨_, rfl, by decide, by decide⟩
      obtain ⟨m, rfl, m0, m1⟩ := hv
      have g2 := Txt.slice_le f (some (at_ + m)) none
      refine ⟨at_, m, rfl, rfl, _, rfl, f, rfl, hfs, _, _, rfl, rfl, ?_, ?_⟩
      · rw [len_app]
        omega
      · refine ⟨_, _, _, _, _, _, rfl, ?_, (((hfl.slice _ _).app yl).app (hfl.slice _ _)), ((B5.same (Same.upd hl6)).same (Same.upd hl7)).mono (by omega), (K5.trans (Same.upd hl6).kept).trans (Same.upd hl7).kept⟩
        rw [len_app, len_app, Nat.pow_succ, Nat.mul_comm (2 ^ i) 2, Nat.mul_assoc]
        omega
    · rintro σ H1 ⟨f, x3, x4, x5, x6, x7, rfl, hf, hfl, B1, K1⟩
      have hf4 : f.length + 1 ≤ 4 * (x.length + 1) := Nat.le_trans hf (Nat.mul_le_mul_right _ (Nat.pow_le_pow_right (by decide) (by omega : (1 + r).toNat ≤ 2)))
      exact ⟨_, rfl, q f H1 (B1.mono (by omega)) K1 (by omega) hfl⟩
end
end My

namespace My
open PySem L2 PyProof.Rows PySem.SeqAt
theorem slice_one (x : Str) : (Txt.slice x none (some 1)).cps.toList = x.cps.toList.take 1 := by
  have hl : x.cps.toList.length = x.length := rfl
  by_cases h : 1 ≤ x.length
  · rw [beq_iff_eq.mp (slice_closes_toL (x := x) (j := 1) (by decide) (by omega))]
    rfl
  · have h0 := Txt.slice_le x none (some 1)
    have hl2 : (Txt.slice x none (some 1)).cps.toList.length = (Txt.slice x none (some 1)).length := rfl
    rw [List.eq_nil_of_length_eq_zero (show (Txt.slice x none (some 1)).cps.toList.length = 0 by omega), List.eq_nil_of_length_eq_zero (show x.cps.toList.length = 0 by omega)]
    rfl
theorem slice_all (x : Str) : (Txt.slice x (some 0) none).cps.toList = x.cps.toList := by
  rw [slice_from_eq (x := x) (i := 0) (b := x.length) (by decide) (by omega) rfl]
  show (x.cps.toList.drop 0).take _ = _
  rw [List.drop_zero, List.take_of_length_le]
  have : x.cps.toList.length = x.length := rfl
  omega
theorem dash (x : Str) : decide (V.str (Txt.slice x none (some 1)) = V.str (Str.ofString "-")) = decide (x.cps.toList.head? = some 45) := by
  rw [Bool.eq_iff_iff, decide_eq_true_iff, decide_eq_true_iff]
  have e := slice_one x
  constructor
  · intro h
    injection h with h
    rw [h] at e
    have e : ([45] : List Nat) = x.cps.toList.take 1 := e
    cases hx : x.cps.toList with
    | nil => rw [hx] at e; cases e
    | cons a r => rw [hx] at e; cases e; rfl
  · intro h
    have : (Txt.slice x none (some 1)).cps.toList = (Str.ofString "-").cps.toList := by
      rw [e, head_of h]
      rfl
    rw [str_ext this]
/-- the figures of a text -/
def figs (l : List Nat) : List Nat := if l.head? = some 45 then l.drop 1 else l
theorem figs_eq (x : Str) : (Txt.slice x (some (if decide (x.cps.toList.head? = some 45) = true then (1 : Int) else 0)) none).cps.toList = figs x.cps.toList := by
  unfold figs
  by_cases h : x.cps.toList.head? = some 45
  · rw [if_pos (decide_eq_true h), if_pos h]
    exact slice_tail x
  · rw [if_neg (fun z => h (of_decide_eq_true z)), if_neg h]
    exact slice_all x
theorem whole_figs (l : List Nat) : wholeL l = (decide (1 ≤ (figs l).length) && decide ((figs l).length ≤ 40) && (figs l).all figB && !(decide ((figs l).head? = some 48) && decide (l ≠ [48]))) := by
  unfold wholeL figs countL
  by_cases h : l.head? = some 45
  · rw [if_pos h, if_pos h]
    have e := head_of h
    have n1 : l ≠ [48] := fun z => by rw [z] at h; cases h
    rw [decide_eq_true n1, Bool.and_true]
    by_cases h2 : (l.drop 1).head? = some 48
    · rw [decide_eq_true h2]
      by_cases h3 : l.drop 1 = [48]
      · rw [decide_eq_false (fun z => z (by rw [e, h3])), Bool.false_and]
        simp
      · rw [decide_eq_true h3]
        simp
    · rw [decide_eq_false h2, decide_eq_true (show l ≠ [45, 48] from fun z => h2 (by rw [z]; rfl))]
      simp
  · rw [if_neg h, if_neg h]
    cases decide (1 ≤ l.length) <;> cases decide (l.length ≤ 40) <;> cases l.all figB <;> cases (decide (l.head? = some 48) && decide (l ≠ [48])) <;> rfl
def readV (x : Str) : List V := if wholeT x = true then [V.int (wholeVal x.cps.toList)] else []
theorem lt_one (a b : Nat) : decide (([a] : List Nat) < [b]) = decide (a < b) := by
  rw [Bool.eq_iff_iff, decide_eq_true_iff, decide_eq_true_iff, List.cons_lt_cons_iff]
  constructor
  · rintro (h | ⟨_, h⟩)
    · exact h
    · exact absurd h (List.not_lt_nil _)
  · exact fun h => .inl h
/-! one sign each -/
def oneV (c : Nat) : V := .str ⟨#[c]⟩
def oneD (c : Nat) : PyData := .str ⟨#[c]⟩
theorem ones_dat (H : Hp) : ∀ cs : List Nat, DatAll H (cs.map oneV) (cs.map oneD)
  | [] => .nil
  | c :: r => .cons (.str _) (ones_dat H r)
theorem ones_lay : ∀ {cs : List Nat}, (∀ c ∈ cs, c < 1000) → PyData.canLayAll0 (cs.map oneD) = true
  | [], _ => by simp [PyData.canLayAll0]
  | c :: r, h => by
    have ih := ones_lay (cs := r) fun d hd => h d (List.mem_cons_of_mem _ hd)
    have hc := h c List.mem_cons_self
    simp only [List.map_cons, PyData.canLayAll0, oneD, PyData.canLay0]
    rw [Bool.and_eq_true]
    refine ⟨?_, ih⟩
    have : PyData.strOk ⟨#[c]⟩ = decide (c < 0x110000) := by simp [PyData.strOk]
    rw [this]
    exact decide_eq_true (by omega)
theorem ones_depth : ∀ cs : List Nat, PyData.depthAll (cs.map oneD) = 0
  | [] => by simp [PyData.depthAll]
  | c :: r => by
    have ih := ones_depth r
    simp only [List.map_cons, PyData.depthAll, oneD, PyData.depth] at ih ⊢
    omega
theorem ones_shaped {cs : List Nat} (h : ∀ c ∈ cs, c < 1000) : shaped (.list (cs.map oneD)) = true := by
  show (PyData.canLay0 (.list (cs.map oneD)) && decide (PyData.depth (.list (cs.map oneD)) ≤ 64)) = true
  rw [Bool.and_eq_true]
  refine ⟨?_, decide_eq_true ?_⟩
  · simp only [PyData.canLay0]
    exact ones_lay h
  · simp only [PyData.depth, ones_depth]
    decide
theorem none_mix (ds : List PyData) : noMix (.list ds) (.list []) = true := by
  simp only [noMix]
  cases ds <;> simp only [noMixAll]
theorem none_same (ds : List PyData) : PySem.Spec.same (.list ds) (.list []) = ds.isEmpty := by
  simp only [PySem.Spec.same]
  cases ds <;> simp [PySem.Spec.sameAll]
theorem nil_shaped : shaped (.list []) = true := by decide +kernel
section
variable {P : Program} {w : World} {K : PySem.W.Frag} {mg : Str → Option Value} {base : Heap} {A : Adr}
def spRead : Sp := fun vs H Q _ => ∃ x : Str, vs = [.str x] ∧ x.length ≤ 100000 ∧ Lo x ∧ ∀ l H', H l = none → Same H H' → H' l = some (.lst (readV x)) → Q (.ref l) H'
theorem ok__law_read (T : Txt K mg A) : FnOk P w K mg base CX0 1 A.a__law_read A.d__law_read ["_law_text_here"] spRead := by
  refine T.F__law_read.ok sc__law_read (fun vs H Q E h => ?_) (fun cdv Ar outer s H vs Q E hr h => ?_)
  · obtain ⟨x, rfl, _⟩ := h
    rfl
  · obtain ⟨x, rfl, hx, hlo, q⟩ := h
    have hL : sizeLine = 16777216 := rfl
    have hu1 : _ + 100 < cLine := Nat.lt_of_le_of_lt (Nat.add_le_add_left (by decide : 100 ≤ 200) _) (by have := hr.un; omega)
    refine ⟨_, (pss_cons (ps_set (i := 1) sc__law_read.nd rfl (Or.inl rfl) (pe_slice sl_str (pv 0) (po_some (pe_callTy call_int1 (by rfl) T.z_int Boot.«int» (pa_cons (pe_cmpR op_eq (pe_slice sl_str (pv 0) po_none (po_some pe_int)) pe_str (nomark _)) pa_nil))) po_none)) (pss_cons (ps_if (PW.pt (pw_or (pt_not (pt_chain op_le op_le pe_int (pe_callB call_len_str (by rfl) T.z_len Boot.«len» (pa_cons (pv 1) pa_nil)) pe_int)) (pw_or1 (pt_cmpR (op_ne_dat hu1) (pe_comp (N := ["_law_sign"]) (k := 1) (js := []) rfl (cscope_of (by kernel_rfl)) (pi_str (pv 1) rfl) (fun _ _ _ _ _ => ⟨(pg_name (i := 0) (show (["_law_sign"] : List Str).Nodup by decide +kernel) rfl (Or.inl rfl) (Or.inr rfl)), (pif1 (pt_not (pt_chain op_le_str op_le_str pe_str (pv 0) pe_str))), (pv 0)⟩)) (pe_lst pa_nil) (nomark _))))) (pss_one (ps_ret (pe_lst pa_nil))) pss_nil) (pss_cons (ps_if (PW.pt (pw_and (pt_cmpR op_eq (pe_ix ix_str (pv 1) pe_int (fun _ _ => rfl)) pe_str (nomark _)) (pw_and1 (pt_cmpR op_ne (pv 0) pe_str (nomark _))))) (pss_one (ps_ret (pe_lst pa_nil))) pss_nil) (pss_one (ps_ret (pe_lst (pa_cons (pe_callTy call_int_text (by rfl) T.z_int Boot.«int» (pa_cons (pv 0) pa_nil)) pa_nil))))))), ?_⟩
    refine ⟨_, rfl, _, rfl, 1, rfl, x, rfl, by omega, rfl, .inr ⟨_, rfl, _, rfl, x, rfl, by omega, ?_⟩⟩
    rw [dash]
    have ef := figs_eq x
    have fl := hlo.slice (some (if decide (x.cps.toList.head? = some 45) = true then (1 : Int) else 0)) none
    have fle := Txt.slice_le x (some (if decide (x.cps.toList.head? = some 45) = true then (1 : Int) else 0)) none
    generalize Txt.slice x (some (if decide (x.cps.toList.head? = some 45) = true then (1 : Int) else 0)) none = f at ef fl fle
    have hfl : f.cps.toList.length = f.length := rfl
    have hw : wholeT x = (decide (1 ≤ f.length) && decide (f.length ≤ 40) && f.cps.toList.all figB && !(decide (f.cps.toList.head? = some 48) && decide (x.cps.toList ≠ [48]))) := by
      rw [wholeT_eq, whole_figs, ← ef]
      rfl
    have q0 : wholeT x = false → ∀ l H', H l = none → Same H H' → H' l = some (.lst []) → Q (.ref l) H' := fun hf l H' h1 h2 h3 => q l H' h1 h2 (by rw [h3]; unfold readV; rw [if_neg (by rw [hf]; decide)])
    refine ⟨_, rfl, f, rfl, by omega, 1, f.length, rfl, rfl, _, rfl, ?_⟩
    by_cases h1 : (1 : Int) ≤ (f.length : Int)
    · rw [decide_eq_true h1]
      refine iteT ⟨f.length, 40, rfl, rfl, _, rfl, ?_⟩
      by_cases h2 : (f.length : Int) ≤ 40
      · rw [decide_eq_true h2]
        rw [decide_eq_true (show 1 ≤ f.length by omega), decide_eq_true (show f.length ≤ 40 by omega), Bool.true_and, Bool.true_and] at hw
        refine iteF ⟨_, rfl, f, rfl, ?_⟩
        refine comp_pure (fun v => match v with | .str z => !figB (z.cps.getD 0 0) | _ => false) id (feeds_str f H) ?_ ?_ fun p hp => ?_
        · simp only [List.length_map]
          omega
        · intro i y H' C1 C0 hy sm c1 c0
          rw [List.getElem?_map] at hy
          cases ec : f.cps.toList[i]? with
          | none => rw [ec] at hy; cases hy
          | some c =>
            rw [ec] at hy
            cases hy
            refine ⟨(SubS.refl _).own (by decide), ?_⟩
            have c1 : (!figB c) = true → C1 (oneV c) H' := c1
            have c0 : (!figB c) = false → C0 H' := c0
            unfold figB at c1 c0
            refine ⟨_, rfl, _, _, rfl, rfl, _, rfl, ?_⟩
            rw [show decide ((⟨#[c]⟩ : Str).cps.toList < (Str.ofString "0").cps.toList) = _ from lt_one c 48]
            by_cases g1 : 48 ≤ c
            · rw [decide_eq_false (show ¬ c < 48 by omega)]
              rw [decide_eq_true g1] at c1 c0
              refine iteT ⟨_, _, rfl, rfl, _, rfl, ?_⟩
              rw [show decide ((Str.ofString "9").cps.toList < (⟨#[c]⟩ : Str).cps.toList) = _ from lt_one 57 c]
              by_cases g2 : c ≤ 57
              · rw [decide_eq_false (show ¬ 57 < c by omega)]
                rw [decide_eq_true g2] at c0
                exact iteF (c0 rfl)
              · rw [decide_eq_true (show 57 < c by omega)]
                rw [decide_eq_false g2] at c1
                exact iteT ⟨_, rfl, c1 rfl⟩
            · rw [decide_eq_true (show c < 48 by omega)]
              rw [decide_eq_false g1] at c1
              exact iteF ⟨_, rfl, iteT ⟨_, rfl, c1 rfl⟩⟩
        · have eb : ((f.cps.toList.map fun c => V.str ⟨#[c]⟩).filter (fun v => match v with | .str z => !figB (z.cps.getD 0 0) | _ => false)).map id = (f.cps.toList.filter fun c => !figB c).map oneV := by
            rw [List.filter_map, List.map_id]
            rfl
          rw [eb]
          have hb : ∀ c ∈ f.cps.toList.filter fun c => !figB c, c < 1000 := fun c hc => fl c (List.mem_filter.mp hc).1
          have hall : (f.cps.toList.filter fun c => !figB c).isEmpty = f.cps.toList.all figB := by
            rw [Bool.eq_iff_iff, List.isEmpty_iff, List.filter_eq_nil_iff, List.all_eq_true]
            simp
          generalize f.cps.toList.filter (fun c => !figB c) = bad at hb hall
          have sp := Same.upd (o := .lst (bad.map oneV)) hp
          refine ⟨(show 0 ≤ sizeLine by decide), fun p2 hp2 => ?_⟩
          have sp2 := Same.upd (o := .lst []) hp2
          refine ⟨_, _, .lst (sp2 _ _ upd_same) (ones_dat _ _), .lst upd_same .nil, ones_shaped hb, nil_shaped, none_mix _, _, rfl, ?_⟩
          rw [none_same, List.isEmpty_map, hall]
          have s2 := sp.trans sp2
          cases ha : f.cps.toList.all figB with
          | false =>
            rw [ha, Bool.false_and] at hw
            exact iteT ⟨(show 0 ≤ sizeLine by decide), fun l hl => q0 hw l _ (none_back s2 hl) (s2.trans (Same.upd hl)) upd_same⟩
          | true =>
            rw [ha, Bool.true_and] at hw
            refine iteF ?_
            have h1' : 0 < f.cps.toList.length := by omega
            refine ⟨_, rfl, f, 0, f.cps.toList[0], rfl, rfl, by omega, atI_nat (j := 0) (by simp [h1']), rfl, _, rfl, ?_⟩
            have hd : f.cps.toList.head? = some f.cps.toList[0] := by rw [List.head?_eq_getElem?, List.getElem?_eq_getElem h1']
            rw [hd] at hw
            generalize f.cps.toList[0] = c at hw
            have hw2 : wholeT x = !(decide (c = 48) && decide (x ≠ "0")) := by
              rw [hw, eq_cps x (Str.ofString "0") [48] (by decide +kernel)]
              congr 2
              rw [Bool.eq_iff_iff, decide_eq_true_iff, decide_eq_true_iff]
              exact ⟨fun z => by injection z, fun z => by rw [z]⟩
            have gd : wholeT x = true → ∀ H', Same H H' → tRet (tLst (tCons (tCB (fun xs H Q => ∃ x n, xs = [V.str x] ∧ PySem.intText? x = some n ∧ x.length ≤ 640 ∧ Q (.int n) H) (tCons (tVar 0) tNil)) tNil)) { nx := fun x H' => Q V.non H', rt := Q } [some (V.str x), some (V.str f)] H' := fun ht H' sH => by
              have := whole_len ht
              refine ⟨_, rfl, x, _, rfl, whole_reads (x := x) (by rw [← wholeT_eq]; exact ht), by omega, (show 1 ≤ sizeLine by decide), fun l hl => q l _ (none_back sH hl) (sH.trans (Same.upd hl)) ?_⟩
              rw [upd_same]
              unfold readV
              rw [if_pos ht]
            by_cases hc : c = 48
            · subst hc
              rw [decide_eq_true (show V.str ⟨#[48]⟩ = V.str (Str.ofString "0") from rfl)]
              rw [decide_eq_true rfl, Bool.true_and] at hw2
              refine iteT ⟨_, rfl, rfl, _, rfl, ?_⟩
              by_cases h0 : x = "0"
              · rw [decide_eq_true (show V.str x = V.str (Str.ofString "0") from congrArg V.str h0)]
                rw [decide_eq_false (fun z => z h0)] at hw2
                exact iteF (gd hw2 _ s2)
              · rw [decide_eq_false (show ¬ V.str x = V.str (Str.ofString "0") from fun z => h0 (by injection z))]
                rw [decide_eq_true h0] at hw2
                exact iteT ⟨(show 0 ≤ sizeLine by decide), fun l hl => q0 hw2 l _ (none_back s2 hl) (s2.trans (Same.upd hl)) upd_same⟩
            · rw [decide_eq_false (show ¬ V.str ⟨#[c]⟩ = V.str (Str.ofString "0") from fun z => hc (by injection z with z; have z : (⟨#[c]⟩ : Str) = ⟨#[48]⟩ := z; injection z with z; injection z with z; injection z))]
              rw [decide_eq_false hc, Bool.false_and] at hw2
              exact iteF (iteF (gd hw2 _ s2))
      · rw [decide_eq_false h2]
        rw [decide_eq_false (show ¬ f.length ≤ 40 by omega), Bool.and_false, Bool.false_and, Bool.false_and] at hw
        exact iteT (iteT ⟨(show 0 ≤ sizeLine by decide), fun l hl => q0 hw l _ hl (Same.upd hl) upd_same⟩)
    · rw [decide_eq_false h1]
      rw [decide_eq_false (show ¬ 1 ≤ f.length by omega), Bool.false_and, Bool.false_and, Bool.false_and] at hw
      exact iteF ⟨_, rfl, iteT (iteT ⟨(show 0 ≤ sizeLine by decide), fun l hl => q0 hw l _ hl (Same.upd hl) upd_same⟩)⟩
end
end My

namespace My
open PySem L2 PyProof.Rows PySem.SeqAt
theorem not_colon {x : Str} (h : wholeT x = true) : 58 ∉ x.cps.toList := by
  rw [wholeT_eq] at h
  intro hm
  rcases wholeL_is h with ⟨_, h⟩ | ⟨e, _, h⟩
  · have := (countL_is h).2.2.2 58 hm
    omega
  · rw [e] at hm
    rcases List.mem_cons.mp hm with z | z
    · cases z
    · have := (countL_is h).2.2.2 58 z
      omega
theorem colon : (Str.ofString ":").cps.toList = [58] := by decide +kernel
theorem split_whole {x : Str} (h : wholeT x = true) : (Txt.split x ":").length = 1 := by
  have hj := PySem.StrLaws.join_split x ":"
  have h58 := not_colon h
  cases hs : Txt.split x ":" with
  | nil =>
    rw [hs] at hj
    have hx : x = Str.empty := hj.symm
    rw [hx] at h
    exact absurd h (by decide +kernel)
  | cons a r =>
    cases r with
    | nil => rfl
    | cons b r =>
      refine absurd ?_ h58
      rw [← hj, hs]
      refine (mem_join _ _ _).mpr (.inr ⟨by simp, ?_⟩)
      show 58 ∈ (Str.ofString ":").cps.toList
      rw [colon]
      exact List.mem_singleton.mpr rfl
theorem split_len (x : Str) : (Txt.split x ":").length ≤ x.length + 2 := by
  unfold Txt.split
  split
  · show 1 ≤ _
    omega
  · split
    · show 1 ≤ _
      omega
    · rw [PySem.length_partsBetween]
      have := PySem.StrLaws.occ_length_le x ":" 0 x.length (x.length + 1)
      omega
theorem split_one {x y : Str} (h : Txt.split x ":" = [y]) : y = x := by
  have hj := PySem.StrLaws.join_split x ":"
  rw [h] at hj
  exact hj
theorem split_two {x y z : Str} (h : Txt.split x ":" = [y, z]) : x = y ++ Str.ofString ":" ++ z := by
  have hj := PySem.StrLaws.join_split x ":"
  rw [h] at hj
  exact hj.symm
theorem count_nodash {y : Str} (h : countT y = true) : 45 ∉ y.cps.toList := by
  rw [countT_eq] at h
  intro hm
  have := (countL_is h).2.2.2 45 hm
  omega
theorem count_is_whole {y : Str} (h : 45 ∉ y.cps.toList) : wholeT y = countT y := by
  rw [wholeT_eq, countT_eq]
  unfold wholeL
  rw [if_neg]
  intro e
  rw [head_of e] at h
  exact h List.mem_cons_self
theorem dash_two {x y z : Str} (h : x = y ++ Str.ofString ":" ++ z) : 45 ∈ x.cps.toList ↔ 45 ∈ y.cps.toList ∨ 45 ∈ z.cps.toList := by
  subst h
  rw [mem_cps_append, mem_cps_append]
  have : (45 : Nat) ∉ (Str.ofString ":").cps.toList := by rw [colon]; decide
  constructor
  · rintro ((h | h) | h)
    · exact .inl h
    · exact absurd h this
    · exact .inr h
  · rintro (h | h)
    · exact .inl (.inl h)
    · exact .inr h
theorem two_agree {x y z : Str} (h : x = y ++ Str.ofString ":" ++ z) : (countT y = true ∧ countT z = true) ↔ (wholeT y = true ∧ wholeT z = true ∧ 45 ∉ x.cps.toList) := by
  rw [dash_two h]
  constructor
  · rintro ⟨h1, h2⟩
    have d1 := count_nodash h1
    have d2 := count_nodash h2
    exact ⟨(count_is_whole d1).trans h1, (count_is_whole d2).trans h2, fun z => z.elim d1 d2⟩
  · rintro ⟨h1, h2, h3⟩
    exact ⟨(count_is_whole fun z => h3 (.inl z)).symm.trans h1, (count_is_whole fun z => h3 (.inr z)).symm.trans h2⟩
def tagOf : Option Vl → Str
  | some _ => "value"
  | none => "none"
def ResAt (H : Hp) (v u : V) : Option Vl → Prop
  | some r => ValAt H u r
  | none => u = v
def rOf : V → Option Vl
  | .str x => valT x
  | _ => none
/-- a comprehension whose element gives a new list -/
theorem comp_lists {J : It} {xs : List V} {k : Nat} {js : List Nat} {g : TG} {te : TE} {σ : L2.St} {H : Hp} {Q : VK} (f : Nat → List V) (F : Feeds J H xs) (hlen : xs.length ≤ sizeLine)
    (hbody : ∀ (i : Nat) (x : V) (H' : Hp) (C1 : V → Hp → Prop), xs[i]? = some x → Same H H' → (∀ l H'', H' l = none → Same H' H'' → H'' l = some (.lst (f i)) → C1 (.ref l) H'') →
      g x (cσ k js σ) H' fun σ2 H2 => SubS (cσ k js σ) σ2 ∧ te σ2 H2 C1)
    (hq : ∀ (p : Addr) (H' : Hp) (ls : List Addr), H p = none → Same H H' → H' p = some (.lst (ls.map V.ref)) → ls.length = xs.length → (∀ i l, ls[i]? = some l → H l = none ∧ H' l = some (.lst (f i))) → Q (.ref p) H') :
    CompGoal J k js g tYes te σ H Q := by
  intro p hp
  refine ⟨fun i m ys H' => m = xs.length - i ∧ i ≤ xs.length ∧ ∃ ls : List Addr, ys = ls.map V.ref ∧ ls.length = i ∧ H' p = some (.lst ys) ∧ Same H H' ∧ ∀ j l, ls[j]? = some l → l ≠ p ∧ H l = none ∧ H' l = some (.lst (f j)),
    ⟨xs.length, rfl, Nat.zero_le _, [], rfl, rfl, upd_same, Same.upd hp, fun j l e => by simp at e⟩, ?_⟩
  rintro i m ys H' ⟨rfl, hi, ls, rfl, hyl, hl, hs, hE⟩
  refine ⟨hl, ?_⟩
  by_cases hlt : i < xs.length
  · refine .inr ⟨F.go i _ hs hlt, by rw [List.length_map]; omega, fun x H'' hy => ?_⟩
    obtain ⟨rfl, hx⟩ := F.yld i _ x H'' hs hy
    have hx := hx hlt
    refine hbody i x _ _ hx hs fun l H4 hn s4 h4 => ?_
    have hp4 : H4 p = some (.lst (ls.map V.ref)) := s4 _ _ hl
    have hlp : l ≠ p := fun z => by rw [z, hl] at hn; cases hn
    refine ⟨hp4, xs.length - (i + 1), by omega, rfl, hlt, ls ++ [l], by simp, by simp [hyl], upd_same, fun c o e => ?_, fun j l' e => ?_⟩
    · rw [upd_ne (ne_of_none e hp)]
      exact s4 _ _ (hs _ _ e)
    · by_cases hj : j < ls.length
      · rw [List.getElem?_append_left hj] at e
        obtain ⟨n1, n2, n3⟩ := hE j l' e
        refine ⟨n1, n2, ?_⟩
        rw [upd_ne n1]
        exact s4 _ _ n3
      · have hj' : j = ls.length := by
          have := (List.getElem?_eq_some_iff.mp e).1
          rw [List.length_append, List.length_singleton] at this
          omega
        subst hj'
        rw [List.getElem?_append_right (Nat.le_refl _), Nat.sub_self] at e
        cases e
        refine ⟨hlp, none_back hs hn, ?_⟩
        rw [upd_ne hlp, h4, hyl]
  · have e : i = xs.length := by omega
    subst e
    exact .inl ⟨F.stop _ _ hs (Nat.le_refl _), hq p H' ls hp hs hl hyl fun j l e => ⟨(hE j l e).2.1, (hE j l e).2.2⟩⟩
def readD (x : Str) : List PyData := if wholeT x = true then [.int (wholeVal x.cps.toList)] else []
theorem read_dat (H : Hp) (x : Str) : DatAll H (readV x) (readD x) := by
  unfold readV readD
  split
  · exact .cons (.int _) .nil
  · exact .nil
theorem read_shaped (x : Str) : shaped (.list (readD x)) = true := by
  unfold readD
  split
  · show (PyData.canLay0 _ && decide (PyData.depth _ ≤ 64)) = true
    simp [PyData.canLay0, PyData.canLayAll0, PyData.depth, PyData.depthAll]
  · exact nil_shaped
theorem read_em (x : Str) : (readD x).isEmpty = !wholeT x := by
  unfold readD
  cases h : wholeT x
  · rfl
  · rfl
section
variable {P : Program} {w : World} {K : PySem.W.Frag} {mg : Str → Option Value} {base : Heap} {A : Adr}
def spDue : Sp := fun vs H Q _ => ∃ v, vs = [v] ∧ Plain H v ∧ (∀ x, v = .str x → Lo x) ∧ ∀ t u H', H t = none → Same H H' → H' t = some (.tup [.str (tagOf (rOf v)), u]) → ResAt H' v u (rOf v) → Q (.ref t) H'
theorem ok__law_due (T : Txt K mg A) : FnOk P w K mg base CX0 2 A.a__law_due A.d__law_due ["_law_thing"] spDue := by
  have G__law_read : FnOk P w K mg base CX0 1 A.a__law_read A.d__law_read ["_law_text_here"] spRead := ok__law_read T
  refine T.F__law_due.ok sc__law_due (fun vs H Q E h => ?_) (fun cdv Ar outer s H vs Q E hr h => ?_)
  · obtain ⟨v, rfl, _⟩ := h
    rfl
  · obtain ⟨v, rfl, p, lo, k⟩ := h
    have hL : sizeLine = 16777216 := rfl
    have h2L : (2 : Nat) ≤ sizeLine := by decide
    have hu1 : _ + 100 < cLine := Nat.lt_of_le_of_lt (Nat.add_le_add_left (by decide : 100 ≤ 16 * 1 + 200) _) (by have := hr.un; omega)
    refine ⟨_, (pss_cons (ps_if (pt_not (pt_val (pe_callB call_isinst (by rfl) T.z_isinstance Boot.«isinstance» (pa_cons (pv 0) (pa_cons (pe_bltn (v := .ty "str") rfl T.z_str Boot.«str» rfl) pa_nil))))) (pss_one (ps_ret (pe_tup (pa_cons pe_str (pa_cons (pv 0) pa_nil))))) pss_nil) (pss_cons (ps_if (pt_cmpR op_eq (pv 0) pe_str (nomark _)) (pss_one (ps_ret (pe_tup (pa_cons pe_str (pa_cons pe_non pa_nil))))) pss_nil) (pss_cons (ps_setC (i := 1) sc__law_due.nd rfl (Or.inl rfl) (N := ["_law_part"]) (k := 1) (js := []) rfl (cscope_of (by kernel_rfl)) (pi_list (pe_bm PySem.F.plainAttrs_str PySem.F.slot_str_split PySem.F.type_str_split mt_split (pv 0) (pa_cons pe_str pa_nil))) (fun _ _ _ _ _ => ⟨(pg_name (i := 0) (show (["_law_part"] : List Str).Nodup by decide +kernel) rfl (Or.inl rfl) (Or.inr rfl)), pif0, (pe_call G__law_read hr rfl T.m__law_read T.F__law_read.kp T.b__law_read .nil pass0 (pa_cons (pv 0) pa_nil))⟩)) (pss_cons (ps_if (PW.pt (pw_and (pt_cmpR op_eq (pe_callB call_len_seq (by rfl) T.z_len Boot.«len» (pa_cons (pv 1) pa_nil)) pe_int (nomark _)) (pw_and1 (pt_cmpR (op_ne_dat hu1) (pe_ix ix_list (pv 1) pe_int (fun _ _ => rfl)) (pe_lst pa_nil) (nomark _))))) (pss_one (ps_ret (pe_tup (pa_cons pe_str (pa_cons (pe_ix ix_list (pe_ix ix_list (pv 1) pe_int (fun _ _ => rfl)) pe_int (fun _ _ => rfl)) pa_nil))))) pss_nil) (pss_cons (ps_if (PW.pt (pw_and (pt_cmpR op_eq (pe_callB call_len_seq (by rfl) T.z_len Boot.«len» (pa_cons (pv 1) pa_nil)) pe_int (nomark _)) (pw_and (pt_cmpR (op_notIn_ll hu1) (pe_lst pa_nil) (pv 1) (by with_unfolding_all rfl)) (pw_and1 (pt_cmpR op_notIn_str pe_str (pv 0) (by with_unfolding_all rfl)))))) (pss_one (ps_ret (pe_tup (pa_cons pe_str (pa_cons (pe_tup (pa_cons (pe_ix ix_list (pe_ix ix_list (pv 1) pe_int (fun _ _ => rfl)) pe_int (fun _ _ => rfl)) (pa_cons (pe_ix ix_list (pe_ix ix_list (pv 1) pe_int (fun _ _ => rfl)) pe_int (fun _ _ => rfl)) pa_nil))) pa_nil))))) pss_nil) (pss_one (ps_ret (pe_tup (pa_cons pe_str (pa_cons (pv 0) pa_nil)))))))))), ?_⟩
    cases p with
    | non => exact ⟨_, rfl, _, _, _, _, rfl, .non, rfl, _, rfl, iteT ⟨_, rfl, h2L, fun t ht => k t _ _ ht (Same.upd ht) upd_same rfl⟩⟩
    | bl b => exact ⟨_, rfl, _, _, _, _, rfl, .bl b, rfl, _, rfl, iteT ⟨_, rfl, h2L, fun t ht => k t _ _ ht (Same.upd ht) upd_same rfl⟩⟩
    | int i => exact ⟨_, rfl, _, _, _, _, rfl, .int i, rfl, _, rfl, iteT ⟨_, rfl, h2L, fun t ht => k t _ _ ht (Same.upd ht) upd_same rfl⟩⟩
    | lst e => exact ⟨_, rfl, _, _, _, _, rfl, .lst e, rfl, _, rfl, iteT ⟨_, rfl, h2L, fun t ht => k t _ _ ht (Same.upd ht) upd_same rfl⟩⟩
    | tup e => exact ⟨_, rfl, _, _, _, _, rfl, .tup e, rfl, _, rfl, iteT ⟨_, rfl, h2L, fun t ht => k t _ _ ht (Same.upd ht) upd_same rfl⟩⟩
    | dK e => exact ⟨_, rfl, _, _, _, _, rfl, .dK e, rfl, _, rfl, iteT ⟨_, rfl, h2L, fun t ht => k t _ _ ht (Same.upd ht) upd_same rfl⟩⟩
    | str x hx =>
      have lo := lo x rfl
      have k : ∀ t u H', H t = none → Same H H' → H' t = some (.tup [.str (tagOf (valT x)), u]) → ResAt H' (.str x) u (valT x) → Q (.ref t) H' := k
      refine ⟨_, rfl, _, _, _, _, rfl, .str x, rfl, _, rfl, iteF ?_⟩
      refine ⟨_, rfl, rfl, _, rfl, ?_⟩
      by_cases h0 : x = "none"
      · have ev : valT x = some .non := by
          unfold valT
          rw [if_pos h0]
        rw [decide_eq_true (show V.str x = V.str (Str.ofString "none") from congrArg V.str h0)]
        rw [ev] at k
        exact iteT ⟨h2L, fun t ht => k t _ _ ht (Same.upd ht) upd_same rfl⟩
      · rw [decide_eq_false (show ¬ V.str x = V.str (Str.ofString "none") from fun z => h0 (by injection z))]
        have hp : (Builtin.Str.partsBetween x (Builtin.Str.occurrences x ":" 0 x.length (x.length + 1)) (":" : Str).length).length ≤ sizeLine := by
          rw [PySem.length_partsBetween]
          have := PySem.StrLaws.occ_length_le x ":" 0 x.length (x.length + 1)
          omega
        have hsl : (Txt.split x ":").length ≤ sizeLine := Nat.le_trans (split_len x) (by omega)
        refine iteF ⟨_, rfl, rfl, x, _, rfl, rfl, by omega, rfl, hp, fun l hl => ⟨l, rfl, ⟨_, SqL.of upd_same⟩, ?_⟩⟩
        have sl : Same H (upd H l (.lst ((Txt.split x ":").map V.str))) := Same.upd hl
        refine comp_lists (fun i => readV ((Txt.split x ":").getD i Str.empty)) (feeds_list (K := K) (SqL.of upd_same)) (by rw [List.length_map]; exact hsl) ?_ ?_
        · intro i y H' C1 hy sm c1
          rw [List.getElem?_map] at hy
          cases ec : (Txt.split x ":")[i]? with
          | none => rw [ec] at hy; cases hy
          | some z =>
            rw [ec] at hy
            cases hy
            have hz := List.mem_of_getElem? ec
            have hzl := part_len hz
            refine ⟨(SubS.refl _).own (by decide), ⟨_, rfl, z, rfl, by omega, ?_, fun l' H2 n2 s2 e2 => c1 l' H2 n2 s2 ?_⟩⟩
            · intro c hc
              refine lo c ?_
              rw [← PySem.StrLaws.join_split x ":"]
              exact (mem_join _ _ _).mpr (.inl ⟨z, hz, hc⟩)
            · rw [e2, List.getD_eq_getElem?_getD, ec]
              rfl
        · intro p H1 ls hpn s0 hp1 hll hE0
          rw [List.length_map] at hll
          have s1 : Same H H1 := sl.trans s0
          have hE : ∀ i l, ls[i]? = some l → H1 l = some (.lst (readV ((Txt.split x ":").getD i Str.empty))) := fun i l e => (hE0 i l e).2
          clear s0 hE0
          refine ⟨_, rfl, p, _, rfl, .inl (SqL.of hp1), rfl, _, rfl, ?_⟩
          have none_end : valT x = none → ∀ H2 : Hp, Same H1 H2 → tRet (tTup (tCons (tC (.str (Str.ofString "none"))) (tCons (tVar 0) tNil))) { nx := fun x H' => Q V.non H', rt := Q } [some (V.str x), some (V.ref p)] H2 := fun ev H2 s2 => by
            rw [ev] at k
            exact ⟨_, rfl, h2L, fun t ht => k t _ _ (none_back (s1.trans s2) ht) ((s1.trans s2).trans (Same.upd ht)) upd_same rfl⟩
          match hs : Txt.split x ":" with
          | [y] =>
            have ey := split_one hs
            subst ey
            rw [hs] at hll hE
            match ls, hll with
            | [l0], _ =>
              have h0' : H1 l0 = some (.lst (readV y)) := hE 0 l0 rfl
              refine iteT ⟨_, rfl, p, _, _, .ref l0, rfl, rfl, SqL.of hp1, rfl, (show 0 ≤ sizeLine by decide), fun e he => ?_⟩
              have se := Same.upd (o := .lst []) he
              refine ⟨_, _, .lst (se _ _ h0') (read_dat _ _), .lst upd_same .nil, read_shaped y, nil_shaped, none_mix _, _, rfl, ?_⟩
              rw [none_same, read_em, Bool.not_not]
              cases hw : wholeT y with
              | true =>
                have ev : valT y = some (.int (wholeVal y.cps.toList)) := by
                  unfold valT
                  rw [if_neg h0, if_pos hw]
                rw [ev] at k
                have hv : readV y = [V.int (wholeVal y.cps.toList)] := by
                  unfold readV
                  rw [if_pos hw]
                rw [hv] at h0'
                exact iteT ⟨_, rfl, p, _, _, .ref l0, rfl, rfl, SqL.of (se _ _ hp1), rfl, l0, _, _, .int (wholeVal y.cps.toList), rfl, rfl, SqL.of (se _ _ h0'), rfl, h2L, fun t ht => k t _ _ (none_back (s1.trans se) ht) ((s1.trans se).trans (Same.upd ht)) upd_same rfl⟩
              | false =>
                have ev : valT y = none := by
                  unfold valT
                  rw [if_neg h0, if_neg (by rw [hw]; decide), hs]
                  rfl
                exact iteF ⟨_, rfl, p, _, rfl, .inl (SqL.of (se _ _ hp1)), rfl, _, rfl, iteF (iteF (none_end ev _ se))⟩
          | [y, z] =>
            have ex := split_two hs
            rw [hs] at hll hE
            have hw : wholeT x = false := by
              cases hw : wholeT x with
              | false => rfl
              | true => have := split_whole hw; rw [hs] at this; cases this
            have ev : valT x = (if countT y = true ∧ countT z = true then some (.pair (wholeVal y.cps.toList) (wholeVal z.cps.toList)) else none) := by
              unfold valT
              rw [if_neg h0, if_neg (by rw [hw]; decide), hs]
              rfl
            have ag := two_agree ex
            match ls, hll with
            | [l0, l1], _ =>
              have h0' : H1 l0 = some (.lst (readV y)) := hE 0 l0 rfl
              have h1' : H1 l1 = some (.lst (readV z)) := hE 1 l1 rfl
              refine iteF (iteF ⟨_, rfl, p, _, rfl, .inl (SqL.of hp1), rfl, _, rfl, iteT ⟨(show 0 ≤ sizeLine by decide), fun e he => ?_⟩⟩)
              have se := Same.upd (o := .lst []) he
              refine ⟨_, rfl, e, p, [l0, l1], rfl, rfl, upd_same, se _ _ hp1, ?_, _, rfl, ?_⟩
              · intro a ha
                simp only [List.mem_cons, List.not_mem_nil, or_false] at ha
                rcases ha with rfl | rfl
                · exact ⟨ne_of_none h0' he, _, se _ _ h0'⟩
                · exact ⟨ne_of_none h1' he, _, se _ _ h1'⟩
              have em : ∀ (a : Addr) (y : Str), H1 a = some (.lst (readV y)) → emB (upd H1 e (.lst [])) (.ref a) = !wholeT y := fun a y h => by
                show (match upd H1 e (.lst []) a with | some (.lst xs) => xs.isEmpty | _ => false) = _
                rw [se _ _ h]
                show (readV y).isEmpty = _
                unfold readV
                cases wholeT y <;> rfl
              rw [show ([l0, l1].any fun a => emB (upd H1 e (.lst [])) (.ref a)) = (!wholeT y || !wholeT z) by
                rw [List.any_cons, List.any_cons, List.any_nil, em l0 y h0', em l1 z h1', Bool.or_false]]
              cases hy : wholeT y with
              | false =>
                rw [if_neg (fun q => by rw [(ag.mp q).1] at hy; cases hy)] at ev
                exact iteF (iteF (none_end ev _ se))
              | true =>
                cases hz : wholeT z with
                | false =>
                  rw [if_neg (fun q => by rw [(ag.mp q).2.1] at hz; cases hz)] at ev
                  exact iteF (iteF (none_end ev _ se))
                | true =>
                  refine iteT ⟨_, rfl, _, _, rfl, rfl, _, rfl, ?_⟩
                  rw [show (!(Builtin.Str.occurrences x (Str.ofString "-") 0 x.length 1).isEmpty) = _ from PySem.StrLaws.found_one x 45]
                  by_cases hd : 45 ∈ x.cps.toList
                  · rw [decide_eq_true hd]
                    rw [if_neg (fun q => (ag.mp q).2.2 hd)] at ev
                    exact iteF (none_end ev _ se)
                  · rw [decide_eq_false hd]
                    rw [if_pos (ag.mpr ⟨hy, hz, hd⟩)] at ev
                    rw [ev] at k
                    have hv0 : readV y = [V.int (wholeVal y.cps.toList)] := by
                      unfold readV
                      rw [if_pos hy]
                    have hv1 : readV z = [V.int (wholeVal z.cps.toList)] := by
                      unfold readV
                      rw [if_pos hz]
                    rw [hv0] at h0'
                    rw [hv1] at h1'
                    refine iteT ⟨_, rfl, p, _, _, .ref l0, rfl, rfl, SqL.of (se _ _ hp1), rfl, l0, _, _, .int (wholeVal y.cps.toList), rfl, rfl, SqL.of (se _ _ h0'), rfl, _, rfl, p, _, _, .ref l1, rfl, rfl, SqL.of (se _ _ hp1), rfl, l1, _, _, .int (wholeVal z.cps.toList), rfl, rfl, SqL.of (se _ _ h1'), rfl, h2L, fun t1 ht1 => ⟨h2L, fun t ht => ?_⟩⟩
                    have st := (s1.trans se).trans (Same.upd (o := .tup [V.int (wholeVal y.cps.toList), V.int (wholeVal z.cps.toList)]) ht1)
                    exact k t _ _ (none_back st ht) (st.trans (Same.upd ht)) upd_same ⟨t1, rfl, Same.upd ht _ _ upd_same⟩
          | [] =>
            have := PySem.StrLaws.join_split x ":"
            rw [hs] at hll
            have hw : wholeT x = false := by
              cases hw : wholeT x with
              | false => rfl
              | true => have := split_whole hw; rw [hs] at this; cases this
            have ev : valT x = none := by
              unfold valT
              rw [if_neg h0, if_neg (by rw [hw]; decide), hs]
              rfl
            match ls, hll with
            | [], _ => exact iteF (iteF ⟨_, rfl, p, _, rfl, .inl (SqL.of hp1), rfl, _, rfl, iteF (iteF (none_end ev _ (Same.refl _)))⟩)
          | y :: z :: u :: r =>
            rw [hs] at hll
            have hw : wholeT x = false := by
              cases hw : wholeT x with
              | false => rfl
              | true => have := split_whole hw; rw [hs] at this; cases this
            have ev : valT x = none := by
              unfold valT
              rw [if_neg h0, if_neg (by rw [hw]; decide), hs]
              rfl
            have hll : ls.length = r.length + 3 := hll
            have d1 : decide (V.int ((ls.map V.ref).length : Int) = V.int 1) = false := decide_eq_false fun z => by injection z with z; rw [List.length_map] at z; omega
            have d2 : decide (V.int ((ls.map V.ref).length : Int) = V.int 2) = false := decide_eq_false fun z => by injection z with z; rw [List.length_map] at z; omega
            rw [d1]
            refine iteF (iteF ⟨_, rfl, p, _, rfl, .inl (SqL.of hp1), rfl, _, rfl, ?_⟩)
            rw [d2]
            exact iteF (iteF (none_end ev _ (Same.refl _)))
end
end My

namespace My
open PySem L2 PyProof.Rows
theorem at_same {H H' : Hp} {v : V} (p : Plain H v) (s : Same H H') {a : Addr} (ev : v = .ref a) : H' a = H a := by
  cases p with
  | lst e => cases ev; rw [e, s _ _ e]
  | tup e => cases ev; rw [e, s _ _ e]
  | dK e => cases ev; rw [e, s _ _ e]
  | non => cases ev
  | bl b => cases ev
  | int i => cases ev
  | str x h => cases ev
theorem vText_same {H H' : Hp} {v : V} (p : Plain H v) (s : Same H H') : vText v H' = vText v H := by
  cases v with
  | ref a =>
    show (match H' a with | some (.tup xs) => pText xs | _ => none) = (match H a with | some (.tup xs) => pText xs | _ => none)
    rw [at_same p s rfl]
  | _ => rfl
theorem small_same {H H' : Hp} {v : V} (p : Plain H v) (s : Same H H') (h : smallV H v) : smallV H' v := by
  cases v with
  | ref a =>
    have h : ∀ xs, H a = some (.tup xs) → ∀ i, V.int i ∈ xs → small i := h
    show ∀ xs, H' a = some (.tup xs) → ∀ i, V.int i ∈ xs → small i
    rw [at_same p s rfl]
    exact h
  | _ => exact h
theorem Thing.same {b : Addr} {H H' : Hp} {v : V} (t : Thing b H v) (s : Same H H') : Thing b H' v := by
  refine ⟨t.pl.same s, t.ne, fun a xs ev e => ?_⟩
  rw [at_same t.pl s ev] at e
  obtain ⟨h1, h2⟩ := t.it a xs ev e
  exact ⟨h1, fun x hx => ⟨(h2 x hx).1.same s, (h2 x hx).2⟩⟩
theorem len4 {σ : L2.St} (h : σ.length = 4) : ∃ a b c d, σ = [a, b, c, d] := by
  match σ, h with
  | [a, b, c, d], _ => exact ⟨a, b, c, d, rfl⟩
def toldL : Option Str → V → List V
  | some x, _ => [.str "value", .str x]
  | none, v => [.str "none", v]
section
variable {P : Program} {w : World} {K : PySem.W.Frag} {mg : Str → Option Value} {base : Heap} {A : Adr}
def spTold : Sp := fun vs H Q _ => ∃ way v, vs = [.int way, v] ∧ Plain H v ∧
  ((way = 0 ∧ ∀ t u H', Same H H' → H' t = some (.tup [.str (tagOf (rOf v)), u]) → ResAt H' v u (rOf v) → Q (.ref t) H') ∨
   (way ≠ 0 ∧ ∃ b, Thing b H v ∧ smallV H v ∧ ∀ t H', Same H H' → H' t = some (.tup (toldL (vText v H) v)) → Q (.ref t) H'))
theorem ok__law_told (T : Txt K mg A) : FnOk P w K mg base CX0 5 A.a__law_told A.d__law_told ["_law_way", "_law_thing"] spTold := by
  have G_value_of : FnOk P w K mg base (CX1 P w) 4 A.a_value_of A.d_value_of ["text"] (spVO A.a_NoValue) := ok_value_of T
  have G_value_text : FnOk P w K mg base (CX1 P w) 4 A.a_value_text A.d_value_text ["value"] (spVT A.a_NoValue) := ok_value_text T
  refine T.F__law_told.ok sc__law_told (fun vs H Q E h => ?_) (fun cdv Ar outer s H vs Q E hr h => ?_)
  · obtain ⟨way, v, rfl, _⟩ := h
    rfl
  · obtain ⟨way, v, rfl, p, k⟩ := h
    have h2L : (2 : Nat) ≤ sizeLine := by decide
    refine ⟨_, (pss_cons (ps_set (i := 2) sc__law_told.nd rfl (Or.inl rfl) (pe_tup (pa_cons pe_str (pa_cons pe_non pa_nil)))) (pss_cons (ps_tryAs (i := 3) rfl rfl sc__law_told.nd rfl rfl rfl T.m_NoValue T.X_NoValue.toExcC (fun E pn W hw => (pss_one (ps_if (pt_cmpR op_eq (pv 0) pe_int (nomark _)) (pss_one (ps_set (i := 2) sc__law_told.nd rfl (Or.inl rfl) (pe_tup (pa_cons pe_str (pa_cons (pe_call G_value_of hr rfl T.m_value_of T.F_value_of.kp T.b_value_of .nil (passes_of hw trivial) (pa_cons (pv 1) pa_nil)) pa_nil))))) (pss_one (ps_set (i := 2) sc__law_told.nd rfl (Or.inl rfl) (pe_tup (pa_cons pe_str (pa_cons (pe_call G_value_text hr rfl T.m_value_text T.F_value_text.kp T.b_value_text .nil (passes_of hw trivial) (pa_cons (pv 1) pa_nil)) pa_nil)))))))) (fun a => (pss_one (ps_set (i := 2) sc__law_told.nd rfl (Or.inl rfl) (pe_tup (pa_cons pe_str (pa_cons (pe_fldXK (K := K) rfl (pv 3) rfl) pa_nil))))))) (pss_one (ps_ret (pv 2))))), ?_⟩
    refine ⟨h2L, fun t0 ht0 => ?_⟩
    have s0 := Same.upd (o := .tup [V.str (Str.ofString "other"), V.non]) ht0
    refine ⟨_, rfl, rfl, _, rfl, ?_⟩
    rcases k with ⟨rfl, k⟩ | ⟨hw, b, th, sm, k⟩
    · refine iteT ⟨_, rfl, v, rfl, p.same s0, fun x ex => ?_, fun hn => ?_⟩
      · subst ex
        have k : ∀ t u H', Same H H' → H' t = some (.tup [.str (tagOf (valT x)), u]) → ResAt H' (.str x) u (valT x) → Q (.ref t) H' := k
        cases hv : valT x with
        | none =>
          rw [hv] at k
          intro a dx H2 ha hd ne s2 ea ed
          refine ⟨A.a_NoValue, rfl, T.U_NoValue_NoValue, fun a' σ' ea' hl => ?_⟩
          obtain ⟨y0, y1, y2, y3, rfl⟩ := len4 hl
          exact ⟨_, rfl, a', A.a_NoValue, dx, false, _, .str x, rfl, ea', ed, T.g_NoValue, T.n_NoValue_found, rfl, h2L, fun t ht => ⟨_, rfl, k t _ _ ((s0.trans s2).trans (Same.upd ht)) upd_same rfl⟩⟩
        | some r =>
          rw [hv] at k
          cases r with
          | non => exact fun H2 s2 => ⟨h2L, fun t ht => ⟨_, rfl, k t _ _ ((s0.trans s2).trans (Same.upd ht)) upd_same rfl⟩⟩
          | int i => exact fun H2 s2 => ⟨h2L, fun t ht => ⟨_, rfl, k t _ _ ((s0.trans s2).trans (Same.upd ht)) upd_same rfl⟩⟩
          | pair i j => exact fun a H2 _ s2 e2 => ⟨h2L, fun t ht => ⟨_, rfl, k t _ _ ((s0.trans s2).trans (Same.upd ht)) upd_same ⟨a, rfl, Same.upd ht _ _ e2⟩⟩⟩
      · have er : rOf v = none := by
          cases v with
          | str x => exact absurd rfl (hn x)
          | _ => rfl
        rw [er] at k
        intro a dx H2 ha hd ne s2 ea ed
        refine ⟨A.a_NoValue, rfl, T.U_NoValue_NoValue, fun a' σ' ea' hl => ?_⟩
        obtain ⟨y0, y1, y2, y3, rfl⟩ := len4 hl
        exact ⟨_, rfl, a', A.a_NoValue, dx, false, _, v, rfl, ea', ed, T.g_NoValue, T.n_NoValue_found, rfl, h2L, fun t ht => ⟨_, rfl, k t _ _ ((s0.trans s2).trans (Same.upd ht)) upd_same rfl⟩⟩
    · rw [decide_eq_false (show ¬ V.int way = V.int 0 from fun z => hw (by injection z))]
      refine iteF ⟨_, rfl, b, v, rfl, th.same s0, small_same p s0 sm, fun x hx => ?_, fun hn => ?_⟩
      · rw [vText_same p s0] at hx
        rw [hx] at k
        exact ⟨h2L, fun t ht => ⟨_, rfl, k t _ (s0.trans (Same.upd ht)) upd_same⟩⟩
      · rw [vText_same p s0] at hn
        rw [hn] at k
        intro a dx H2 ha hd ne s2 ea ed
        refine ⟨A.a_NoValue, rfl, T.U_NoValue_NoValue, fun a' σ' ea' hl => ?_⟩
        obtain ⟨y0, y1, y2, y3, rfl⟩ := len4 hl
        exact ⟨_, rfl, a', A.a_NoValue, dx, false, _, v, rfl, ea', ed, T.g_NoValue, T.n_NoValue_found, rfl, h2L, fun t ht => ⟨_, rfl, k t _ ((s0.trans s2).trans (Same.upd ht)) upd_same⟩⟩
end
end My

namespace My
open PySem L2 PyProof.Rows PySem.SeqAt
/-! ### what is shown -/
def Fine (d : PyData) : Prop := d.showable = true ∧ d.depth ≤ 20 ∧ d.shown.length ≤ 1000000
inductive Fl : V → Prop
  | non : Fl .non
  | bl (b : Bool) : Fl (.bl b)
  | int (i : Int) (h : small i) : Fl (.int i)
  | str (x : Str) (h : x.length ≤ 50) (l : Lo x) : Fl (.str x)
def fD : V → PyData
  | .bl b => .bool b
  | .int i => .int i
  | .str x => .str x
  | _ => .none
theorem repr_len {x : Str} (l : Lo x) : (reprText x).length ≤ 10 * x.length + 2 := PySem.StrLaws.reprText_len x fun c hc => Nat.lt_trans (l c hc) (by decide)
theorem fl_fine {v : V} (h : Fl v) : (∀ H, Dat H v (fD v)) ∧ (fD v).showable = true ∧ (fD v).depth = 0 ∧ (fD v).shown.length ≤ 1000 ∧ flatV v = true := by
  cases h with
  | non => exact ⟨fun _ => .non, by simp [fD, PyData.showable], by simp [fD, PyData.depth], by simp only [fD, PyData.shown]; decide +kernel, rfl⟩
  | bl b => exact ⟨fun _ => .bl b, by simp [fD, PyData.showable], by simp [fD, PyData.depth], by simp only [fD, PyData.shown]; cases b <;> decide +kernel, rfl⟩
  | int i h => exact ⟨fun _ => .int i, by simp only [fD, PyData.showable]; exact decide_eq_true h.1, by simp [fD, PyData.depth], by simp only [fD, PyData.shown]; exact h.2, rfl⟩
  | str x h l => exact ⟨fun _ => .str x, by simp [fD, PyData.showable], by simp [fD, PyData.depth], by simp only [fD, PyData.shown]; have := repr_len l; omega, rfl⟩
theorem fls_fine : ∀ {xs : List V}, (∀ x ∈ xs, Fl x) → (∀ H, DatAll H xs (xs.map fD)) ∧ PyData.showableAll (xs.map fD) = true ∧ PyData.depthAll (xs.map fD) = 0 ∧ piled (PyData.shownAll (xs.map fD)) ≤ 1002 * xs.length
  | [], _ => ⟨fun _ => .nil, by simp [PyData.showableAll], by simp [PyData.depthAll], by simp [PyData.shownAll, piled]⟩
  | x :: r, h => by
    obtain ⟨a1, a2, a3, a4⟩ := fls_fine (xs := r) fun y hy => h y (List.mem_cons_of_mem _ hy)
    obtain ⟨b1, b2, b3, b4, _⟩ := fl_fine (h x List.mem_cons_self)
    refine ⟨fun H => .cons (b1 H) (a1 H), ?_, ?_, ?_⟩
    · simp only [List.map_cons, PyData.showableAll, b2, a2, Bool.and_self]
    · simp only [List.map_cons, PyData.depthAll, b3, a3]
      rfl
    · simp only [List.map_cons, PyData.shownAll, piled_cons, List.length_cons]
      omega
theorem tup_len (ts : List Str) : (tupleText ts).length ≤ piled ts + 4 := by
  unfold tupleText
  rw [len_app, len_app]
  have h1 : ("(" : Str).length = 1 := by decide +kernel
  have h2 : ((if ts.length == 1 then ",)" else ")" : String) : Str).length ≤ 2 := by split <;> decide +kernel
  have h3 : (Str.join ", " ts).length ≤ piled ts := by
    cases ts with
    | nil => exact Nat.zero_le _
    | cons a r => have := join_length_add (a :: r) (by simp); omega
  omega
theorem lst_len (ts : List Str) : (listText ts).length ≤ piled ts + 4 := by
  have h := listText_len_le ts
  have e : ∀ ts : List Str, piled ts = (ts.map (·.length)).sum + 2 * ts.length := fun ts => by
    induction ts with
    | nil => rfl
    | cons a r ih => rw [piled_cons, ih]; simp; omega
  rw [e]
  omega
theorem fine_tup {xs : List V} (h : ∀ x ∈ xs, Fl x) (hl : xs.length ≤ 20) : Fine (.tuple (xs.map fD)) := by
  obtain ⟨_, a2, a3, a4⟩ := fls_fine h
  refine ⟨by simp only [PyData.showable]; exact a2, by simp only [PyData.depth, a3]; decide, ?_⟩
  simp only [PyData.shown]
  have := tup_len (PyData.shownAll (xs.map fD))
  omega
theorem fine_lst {xs : List V} (h : ∀ x ∈ xs, Fl x) (hl : xs.length ≤ 20) : Fine (.list (xs.map fD)) := by
  obtain ⟨_, a2, a3, a4⟩ := fls_fine h
  refine ⟨by simp only [PyData.showable]; exact a2, by simp only [PyData.depth, a3]; decide, ?_⟩
  simp only [PyData.shown]
  have := lst_len (PyData.shownAll (xs.map fD))
  omega
theorem fine_one {v : V} (h : Fl v) : Fine (fD v) := by
  obtain ⟨_, b2, b3, b4, _⟩ := fl_fine h
  exact ⟨b2, by omega, by omega⟩
theorem fine_str {x : Str} (h : x.length ≤ 5000) (l : Lo x) : Fine (.str x) := by
  refine ⟨by simp only [PyData.showable], by simp [PyData.depth], ?_⟩
  simp only [PyData.shown]
  have := repr_len l
  omega
/-- known whole, or an empty dict -/
def KD (H : Hp) (v : V) (d : PyData) : Prop := Dat H v d ∨ ∃ a, v = .ref a ∧ H a = some (.dK []) ∧ d = .dict []
theorem KD.same {H H' : Hp} {v : V} {d : PyData} (k : KD H v d) (s : Same H H') : KD H' v d := by
  rcases k with k | ⟨a, e, h, z⟩
  · exact .inl (k.same s)
  · exact .inr ⟨a, e, s _ _ h, z⟩
theorem fine_dict : Fine (.dict []) := by
  refine ⟨by simp [PyData.showable, PyData.showableKv], by simp [PyData.depth, PyData.depthKv], ?_⟩
  simp only [PyData.shown, PyData.shownKv]
  decide +kernel
theorem pair_repr {H : Hp} {t : Addr} {tag : Str} {v : V} {d : PyData} (k : KD H v d) (f : Fine d) (h : tag.length ≤ 10) (l : Lo tag) (e : H t = some (.tup [.str tag, v])) :
    DatD H (.ref t) (.tuple [.str tag, d]) ∧ (PyData.tuple [.str tag, d]).showable = true ∧ (PyData.tuple [.str tag, d]).depth ≤ 90 ∧ (PyData.tuple [.str tag, d]).shown.length ≤ sizeLine := by
  obtain ⟨f1, f2, f3⟩ := f
  refine ⟨?_, ?_, ?_, ?_⟩
  · rcases k with k | ⟨a, rfl, ha, rfl⟩
    · exact .inl (.tup e (.cons (.str _) (.cons k .nil)))
    · exact .inr ⟨t, a, tag, rfl, e, ha, rfl⟩
  · simp only [PyData.showable, PyData.showableAll, f1, Bool.and_self]
  · simp only [PyData.depth, PyData.depthAll]
    omega
  · simp only [PyData.shown, PyData.shownAll]
    have h1 := tup_len [reprText tag, d.shown]
    have h2 := repr_len l
    have h3 : piled [reprText tag, d.shown] = ((reprText tag).length + 2) + ((d.shown.length + 2) + 0) := by rw [piled_cons, piled_cons, piled_nil]
    have hL : sizeLine = 16777216 := rfl
    omega
/-! ### the odd things -/
inductive Odd (H : Hp) : V → Prop
  | bl (b : Bool) : Odd H (.bl b)
  | str (x : Str) (h : x.length ≤ 10) (l : Lo x) : Odd H (.str x)
  | tup {a : Addr} {xs : List V} (e : H a = some (.tup xs)) (hl : xs.length ≤ 10) (f : ∀ x ∈ xs, Fl x) (pt : pText xs = none) : Odd H (.ref a)
  | lst {a : Addr} {xs : List V} (e : H a = some (.lst xs)) (hl : xs.length ≤ 10) (f : ∀ x ∈ xs, Fl x) : Odd H (.ref a)
  | dK {a : Addr} (e : H a = some (.dK [])) : Odd H (.ref a)
theorem Odd.same {H H' : Hp} {v : V} (o : Odd H v) (s : Same H H') : Odd H' v := by
  cases o with
  | bl b => exact .bl b
  | str x h l => exact .str x h l
  | tup e hl f pt => exact .tup (s _ _ e) hl f pt
  | lst e hl f => exact .lst (s _ _ e) hl f
  | dK e => exact .dK (s _ _ e)
theorem Odd.kept {b : Addr} {H H' : Hp} {v : V} (o : Odd H v) (n : v ≠ .ref b) (s : Kept b H H') : Odd H' v := by
  cases o with
  | bl b => exact .bl b
  | str x h l => exact .str x h l
  | tup e hl f pt => exact .tup (s _ _ (fun z => n (by rw [z])) e) hl f pt
  | lst e hl f => exact .lst (s _ _ (fun z => n (by rw [z])) e) hl f
  | dK e => exact .dK (s _ _ (fun z => n (by rw [z])) e)
theorem Odd.plain {H : Hp} {v : V} (o : Odd H v) : Plain H v := by
  cases o with
  | bl b => exact .bl b
  | str x h l => exact .str x (by omega)
  | tup e hl f pt => exact .tup e
  | lst e hl f => exact .lst e
  | dK e => exact .dK e
theorem Odd.data {H : Hp} {v : V} (o : Odd H v) : ∃ d, KD H v d ∧ Fine d := by
  cases o with
  | bl b => exact ⟨_, .inl (.bl b), fine_one (.bl b)⟩
  | str x h l => exact ⟨_, .inl (.str x), fine_str (by omega) l⟩
  | tup e hl f pt => exact ⟨_, .inl (.tup e ((fls_fine f).1 _)), fine_tup f (by omega)⟩
  | lst e hl f => exact ⟨_, .inl (.lst e ((fls_fine f).1 _)), fine_lst f (by omega)⟩
  | dK e => exact ⟨_, .inr ⟨_, rfl, e, rfl⟩, fine_dict⟩
theorem fl_plain {H : Hp} {v : V} (h : Fl v) : Plain H v := by
  cases h with
  | non => exact .non
  | bl b => exact .bl b
  | int i h => exact .int i
  | str x h l => exact .str x (by omega)
theorem fl_ne {b : Addr} {v : V} (h : Fl v) : v ≠ .ref b := by
  cases h <;> intro z <;> cases z
theorem Odd.text {H : Hp} {v : V} (o : Odd H v) : vText v H = none := by
  cases o with
  | bl b => rfl
  | str x h l => rfl
  | @tup a xs e hl f pt =>
    show (match H a with | some (.tup xs) => pText xs | _ => none) = none
    rw [e]
    exact pt
  | @lst a xs e hl f =>
    show (match H a with | some (.tup xs) => pText xs | _ => none) = none
    rw [e]
  | @dK a e =>
    show (match H a with | some (.tup xs) => pText xs | _ => none) = none
    rw [e]
theorem Odd.thing {H : Hp} {v : V} (o : Odd H v) : (∃ b, Thing b H v) ∧ smallV H v := by
  cases o with
  | bl b => exact ⟨⟨0, .bl b, (by intro z; cases z), (by intro a xs z; cases z)⟩, trivial⟩
  | str x h l => exact ⟨⟨0, .str x (by omega), (by intro z; cases z), (by intro a xs z; cases z)⟩, trivial⟩
  | @tup a xs e hl f pt =>
    refine ⟨⟨a + 1, .tup e, (by intro z; injection z with z; exact absurd z (Nat.ne_of_lt (Nat.lt_succ_self a))), fun c ys z q => ?_⟩, fun ys q i hi => ?_⟩
    · cases z
      rw [e] at q
      cases q
      exact ⟨by omega, fun x hx => ⟨fl_plain (f x hx), fl_ne (f x hx)⟩⟩
    · rw [e] at q
      cases q
      have := f _ hi
      cases this with
      | int i h => exact h
  | @lst a xs e hl f =>
    refine ⟨⟨a + 1, .lst e, (by intro z; injection z with z; exact absurd z (Nat.ne_of_lt (Nat.lt_succ_self a))), fun c ys z q => ?_⟩, fun ys q i hi => ?_⟩
    · cases z
      rw [e] at q
      cases q
    · rw [e] at q
      cases q
  | @dK a e =>
    refine ⟨⟨a + 1, .dK e, (by intro z; injection z with z; exact absurd z (Nat.ne_of_lt (Nat.lt_succ_self a))), fun c ys z q => ?_⟩, fun ys q i hi => ?_⟩
    · cases z
      rw [e] at q
      cases q
    · rw [e] at q
      cases q
def isOdd : Addr → V → Hp → Prop := fun b v H' => Odd H' v ∧ v ≠ .ref b
theorem small_fig {i : Int} (h : i.natAbs < 10) : small i := small_of (Nat.lt_trans h (by decide))
section
variable {P : Program} {w : World} {K : PySem.W.Frag} {mg : Str → Option Value} {base : Heap} {A : Adr}
theorem ok__law_odd (T : Txt K mg A) : FnOk P w K mg base CX0 2 A.a__law_odd A.d__law_odd ["_law_box_here"] (spDraw 1 isOdd) := by
  have G__law_take : FnOk P w K mg base CX0 1 A.a__law_take A.d__law_take ["_law_box_here", "_law_many"] spTake := ok__law_take T
  refine T.F__law_odd.okM sc__law_odd (fun vs H Q E h => ?_) (fun cdv Ar outer s H vs Q E hr h => ?_)
  · obtain ⟨b, k, rfl, _⟩ := h
    rfl
  · obtain ⟨b, k, rfl, B, hk, q⟩ := h
    refine ⟨_, (pssm_cons (psm_set (i := 1) sc__law_odd.nd rfl (Or.inl rfl) (pem_lst (pam_cons (fun _ _ => rfl) pe_bl (pam_cons (fun _ _ => rfl) pe_bl (pam_cons (fun _ _ => rfl) pe_str (pam_cons (fun _ _ => rfl) pe_str (pam_cons (fun _ _ => rfl) (pe_tup (pa_cons pe_int pa_nil)) (pam_cons (fun _ _ => rfl) (pe_tup (pa_cons pe_int (pa_cons pe_int (pa_cons pe_int pa_nil)))) (pam_cons (fun _ _ => rfl) (pe_tup (pa_cons pe_int (pa_cons (pe_un un_neg pe_int) pa_nil))) (pam_cons (fun _ _ => rfl) (pe_tup (pa_cons (pe_un un_neg pe_int) (pa_cons pe_int pa_nil))) (pam_cons (fun _ _ => rfl) (pe_tup (pa_cons pe_bl (pa_cons pe_int pa_nil))) (pam_cons (fun _ _ => rfl) (pe_tup (pa_cons pe_int (pa_cons pe_non pa_nil))) (pam_cons (fun _ _ => rfl) (pe_lst (pa_cons pe_int (pa_cons pe_int pa_nil))) (pam_cons (fun _ _ => rfl) pe_dnewK (pam_cons (fun _ _ => rfl) (pe_lst pa_nil) (pam_cons (fun _ _ => rfl) pe_str (pam_cons (fun _ _ => rfl) (pe_tup pa_nil) pam_nil)))))))))))))))) (by kernel_rfl) (Or.inl rfl)) (pssm_one ⟨(ps_ret (pe_ix ix_list (pv 1) (pe_call G__law_take hr rfl T.m__law_take T.F__law_take.kp T.b__law_take .nil pass0 (pa_cons (pv 0) (pa_cons pe_int pa_nil))) (fun _ _ => rfl)))⟩)), ?_⟩
    refine ⟨(show 1 ≤ sizeLine by decide), fun a1 h1 => ⟨(show 3 ≤ sizeLine by decide), fun a2 h2 => ⟨1, rfl, (show 2 ≤ sizeLine by decide), fun a3 h3 => ⟨1, rfl, (show 2 ≤ sizeLine by decide), fun a4 h4 => ⟨(show 2 ≤ sizeLine by decide), fun a5 h5 => ⟨(show 2 ≤ sizeLine by decide), fun a6 h6 => ⟨(show 2 ≤ sizeLine by decide), fun a7 h7 => ?_⟩⟩⟩⟩⟩⟩⟩
    intro a8 h8
    refine ⟨(show 0 ≤ sizeLine by decide), fun a9 h9 => ⟨(show 0 ≤ sizeLine by decide), fun a10 h10 => ⟨(show 15 ≤ sizeLine by decide), fun l hl => ?_⟩⟩⟩
    have s1 := Same.upd (o := .tup [V.int 1]) h1
    have s2 := Same.upd (o := .tup [V.int 1, V.int 2, V.int 3]) h2
    have s3 := Same.upd (o := .tup [V.int 1, V.int (-1)]) h3
    have s4 := Same.upd (o := .tup [V.int (-1), V.int 1]) h4
    have s5 := Same.upd (o := .tup [V.bl true, V.int 0]) h5
    have s6 := Same.upd (o := .tup [V.int 0, V.non]) h6
    have s7 := Same.upd (o := .lst [V.int 1, V.int 2]) h7
    have s8 := Same.upd (o := .dK []) h8
    have s9 := Same.upd (o := .lst []) h9
    have s10 := Same.upd (o := .tup []) h10
    have s11 := Same.upd (o := .lst [V.bl true, V.bl false, V.str (Str.ofString "none"), V.str (Str.ofString "3"), V.ref a1, V.ref a2, V.ref a3, V.ref a4, V.ref a5, V.ref a6, V.ref a7, V.ref a8, V.ref a9, V.str (Str.ofString ""), V.ref a10]) hl
    have B1 := B.same s1
    have B2 := B1.same s2
    have B3 := B2.same s3
    have B4 := B3.same s4
    have B5 := B4.same s5
    have B6 := B5.same s6
    have B7 := B6.same s7
    have B8 := B7.same s8
    have B9 := B8.same s9
    have B10 := B9.same s10
    have B11 := B10.same s11
    refine ⟨_, rfl, _, rfl, b, 15, k, rfl, B11, by omega, by decide, by decide, fun r H' r0 r1 B' O' => ?_⟩
    have t10 := s11
    have t9 := s10.trans t10
    have t8 := s9.trans t9
    have t7 := s8.trans t8
    have t6 := s7.trans t7
    have t5 := s6.trans t6
    have t4 := s5.trans t5
    have t3 := s4.trans t4
    have t2 := s3.trans t3
    have t1 := s2.trans t2
    have f1 : Fl (.int 1) := .int 1 (small_fig (by decide))
    have f2 : Fl (.int 2) := .int 2 (small_fig (by decide))
    have f3 : Fl (.int 3) := .int 3 (small_fig (by decide))
    have f0 : Fl (.int 0) := .int 0 (small_fig (by decide))
    have fm : Fl (.int (-1)) := .int (-1) (small_fig (by decide))
    refine ix_any (fun v => Odd H' v ∧ v ≠ .ref b) ((O' l (B10.ne hl)).trans upd_same) r0 r1 ?_ fun v hv => q _ _ B' (fun c o hc e => (O' c hc).trans ((s1.trans t1) c o e)) hv
    have at_ : ∀ {a : Addr} {o : HO}, upd (upd (upd (upd (upd (upd (upd (upd (upd (upd (upd H a1 (.tup [V.int 1])) a2 (.tup [V.int 1, V.int 2, V.int 3])) a3 (.tup [V.int 1, V.int (-1)])) a4 (.tup [V.int (-1), V.int 1])) a5 (.tup [V.bl true, V.int 0])) a6 (.tup [V.int 0, V.non])) a7 (.lst [V.int 1, V.int 2])) a8 (.dK [])) a9 (.lst [])) a10 (.tup [])) l (.lst [V.bl true, V.bl false, V.str (Str.ofString "none"), V.str (Str.ofString "3"), V.ref a1, V.ref a2, V.ref a3, V.ref a4, V.ref a5, V.ref a6, V.ref a7, V.ref a8, V.ref a9, V.str (Str.ofString ""), V.ref a10]) a = some o → a ≠ b → H' a = some o := fun h n => (O' _ n).trans h
    intro x hx
    simp only [List.mem_cons, List.not_mem_nil, or_false] at hx
    rcases hx with rfl | rfl | rfl | rfl | rfl | rfl | rfl | rfl | rfl | rfl | rfl | rfl | rfl | rfl | rfl
    · exact ⟨.bl true, by intro z; cases z⟩
    · exact ⟨.bl false, by intro z; cases z⟩
    · exact ⟨.str _ (by decide +kernel) (by unfold Lo; decide +kernel), by intro z; cases z⟩
    · exact ⟨.str _ (by decide +kernel) (by unfold Lo; decide +kernel), by intro z; cases z⟩
    · have n := B.ne h1
      exact ⟨.tup (at_ (t1 _ _ upd_same) n) (by decide) (by intro x hx; simp only [List.mem_cons, List.not_mem_nil, or_false] at hx; rcases hx with rfl; exact f1) rfl, by intro z; cases z; exact n rfl⟩
    · have n := B1.ne h2
      exact ⟨.tup (at_ (t2 _ _ upd_same) n) (by decide) (by intro x hx; simp only [List.mem_cons, List.not_mem_nil, or_false] at hx; rcases hx with rfl | rfl | rfl; exact f1; exact f2; exact f3) rfl, by intro z; cases z; exact n rfl⟩
    · have n := B2.ne h3
      exact ⟨.tup (at_ (t3 _ _ upd_same) n) (by decide) (by intro x hx; simp only [List.mem_cons, List.not_mem_nil, or_false] at hx; rcases hx with rfl | rfl; exact f1; exact fm) (by decide), by intro z; cases z; exact n rfl⟩
    · have n := B3.ne h4
      exact ⟨.tup (at_ (t4 _ _ upd_same) n) (by decide) (by intro x hx; simp only [List.mem_cons, List.not_mem_nil, or_false] at hx; rcases hx with rfl | rfl; exact fm; exact f1) (by decide), by intro z; cases z; exact n rfl⟩
    · have n := B4.ne h5
      exact ⟨.tup (at_ (t5 _ _ upd_same) n) (by decide) (by intro x hx; simp only [List.mem_cons, List.not_mem_nil, or_false] at hx; rcases hx with rfl | rfl; exact .bl true; exact f0) rfl, by intro z; cases z; exact n rfl⟩
    · have n := B5.ne h6
      exact ⟨.tup (at_ (t6 _ _ upd_same) n) (by decide) (by intro x hx; simp only [List.mem_cons, List.not_mem_nil, or_false] at hx; rcases hx with rfl | rfl; exact f0; exact .non) rfl, by intro z; cases z; exact n rfl⟩
    · have n := B6.ne h7
      exact ⟨.lst (at_ (t7 _ _ upd_same) n) (by decide) (by intro x hx; simp only [List.mem_cons, List.not_mem_nil, or_false] at hx; rcases hx with rfl | rfl; exact f1; exact f2), by intro z; cases z; exact n rfl⟩
    · have n := B7.ne h8
      exact ⟨.dK (at_ (t8 _ _ upd_same) n), by intro z; cases z; exact n rfl⟩
    · have n := B8.ne h9
      exact ⟨.lst (at_ (t9 _ _ upd_same) n) (by decide) (fun x hx => by cases hx), by intro z; cases z; exact n rfl⟩
    · exact ⟨.str _ (by decide +kernel) (by unfold Lo; decide +kernel), by intro z; cases z⟩
    · have n := B9.ne h10
      exact ⟨.tup (at_ (t10 _ _ upd_same) n) (by decide) (fun x hx => by cases hx) rfl, by intro z; cases z; exact n rfl⟩
end
end My

namespace My
open PySem L2 PyProof.Rows PySem.SeqAt
/-! ### a value that a text writes, written again -/
theorem count_val {y : Str} (h : countT y = true) : wholeVal y.cps.toList = ((PySem.NumText.digitsVal y.cps.toList : Nat) : Int) := by
  have hd := count_nodash h
  unfold wholeVal
  rw [if_neg]
  intro e
  rw [head_of e] at hd
  exact hd List.mem_cons_self
theorem count_text {y : Str} (h : countT y = true) : iText (wholeVal y.cps.toList) = y := by
  rw [count_val h]
  rw [countT_eq] at h
  exact str_ext (count_back h)
theorem whole_text {y : Str} (h : wholeT y = true) : iText (wholeVal y.cps.toList) = y := by
  rw [wholeT_eq] at h
  exact str_ext (whole_back h)
theorem pair_is {l : List Str} {r : Vl} (h : pairT l = some r) : ∃ p q, l = [p, q] ∧ countT p = true ∧ countT q = true ∧ r = .pair (wholeVal p.cps.toList) (wholeVal q.cps.toList) := by
  match l, h with
  | [p, q], h =>
    have h : (if countT p = true ∧ countT q = true then some (Vl.pair (wholeVal p.cps.toList) (wholeVal q.cps.toList)) else none) = some r := h
    by_cases hc : countT p = true ∧ countT q = true
    · rw [if_pos hc] at h
      cases h
      exact ⟨p, q, rfl, hc.1, hc.2, rfl⟩
    · rw [if_neg hc] at h
      cases h
theorem val_is {x : Str} {r : Vl} (h : valT x = some r) : (x = "none" ∧ r = .non) ∨ (wholeT x = true ∧ r = .int (wholeVal x.cps.toList)) ∨
    ∃ p q, x = p ++ Str.ofString ":" ++ q ∧ countT p = true ∧ countT q = true ∧ r = .pair (wholeVal p.cps.toList) (wholeVal q.cps.toList) := by
  unfold valT at h
  by_cases h0 : x = "none"
  · rw [if_pos h0] at h
    cases h
    exact .inl ⟨h0, rfl⟩
  · rw [if_neg h0] at h
    by_cases h1 : wholeT x = true
    · rw [if_pos h1] at h
      cases h
      exact .inr (.inl ⟨h1, rfl⟩)
    · rw [if_neg h1] at h
      obtain ⟨p, q, e, hp, hq, er⟩ := pair_is h
      exact .inr (.inr ⟨p, q, split_two e, hp, hq, er⟩)
theorem val_text {x : Str} {r : Vl} (h : valT x = some r) : vlText r = x := by
  rcases val_is h with ⟨rfl, rfl⟩ | ⟨h1, rfl⟩ | ⟨p, q, rfl, hp, hq, rfl⟩
  · rfl
  · exact whole_text h1
  · show iText _ ++ Str.ofString ":" ++ iText _ = _
    rw [count_text hp, count_text hq]
theorem digits_lt' : ∀ (n : Nat) (l : List Nat), l.length = n → PySem.NumText.AllDigits l → PySem.NumText.digitsVal l < 10 ^ n
  | 0, l, h, _ => by rw [List.eq_nil_of_length_eq_zero h]; decide
  | n + 1, l, h, hd => by
    have hne : l ≠ [] := fun z => by rw [z] at h; cases h
    have e := List.dropLast_concat_getLast hne
    have h1 := digits_lt' n l.dropLast (by rw [List.length_dropLast]; omega) fun d m => hd d ((List.dropLast_sublist l).subset m)
    have h2 := hd (l.getLast hne) (List.getLast_mem hne)
    rw [← e, PySem.NumText.digitsVal_snoc, Nat.pow_succ]
    omega
theorem digits_lt (l : List Nat) (h : PySem.NumText.AllDigits l) : PySem.NumText.digitsVal l < 10 ^ l.length := digits_lt' _ l rfl h
theorem count_small {y : Str} (h : countT y = true) : small (wholeVal y.cps.toList) := by
  refine small_of ?_
  rw [count_val h]
  rw [countT_eq] at h
  obtain ⟨h1, h2, h3, h4⟩ := countL_is h
  have := digits_lt _ h4
  have h5 : 10 ^ y.cps.toList.length ≤ 10 ^ 41 := Nat.pow_le_pow_right (by decide) (by omega)
  have h6 : (10 : Nat) ^ 41 < 10 ^ 42 := by decide
  rw [Int.natAbs_natCast]
  omega
theorem whole_small {y : Str} (h : wholeT y = true) : small (wholeVal y.cps.toList) := by
  refine small_of ?_
  rw [wholeT_eq] at h
  unfold wholeVal
  have h6 : (10 : Nat) ^ 41 < 10 ^ 42 := by decide
  rcases wholeL_is h with ⟨e, h⟩ | ⟨e, hn, h⟩
  · rw [if_neg e]
    obtain ⟨h1, h2, h3, h4⟩ := countL_is h
    have := digits_lt _ h4
    have h5 : 10 ^ y.cps.toList.length ≤ 10 ^ 41 := Nat.pow_le_pow_right (by decide) (by omega)
    rw [Int.natAbs_natCast]
    omega
  · rw [if_pos (by rw [e]; rfl)]
    obtain ⟨h1, h2, h3, h4⟩ := countL_is h
    have := digits_lt _ h4
    have h5 : 10 ^ (y.cps.toList.drop 1).length ≤ 10 ^ 41 := Nat.pow_le_pow_right (by decide) (by omega)
    rw [Int.natAbs_neg, Int.natAbs_natCast]
    omega
def smallR : Vl → Prop
  | .non => True
  | .int i => small i
  | .pair i j => 0 ≤ i ∧ 0 ≤ j ∧ small i ∧ small j
theorem val_small {x : Str} {r : Vl} (h : valT x = some r) : smallR r := by
  rcases val_is h with ⟨rfl, rfl⟩ | ⟨h1, rfl⟩ | ⟨p, q, rfl, hp, hq, rfl⟩
  · trivial
  · exact whole_small h1
  · refine ⟨?_, ?_, count_small hp, count_small hq⟩
    · rw [count_val hp]; exact Int.natCast_nonneg _
    · rw [count_val hq]; exact Int.natCast_nonneg _
theorem ok_small {r : Vl} (h : okVl r) : smallR r := by
  cases r with
  | non => trivial
  | int i => exact small_of (abs_num h)
  | pair i j => exact ⟨h.1, h.2.1, small_of (abs_num h.2.2.1), small_of (abs_num h.2.2.2)⟩
def vlD : Vl → PyData
  | .non => .none
  | .int i => .int i
  | .pair i j => .tuple [.int i, .int j]
theorem val_data {H : Hp} {u : V} {r : Vl} (h : ValAt H u r) (s : smallR r) : KD H u (vlD r) ∧ Fine (vlD r) := by
  cases r with
  | non =>
    cases h
    exact ⟨.inl .non, fine_one .non⟩
  | int i =>
    cases h
    exact ⟨.inl (.int i), fine_one (.int i s)⟩
  | pair i j =>
    obtain ⟨a, rfl, e⟩ := h
    refine ⟨.inl (.tup e (.cons (.int i) (.cons (.int j) .nil))), ?_⟩
    exact fine_tup (xs := [.int i, .int j]) (by intro x hx; simp only [List.mem_cons, List.not_mem_nil, or_false] at hx; rcases hx with rfl | rfl; exact .int i s.2.2.1; exact .int j s.2.2.2) (show 2 ≤ 20 by decide)
theorem val_thing {H : Hp} {u : V} {r : Vl} (h : ValAt H u r) (s : smallR r) : Plain H u ∧ (∃ b, Thing b H u) ∧ smallV H u ∧ vText u H = some (vlText r) := by
  cases r with
  | non =>
    cases h
    exact ⟨.non, ⟨0, .non, (by intro z; cases z), (by intro a xs z; cases z)⟩, trivial, rfl⟩
  | int i =>
    cases h
    exact ⟨.int i, ⟨0, .int i, (by intro z; cases z), (by intro a xs z; cases z)⟩, s, rfl⟩
  | pair i j =>
    obtain ⟨a, rfl, e⟩ := h
    refine ⟨.tup e, ⟨a + 1, .tup e, (by intro z; injection z with z; exact absurd z (Nat.ne_of_lt (Nat.lt_succ_self a))), fun c ys z q => ?_⟩, fun ys q i' hi => ?_, ?_⟩
    · cases z
      rw [e] at q
      cases q
      refine ⟨(show 2 ≤ 1000 by decide), fun x hx => ?_⟩
      simp only [List.mem_cons, List.not_mem_nil, or_false] at hx
      rcases hx with rfl | rfl
      · exact ⟨.int i, by intro z; cases z⟩
      · exact ⟨.int j, by intro z; cases z⟩
    · rw [e] at q
      cases q
      simp only [List.mem_cons, List.not_mem_nil, or_false] at hi
      rcases hi with hi | hi
      · cases hi; exact s.2.2.1
      · cases hi; exact s.2.2.2
    · show (match H a with | some (.tup xs) => pText xs | _ => none) = _
      rw [e]
      exact if_pos ⟨s.1, s.2.1⟩
theorem ValAt.same {H H' : Hp} {u : V} {r : Vl} (h : ValAt H u r) (s : Same H H') : ValAt H' u r := by
  cases r with
  | non => exact h
  | int i => exact h
  | pair i j =>
    obtain ⟨a, e, h⟩ := h
    exact ⟨a, e, s _ _ h⟩
inductive Th (H : Hp) : V → Prop
  | non : Th H .non
  | str (x : Str) (h : x.length ≤ 5000) (l : Lo x) : Th H (.str x)
  | odd {v : V} (o : Odd H v) : Th H v
theorem Th.plain {H : Hp} {v : V} (t : Th H v) : Plain H v := by
  cases t with
  | non => exact .non
  | str x h l => exact .str x (by omega)
  | odd o => exact o.plain
theorem Th.lo {H : Hp} {v : V} (t : Th H v) : ∀ x, v = .str x → Lo x := by
  intro x e
  cases t with
  | non => cases e
  | str y h l => cases e; exact l
  | odd o =>
    cases o with
    | str y h l => cases e; exact l
    | _ => cases e
theorem Th.data {H : Hp} {v : V} (t : Th H v) : ∃ d, KD H v d ∧ Fine d := by
  cases t with
  | non => exact ⟨_, .inl .non, fine_one .non⟩
  | str x h l => exact ⟨_, .inl (.str x), fine_str h l⟩
  | odd o => exact o.data
theorem Th.same {H H' : Hp} {v : V} (t : Th H v) (s : Same H H') : Th H' v := by
  cases t with
  | non => exact .non
  | str x h l => exact .str x h l
  | odd o => exact .odd (o.same s)
/-- a list, or none -/
theorem Th.list {H : Hp} {v : V} (t : Th H v) : (∃ a xs, v = .ref a ∧ H a = some (.lst xs) ∧ xs.length ≤ 10 ∧ ∀ x ∈ xs, Fl x) ∨ (∀ H' K, Same H H' → ∃ ty, TyOf K H' v ty ∧ PySem.W.kitOne K ty (.type "list") = some false) := by
  cases t with
  | non => exact .inr fun H' K s => ⟨_, .non, rfl⟩
  | str x h l => exact .inr fun H' K s => ⟨_, .str x, rfl⟩
  | odd o =>
    cases o with
    | bl b => exact .inr fun H' K s => ⟨_, .bl b, rfl⟩
    | str x h l => exact .inr fun H' K s => ⟨_, .str x, rfl⟩
    | tup e hl f pt => exact .inr fun H' K s => ⟨_, .tup (s _ _ e), rfl⟩
    | lst e hl f => exact .inl ⟨_, _, rfl, e, hl, f⟩
    | dK e => exact .inr fun H' K s => ⟨_, .dK (s _ _ e), rfl⟩
theorem lo_value : Lo (Str.ofString "value") := by unfold Lo; decide +kernel
theorem lo_none : Lo (Str.ofString "none") := by unfold Lo; decide +kernel
theorem str_shaped {t x : Str} (h : Lo t) (l : Lo x) : shaped (.tuple [.str t, .str x]) = true := by
  have ok : ∀ {y : Str}, Lo y → PyData.strOk y = true := fun {y} hy => by
    unfold PyData.strOk
    rw [← Array.all_toList, List.all_eq_true]
    intro c hc
    exact decide_eq_true (Nat.lt_trans (hy c hc) (by decide))
  show (PyData.canLay0 _ && decide (PyData.depth _ ≤ 64)) = true
  simp [PyData.canLay0, PyData.canLayAll0, PyData.depth, PyData.depthAll, ok h, ok l]
theorem str_mix (t x y : Str) : noMix (.tuple [.str t, .str x]) (.tuple [.str t, .str y]) = true := by
  simp [noMix, noMixAll]
section
variable {P : Program} {w : World} {K : PySem.W.Frag} {mg : Str → Option Value} {base : Heap} {A : Adr}
def spRight : Sp := fun vs H Q _ => ∃ v, vs = [v] ∧ Th H v ∧ ∀ H', Same H H' → Q (.bl true) H'
theorem ok__law_right (T : Txt K mg A) : FnOk P w K mg base CX0 6 A.a__law_right A.d__law_right ["_law_thing"] spRight := by
  have G__law_due : FnOk P w K mg base CX0 5 A.a__law_due A.d__law_due ["_law_thing"] spDue := (ok__law_due T).mono (by decide)
  have G__law_told : FnOk P w K mg base CX0 5 A.a__law_told A.d__law_told ["_law_way", "_law_thing"] spTold := ok__law_told T
  refine T.F__law_right.ok sc__law_right (fun vs H Q E h => ?_) (fun cdv Ar outer s H vs Q E hr h => ?_)
  · obtain ⟨v, rfl, _⟩ := h
    rfl
  · obtain ⟨v, rfl, th, q⟩ := h
    have hL : sizeLine = 16777216 := rfl
    have h2L : (2 : Nat) ≤ sizeLine := by decide
    have hgd := hr.gd
    have hu1 : _ + 100 < cLine := Nat.lt_of_le_of_lt (Nat.add_le_add_left (by decide : 100 ≤ 16 * 5 + 200) _) (by have := hr.un; omega)
    have p := th.plain
    refine ⟨_, (pss_cons (ps_set (i := 1) sc__law_right.nd rfl (Or.inl rfl) (pe_call G__law_due hr rfl T.m__law_due T.F__law_due.kp T.b__law_due .nil pass0 (pa_cons (pv 0) pa_nil))) (pss_cons (ps_set (i := 2) sc__law_right.nd rfl (Or.inl rfl) (pe_call G__law_told hr rfl T.m__law_told T.F__law_told.kp T.b__law_told .nil pass0 (pa_cons pe_int (pa_cons (pv 0) pa_nil)))) (pss_cons (ps_if (PW.pt (pw_or (pt_cmpR op_ne (pe_callB (call_reprD hgd hu1) (by rfl) T.z_repr Boot.«repr» (pa_cons (pv 2) pa_nil)) (pe_callB (call_reprD hgd hu1) (by rfl) T.z_repr Boot.«repr» (pa_cons (pv 1) pa_nil)) (nomark _)) (pw_or1 (PW.pt (pw_and (pt_cmpR op_eq (pe_ix ix_tup (pv 1) pe_int (fun _ _ => rfl)) pe_str (nomark _)) (pw_and1 (pt_cmpR (op_ne_dat hu1) (pe_call G__law_told hr rfl T.m__law_told T.F__law_told.kp T.b__law_told .nil pass0 (pa_cons pe_int (pa_cons (pe_ix ix_tup (pv 2) pe_int (fun _ _ => rfl)) pa_nil))) (pe_tup (pa_cons pe_str (pa_cons (pv 0) pa_nil))) (nomark _)))))))) (pss_one (ps_ret pe_bl)) pss_nil) (pss_cons (ps_if (pt_val (pe_callB call_isinst (by rfl) T.z_isinstance Boot.«isinstance» (pa_cons (pv 0) (pa_cons (pe_bltn (v := .ty "list") rfl T.z_list Boot.«list» rfl) pa_nil)))) (pss_cons (ps_expr (pe_bm PySem.F.plainAttrs_list PySem.F.slot_list_append PySem.F.type_list_append mt_append (pv 0) (pa_cons pe_str pa_nil))) (pss_cons (ps_if (pt_cmpR op_ne (pe_callB (call_reprD hgd hu1) (by rfl) T.z_repr Boot.«repr» (pa_cons (pv 2) pa_nil)) (pe_callB (call_reprD hgd hu1) (by rfl) T.z_repr Boot.«repr» (pa_cons (pe_tup (pa_cons pe_str (pa_cons (pv 0) pa_nil))) pa_nil)) (nomark _)) (pss_one (ps_ret pe_bl)) pss_nil) (pss_one (ps_expr (pe_bm0 PySem.F.plainAttrs_list PySem.F.slot_list_pop PySem.F.type_list_pop mt_pop (pv 0)))))) pss_nil) (pss_one (ps_ret pe_bl)))))), ?_⟩
    refine ⟨_, rfl, v, rfl, p, th.lo, fun t1 u1 H1 _ s1 e1o r1o => ?_⟩
    refine ⟨_, rfl, 0, v, rfl, p.same s1, .inl ⟨rfl, fun t2 u2 H2 s2 e2 r2 => ?_⟩⟩
    have s12 := s1.trans s2
    have e1 := s2 _ _ e1o
    clear e1o
    cases hv : rOf v with
    | some r =>
      rw [hv] at e1 e2 r1o r2
      have r1 : ValAt H2 u1 r := (show ValAt H1 u1 r from r1o).same s2
      clear r1o
      have r2 : ValAt H2 u2 r := r2
      obtain ⟨x, rfl⟩ : ∃ x, v = .str x := by
        cases v with
        | str x => exact ⟨x, rfl⟩
        | _ => cases hv
      have hv : valT x = some r := hv
      have sm := val_small hv
      have lx := th.lo x rfl
      obtain ⟨k1, f1⟩ := val_data r1 sm
      obtain ⟨k2, _⟩ := val_data r2 sm
      obtain ⟨d1, d2, d3, d4⟩ := pair_repr k1 f1 (by decide +kernel) lo_value e1
      obtain ⟨g1, g2, g3, g4⟩ := pair_repr k2 f1 (by decide +kernel) lo_value e2
      refine ⟨_, rfl, _, _, rfl, g1, g2, g3, g4, _, rfl, _, _, rfl, d1, d2, d3, d4, rfl, _, rfl, ?_⟩
      rw [decide_eq_true rfl]
      refine iteF ⟨_, rfl, t1, _, _, .str (Str.ofString "value"), rfl, rfl, SqT.of e1, rfl, rfl, _, rfl, ?_⟩
      rw [decide_eq_true rfl]
      obtain ⟨p2, ⟨b, th2⟩, sm2, tx⟩ := val_thing r2 sm
      refine iteT ⟨_, rfl, t2, _, _, u2, rfl, rfl, SqT.of e2, rfl, 1, u2, rfl, p2, .inr ⟨by decide, b, th2, sm2, fun t3 H3 s3 e3 => ?_⟩⟩
      rw [tx, val_text hv] at e3
      have e3 : H3 t3 = some (.tup [.str (Str.ofString "value"), .str x]) := e3
      refine ⟨_, rfl, h2L, fun t4 ht4 => ?_⟩
      have s4 := Same.upd (o := .tup [V.str (Str.ofString "value"), V.str x]) ht4
      refine ⟨_, _, .tup (s4 _ _ e3) (.cons (.str _) (.cons (.str _) .nil)), .tup upd_same (.cons (.str _) (.cons (.str _) .nil)), str_shaped lo_value lx, str_shaped lo_value lx, str_mix _ _ _, _, rfl, ?_⟩
      rw [PySem.Spec.same_self]
      refine iteF ⟨_, rfl, _, _, _, _, rfl, .str x, rfl, _, rfl, iteF (q _ ((s12.trans s3).trans s4))⟩
    | none =>
      rw [hv] at e1 e2 r1o r2
      obtain rfl : v = u1 := (show u1 = v from r1o).symm
      obtain rfl : v = u2 := (show u2 = v from r2).symm
      obtain ⟨d, kd, fi⟩ := th.data
      obtain ⟨d1, d2, d3, d4⟩ := pair_repr (kd.same s12) fi (by decide +kernel) lo_none e1
      obtain ⟨g1, g2, g3, g4⟩ := pair_repr (kd.same s12) fi (by decide +kernel) lo_none e2
      refine ⟨_, rfl, _, _, rfl, g1, g2, g3, g4, _, rfl, _, _, rfl, d1, d2, d3, d4, rfl, _, rfl, ?_⟩
      rw [decide_eq_true rfl]
      refine iteF ⟨_, rfl, t1, _, _, .str (Str.ofString "none"), rfl, rfl, SqT.of e1, rfl, rfl, _, rfl, ?_⟩
      rw [decide_eq_false (show ¬ V.str (Str.ofString "none") = V.str (Str.ofString "value") by decide +kernel)]
      rcases th.list with ⟨a, xs, rfl, ea, hxl, fx⟩ | hn
      · have ea2 := s12 _ _ ea
        refine iteF (iteF ⟨_, rfl, _, _, _, _, rfl, .lst ea2, rfl, _, rfl, iteT ?_⟩)
        refine ⟨_, rfl, .inl ⟨rfl, _, SqL.of ea2⟩, a, xs, _, rfl, rfl, ea2, by omega, ?_⟩
        have na : t2 ≠ a := ne_of e2 ea2 (by intro z; cases z)
        have e3 : upd H2 a (.lst (xs ++ [V.str (Str.ofString "more")])) t2 = some (.tup [.str (Str.ofString "none"), .ref a]) := by rw [upd_ne na]; exact e2
        have ea3 : upd H2 a (.lst (xs ++ [V.str (Str.ofString "more")])) a = some (.lst (xs ++ [V.str (Str.ofString "more")])) := upd_same
        have fx3 : ∀ x ∈ xs ++ [V.str (Str.ofString "more")], Fl x := by
          intro x hx
          rcases List.mem_append.mp hx with hx | hx
          · exact fx x hx
          · rw [List.mem_singleton.mp hx]
            exact .str _ (by decide +kernel) (by unfold Lo; decide +kernel)
        have hl3 : (xs ++ [V.str (Str.ofString "more")]).length ≤ 20 := by rw [List.length_append]; show xs.length + 1 ≤ 20; omega
        have k3 : KD (upd H2 a (.lst (xs ++ [V.str (Str.ofString "more")]))) (.ref a) (.list ((xs ++ [V.str (Str.ofString "more")]).map fD)) := .inl (.lst ea3 ((fls_fine fx3).1 _))
        have fi3 := fine_lst fx3 hl3
        generalize hys : xs ++ [V.str (Str.ofString "more")] = ys at e3 ea3 k3 fi3
        obtain ⟨g1, g2, g3, g4⟩ := pair_repr k3 fi3 (by decide +kernel) lo_none e3
        refine ⟨_, rfl, _, _, rfl, g1, g2, g3, g4, _, rfl, h2L, fun t5 ht5 => ?_⟩
        have s5 := Same.upd (o := .tup [V.str (Str.ofString "none"), V.ref a]) ht5
        obtain ⟨d1, d2, d3, d4⟩ := pair_repr (k3.same s5) fi3 (by decide +kernel) lo_none (upd_same (H := upd H2 a (.lst ys)) (a := t5) (o := .tup [.str (Str.ofString "none"), .ref a]))
        refine ⟨_, _, rfl, d1, d2, d3, d4, rfl, _, rfl, ?_⟩
        rw [decide_eq_true rfl]
        refine iteF ⟨_, rfl, .inl ⟨rfl, _, SqL.of (s5 _ _ ea3)⟩, a, ys, V.str (Str.ofString "more"), rfl, rfl, s5 _ _ ea3, ?_, ?_⟩
        · rw [← hys]
          simp
        · refine q _ fun c o e => ?_
          have ec := s12 _ _ e
          by_cases hc : c = a
          · subst hc
            rw [ea2] at ec
            cases ec
            rw [upd_same, ← hys]
            simp
          · rw [upd_ne hc]
            refine s5 _ _ ?_
            rw [upd_ne hc]
            exact ec
      · obtain ⟨ty, h1, h2⟩ := hn H2 K s12
        exact iteF (iteF ⟨_, rfl, _, _, _, _, rfl, h1, h2, _, rfl, iteF (q _ s12)⟩)
end
end My

namespace My
open PySem L2 PyProof.Rows PySem.SeqAt
theorem val_len {x : Str} (h : 100 < x.length) : valT x = none := by
  cases hv : valT x with
  | none => rfl
  | some r =>
    rcases val_is hv with ⟨rfl, _⟩ | ⟨h1, _⟩ | ⟨p, q, rfl, hp, hq, _⟩
    · exact absurd h (by decide +kernel)
    · have := whole_len h1
      omega
    · have h1 := count_len hp
      have h2 := count_len hq
      rw [len_app, len_app] at h
      have h3 : (Str.ofString ":").length = 1 := by decide +kernel
      omega
theorem mul_ok {z : Str} (hz : z.length = 1) {n : Int} (h0 : 0 < n) (h1 : n ≤ 5000) : MulOk z n := by
  refine ⟨?_, fun _ _ => ?_, fun _ _ => ?_⟩
  · rw [decide_eq_false (by omega), decide_eq_false (by omega)]
    rfl
  · rw [hz]
    have : (1 : Int) ≤ (2 ^ 63 - 1) / n := (Int.le_ediv_iff_mul_le h0).mpr (by omega)
    show ¬ ((1 : Nat) : Int) > _
    omega
  · show decide (z.length * n.toNat > sizeLine) = false
    rw [hz]
    have hL : sizeLine = 16777216 := rfl
    exact decide_eq_false (by omega)
theorem mul_len (c : Nat) (n : Int) : (Txt.mul ⟨#[c]⟩ n).length = n.toNat := by
  have h := congrArg List.length (mul_one_list c n)
  rw [List.length_replicate] at h
  exact h
theorem mul_lo {c : Nat} (h : c < 1000) (n : Int) : Lo (Txt.mul ⟨#[c]⟩ n) := by
  intro d hd
  rw [mul_one_list] at hd
  rw [List.eq_of_mem_replicate hd]
  exact h
section
variable {P : Program} {w : World} {K : PySem.W.Frag} {mg : Str → Option Value} {base : Heap} {A : Adr}
def spLong : Sp := fun vs H Q _ => ∃ b k, vs = [.ref b] ∧ BoxAt H b k ∧ k ≤ 1000 ∧ ∀ H', Kept b H H' → Q (.bl true) H'
theorem ok__law_long_right (T : Txt K mg A) : FnOk P w K mg base CX0 6 A.a__law_long_right A.d__law_long_right ["_law_box_here"] spLong := by
  have G__law_take : FnOk P w K mg base CX0 5 A.a__law_take A.d__law_take ["_law_box_here", "_law_many"] spTake := (ok__law_take T).mono (by decide)
  have G__law_told : FnOk P w K mg base CX0 5 A.a__law_told A.d__law_told ["_law_way", "_law_thing"] spTold := ok__law_told T
  refine T.F__law_long_right.ok sc__law_long_right (fun vs H Q E h => ?_) (fun cdv Ar outer s H vs Q E hr h => ?_)
  · obtain ⟨b, k, rfl, _⟩ := h
    rfl
  · obtain ⟨b, k, rfl, B, hk, q⟩ := h
    have hL : sizeLine = 16777216 := rfl
    have h2L : (2 : Nat) ≤ sizeLine := by decide
    have hu1 : _ + 100 < cLine := Nat.lt_of_le_of_lt (Nat.add_le_add_left (by decide : 100 ≤ 16 * 5 + 200) _) (by have := hr.un; omega)
    refine ⟨_, (pss_cons (ps_set (i := 1) sc__law_long_right.nd rfl (Or.inl rfl) (pe_ix ix_str pe_str (pe_call G__law_take hr rfl T.m__law_take T.F__law_take.kp T.b__law_take .nil pass0 (pa_cons (pv 0) (pa_cons pe_int pa_nil))) (fun _ _ => rfl))) (pss_cons (ps_for PassesOwn.never rfl (pi_list (pe_lst (pa_cons (pe_op op_rep_str (pv 1) pe_int) (pa_cons (pe_op op_add_str pe_str (pe_op op_rep_str (pv 1) pe_int)) (pa_cons (pe_op op_add_str pe_str (pe_op op_rep_str (pv 1) pe_int)) (pa_cons (pe_op op_add_str (pe_op op_rep_str (pv 1) pe_int) pe_str) (pa_cons (pe_op op_rep_str pe_str pe_int) pa_nil))))))) (pg_name (i := 2) sc__law_long_right.nd rfl (Or.inl rfl) (Or.inl rfl)) (pss_one (ps_if (pt_cmpR (op_ne_dat hu1) (pe_call G__law_told hr rfl T.m__law_told T.F__law_told.kp T.b__law_told .nil pass0 (pa_cons pe_int (pa_cons (pv 2) pa_nil))) (pe_tup (pa_cons pe_str (pa_cons (pv 2) pa_nil))) (nomark _)) (pss_one (ps_ret pe_bl)) pss_nil))) (pss_one (ps_ret pe_bl)))), ?_⟩
    refine ⟨_, rfl, b, 9, k, rfl, B, by omega, by decide, by decide, fun r H1 r0 r1 B1 O1 => ?_⟩
    obtain ⟨c, hc, hcl⟩ := sign_lo (z := "123456789") (by unfold Lo; decide +kernel) r0 (by exact r1)
    refine ⟨_, r, c, rfl, rfl, by decide +kernel, hc, ?_⟩
    have l1 := mul_len c 4000
    have l2 := mul_len c 3999
    have l3 := mul_len c 3998
    have l4 := mul_len 48 4000
    have m1 := mul_lo hcl 4000
    have m2 := mul_lo hcl 3999
    have m3 := mul_lo hcl 3998
    have m4 := mul_lo (show 48 < 1000 by decide) 4000
    have n1 : (Str.ofString "-").length = 1 := by decide +kernel
    have n2 : (Str.ofString "1:").length = 2 := by decide +kernel
    have n3 : (Str.ofString ":0").length = 2 := by decide +kernel
    refine ⟨_, rfl, _, 4000, rfl, rfl, mul_ok rfl (by decide) (by decide), _, rfl, _, 3999, rfl, rfl, mul_ok rfl (by decide) (by decide), _, _, rfl, rfl, ?_, _, rfl, _, 3998, rfl, rfl, mul_ok rfl (by decide) (by decide), _, _, rfl, rfl, ?_, _, rfl, _, 3998, rfl, rfl, mul_ok rfl (by decide) (by decide), _, _, rfl, rfl, ?_, _, 4000, rfl, rfl, mul_ok (by decide +kernel) (by decide) (by decide), (show 5 ≤ sizeLine by decide), fun l hl => ⟨l, rfl, ⟨_, SqL.of upd_same⟩, ?_⟩⟩
    · omega
    · omega
    · omega
    have all : ∀ x ∈ [V.str (Txt.mul ⟨#[c]⟩ 4000), V.str (Str.ofString "-" ++ Txt.mul ⟨#[c]⟩ 3999), V.str (Str.ofString "1:" ++ Txt.mul ⟨#[c]⟩ 3998), V.str (Txt.mul ⟨#[c]⟩ 3998 ++ Str.ofString ":0"), V.str (Txt.mul (Str.ofString "0") 4000)], ∃ y : Str, x = .str y ∧ 100 < y.length ∧ y.length ≤ 5000 ∧ Lo y := by
      intro x hx
      simp only [List.mem_cons, List.not_mem_nil, or_false] at hx
      rcases hx with rfl | rfl | rfl | rfl | rfl
      · exact ⟨_, rfl, by omega, by omega, m1⟩
      · exact ⟨_, rfl, by rw [len_app]; omega, by rw [len_app]; omega, Lo.app (by unfold Lo; decide +kernel) m2⟩
      · exact ⟨_, rfl, by rw [len_app]; omega, by rw [len_app]; omega, Lo.app (by unfold Lo; decide +kernel) m3⟩
      · exact ⟨_, rfl, by rw [len_app]; omega, by rw [len_app]; omega, m3.app (by unfold Lo; decide +kernel)⟩
      · exact ⟨Txt.mul ⟨#[48]⟩ 4000, rfl, by omega, by omega, m4⟩
    generalize [V.str (Txt.mul ⟨#[c]⟩ 4000), V.str (Str.ofString "-" ++ Txt.mul ⟨#[c]⟩ 3999), V.str (Str.ofString "1:" ++ Txt.mul ⟨#[c]⟩ 3998), V.str (Txt.mul ⟨#[c]⟩ 3998 ++ Str.ofString ":0"), V.str (Txt.mul (Str.ofString "0") 4000)] = xs at all
    refine for_list (xs := xs) (fun i σ H' => ∃ x2, σ = [some (.ref b), some (.str ⟨#[c]⟩), x2] ∧ Same (upd H1 l (.lst xs)) H') ⟨none, rfl, Same.refl _⟩ ?_ ?_ ?_
    · rintro i σ H' _ ⟨x2, _, sm⟩
      exact SqL.of (sm _ _ upd_same)
    · rintro i x σ H' hx ⟨x2, rfl, sm⟩
      obtain ⟨y, rfl, y1, y2, yl⟩ := all x (List.mem_of_getElem? hx)
      refine ⟨_, rfl, 0, .str y, rfl, .str y (by omega), .inl ⟨rfl, fun t u H2 s2 e2 r2 => ?_⟩⟩
      have ev : rOf (.str y) = none := val_len y1
      rw [ev] at e2 r2
      obtain rfl : u = .str y := r2
      have e2 : H2 t = some (.tup [.str (Str.ofString "none"), .str y]) := e2
      refine ⟨_, rfl, h2L, fun t4 ht4 => ?_⟩
      have s4 := Same.upd (o := .tup [V.str (Str.ofString "none"), V.str y]) ht4
      refine ⟨_, _, .tup (s4 _ _ e2) (.cons (.str _) (.cons (.str _) .nil)), .tup upd_same (.cons (.str _) (.cons (.str _) .nil)), str_shaped lo_none yl, str_shaped lo_none yl, str_mix _ _ _, _, rfl, ?_⟩
      rw [PySem.Spec.same_self]
      exact iteF ⟨_, rfl, (sm.trans s2).trans s4⟩
    · rintro σ H' ⟨x2, rfl, sm⟩
      exact q H' ((O1.kept.trans (Same.upd hl).kept).trans sm.kept)
end
end My

namespace My
open PySem L2 PyProof.Rows
theorem toDigits_lo (m : Nat) : ∀ c ∈ (Nat.toDigits 10 m).map Char.toNat, c < 1000 := by
  intro c hc
  obtain ⟨d, hd, rfl⟩ := List.mem_map.mp hc
  have h := Nat.isDigit_of_mem_toDigits (by decide) (by decide) hd
  unfold Char.isDigit at h
  rw [Bool.and_eq_true, decide_eq_true_iff, decide_eq_true_iff] at h
  have h2 : d.toNat ≤ 57 := h.2
  omega
theorem iText_lo (i : Int) : Lo (iText i) := by
  have pos : ∀ m : Nat, ∀ c ∈ (Str.ofString (toString ((m : Nat) : Int))).cps.toList, c < 1000 := fun m c hc => by
    rw [PySem.W.KIN.signs_num] at hc
    exact toDigits_lo m c hc
  by_cases h : 0 ≤ i
  · obtain ⟨m, rfl⟩ := Int.eq_ofNat_of_zero_le h
    exact pos m
  · obtain ⟨m, hm, rfl⟩ : ∃ m : Nat, 0 < m ∧ i = -((m : Nat) : Int) := ⟨i.natAbs, by omega, by omega⟩
    intro c hc
    have hc : c ∈ (Str.ofString (toString (-((m : Nat) : Int)))).cps.toList := hc
    rw [neg_text m hm] at hc
    rcases List.mem_cons.mp hc with rfl | hc
    · decide
    · exact pos m c hc
theorem vl_lo (r : Vl) : Lo (vlText r) := by
  cases r with
  | non => unfold Lo vlText; decide +kernel
  | int i => exact iText_lo i
  | pair i j => exact ((iText_lo i).app (by unfold Lo; decide +kernel)).app (iText_lo j)
theorem vl_len {r : Vl} (h : okVl r) : (vlText r).length ≤ 200 := by
  cases r with
  | non => decide +kernel
  | int i => have := len_num h; exact Nat.le_trans this (by decide)
  | pair i j =>
    have h1 := len_num h.2.2.1
    have h2 := len_num h.2.2.2
    have h3 : (Str.ofString ":").length = 1 := by decide +kernel
    show (iText i ++ Str.ofString ":" ++ iText j).length ≤ 200
    rw [len_app, len_app]
    omega
theorem ValAt.kept {b : Addr} {H H' : Hp} {u : V} {r : Vl} (h : ValAt H u r) (n : u ≠ .ref b) (s : Kept b H H') : ValAt H' u r := by
  cases r with
  | non => exact h
  | int i => exact h
  | pair i j =>
    obtain ⟨a, e, h⟩ := h
    exact ⟨a, e, s _ _ (fun z => n (by rw [e, z])) h⟩
/-- what is known behind the drawing of one cell -/
def lawR (a : Addr) : TS := fun D σ H => ∃ (x1 x2 x4 x7 x8 : Option V) (v vv : V) (r : Vl) (z : Str), σ = [some (.ref a), x1, x2, some v, x4, some vv, some (.str z), x7, x8] ∧ Odd H v ∧ ValAt H vv r ∧ okVl r ∧ z.length ≤ 5000 ∧ Lo z ∧
  ∀ y7 y8 H', Same H H' → D.nx [some (.ref a), x1, x2, some v, x4, some vv, some (.str z), y7, y8] H'
theorem th_third {H : Hp} {v : V} (o : Odd H v) (K : PySem.W.Frag) : ∃ ty k, TyOf K H v ty ∧ PySem.W.kitOne K ty (.type "str") = some k ∧ (k = true ∨ (k = false ∧ Th H v)) := by
  cases o with
  | bl b => exact ⟨_, false, .bl b, rfl, .inr ⟨rfl, .odd (.bl b)⟩⟩
  | str x h l => exact ⟨_, true, .str x, rfl, .inl rfl⟩
  | tup e hl f pt => exact ⟨_, false, .tup e, rfl, .inr ⟨rfl, .odd (.tup e hl f pt)⟩⟩
  | lst e hl f => exact ⟨_, false, .lst e, rfl, .inr ⟨rfl, .odd (.lst e hl f)⟩⟩
  | dK e => exact ⟨_, false, .dK e, rfl, .inr ⟨rfl, .odd (.dK e)⟩⟩
section
variable {P : Program} {w : World} {K : PySem.W.Frag} {mg : Str → Option Value} {base : Heap} {A : Adr}
def spLaw (K : PySem.W.Frag) : Sp := fun vs H Q _ => ∃ (a : Addr) (ns : List Int), vs = [.ref a] ∧ SqL K H a (ns.map V.int) ∧ ns.length ≤ 63 ∧ ∀ H', Q (.bl true) H'
theorem ok_law (T : Txt K mg A) : FnOk P w K mg base CX0 8 A.a_law A.d_law ["_law_script"] (spLaw K) := by
  have G__law_cell : FnOk P w K mg base CX0 7 A.a__law_cell A.d__law_cell ["_law_script", "_law_k"] (spCell K) := (ok__law_cell T).mono (by decide)
  have G__law_box : FnOk P w K mg base CX0 7 A.a__law_box A.d__law_box ["_law_cell_here"] spBox := (ok__law_box T).mono (by decide)
  have G__law_take : FnOk P w K mg base CX0 7 A.a__law_take A.d__law_take ["_law_box_here", "_law_many"] spTake := (ok__law_take T).mono (by decide)
  have G__law_odd : FnOk P w K mg base CX0 7 A.a__law_odd A.d__law_odd ["_law_box_here"] (spDraw 1 isOdd) := (ok__law_odd T).mono (by decide)
  have G__law_value : FnOk P w K mg base CX0 7 A.a__law_value A.d__law_value ["_law_box_here"] (spDraw 7 isVal) := (ok__law_value T).mono (by decide)
  have G__law_text : FnOk P w K mg base CX0 7 A.a__law_text A.d__law_text ["_law_value_here"] spLT := (ok__law_text T).mono (by decide)
  have G__law_figures : FnOk P w K mg base CX0 7 A.a__law_figures A.d__law_figures ["_law_box_here"] (spDraw 50 (isTxt 43)) := (ok__law_figures T).mono (by decide)
  have G__law_bent : FnOk P w K mg base CX0 7 A.a__law_bent A.d__law_bent ["_law_box_here", "_law_text_here"] spBent := (ok__law_bent T).mono (by decide)
  have G__law_told : FnOk P w K mg base CX0 7 A.a__law_told A.d__law_told ["_law_way", "_law_thing"] spTold := (ok__law_told T).mono (by decide)
  have G__law_right : FnOk P w K mg base CX0 7 A.a__law_right A.d__law_right ["_law_thing"] spRight := (ok__law_right T).mono (by decide)
  have G__law_long_right : FnOk P w K mg base CX0 7 A.a__law_long_right A.d__law_long_right ["_law_box_here"] spLong := (ok__law_long_right T).mono (by decide)
  refine T.F_law.ok sc_law (fun vs H Q E h => ?_) (fun cdv Ar outer s H vs Q E hr h => ?_)
  · obtain ⟨a, ns, rfl, _⟩ := h
    rfl
  · obtain ⟨a, ns, rfl, hS, hl, q⟩ := h
    have hL : sizeLine = 16777216 := rfl
    have h2L : (2 : Nat) ≤ sizeLine := by decide
    have hgd := hr.gd
    have hu1 : _ + 100 < cLine := Nat.lt_of_le_of_lt (Nat.add_le_add_left (by decide : 100 ≤ 16 * 7 + 200) _) (by have := hr.un; omega)
    refine ⟨_, (pss_cons (ps_if (pt_not (pt_val (pe_call G__law_long_right hr rfl T.m__law_long_right T.F__law_long_right.kp T.b__law_long_right .nil pass0 (pa_cons (pe_call G__law_box hr rfl T.m__law_box T.F__law_box.kp T.b__law_box .nil pass0 (pa_cons (pe_call G__law_cell hr rfl T.m__law_cell T.F__law_cell.kp T.b__law_cell .nil pass0 (pa_cons (pv 0) (pa_cons pe_int pa_nil))) pa_nil)) pa_nil)))) (pss_one (ps_ret pe_bl)) pss_nil) (pss_cons (ps_for PassesOwn.never rfl (pi_range1 rfl T.z_range (pa_cons (pe_callB (call_max2 rfl) (by rfl) T.z_max Boot.«max» (pa_cons pe_int (pa_cons (pe_callB (call_min2 rfl) (by rfl) T.z_min Boot.«min» (pa_cons pe_int (pa_cons (pe_callB call_len_seq (by rfl) T.z_len Boot.«len» (pa_cons (pv 0) pa_nil)) pa_nil))) pa_nil))) pa_nil)) (pg_name (i := 1) sc_law.nd rfl (Or.inl rfl) (Or.inl rfl)) (pss_cons (ps_set (i := 2) sc_law.nd rfl (Or.inr rfl) (pe_call G__law_box hr rfl T.m__law_box T.F__law_box.kp T.b__law_box .nil pass0 (pa_cons (pe_call G__law_cell hr rfl T.m__law_cell T.F__law_cell.kp T.b__law_cell .nil pass0 (pa_cons (pv 0) (pa_cons (pv 1) pa_nil))) pa_nil))) (pss_cons (ps_set (i := 3) sc_law.nd rfl (Or.inl rfl) (pe_call G__law_odd hr rfl T.m__law_odd T.F__law_odd.kp T.b__law_odd .nil pass0 (pa_cons (pv 2) pa_nil))) (pss_cons (ps_set (i := 4) sc_law.nd rfl (Or.inl rfl) (pe_cmpR op_gt (pe_call G__law_take hr rfl T.m__law_take T.F__law_take.kp T.b__law_take .nil pass0 (pa_cons (pv 2) (pa_cons pe_int pa_nil))) pe_int (nomark _))) (pss_cons (ps_set (i := 5) sc_law.nd rfl (Or.inl rfl) (pe_call G__law_value hr rfl T.m__law_value T.F__law_value.kp T.b__law_value .nil pass0 (pa_cons (pv 2) pa_nil))) (pss_cons (ps_set (i := 6) sc_law.nd rfl (Or.inl rfl) (pe_call G__law_text hr rfl T.m__law_text T.F__law_text.kp T.b__law_text .nil pass0 (pa_cons (pv 5) pa_nil))) (pss_cons (ps_if (pt_not (pt_val (pv 4))) (pss_one (ps_set (i := 6) sc_law.nd rfl (Or.inl rfl) (pe_bm PySem.F.plainAttrs_str PySem.F.slot_str_join PySem.F.type_str_join mt_join pe_str (pa_cons (pe_comp (N := ["_law_turn", "_law_box_here"]) (k := 1) (js := [2]) rfl (cscope_of (by kernel_rfl)) (pi_range1 rfl T.z_range (pa_cons (pe_op op_add pe_int (pe_call G__law_take hr rfl T.m__law_take T.F__law_take.kp T.b__law_take .nil pass0 (pa_cons (pv 2) (pa_cons pe_int pa_nil)))) pa_nil)) (fun _ _ _ _ _ => ⟨(pg_name (i := 0) (show (["_law_turn", "_law_box_here"] : List Str).Nodup by decide +kernel) rfl (Or.inl rfl) (Or.inr rfl)), pif0, (pe_call G__law_figures hr rfl T.m__law_figures T.F__law_figures.kp T.b__law_figures .nil pass0 (pa_cons (pv 1) pa_nil))⟩)) pa_nil)))) (pss_one (ps_set (i := 6) sc_law.nd rfl (Or.inl rfl) (pe_call G__law_bent hr rfl T.m__law_bent T.F__law_bent.kp T.b__law_bent .nil pass0 (pa_cons (pv 2) (pa_cons (pv 6) pa_nil)))))) (pss_imp (lawR a) (pss_one (ps_for PassesOwn.never rfl (pi_range1 rfl T.z_range (pa_cons pe_int pa_nil)) (pg_name (i := 7) sc_law.nd rfl (Or.inl rfl) (Or.inl rfl)) (pss_cons (ps_if (pt_cmpR op_ne (pe_callB (call_reprD hgd hu1) (by rfl) T.z_repr Boot.«repr» (pa_cons (pe_call G__law_told hr rfl T.m__law_told T.F__law_told.kp T.b__law_told .nil pass0 (pa_cons pe_int (pa_cons (pv 5) pa_nil))) pa_nil)) (pe_callB (call_reprD hgd hu1) (by rfl) T.z_repr Boot.«repr» (pa_cons (pe_tup (pa_cons pe_str (pa_cons (pe_call G__law_text hr rfl T.m__law_text T.F__law_text.kp T.b__law_text .nil pass0 (pa_cons (pv 5) pa_nil)) pa_nil))) pa_nil)) (nomark _)) (pss_one (ps_ret pe_bl)) pss_nil) (pss_cons (ps_if (pt_cmpR op_ne (pe_callB (call_reprD hgd hu1) (by rfl) T.z_repr Boot.«repr» (pa_cons (pe_call G__law_told hr rfl T.m__law_told T.F__law_told.kp T.b__law_told .nil pass0 (pa_cons pe_int (pa_cons (pv 3) pa_nil))) pa_nil)) (pe_callB (call_reprD hgd hu1) (by rfl) T.z_repr Boot.«repr» (pa_cons (pe_tup (pa_cons pe_str (pa_cons (pv 3) pa_nil))) pa_nil)) (nomark _)) (pss_one (ps_ret pe_bl)) pss_nil) (pss_one (ps_for PassesOwn.never rfl (pi_list (pe_lst (pa_cons (pe_call G__law_text hr rfl T.m__law_text T.F__law_text.kp T.b__law_text .nil pass0 (pa_cons (pv 5) pa_nil)) (pa_cons (pv 6) (pa_cons (pe_ix ix_list (pe_lst (pa_cons (pv 3) (pa_cons pe_non pa_nil))) (pe_callTy call_int1 (by rfl) T.z_int Boot.«int» (pa_cons (pe_callB call_isinst (by rfl) T.z_isinstance Boot.«isinstance» (pa_cons (pv 3) (pa_cons (pe_bltn (v := .ty "str") rfl T.z_str Boot.«str» rfl) pa_nil))) pa_nil)) (fun _ _ => rfl)) pa_nil))))) (pg_name (i := 8) sc_law.nd rfl (Or.inl rfl) (Or.inl rfl)) (pss_one (ps_if (pt_not (pt_val (pe_call G__law_right hr rfl T.m__law_right T.F__law_right.kp T.b__law_right .nil pass0 (pa_cons (pv 8) pa_nil)))) (pss_one (ps_ret pe_bl)) pss_nil)))))))) ?cut6)))))))) (pss_one (ps_ret pe_bl)))), ?_⟩
    rotate_left
    case cut6 =>
      rintro D σ H0 ⟨x1, x2, x4, x7, x8, v, vv, r, z, rfl, od, va, okr, zl, zlo, k⟩
      refine ⟨2, rfl, by decide, by decide, ?_⟩
      refine for_range (lo := 0) (n := 2) (fun i σ H' => ∃ y7 y8, σ = [some (.ref a), x1, x2, some v, x4, some vv, some (.str z), y7, y8] ∧ Same H0 H') ⟨_, _, rfl, Same.refl _⟩ ?_ ?_
      · rintro i σ H1 hi ⟨y7, y8, rfl, s1⟩
        have va1 := va.same s1
        have od1 := od.same s1
        obtain ⟨pv, ⟨b, thv⟩, smv, txv⟩ := val_thing va1 (ok_small okr)
        -- the value's text
        refine ⟨_, rfl, 1, vv, rfl, pv, .inr ⟨by decide, b, thv, smv, fun t1 H2 s2 e2 => ?_⟩⟩
        rw [txv] at e2
        have e2 : H2 t1 = some (.tup [.str (Str.ofString "value"), .str (vlText r)]) := e2
        have ft : Fine (.str (vlText r)) := fine_str (Nat.le_trans (vl_len okr) (by decide)) (vl_lo r)
        obtain ⟨g1, g2, g3, g4⟩ := pair_repr (.inl (.str (vlText r))) ft (by decide +kernel) lo_value e2
        refine ⟨_, _, rfl, g1, g2, g3, g4, _, rfl, vv, r, rfl, va1.same s2, okr, h2L, fun t2 ht2 => ?_⟩
        have s3 := Same.upd (o := .tup [V.str (Str.ofString "value"), V.str (vlText r)]) ht2
        obtain ⟨d1, d2, d3, d4⟩ := pair_repr (.inl (.str (vlText r))) ft (by decide +kernel) lo_value (upd_same (H := H2) (a := t2) (o := .tup [.str (Str.ofString "value"), .str (vlText r)]))
        refine ⟨_, _, rfl, d1, d2, d3, d4, rfl, _, rfl, ?_⟩
        rw [decide_eq_true rfl]
        refine iteF ?_
        have s13 := (s1.trans s2).trans s3
        have od3 := od1.same (s2.trans s3)
        have va3 := va1.same (s2.trans s3)
        generalize upd H2 t2 (.tup [V.str (Str.ofString "value"), V.str (vlText r)]) = H3 at s13 od3 va3
        clear s3 ht2 d1 d2 d3 d4 g1 g2 g3 g4 e2 s2
        -- the odd thing
        obtain ⟨⟨b', tho⟩, smo⟩ := od3.thing
        refine ⟨_, rfl, 1, v, rfl, od3.plain, .inr ⟨by decide, b', tho, smo, fun t3 H4 s4 e4 => ?_⟩⟩
        rw [od3.text] at e4
        have e4 : H4 t3 = some (.tup [.str (Str.ofString "none"), v]) := e4
        obtain ⟨d, kd, fi⟩ := od3.data
        obtain ⟨g1, g2, g3, g4⟩ := pair_repr (kd.same s4) fi (by decide +kernel) lo_none e4
        refine ⟨_, _, rfl, g1, g2, g3, g4, _, rfl, h2L, fun t4 ht4 => ?_⟩
        have s5 := Same.upd (o := .tup [V.str (Str.ofString "none"), v]) ht4
        obtain ⟨d1, d2, d3, d4⟩ := pair_repr (kd.same (s4.trans s5)) fi (by decide +kernel) lo_none (upd_same (H := H4) (a := t4) (o := .tup [.str (Str.ofString "none"), v]))
        refine ⟨_, _, rfl, d1, d2, d3, d4, rfl, _, rfl, ?_⟩
        rw [decide_eq_true rfl]
        refine iteF ?_
        have s15 := (s13.trans s4).trans s5
        have od5 := od3.same (s4.trans s5)
        have va5 := va3.same (s4.trans s5)
        generalize upd H4 t4 (.tup [V.str (Str.ofString "none"), v]) = H5 at s15 od5 va5
        clear s5 ht4 d1 d2 d3 d4 g1 g2 g3 g4 e4 s4
        -- the three
        refine ⟨_, rfl, vv, r, rfl, va5, okr, _, rfl, _, rfl, h2L, fun l1 hl1 => ?_⟩
        have s6 := Same.upd (o := .lst [v, V.non]) hl1
        obtain ⟨ty, kk, h1, h2, h3⟩ := th_third (od5.same s6) K
        refine ⟨_, rfl, _, _, _, _, rfl, h1, h2, .inr ⟨kk, rfl, ?_⟩⟩
        refine ix_any (fun y => Th (upd H5 l1 (.lst [v, V.non])) y ∨ (kk = true ∧ y = v)) upd_same (by split <;> decide) (by show _ < (2 : Int); split <;> decide) ?_ fun y hy => ?_
        · intro y hy
          simp only [List.mem_cons, List.not_mem_nil, or_false] at hy
          rcases hy with rfl | rfl
          · rcases h3 with h3 | ⟨_, h3⟩
            · exact .inr ⟨h3, rfl⟩
            · exact .inl h3
          · exact .inl .non
        have hy : Th (upd H5 l1 (.lst [v, V.non])) y := by
          rcases hy with hy | ⟨_, rfl⟩
          · exact hy
          · exact .odd (od5.same s6)
        refine ⟨(show 3 ≤ sizeLine by decide), fun l3 hl3 => ⟨l3, rfl, ⟨_, SqL.of upd_same⟩, ?_⟩⟩
        have s7 := Same.upd (o := .lst [V.str (vlText r), V.str z, y]) hl3
        have s17 := (s15.trans s6).trans s7
        have all : ∀ x ∈ [V.str (vlText r), V.str z, y], Th (upd (upd H5 l1 (.lst [v, V.non])) l3 (.lst [V.str (vlText r), V.str z, y])) x := by
          intro x hx
          simp only [List.mem_cons, List.not_mem_nil, or_false] at hx
          rcases hx with rfl | rfl | rfl
          · exact .str _ (Nat.le_trans (vl_len okr) (by decide)) (vl_lo r)
          · exact .str _ zl zlo
          · exact hy.same s7
        have at3 : upd (upd H5 l1 (.lst [v, V.non])) l3 (.lst [V.str (vlText r), V.str z, y]) l3 = some (.lst [V.str (vlText r), V.str z, y]) := upd_same
        generalize upd (upd H5 l1 (.lst [v, V.non])) l3 (.lst [V.str (vlText r), V.str z, y]) = H7 at s17 all at3
        refine for_list (xs := [V.str (vlText r), V.str z, y]) (fun j σ H' => ∃ y8, σ = [some (.ref a), x1, x2, some v, x4, some vv, some (.str z), some (.int (0 + (i : Int))), y8] ∧ Same H7 H') ⟨_, rfl, Same.refl _⟩ ?_ ?_ ?_
        · rintro j σ H' _ ⟨y8, _, sm⟩
          exact SqL.of (sm _ _ at3)
        · rintro j x σ H' hx ⟨y8, rfl, sm⟩
          exact ⟨_, rfl, x, rfl, (all x (List.mem_of_getElem? hx)).same sm, fun H8 s8 => ⟨_, rfl, iteF ⟨_, rfl, sm.trans s8⟩⟩⟩
        · rintro σ H' ⟨y8, rfl, sm⟩
          exact ⟨_, _, rfl, s17.trans sm⟩
      · rintro σ H1 ⟨y7, y8, rfl, s1⟩
        exact k y7 y8 H1 s1
    refine ⟨_, rfl, a, ns, 0, rfl, hS, by omega, by omega, fun c => ⟨c, rfl, fun b0 H1 hb0 B0 s0 => ⟨b0, 0, rfl, B0, by omega, fun H2 K2 => ⟨_, rfl, ?_⟩⟩⟩⟩
    have sA : Same H H2 := fun c o e => K2 c o (ne_of_none e hb0) (s0 c o e)
    refine iteF ⟨_, rfl, a, _, rfl, .inl (sA.seq hS), 30, _, rfl, 2, _, rfl, ?_⟩
    generalize hn : (if (if ((List.map V.int ns).length : Int) < 30 then ((List.map V.int ns).length : Int) else 30) > 2 then (if ((List.map V.int ns).length : Int) < 30 then ((List.map V.int ns).length : Int) else 30) else 2) = n
    have nn : 0 ≤ n ∧ n ≤ 30 := by
      rw [← hn]
      split <;> split <;> omega
    refine ⟨n, rfl, by omega, by omega, ?_⟩
    refine for_range (lo := 0) (n := n.toNat) (fun i σ H' => ∃ (x1 x2 x3 x4 x5 x6 x7 x8 : Option V), σ = [some (.ref a), x1, x2, x3, x4, x5, x6, x7, x8] ∧ Same H H') ⟨_, _, _, _, _, _, _, _, rfl, sA⟩ ?_ ?_
    · rintro i σ H3 hi ⟨x1, x2, x3, x4, x5, x6, x7, x8, rfl, s3⟩
      refine ⟨_, rfl, _, rfl, a, ns, _, rfl, s3.seq hS, by omega, by omega, fun c => ⟨c, rfl, fun b H4 hb B4 s4 => ?_⟩⟩
      have kH : ∀ {H' : Hp}, Kept b H4 H' → Same H H' := fun {H'} kk c o e => kk c o (ne_of_none (s3 c o e) hb) (s4 c o (s3 c o e))
      refine ⟨_, rfl, b, 0, rfl, B4, by omega, fun v H5 B5 K5 ⟨od, nv⟩ => ?_⟩
      refine ⟨_, rfl, b, 3, 1, rfl, B5, by omega, by decide, by decide, fun rb H6 rb0 rb1 B6 O6 => ⟨rb, 0, rfl, rfl, ?_⟩⟩
      refine ⟨_, rfl, b, 2, rfl, B6, by omega, fun vv H7 B7 K7 ⟨r, va, okr, nvv⟩ => ?_⟩
      have od7 := (od.kept nv O6.kept).kept nv K7
      have k7 : Kept b H4 H7 := (K5.trans O6.kept).trans K7
      refine ⟨_, rfl, vv, r, rfl, va, okr, ?_⟩
      refine ⟨_, rfl, _, rfl, ?_⟩
      refine ite2 (fun _ => ?_) (fun _ => ?_)
      · refine ⟨rfl, _, rfl, b, 3, 9, rfl, B7, by omega, by decide, by decide, fun r9 H8 r90 r91 B8 O8 => ⟨1, r9, rfl, rfl, 1 + r9, rfl, by omega, by omega, ?_⟩⟩
        refine comp_box (b := b) (k0 := 10) (m := 50) (fun y => ∃ z : Str, y = .str z ∧ z.length ≤ 43 ∧ Lo z) (by omega) B8 ?_ ?_
        · intro j H9 C1 hj K9 B9 c1
          exact ⟨(SubS.refl _).own (by decide), ⟨_, rfl, b, 10 + j * 50, rfl, B9, by omega, fun y H10 B10 K10 ty => c1 y H10 ty B10 K10⟩⟩
        · intro p9 H9 ys _ K9 B9 e9 hl9 hR
          obtain ⟨xs, rfl, hx⟩ : ∃ xs : List Str, ys = xs.map V.str ∧ ∀ x ∈ xs, x.length ≤ 43 ∧ Lo x := by
            clear e9 hl9
            induction ys with
            | nil => exact ⟨[], rfl, fun x h => by cases h⟩
            | cons y ys ih =>
              obtain ⟨xs, rfl, hx⟩ := ih fun v hv => hR v (List.mem_cons_of_mem _ hv)
              obtain ⟨z, rfl, hz, hzl⟩ := hR y (List.mem_cons_self ..)
              exact ⟨z :: xs, rfl, fun x h => by rcases List.mem_cons.mp h with rfl | h; exact ⟨hz, hzl⟩; exact hx x h⟩
          rw [List.length_map] at hl9
          have hc1 : (Str.ofString ":").length = 1 := by decide +kernel
          have hj : Builtin.Str.tooLong (xs.toArray.foldl (fun a p => a + p.length + (Str.ofString ":").length) 0) = false := PySem.StrLaws.joinFits (B := 43) (fun y hy => (hx y hy).1) (by
            rw [hc1]
            omega)
          have hlen : (Txt.join (Str.ofString ":") xs).length ≤ 400 := by
            have h1 := PySem.StrLaws.join_length_le (Str.ofString ":") xs
            have h2 := PySem.StrLaws.sumLen_le xs (B := 43) (fun y hy => (hx y hy).1)
            rw [hc1] at h1
            show (Builtin.Str.glued _ xs).length ≤ 400
            rw [PySem.StrLaws.glued_eq_join]
            omega
          have hlo : Lo (Txt.join (Str.ofString ":") xs) := by
            show Lo (Builtin.Str.glued _ xs)
            rw [PySem.StrLaws.glued_eq_join]
            exact Lo.join (by unfold Lo; decide +kernel) fun t ht => (hx t ht).2
          have k9 : Kept b H4 H9 := (k7.trans O8.kept).trans K9
          refine ⟨_, p9, xs, rfl, rfl, e9, by unfold JoinOk; rw [hj]; rfl, ?_⟩
          exact ⟨_, _, _, _, _, v, vv, r, _, rfl, (od7.kept nv O8.kept).kept nv K9, (va.kept nvv O8.kept).kept nvv K9, okr, by omega, hlo, fun y7 y8 H' s' => ⟨_, _, _, _, _, _, _, _, rfl, (kH k9).trans s'⟩⟩
      · refine ⟨_, rfl, _, rfl, b, vlText r, 9, rfl, B7, by omega, Nat.le_trans (vl_len okr) (by decide), vl_lo r, fun z H8 B8 K8 zl zlo => ?_⟩
        have := vl_len okr
        exact ⟨_, _, _, _, _, v, vv, r, z, rfl, od7.kept nv K8, va.kept nvv K8, okr, by omega, zlo, fun y7 y8 H' s' => ⟨_, _, _, _, _, _, _, _, rfl, (kH (k7.trans K8)).trans s'⟩⟩
    · rintro σ H' ⟨x1, x2, x3, x4, x5, x6, x7, x8, rfl, sm⟩
      exact q H'
end
theorem walk {l : PySem.W.OpenLaw} {q : Program} {loose : List Str} {XP : (Str → Option Value) → Heap → Prop} {YP : World → Heap → Prop} {d : DefRec} {K : Params → PySem.W.Frag} (hn : l.most = some 63) (hdf : d.params.defaults = [])
    (hY : ∀ (w : World) (h : Heap), YP w h → (K w.params).In h)
    (F : ∀ (w : World) (mg : Str → Option Value) (fa : Addr) (h : Heap), (K w.params).In h → h.Ns mainGlobals mg → mg d.name = some (.ref fa) →
      ∃ fd : FuncData, (∀ (s : Shared) (u : Value), BindsTo s fd ⟨[u], []⟩ [("_law_script", u)]) ∧ ∀ base : Heap, (K w.params).In base → base.Ns mainGlobals mg → FnOk l.prog w (K w.params) mg base CX0 8 fa fd ["_law_script"] (spLaw (K w.params))) :
    PySem.W.WalkO q loose XP YP l.row.toRowW d [] (fun f vs => PySem.call f vs) :=
  L2.walk_of (n := 63) (k := 8) (x := "_law_script") (CX := fun _ => CX0) (sp := fun w => spLaw (K w.params)) hn (by decide) hdf ⟨rfl, by decide, by decide, rfl⟩ hY F (fun _ _ a ns hl _ hS => ⟨a, ns, rfl, hS, hl, fun _ => rfl⟩) fun _ _ _ _ _ z => z
theorem law_mk {l : PySem.W.OpenLaw} {w : World} {K : PySem.W.Frag} {h : Heap} {mg : Str → Option Value} {fa : Addr} (X : K.In h) (G : h.Ns mainGlobals mg) (hfa : mg "law" = some (.ref fa)) (hT : ∃ A : Adr, Txt K mg A) :
    ∃ fd : FuncData, (∀ (s : Shared) (u : Value), BindsTo s fd ⟨[u], []⟩ [("_law_script", u)]) ∧ ∀ base : Heap, K.In base → base.Ns mainGlobals mg → FnOk l.prog w K mg base CX0 8 fa fd ["_law_script"] (spLaw K) := by
  obtain ⟨A, T⟩ := hT
  have e := hfa.symm.trans T.m_law
  cases e
  exact ⟨A.d_law, T.B_law, fun base _ _ => ok_law T⟩
end My

namespace My
open PySem L2 PyProof.Rows
theorem txt_mk {K : PySem.W.Frag} {h : Heap} {mg : Str → Option Value} (X : K.In h) (G : h.Ns mainGlobals mg)
    {C_RoomError : Addr}
    {C_NoValue : Addr}
    {f0 : Addr} {od0 an0 : Option Addr} {sl0 : Array (Option Value)} {oc0 kV0 dc0 pm0 cd0 ct0 : Value}
    {f1 : Addr} {od1 an1 : Option Addr} {sl1 : Array (Option Value)} {oc1 kV1 dc1 pm1 cd1 ct1 : Value}
    {f2 : Addr} {od2 an2 : Option Addr} {sl2 : Array (Option Value)} {oc2 kV2 dc2 pm2 cd2 ct2 : Value}
    {f3 : Addr} {od3 an3 : Option Addr} {sl3 : Array (Option Value)} {oc3 kV3 dc3 pm3 cd3 ct3 : Value}
    {f4 : Addr} {od4 an4 : Option Addr} {sl4 : Array (Option Value)} {oc4 kV4 dc4 pm4 cd4 ct4 : Value}
    {f5 : Addr} {od5 an5 : Option Addr} {sl5 : Array (Option Value)} {oc5 kV5 dc5 pm5 cd5 ct5 : Value}
    {f6 : Addr} {od6 an6 : Option Addr} {sl6 : Array (Option Value)} {oc6 kV6 dc6 pm6 cd6 ct6 : Value}
    {f7 : Addr} {od7 an7 : Option Addr} {sl7 : Array (Option Value)} {oc7 kV7 dc7 pm7 cd7 ct7 : Value}
    {f8 : Addr} {od8 an8 : Option Addr} {sl8 : Array (Option Value)} {oc8 kV8 dc8 pm8 cd8 ct8 : Value}
    {f9 : Addr} {od9 an9 : Option Addr} {sl9 : Array (Option Value)} {oc9 kV9 dc9 pm9 cd9 ct9 : Value}
    {f10 : Addr} {od10 an10 : Option Addr} {sl10 : Array (Option Value)} {oc10 kV10 dc10 pm10 cd10 ct10 : Value}
    {f11 : Addr} {od11 an11 : Option Addr} {sl11 : Array (Option Value)} {oc11 kV11 dc11 pm11 cd11 ct11 : Value}
    {f12 : Addr} {od12 an12 : Option Addr} {sl12 : Array (Option Value)} {oc12 kV12 dc12 pm12 cd12 ct12 : Value}
    {f13 : Addr} {od13 an13 : Option Addr} {sl13 : Array (Option Value)} {oc13 kV13 dc13 pm13 cd13 ct13 : Value}
    {f14 : Addr} {od14 an14 : Option Addr} {sl14 : Array (Option Value)} {oc14 kV14 dc14 pm14 cd14 ct14 : Value}
    {f15 : Addr} {od15 an15 : Option Addr} {sl15 : Array (Option Value)} {oc15 kV15 dc15 pm15 cd15 ct15 : Value}
    {f16 : Addr} {od16 an16 : Option Addr} {sl16 : Array (Option Value)} {oc16 kV16 dc16 pm16 cd16 ct16 : Value}
    {f17 : Addr} {od17 an17 : Option Addr} {sl17 : Array (Option Value)} {oc17 kV17 dc17 pm17 cd17 ct17 : Value}
    {f18 : Addr} {od18 an18 : Option Addr} {sl18 : Array (Option Value)} {oc18 kV18 dc18 pm18 cd18 ct18 : Value}
    {f19 : Addr} {od19 an19 : Option Addr} {sl19 : Array (Option Value)} {oc19 kV19 dc19 pm19 cd19 ct19 : Value}
    {f20 : Addr} {od20 an20 : Option Addr} {sl20 : Array (Option Value)} {oc20 kV20 dc20 pm20 cd20 ct20 : Value}
    {f21 : Addr} {od21 an21 : Option Addr} {sl21 : Array (Option Value)} {oc21 kV21 dc21 pm21 cd21 ct21 : Value}
    {f22 : Addr} {od22 an22 : Option Addr} {sl22 : Array (Option Value)} {oc22 kV22 dc22 pm22 cd22 ct22 : Value}
    {f23 : Addr} {od23 an23 : Option Addr} {sl23 : Array (Option Value)} {oc23 kV23 dc23 pm23 cd23 ct23 : Value}
    {f24 : Addr} {od24 an24 : Option Addr} {sl24 : Array (Option Value)} {oc24 kV24 dc24 pm24 cd24 ct24 : Value}
    {nm_RoomError q_RoomError : Str} {N_RoomError : Addr} {bs_RoomError bm_RoomError : List Value} {sn_RoomError : List Str} {sub_RoomError : List Value} {ab_RoomError : Bool} {col_RoomError : Option Bool} {dd_RoomError : Option Addr} {k0_RoomError k1_RoomError k2_RoomError k3_RoomError k5_RoomError : Option Value}
    {nm_NoValue q_NoValue : Str} {N_NoValue : Addr} {bs_NoValue bm_NoValue : List Value} {sn_NoValue : List Str} {sub_NoValue : List Value} {ab_NoValue : Bool} {col_NoValue : Option Bool} {dd_NoValue : Option Addr} {k0_NoValue k1_NoValue k2_NoValue k3_NoValue k5_NoValue : Option Value}
    {u_FIGURES : Tok}
    {u_MOST_FIGURES : Tok}
    (c_RoomError : PySem.W.nsIn K mainGlobals "RoomError" = some (some (.ref C_RoomError)))
    (c_NoValue : PySem.W.nsIn K mainGlobals "NoValue" = some (some (.ref C_NoValue)))
    (a0 : PySem.W.findIn K (.ref C_RoomError) "__init__" = some (some (.ref f0)))
    (i0 : PySem.W.isFn K (.ref f0) = true)
    (l0 : K.lookup f0 = some ⟨oc0, od0, .func (PySem.W.fnOf "__init__" "RoomError.__init__" (defArgs s_RoomError___init__) (defBody s_RoomError___init__) (defScope s_RoomError___init__) .none kV0 dc0 pm0 an0 cd0 ct0), sl0⟩) (c0 : PySem.W.codeIn K cd0 "RoomError.__init__" = true) (k0 : PySem.W.keepIn K (.ref f0) = true)
    (a1 : PySem.W.findIn K (.ref C_NoValue) "__init__" = some (some (.ref f1)))
    (i1 : PySem.W.isFn K (.ref f1) = true)
    (l1 : K.lookup f1 = some ⟨oc1, od1, .func (PySem.W.fnOf "__init__" "NoValue.__init__" (defArgs s_NoValue___init__) (defBody s_NoValue___init__) (defScope s_NoValue___init__) .none kV1 dc1 pm1 an1 cd1 ct1), sl1⟩) (c1 : PySem.W.codeIn K cd1 "NoValue.__init__" = true) (k1 : PySem.W.keepIn K (.ref f1) = true)
    (a2 : PySem.W.nsIn K mainGlobals "is_number" = some (some (.ref f2)))
    (l2 : K.lookup f2 = some ⟨oc2, od2, .func (PySem.W.fnOf "is_number" "is_number" (defArgs s_is_number) (defBody s_is_number) (defScope s_is_number) .none kV2 dc2 pm2 an2 cd2 ct2), sl2⟩) (c2 : PySem.W.codeIn K cd2 "is_number" = true) (k2 : PySem.W.keepIn K (.ref f2) = true)
    (a3 : PySem.W.nsIn K mainGlobals "is_count" = some (some (.ref f3)))
    (l3 : K.lookup f3 = some ⟨oc3, od3, .func (PySem.W.fnOf "is_count" "is_count" (defArgs s_is_count) (defBody s_is_count) (defScope s_is_count) .none kV3 dc3 pm3 an3 cd3 ct3), sl3⟩) (c3 : PySem.W.codeIn K cd3 "is_count" = true) (k3 : PySem.W.keepIn K (.ref f3) = true)
    (a4 : PySem.W.nsIn K mainGlobals "is_pair" = some (some (.ref f4)))
    (l4 : K.lookup f4 = some ⟨oc4, od4, .func (PySem.W.fnOf "is_pair" "is_pair" (defArgs s_is_pair) (defBody s_is_pair) (defScope s_is_pair) .none kV4 dc4 pm4 an4 cd4 ct4), sl4⟩) (c4 : PySem.W.codeIn K cd4 "is_pair" = true) (k4 : PySem.W.keepIn K (.ref f4) = true)
    (a5 : PySem.W.nsIn K mainGlobals "value_text" = some (some (.ref f5)))
    (l5 : K.lookup f5 = some ⟨oc5, od5, .func (PySem.W.fnOf "value_text" "value_text" (defArgs s_value_text) (defBody s_value_text) (defScope s_value_text) .none kV5 dc5 pm5 an5 cd5 ct5), sl5⟩) (c5 : PySem.W.codeIn K cd5 "value_text" = true) (k5 : PySem.W.keepIn K (.ref f5) = true)
    (a6 : PySem.W.nsIn K mainGlobals "value_of" = some (some (.ref f6)))
    (l6 : K.lookup f6 = some ⟨oc6, od6, .func (PySem.W.fnOf "value_of" "value_of" (defArgs s_value_of) (defBody s_value_of) (defScope s_value_of) .none kV6 dc6 pm6 an6 cd6 ct6), sl6⟩) (c6 : PySem.W.codeIn K cd6 "value_of" = true) (k6 : PySem.W.keepIn K (.ref f6) = true)
    (a7 : PySem.W.nsIn K mainGlobals "is_whole_text" = some (some (.ref f7)))
    (l7 : K.lookup f7 = some ⟨oc7, od7, .func (PySem.W.fnOf "is_whole_text" "is_whole_text" (defArgs s_is_whole_text) (defBody s_is_whole_text) (defScope s_is_whole_text) .none kV7 dc7 pm7 an7 cd7 ct7), sl7⟩) (c7 : PySem.W.codeIn K cd7 "is_whole_text" = true) (k7 : PySem.W.keepIn K (.ref f7) = true)
    (a8 : PySem.W.nsIn K mainGlobals "is_count_text" = some (some (.ref f8)))
    (l8 : K.lookup f8 = some ⟨oc8, od8, .func (PySem.W.fnOf "is_count_text" "is_count_text" (defArgs s_is_count_text) (defBody s_is_count_text) (defScope s_is_count_text) .none kV8 dc8 pm8 an8 cd8 ct8), sl8⟩) (c8 : PySem.W.codeIn K cd8 "is_count_text" = true) (k8 : PySem.W.keepIn K (.ref f8) = true)
    (a9 : PySem.W.nsIn K mainGlobals "_law_cell" = some (some (.ref f9)))
    (l9 : K.lookup f9 = some ⟨oc9, od9, .func (PySem.W.fnOf "_law_cell" "_law_cell" (defArgs s__law_cell) (defBody s__law_cell) (defScope s__law_cell) .none kV9 dc9 pm9 an9 cd9 ct9), sl9⟩) (c9 : PySem.W.codeIn K cd9 "_law_cell" = true) (k9 : PySem.W.keepIn K (.ref f9) = true)
    (a10 : PySem.W.nsIn K mainGlobals "_law_box" = some (some (.ref f10)))
    (l10 : K.lookup f10 = some ⟨oc10, od10, .func (PySem.W.fnOf "_law_box" "_law_box" (defArgs s__law_box) (defBody s__law_box) (defScope s__law_box) .none kV10 dc10 pm10 an10 cd10 ct10), sl10⟩) (c10 : PySem.W.codeIn K cd10 "_law_box" = true) (k10 : PySem.W.keepIn K (.ref f10) = true)
    (a11 : PySem.W.nsIn K mainGlobals "_law_take" = some (some (.ref f11)))
    (l11 : K.lookup f11 = some ⟨oc11, od11, .func (PySem.W.fnOf "_law_take" "_law_take" (defArgs s__law_take) (defBody s__law_take) (defScope s__law_take) .none kV11 dc11 pm11 an11 cd11 ct11), sl11⟩) (c11 : PySem.W.codeIn K cd11 "_law_take" = true) (k11 : PySem.W.keepIn K (.ref f11) = true)
    (a12 : PySem.W.nsIn K mainGlobals "_law_page" = some (some (.ref f12)))
    (l12 : K.lookup f12 = some ⟨oc12, od12, .func (PySem.W.fnOf "_law_page" "_law_page" (defArgs s__law_page) (defBody s__law_page) (defScope s__law_page) .none kV12 dc12 pm12 an12 cd12 ct12), sl12⟩) (c12 : PySem.W.codeIn K cd12 "_law_page" = true) (k12 : PySem.W.keepIn K (.ref f12) = true)
    (a13 : PySem.W.nsIn K mainGlobals "_law_number" = some (some (.ref f13)))
    (l13 : K.lookup f13 = some ⟨oc13, od13, .func (PySem.W.fnOf "_law_number" "_law_number" (defArgs s__law_number) (defBody s__law_number) (defScope s__law_number) .none kV13 dc13 pm13 an13 cd13 ct13), sl13⟩) (c13 : PySem.W.codeIn K cd13 "_law_number" = true) (k13 : PySem.W.keepIn K (.ref f13) = true)
    (a14 : PySem.W.nsIn K mainGlobals "_law_value" = some (some (.ref f14)))
    (l14 : K.lookup f14 = some ⟨oc14, od14, .func (PySem.W.fnOf "_law_value" "_law_value" (defArgs s__law_value) (defBody s__law_value) (defScope s__law_value) .none kV14 dc14 pm14 an14 cd14 ct14), sl14⟩) (c14 : PySem.W.codeIn K cd14 "_law_value" = true) (k14 : PySem.W.keepIn K (.ref f14) = true)
    (a15 : PySem.W.nsIn K mainGlobals "_law_text" = some (some (.ref f15)))
    (l15 : K.lookup f15 = some ⟨oc15, od15, .func (PySem.W.fnOf "_law_text" "_law_text" (defArgs s__law_text) (defBody s__law_text) (defScope s__law_text) .none kV15 dc15 pm15 an15 cd15 ct15), sl15⟩) (c15 : PySem.W.codeIn K cd15 "_law_text" = true) (k15 : PySem.W.keepIn K (.ref f15) = true)
    (a16 : PySem.W.nsIn K mainGlobals "_law_figures" = some (some (.ref f16)))
    (l16 : K.lookup f16 = some ⟨oc16, od16, .func (PySem.W.fnOf "_law_figures" "_law_figures" (defArgs s__law_figures) (defBody s__law_figures) (defScope s__law_figures) .none kV16 dc16 pm16 an16 cd16 ct16), sl16⟩) (c16 : PySem.W.codeIn K cd16 "_law_figures" = true) (k16 : PySem.W.keepIn K (.ref f16) = true)
    (a17 : PySem.W.nsIn K mainGlobals "_law_bent" = some (some (.ref f17)))
    (l17 : K.lookup f17 = some ⟨oc17, od17, .func (PySem.W.fnOf "_law_bent" "_law_bent" (defArgs s__law_bent) (defBody s__law_bent) (defScope s__law_bent) .none kV17 dc17 pm17 an17 cd17 ct17), sl17⟩) (c17 : PySem.W.codeIn K cd17 "_law_bent" = true) (k17 : PySem.W.keepIn K (.ref f17) = true)
    (a18 : PySem.W.nsIn K mainGlobals "_law_read" = some (some (.ref f18)))
    (l18 : K.lookup f18 = some ⟨oc18, od18, .func (PySem.W.fnOf "_law_read" "_law_read" (defArgs s__law_read) (defBody s__law_read) (defScope s__law_read) .none kV18 dc18 pm18 an18 cd18 ct18), sl18⟩) (c18 : PySem.W.codeIn K cd18 "_law_read" = true) (k18 : PySem.W.keepIn K (.ref f18) = true)
    (a19 : PySem.W.nsIn K mainGlobals "_law_due" = some (some (.ref f19)))
    (l19 : K.lookup f19 = some ⟨oc19, od19, .func (PySem.W.fnOf "_law_due" "_law_due" (defArgs s__law_due) (defBody s__law_due) (defScope s__law_due) .none kV19 dc19 pm19 an19 cd19 ct19), sl19⟩) (c19 : PySem.W.codeIn K cd19 "_law_due" = true) (k19 : PySem.W.keepIn K (.ref f19) = true)
    (a20 : PySem.W.nsIn K mainGlobals "_law_told" = some (some (.ref f20)))
    (l20 : K.lookup f20 = some ⟨oc20, od20, .func (PySem.W.fnOf "_law_told" "_law_told" (defArgs s__law_told) (defBody s__law_told) (defScope s__law_told) .none kV20 dc20 pm20 an20 cd20 ct20), sl20⟩) (c20 : PySem.W.codeIn K cd20 "_law_told" = true) (k20 : PySem.W.keepIn K (.ref f20) = true)
    (a21 : PySem.W.nsIn K mainGlobals "_law_odd" = some (some (.ref f21)))
    (l21 : K.lookup f21 = some ⟨oc21, od21, .func (PySem.W.fnOf "_law_odd" "_law_odd" (defArgs s__law_odd) (defBody s__law_odd) (defScope s__law_odd) .none kV21 dc21 pm21 an21 cd21 ct21), sl21⟩) (c21 : PySem.W.codeIn K cd21 "_law_odd" = true) (k21 : PySem.W.keepIn K (.ref f21) = true)
    (a22 : PySem.W.nsIn K mainGlobals "_law_right" = some (some (.ref f22)))
    (l22 : K.lookup f22 = some ⟨oc22, od22, .func (PySem.W.fnOf "_law_right" "_law_right" (defArgs s__law_right) (defBody s__law_right) (defScope s__law_right) .none kV22 dc22 pm22 an22 cd22 ct22), sl22⟩) (c22 : PySem.W.codeIn K cd22 "_law_right" = true) (k22 : PySem.W.keepIn K (.ref f22) = true)
    (a23 : PySem.W.nsIn K mainGlobals "_law_long_right" = some (some (.ref f23)))
    (l23 : K.lookup f23 = some ⟨oc23, od23, .func (PySem.W.fnOf "_law_long_right" "_law_long_right" (defArgs s__law_long_right) (defBody s__law_long_right) (defScope s__law_long_right) .none kV23 dc23 pm23 an23 cd23 ct23), sl23⟩) (c23 : PySem.W.codeIn K cd23 "_law_long_right" = true) (k23 : PySem.W.keepIn K (.ref f23) = true)
    (a24 : PySem.W.nsIn K mainGlobals "law" = some (some (.ref f24)))
    (l24 : K.lookup f24 = some ⟨oc24, od24, .func (PySem.W.fnOf "law" "law" (defArgs s_law) (defBody s_law) (defScope s_law) .none kV24 dc24 pm24 an24 cd24 ct24), sl24⟩) (c24 : PySem.W.codeIn K cd24 "law" = true) (k24 : PySem.W.keepIn K (.ref f24) = true)
    (x_RoomError : K.lookup C_RoomError = some (excClassObj nm_RoomError q_RoomError C_RoomError N_RoomError bs_RoomError bm_RoomError true sn_RoomError sub_RoomError ab_RoomError col_RoomError dd_RoomError k0_RoomError k1_RoomError k2_RoomError k3_RoomError k5_RoomError "ValueError.__new__"))
    (t_RoomError : TailHas bm_RoomError)
    (ty_RoomError : PySem.W.typeIn K (.ref f0) = some (.type "function")) (kc_RoomError : PySem.W.keepIn K (.ref C_RoomError) = true) (sp_RoomError : PySem.W.specialIn K (.ref C_RoomError) "__getattribute__" = some (some (.builtin "type.__getattribute__"))) (rd_RoomError : PySem.W.readsIn K C_RoomError (.type "type") = true) (fc_RoomError : PySem.W.findCls K (.ref C_RoomError) (.type "type") "__init__" = some (.val (.ref f0)))
    (rf_RoomError : ∀ self, refuseLoop self "__setattr__" bm_RoomError = pure ())
    (ob_RoomError : bm_RoomError.contains (.type "object") = true)
    (sa_RoomError : PySem.W.findIn K (.ref C_RoomError) "__setattr__" = some (some (.builtin "object.__setattr__"))) (ga_RoomError : PySem.W.findIn K (.ref C_RoomError) "__getattribute__" = some (some (.builtin "BaseException.__getattribute__"))) (hk_RoomError : PySem.W.findIn K (.ref C_RoomError) "__getattr__" = some none) (mr_RoomError : PySem.W.mroIn K C_RoomError (.type "BaseException") = some true) (hd_RoomError : PySem.W.hasDictIn K C_RoomError = true)
    (u_RoomError_RoomError : (Value.ref C_RoomError :: bm_RoomError).contains (.ref C_RoomError) = true)
    (x_NoValue : K.lookup C_NoValue = some (excClassObj nm_NoValue q_NoValue C_NoValue N_NoValue bs_NoValue bm_NoValue true sn_NoValue sub_NoValue ab_NoValue col_NoValue dd_NoValue k0_NoValue k1_NoValue k2_NoValue k3_NoValue k5_NoValue "ValueError.__new__"))
    (t_NoValue : TailHas bm_NoValue)
    (ty_NoValue : PySem.W.typeIn K (.ref f1) = some (.type "function")) (kc_NoValue : PySem.W.keepIn K (.ref C_NoValue) = true) (sp_NoValue : PySem.W.specialIn K (.ref C_NoValue) "__getattribute__" = some (some (.builtin "type.__getattribute__"))) (rd_NoValue : PySem.W.readsIn K C_NoValue (.type "type") = true) (fc_NoValue : PySem.W.findCls K (.ref C_NoValue) (.type "type") "__init__" = some (.val (.ref f1)))
    (rf_NoValue : ∀ self, refuseLoop self "__setattr__" bm_NoValue = pure ())
    (ob_NoValue : bm_NoValue.contains (.type "object") = true)
    (sa_NoValue : PySem.W.findIn K (.ref C_NoValue) "__setattr__" = some (some (.builtin "object.__setattr__"))) (ga_NoValue : PySem.W.findIn K (.ref C_NoValue) "__getattribute__" = some (some (.builtin "BaseException.__getattribute__"))) (hk_NoValue : PySem.W.findIn K (.ref C_NoValue) "__getattr__" = some none) (mr_NoValue : PySem.W.mroIn K C_NoValue (.type "BaseException") = some true) (hd_NoValue : PySem.W.hasDictIn K C_NoValue = true)
    (u_NoValue_NoValue : (Value.ref C_NoValue :: bm_NoValue).contains (.ref C_NoValue) = true)
    (u_NoValue_RoomError : (Value.ref C_NoValue :: bm_NoValue).contains (.ref C_RoomError) = true)
    (n_NoValue_found : PySem.W.findIn K (.ref C_NoValue) "found" = some none)
    (z_ValueError : PySem.W.nsIn K mainGlobals "ValueError" = some none)
    (z_abs : PySem.W.nsIn K mainGlobals "abs" = some none)
    (z_all : PySem.W.nsIn K mainGlobals "all" = some none)
    (z_bool : PySem.W.nsIn K mainGlobals "bool" = some none)
    (z_int : PySem.W.nsIn K mainGlobals "int" = some none)
    (z_isinstance : PySem.W.nsIn K mainGlobals "isinstance" = some none)
    (z_len : PySem.W.nsIn K mainGlobals "len" = some none)
    (z_list : PySem.W.nsIn K mainGlobals "list" = some none)
    (z_max : PySem.W.nsIn K mainGlobals "max" = some none)
    (z_min : PySem.W.nsIn K mainGlobals "min" = some none)
    (z_range : PySem.W.nsIn K mainGlobals "range" = some none)
    (z_repr : PySem.W.nsIn K mainGlobals "repr" = some none)
    (z_str : PySem.W.nsIn K mainGlobals "str" = some none)
    (z_tuple : PySem.W.nsIn K mainGlobals "tuple" = some none)
    (g_FIGURES : PySem.W.nsIn K mainGlobals "FIGURES" = some (some (.str "0123456789" u_FIGURES)))
    (g_MOST_FIGURES : PySem.W.nsIn K mainGlobals "MOST_FIGURES" = some (some (.int 40 u_MOST_FIGURES))) :
    ∃ A : Adr, Txt K mg A :=
  ⟨⟨f0, PySem.W.fnOf "__init__" "RoomError.__init__" (defArgs s_RoomError___init__) (defBody s_RoomError___init__) (defScope s_RoomError___init__) .none kV0 dc0 pm0 an0 cd0 ct0, f1, PySem.W.fnOf "__init__" "NoValue.__init__" (defArgs s_NoValue___init__) (defBody s_NoValue___init__) (defScope s_NoValue___init__) .none kV1 dc1 pm1 an1 cd1 ct1, f2, PySem.W.fnOf "is_number" "is_number" (defArgs s_is_number) (defBody s_is_number) (defScope s_is_number) .none kV2 dc2 pm2 an2 cd2 ct2, f3, PySem.W.fnOf "is_count" "is_count" (defArgs s_is_count) (defBody s_is_count) (defScope s_is_count) .none kV3 dc3 pm3 an3 cd3 ct3, f4, PySem.W.fnOf "is_pair" "is_pair" (defArgs s_is_pair) (defBody s_is_pair) (defScope s_is_pair) .none kV4 dc4 pm4 an4 cd4 ct4, f5, PySem.W.fnOf "value_text" "value_text" (defArgs s_value_text) (defBody s_value_text) (defScope s_value_text) .none kV5 dc5 pm5 an5 cd5 ct5, f6, PySem.W.fnOf "value_of" "value_of" (defArgs s_value_of) (defBody s_value_of) (defScope s_value_of) .none kV6 dc6 pm6 an6 cd6 ct6, f7, PySem.W.fnOf "is_whole_text" "is_whole_text" (defArgs s_is_whole_text) (defBody s_is_whole_text) (defScope s_is_whole_text) .none kV7 dc7 pm7 an7 cd7 ct7, f8, PySem.W.fnOf "is_count_text" "is_count_text" (defArgs s_is_count_text) (defBody s_is_count_text) (defScope s_is_count_text) .none kV8 dc8 pm8 an8 cd8 ct8, f9, PySem.W.fnOf "_law_cell" "_law_cell" (defArgs s__law_cell) (defBody s__law_cell) (defScope s__law_cell) .none kV9 dc9 pm9 an9 cd9 ct9, f10, PySem.W.fnOf "_law_box" "_law_box" (defArgs s__law_box) (defBody s__law_box) (defScope s__law_box) .none kV10 dc10 pm10 an10 cd10 ct10, f11, PySem.W.fnOf "_law_take" "_law_take" (defArgs s__law_take) (defBody s__law_take) (defScope s__law_take) .none kV11 dc11 pm11 an11 cd11 ct11, f12, PySem.W.fnOf "_law_page" "_law_page" (defArgs s__law_page) (defBody s__law_page) (defScope s__law_page) .none kV12 dc12 pm12 an12 cd12 ct12, f13, PySem.W.fnOf "_law_number" "_law_number" (defArgs s__law_number) (defBody s__law_number) (defScope s__law_number) .none kV13 dc13 pm13 an13 cd13 ct13, f14, PySem.W.fnOf "_law_value" "_law_value" (defArgs s__law_value) (defBody s__law_value) (defScope s__law_value) .none kV14 dc14 pm14 an14 cd14 ct14, f15, PySem.W.fnOf "_law_text" "_law_text" (defArgs s__law_text) (defBody s__law_text) (defScope s__law_text) .none kV15 dc15 pm15 an15 cd15 ct15, f16, PySem.W.fnOf "_law_figures" "_law_figures" (defArgs s__law_figures) (defBody s__law_figures) (defScope s__law_figures) .none kV16 dc16 pm16 an16 cd16 ct16, f17, PySem.W.fnOf "_law_bent" "_law_bent" (defArgs s__law_bent) (defBody s__law_bent) (defScope s__law_bent) .none kV17 dc17 pm17 an17 cd17 ct17, f18, PySem.W.fnOf "_law_read" "_law_read" (defArgs s__law_read) (defBody s__law_read) (defScope s__law_read) .none kV18 dc18 pm18 an18 cd18 ct18, f19, PySem.W.fnOf "_law_due" "_law_due" (defArgs s__law_due) (defBody s__law_due) (defScope s__law_due) .none kV19 dc19 pm19 an19 cd19 ct19, f20, PySem.W.fnOf "_law_told" "_law_told" (defArgs s__law_told) (defBody s__law_told) (defScope s__law_told) .none kV20 dc20 pm20 an20 cd20 ct20, f21, PySem.W.fnOf "_law_odd" "_law_odd" (defArgs s__law_odd) (defBody s__law_odd) (defScope s__law_odd) .none kV21 dc21 pm21 an21 cd21 ct21, f22, PySem.W.fnOf "_law_right" "_law_right" (defArgs s__law_right) (defBody s__law_right) (defScope s__law_right) .none kV22 dc22 pm22 an22 cd22 ct22, f23, PySem.W.fnOf "_law_long_right" "_law_long_right" (defArgs s__law_long_right) (defBody s__law_long_right) (defScope s__law_long_right) .none kV23 dc23 pm23 an23 cd23 ct23, f24, PySem.W.fnOf "law" "law" (defArgs s_law) (defBody s_law) (defScope s_law) .none kV24 dc24 pm24 an24 cd24 ct24, C_RoomError, C_NoValue⟩,
    ⟨fun_mk (st := s_RoomError___init__) l0 c0 k0,
    ((fun_mk (st := s_RoomError___init__) l0 c0 k0).binds (ps := ["self", "text"]) fun _ _ _ _ _ _ us hl => match us, hl with | [_, _], _ => rfl),
    fun_mk (st := s_NoValue___init__) l1 c1 k1,
    ((fun_mk (st := s_NoValue___init__) l1 c1 k1).binds (ps := ["self", "found"]) fun _ _ _ _ _ _ us hl => match us, hl with | [_, _], _ => rfl),
    PySem.W.mg_of X G a2,
    fun_mk (st := s_is_number) l2 c2 k2,
    ((fun_mk (st := s_is_number) l2 c2 k2).binds (ps := ["thing"]) fun _ _ _ _ _ _ us hl => match us, hl with | [_], _ => rfl),
    PySem.W.mg_of X G a3,
    fun_mk (st := s_is_count) l3 c3 k3,
    ((fun_mk (st := s_is_count) l3 c3 k3).binds (ps := ["thing"]) fun _ _ _ _ _ _ us hl => match us, hl with | [_], _ => rfl),
    PySem.W.mg_of X G a4,
    fun_mk (st := s_is_pair) l4 c4 k4,
    ((fun_mk (st := s_is_pair) l4 c4 k4).binds (ps := ["thing"]) fun _ _ _ _ _ _ us hl => match us, hl with | [_], _ => rfl),
    PySem.W.mg_of X G a5,
    fun_mk (st := s_value_text) l5 c5 k5,
    ((fun_mk (st := s_value_text) l5 c5 k5).binds (ps := ["value"]) fun _ _ _ _ _ _ us hl => match us, hl with | [_], _ => rfl),
    PySem.W.mg_of X G a6,
    fun_mk (st := s_value_of) l6 c6 k6,
    ((fun_mk (st := s_value_of) l6 c6 k6).binds (ps := ["text"]) fun _ _ _ _ _ _ us hl => match us, hl with | [_], _ => rfl),
    PySem.W.mg_of X G a7,
    fun_mk (st := s_is_whole_text) l7 c7 k7,
    ((fun_mk (st := s_is_whole_text) l7 c7 k7).binds (ps := ["text"]) fun _ _ _ _ _ _ us hl => match us, hl with | [_], _ => rfl),
    PySem.W.mg_of X G a8,
    fun_mk (st := s_is_count_text) l8 c8 k8,
    ((fun_mk (st := s_is_count_text) l8 c8 k8).binds (ps := ["text"]) fun _ _ _ _ _ _ us hl => match us, hl with | [_], _ => rfl),
    PySem.W.mg_of X G a9,
    fun_mk (st := s__law_cell) l9 c9 k9,
    ((fun_mk (st := s__law_cell) l9 c9 k9).binds (ps := ["_law_script", "_law_k"]) fun _ _ _ _ _ _ us hl => match us, hl with | [_, _], _ => rfl),
    PySem.W.mg_of X G a10,
    fun_mk (st := s__law_box) l10 c10 k10,
    ((fun_mk (st := s__law_box) l10 c10 k10).binds (ps := ["_law_cell_here"]) fun _ _ _ _ _ _ us hl => match us, hl with | [_], _ => rfl),
    PySem.W.mg_of X G a11,
    fun_mk (st := s__law_take) l11 c11 k11,
    ((fun_mk (st := s__law_take) l11 c11 k11).binds (ps := ["_law_box_here", "_law_many"]) fun _ _ _ _ _ _ us hl => match us, hl with | [_, _], _ => rfl),
    PySem.W.mg_of X G a12,
    fun_mk (st := s__law_page) l12 c12 k12,
    ((fun_mk (st := s__law_page) l12 c12 k12).binds (ps := []) fun _ _ _ _ _ _ us hl => match us, hl with | [], _ => rfl),
    PySem.W.mg_of X G a13,
    fun_mk (st := s__law_number) l13 c13 k13,
    ((fun_mk (st := s__law_number) l13 c13 k13).binds (ps := ["_law_box_here"]) fun _ _ _ _ _ _ us hl => match us, hl with | [_], _ => rfl),
    PySem.W.mg_of X G a14,
    fun_mk (st := s__law_value) l14 c14 k14,
    ((fun_mk (st := s__law_value) l14 c14 k14).binds (ps := ["_law_box_here"]) fun _ _ _ _ _ _ us hl => match us, hl with | [_], _ => rfl),
    PySem.W.mg_of X G a15,
    fun_mk (st := s__law_text) l15 c15 k15,
    ((fun_mk (st := s__law_text) l15 c15 k15).binds (ps := ["_law_value_here"]) fun _ _ _ _ _ _ us hl => match us, hl with | [_], _ => rfl),
    PySem.W.mg_of X G a16,
    fun_mk (st := s__law_figures) l16 c16 k16,
    ((fun_mk (st := s__law_figures) l16 c16 k16).binds (ps := ["_law_box_here"]) fun _ _ _ _ _ _ us hl => match us, hl with | [_], _ => rfl),
    PySem.W.mg_of X G a17,
    fun_mk (st := s__law_bent) l17 c17 k17,
    ((fun_mk (st := s__law_bent) l17 c17 k17).binds (ps := ["_law_box_here", "_law_text_here"]) fun _ _ _ _ _ _ us hl => match us, hl with | [_, _], _ => rfl),
    PySem.W.mg_of X G a18,
    fun_mk (st := s__law_read) l18 c18 k18,
    ((fun_mk (st := s__law_read) l18 c18 k18).binds (ps := ["_law_text_here"]) fun _ _ _ _ _ _ us hl => match us, hl with | [_], _ => rfl),
    PySem.W.mg_of X G a19,
    fun_mk (st := s__law_due) l19 c19 k19,
    ((fun_mk (st := s__law_due) l19 c19 k19).binds (ps := ["_law_thing"]) fun _ _ _ _ _ _ us hl => match us, hl with | [_], _ => rfl),
    PySem.W.mg_of X G a20,
    fun_mk (st := s__law_told) l20 c20 k20,
    ((fun_mk (st := s__law_told) l20 c20 k20).binds (ps := ["_law_way", "_law_thing"]) fun _ _ _ _ _ _ us hl => match us, hl with | [_, _], _ => rfl),
    PySem.W.mg_of X G a21,
    fun_mk (st := s__law_odd) l21 c21 k21,
    ((fun_mk (st := s__law_odd) l21 c21 k21).binds (ps := ["_law_box_here"]) fun _ _ _ _ _ _ us hl => match us, hl with | [_], _ => rfl),
    PySem.W.mg_of X G a22,
    fun_mk (st := s__law_right) l22 c22 k22,
    ((fun_mk (st := s__law_right) l22 c22 k22).binds (ps := ["_law_thing"]) fun _ _ _ _ _ _ us hl => match us, hl with | [_], _ => rfl),
    PySem.W.mg_of X G a23,
    fun_mk (st := s__law_long_right) l23 c23 k23,
    ((fun_mk (st := s__law_long_right) l23 c23 k23).binds (ps := ["_law_box_here"]) fun _ _ _ _ _ _ us hl => match us, hl with | [_], _ => rfl),
    PySem.W.mg_of X G a24,
    fun_mk (st := s_law) l24 c24 k24,
    ((fun_mk (st := s_law) l24 c24 k24).binds (ps := ["_law_script"]) fun _ _ _ _ _ _ us hl => match us, hl with | [_], _ => rfl),
    PySem.W.mg_of X G c_RoomError,
    ⟨⟨⟨nm_RoomError, q_RoomError, N_RoomError, bs_RoomError, bm_RoomError, true, sn_RoomError, sub_RoomError, ab_RoomError, col_RoomError, dd_RoomError, k0_RoomError, k1_RoomError, k2_RoomError, k3_RoomError, k5_RoomError, x_RoomError, t_RoomError⟩⟩, a0, ty_RoomError, kc_RoomError⟩,
    ⟨sp_RoomError, rd_RoomError, fc_RoomError, k0⟩,
    ⟨⟨nm_RoomError, q_RoomError, N_RoomError, bs_RoomError, bm_RoomError, sn_RoomError, sub_RoomError, ab_RoomError, col_RoomError, dd_RoomError, k0_RoomError, k1_RoomError, k2_RoomError, k3_RoomError, k5_RoomError, x_RoomError, rf_RoomError, ob_RoomError⟩, sa_RoomError⟩,
    ⟨ga_RoomError, hk_RoomError, mr_RoomError, hd_RoomError⟩,
    ⟨⟨nm_RoomError, q_RoomError, N_RoomError, bs_RoomError, bm_RoomError, true, sn_RoomError, sub_RoomError, ab_RoomError, col_RoomError, dd_RoomError, k0_RoomError, k1_RoomError, k2_RoomError, k3_RoomError, k5_RoomError, "ValueError.__new__", x_RoomError, u_RoomError_RoomError⟩⟩,
    PySem.W.mg_of X G c_NoValue,
    ⟨⟨⟨nm_NoValue, q_NoValue, N_NoValue, bs_NoValue, bm_NoValue, true, sn_NoValue, sub_NoValue, ab_NoValue, col_NoValue, dd_NoValue, k0_NoValue, k1_NoValue, k2_NoValue, k3_NoValue, k5_NoValue, x_NoValue, t_NoValue⟩⟩, a1, ty_NoValue, kc_NoValue⟩,
    ⟨sp_NoValue, rd_NoValue, fc_NoValue, k1⟩,
    ⟨⟨nm_NoValue, q_NoValue, N_NoValue, bs_NoValue, bm_NoValue, sn_NoValue, sub_NoValue, ab_NoValue, col_NoValue, dd_NoValue, k0_NoValue, k1_NoValue, k2_NoValue, k3_NoValue, k5_NoValue, x_NoValue, rf_NoValue, ob_NoValue⟩, sa_NoValue⟩,
    ⟨ga_NoValue, hk_NoValue, mr_NoValue, hd_NoValue⟩,
    ⟨⟨nm_NoValue, q_NoValue, N_NoValue, bs_NoValue, bm_NoValue, true, sn_NoValue, sub_NoValue, ab_NoValue, col_NoValue, dd_NoValue, k0_NoValue, k1_NoValue, k2_NoValue, k3_NoValue, k5_NoValue, "ValueError.__new__", x_NoValue, u_NoValue_NoValue⟩⟩,
    ⟨⟨nm_NoValue, q_NoValue, N_NoValue, bs_NoValue, bm_NoValue, true, sn_NoValue, sub_NoValue, ab_NoValue, col_NoValue, dd_NoValue, k0_NoValue, k1_NoValue, k2_NoValue, k3_NoValue, k5_NoValue, "ValueError.__new__", x_NoValue, u_NoValue_RoomError⟩⟩,
    n_NoValue_found,
    fun s v => .of_eq rfl,
    PySem.W.mg_none_of X G z_ValueError,
    PySem.W.mg_none_of X G z_abs,
    PySem.W.mg_none_of X G z_all,
    PySem.W.mg_none_of X G z_bool,
    PySem.W.mg_none_of X G z_int,
    PySem.W.mg_none_of X G z_isinstance,
    PySem.W.mg_none_of X G z_len,
    PySem.W.mg_none_of X G z_list,
    PySem.W.mg_none_of X G z_max,
    PySem.W.mg_none_of X G z_min,
    PySem.W.mg_none_of X G z_range,
    PySem.W.mg_none_of X G z_repr,
    PySem.W.mg_none_of X G z_str,
    PySem.W.mg_none_of X G z_tuple,
    ⟨_, ⟨_, rfl⟩, PySem.W.mg_of X G g_FIGURES⟩,
    ⟨_, ⟨_, rfl⟩, PySem.W.mg_of X G g_MOST_FIGURES⟩⟩⟩
end My
open PySem PySem.W PyProof.Rows
set_option maxRecDepth 100000 in
set_option maxHeartbeats 0 in
theorem PySem.Challenge.cw_framerooms_k02_values_as_texts_holds : PySem.Challenge.rw_framerooms_k02_values_as_texts.Holds := by
  w_on; o_law; k_head; (case hw => w_witness2)
  k_fill
  refine My.walk (l := PySem.Challenge.rw_framerooms_k02_values_as_texts) rfl rfl (fun w h Y => PySem.W.kIn_of Y) ?F
  case F =>
    intro w mg fa h KX G hmg
    refine' My.law_mk KX G hmg ?T
    refine' My.txt_mk KX G ?c_RoomError ?c_NoValue ?a0 ?i0 ?l0 ?c0 ?k0 ?a1 ?i1 ?l1 ?c1 ?k1 ?a2 ?l2 ?c2 ?k2 ?a3 ?l3 ?c3 ?k3 ?a4 ?l4 ?c4 ?k4 ?a5 ?l5 ?c5 ?k5 ?a6 ?l6 ?c6 ?k6 ?a7 ?l7 ?c7 ?k7 ?a8 ?l8 ?c8 ?k8 ?a9 ?l9 ?c9 ?k9 ?a10 ?l10 ?c10 ?k10 ?a11 ?l11 ?c11 ?k11 ?a12 ?l12 ?c12 ?k12 ?a13 ?l13 ?c13 ?k13 ?a14 ?l14 ?c14 ?k14 ?a15 ?l15 ?c15 ?k15 ?a16 ?l16 ?c16 ?k16 ?a17 ?l17 ?c17 ?k17 ?a18 ?l18 ?c18 ?k18 ?a19 ?l19 ?c19 ?k19 ?a20 ?l20 ?c20 ?k20 ?a21 ?l21 ?c21 ?k21 ?a22 ?l22 ?c22 ?k22 ?a23 ?l23 ?c23 ?k23 ?a24 ?l24 ?c24 ?k24 ?x_RoomError ?t_RoomError ?ty_RoomError ?kc_RoomError ?sp_RoomError ?rd_RoomError ?fc_RoomError ?rf_RoomError ?ob_RoomError ?sa_RoomError ?ga_RoomError ?hk_RoomError ?mr_RoomError ?hd_RoomError ?u_RoomError_RoomError ?x_NoValue ?t_NoValue ?ty_NoValue ?kc_NoValue ?sp_NoValue ?rd_NoValue ?fc_NoValue ?rf_NoValue ?ob_NoValue ?sa_NoValue ?ga_NoValue ?hk_NoValue ?mr_NoValue ?hd_NoValue ?u_NoValue_NoValue ?u_NoValue_RoomError ?n_NoValue_found ?z_ValueError ?z_abs ?z_all ?z_bool ?z_int ?z_isinstance ?z_len ?z_list ?z_max ?z_min ?z_range ?z_repr ?z_str ?z_tuple ?g_FIGURES ?g_MOST_FIGURES
    (case c_RoomError => k_is)
    (case c_NoValue => k_is)
    (case a0 => k_is)
    (case i0 => k_is)
    (case l0 => k_is)
    (case c0 => k_is)
    (case k0 => k_is)
    (case a1 => k_is)
    (case i1 => k_is)
    (case l1 => k_is)
    (case c1 => k_is)
    (case k1 => k_is)
    (case a2 => k_is)
    (case l2 => k_is)
    (case c2 => k_is)
    (case k2 => k_is)
    (case a3 => k_is)
    (case l3 => k_is)
    (case c3 => k_is)
    (case k3 => k_is)
    (case a4 => k_is)
    (case l4 => k_is)
    (case c4 => k_is)
    (case k4 => k_is)
    (case a5 => k_is)
    (case l5 => k_is)
    (case c5 => k_is)
    (case k5 => k_is)
    (case a6 => k_is)
    (case l6 => k_is)
    (case c6 => k_is)
    (case k6 => k_is)
    (case a7 => k_is)
    (case l7 => k_is)
    (case c7 => k_is)
    (case k7 => k_is)
    (case a8 => k_is)
    (case l8 => k_is)
    (case c8 => k_is)
    (case k8 => k_is)
    (case a9 => k_is)
    (case l9 => k_is)
    (case c9 => k_is)
    (case k9 => k_is)
    (case a10 => k_is)
    (case l10 => k_is)
    (case c10 => k_is)
    (case k10 => k_is)
    (case a11 => k_is)
    (case l11 => k_is)
    (case c11 => k_is)
    (case k11 => k_is)
    (case a12 => k_is)
    (case l12 => k_is)
    (case c12 => k_is)
    (case k12 => k_is)
    (case a13 => k_is)
    (case l13 => k_is)
    (case c13 => k_is)
    (case k13 => k_is)
    (case a14 => k_is)
    (case l14 => k_is)
    (case c14 => k_is)
    (case k14 => k_is)
    (case a15 => k_is)
    (case l15 => k_is)
    (case c15 => k_is)
    (case k15 => k_is)
    (case a16 => k_is)
    (case l16 => k_is)
    (case c16 => k_is)
    (case k16 => k_is)
    (case a17 => k_is)
    (case l17 => k_is)
    (case c17 => k_is)
    (case k17 => k_is)
    (case a18 => k_is)
    (case l18 => k_is)
    (case c18 => k_is)
    (case k18 => k_is)
    (case a19 => k_is)
    (case l19 => k_is)
    (case c19 => k_is)
    (case k19 => k_is)
    (case a20 => k_is)
    (case l20 => k_is)
    (case c20 => k_is)
    (case k20 => k_is)
    (case a21 => k_is)
    (case l21 => k_is)
    (case c21 => k_is)
    (case k21 => k_is)
    (case a22 => k_is)
    (case l22 => k_is)
    (case c22 => k_is)
    (case k22 => k_is)
    (case a23 => k_is)
    (case l23 => k_is)
    (case c23 => k_is)
    (case k23 => k_is)
    (case a24 => k_is)
    (case l24 => k_is)
    (case c24 => k_is)
    (case k24 => k_is)
    (case x_RoomError => k_is)
    (case t_RoomError => exact ⟨rfl, rfl, rfl, rfl⟩)
    (case ty_RoomError => k_is)
    (case kc_RoomError => k_is)
    (case sp_RoomError => k_is)
    (case rd_RoomError => k_is)
    (case fc_RoomError => k_is)
    (case rf_RoomError => (intro self; (repeat rw [refuseLoop_ref]); exact L2.refuse_value self))
    (case ob_RoomError => rfl)
    (case sa_RoomError => k_is)
    (case ga_RoomError => k_is)
    (case hk_RoomError => k_is)
    (case mr_RoomError => k_is)
    (case hd_RoomError => k_is)
    (case u_RoomError_RoomError => rfl)
    (case x_NoValue => k_is)
    (case t_NoValue => exact ⟨rfl, rfl, rfl, rfl⟩)
    (case ty_NoValue => k_is)
    (case kc_NoValue => k_is)
    (case sp_NoValue => k_is)
    (case rd_NoValue => k_is)
    (case fc_NoValue => k_is)
    (case rf_NoValue => (intro self; (repeat rw [refuseLoop_ref]); exact L2.refuse_value self))
    (case ob_NoValue => rfl)
    (case sa_NoValue => k_is)
    (case ga_NoValue => k_is)
    (case hk_NoValue => k_is)
    (case mr_NoValue => k_is)
    (case hd_NoValue => k_is)
    (case u_NoValue_NoValue => rfl)
    (case u_NoValue_RoomError => rfl)
    (case n_NoValue_found => k_is)
    (case z_ValueError => k_is)
    (case z_abs => k_is)
    (case z_all => k_is)
    (case z_bool => k_is)
    (case z_int => k_is)
    (case z_isinstance => k_is)
    (case z_len => k_is)
    (case z_list => k_is)
    (case z_max => k_is)
    (case z_min => k_is)
    (case z_range => k_is)
    (case z_repr => k_is)
    (case z_str => k_is)
    (case z_tuple => k_is)
    (case g_FIGURES => k_is)
    (case g_MOST_FIGURES => k_is)
