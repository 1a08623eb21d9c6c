import PyProof.Rows.All
import Wide.All
import OpenK.AllK
import Wide.FinOn
import PyProof.EqAt
import PyProof.EqKinds
import PyProof.TupleCall
import KE.BitLaws
import PySem.Challenge.RW_halvewright_k65_ends_of_maps
set_option Elab.async false
set_option linter.all false
set_option maxRecDepth 100000
/-! THE HAND LAYER, for ints, bools, texts, own classes, lists, tuples, dicts, comprehensions, walks over dicts, enumerate, zip, reversed, texts, calls, loops. Paste it whole ahead of your own text; what your proof does not reach may be deleted. -/
namespace L2
open PySem PySem.Spec PyProof.Rows

/-- a key: an int or a str -/
abbrev Key := Sum Int Str
def keyIs : Key → Value → Bool
  | .inl k, v => Value.isInt k v
  | .inr x, v => Value.isStrOf x v
def keyH (w : World) : Key → Int
  | .inl k => hashInt k
  | .inr x => hashStr w x
theorem keyIs_shape : ∀ {k : Key} {v : Value}, keyIs k v = true → (∃ i t, k = Sum.inl i ∧ v = Value.int i t) ∨ (∃ x t, k = Sum.inr x ∧ v = Value.str x t)
  | .inl i, v, h => by
    obtain ⟨t, e⟩ := Value.isInt_shape (k := i) (v := v) h
    exact .inl ⟨i, t, rfl, e⟩
  | .inr x, v, h => by
    obtain ⟨t, e⟩ := Value.isStrOf_shape (x := x) (v := v) h
    exact .inr ⟨x, t, rfl, e⟩
theorem keyIs_int (i : Int) (t : Tok) : keyIs (.inl i) (.int i t) = true := by simp [keyIs, Value.isInt]
theorem keyIs_str (x : Str) (t : Tok) : keyIs (.inr x) (.str x t) = true := by simp [keyIs, Value.isStrOf]
theorem key_ll (a b : Int) : decide ((Sum.inl a : Key) = Sum.inl b) = (a == b) := by
  by_cases e : a = b
  · subst e; simp
  · have h : ¬ (Sum.inl a : Key) = Sum.inl b := fun q => e (Sum.inl.inj q)
    rw [decide_eq_false h]
    exact (beq_eq_false_iff_ne.mpr e).symm
theorem key_rr (a b : Str) : decide ((Sum.inr a : Key) = Sum.inr b) = decide (a = b) := by
  by_cases e : a = b
  · subst e; simp
  · have h : ¬ (Sum.inr a : Key) = Sum.inr b := fun q => e (Sum.inr.inj q)
    rw [decide_eq_false h, decide_eq_false e]
theorem key_lr (a : Int) (b : Str) : decide ((Sum.inl a : Key) = Sum.inr b) = false := decide_eq_false (fun q => nomatch q)
theorem key_rl (a : Str) (b : Int) : decide ((Sum.inr a : Key) = Sum.inl b) = false := decide_eq_false (fun q => nomatch q)

def mixKind (prog : Program) (w : World) : PySem.KeyKind prog w Key where
  is := keyIs
  hash := keyH w
  inj := fun v a b ha hb => by
    rcases keyIs_shape ha with ⟨i, t, rfl, rfl⟩ | ⟨x, t, rfl, rfl⟩
    · rcases keyIs_shape hb with ⟨j, u, rfl, e⟩ | ⟨y, u, rfl, e⟩
      · injection e with e1 _; rw [e1]
      · exact nomatch e
    · rcases keyIs_shape hb with ⟨j, u, rfl, e⟩ | ⟨y, u, rfl, e⟩
      · exact nomatch e
      · injection e with e1 _; rw [e1]
  byValue := fun k v h => by
    rcases keyIs_shape h with ⟨i, t, rfl, rfl⟩ | ⟨x, t, rfl, rfl⟩ <;> rfl
  pyHash := fun hv h => by
    rcases keyIs_shape hv with ⟨i, t, rfl, rfl⟩ | ⟨x, t, rfl, rfl⟩
    · exact wpAny_pyHash_int h
    · exact wpAny_pyHash_str h
  eqBool := fun hu hv h => by
    rcases keyIs_shape hu with ⟨i, t, rfl, rfl⟩ | ⟨x, t, rfl, rfl⟩
    · rcases keyIs_shape hv with ⟨j, u, rfl, rfl⟩ | ⟨y, u, rfl, rfl⟩
      · rw [key_ll] at h; exact wpAny_eqBool_int h
      · rw [key_lr] at h; exact SeqAt.EqAt.int_str i t y u _ _ _ _ h
    · rcases keyIs_shape hv with ⟨j, u, rfl, rfl⟩ | ⟨y, u, rfl, rfl⟩
      · rw [key_rl] at h; exact SeqAt.EqAt.str_int x t j u _ _ _ _ h
      · rw [key_rr] at h; exact wpAny_eqBool_str h
  «strs» := fun k x t v h => by
    rcases keyIs_shape h with ⟨i, u, rfl, e⟩ | ⟨y, u, rfl, e⟩
    · exact nomatch e
    · injection e with e1 _
      subst e1
      cases v <;> rfl

theorem mixKind_int (prog : Program) (w : World) (i : Int) (t : Tok) : (mixKind prog w).is (.inl i) (.int i t) = true := keyIs_int i t
theorem mixKind_str (prog : Program) (w : World) (x : Str) (t : Tok) : (mixKind prog w).is (.inr x) (.str x t) = true := keyIs_str x t
end L2

namespace L2
open PySem PySem.Spec PyProof.Rows

/-- a value, without the heap -/
inductive V where
  | non | bl (b : Bool) | int (i : Int) | str (x : Str) | byt (b : Array UInt8) | flt (b : UInt64) | ref (a : Addr) | ty (n : String)
  deriving DecidableEq

def RelV : V → Value → Prop
  | .non, u => u = Value.none
  | .bl b, u => u = Value.bool b
  | .int i, u => ∃ t, u = Value.int i t
  | .str x, u => ∃ t, u = Value.str x t
  | .byt b, u => ∃ t, u = Value.bytes b t
  | .flt b, u => ∃ t, u = Value.float b t
  | .ref a, u => u = Value.ref a
  | .ty n, u => u = Value.type n

abbrev Vals : List V → List Value → Prop := Paired RelV
theorem Vals.length {xs : List V} {us : List Value} (r : Vals xs us) : xs.length = us.length := Paired.length r
theorem Vals.get : ∀ {xs : List V} {us : List Value} {i : Nat} {x : V}, Vals xs us → xs[i]? = some x → ∃ u, us[i]? = some u ∧ RelV x u
  | _, _, _, _, .nil, e => by simp at e
  | _, _, 0, _, .cons r _, e => by simp at e; subst e; exact ⟨_, rfl, r⟩
  | _, _, i + 1, x, .cons _ t, e => by
    obtain ⟨u, h1, h2⟩ := Vals.get (i := i) (x := x) t (by simpa using e)
    exact ⟨u, by simpa using h1, h2⟩
theorem Vals.set {x : V} {u : Value} (r : RelV x u) : ∀ {xs : List V} {us : List Value} (i : Nat), Vals xs us → Vals (xs.set i x) (us.set i u)
  | _, _, _, .nil => .nil
  | _, _, 0, .cons _ t => .cons r t
  | _, _, i + 1, .cons q t => .cons q (Vals.set r i t)
theorem Vals.append : ∀ {xs ys : List V} {us ws : List Value}, Vals xs us → Vals ys ws → Vals (xs ++ ys) (us ++ ws)
  | _, _, _, _, .nil, s => s
  | _, _, _, _, .cons r t, s => .cons r (Vals.append t s)
theorem Vals.take : ∀ {xs : List V} {us : List Value} (n : Nat), Vals xs us → Vals (xs.take n) (us.take n)
  | _, _, 0, _ => .nil
  | _, _, _ + 1, .nil => .nil
  | _, _, n + 1, .cons r t => .cons r (Vals.take n t)
theorem Vals.drop : ∀ {xs : List V} {us : List Value} (n : Nat), Vals xs us → Vals (xs.drop n) (us.drop n)
  | _, _, 0, r => r
  | _, _, _ + 1, .nil => .nil
  | _, _, n + 1, .cons _ t => Vals.drop n t

def RelO : Option V → Option Value → Prop
  | some v, some u => RelV v u
  | none, none => True
  | _, _ => False
def KV {κ : Type} : List (κ × V) → List (κ × Value) → Prop := Paired fun (p : κ × V) (q : κ × Value) => p.1 = q.1 ∧ RelV p.2 q.2

/-- a key of a dict (00_mix): an int or a text -/
def kV : Key → V
  | .inl i => .int i
  | .inr x => .str x

/-- what stands at a tracked address -/
inductive HO where
  /-- a list -/
  | lst (xs : List V)
  /-- a tuple (never changes) -/
  | tup (xs : List V)
  /-- a dict whose keys are ints and texts; one whose keys are tuples of ints and texts (the empty one is both) -/
  | dK (kvs : List (Key × V)) | dT (kvs : List (List Key × V))
  /-- a set of ints: its members, its size -/
  | set (S : Int → Bool) (n : Nat)
  /-- an instance of the class at C, its dict at dx, its attributes -/
  | ins (C dx : Addr) (fs : List (Str × V))
  /-- the dict of the instance at x -/
  | own (x : Addr)
  /-- the dict of an exception -/
  | xd (fs : List (Str × V))
  /-- a bound method, f of x -/
  | met (f x : Addr)
  /-- a range object lo, lo + 1, .. below hi -/
  | rng (lo hi : Int)
  /-- a thing that is known to the object (the script; a dict while a loop walks it): read, never written while it is so -/
  | frz (o : Obj) (u : HO)
  /-- a code object's table -/
  | tbl (ps : Array Value)
  /-- any other thing, by what is true of its one object (a def of one's own: SetO a S n := HO.ext fun h => ..) -/
  | ext (φ : Heap → Prop)

abbrev Hp := Addr → Option HO
def upd (H : Hp) (a : Addr) (o : HO) : Hp := fun b => if b = a then some o else H b
theorem upd_same {H : Hp} {a : Addr} {o : HO} : upd H a o a = some o := by unfold upd; rw [if_pos rfl]
theorem upd_ne {H : Hp} {a b : Addr} {o : HO} (h : b ≠ a) : upd H a o b = H b := by unfold upd; rw [if_neg h]
/-- two objects of different content stand apart -/
theorem ne_of {H : Hp} {a b : Addr} {o u : HO} (h : H a = some o) (h' : H b = some u) (d : o ≠ u) : a ≠ b := by
  intro e; subst e; rw [h] at h'; exact d (Option.some.inj h')
theorem ne_of_none {H : Hp} {a b : Addr} {o : HO} (h : H a = some o) (h' : H b = none) : a ≠ b := by
  intro e; subst e; rw [h] at h'; cases h'

section
variable (P : Program) (w : World)
def ObjOk (H : Hp) (h : Heap) (a : Addr) : HO → Prop
  | .lst xs => xs.length ≤ sizeLine ∧ ∃ (its : List Value) (n : Nat), Vals xs its ∧ h.get? a = some { cls := .type "list", data := .seq its.toArray n }
  | .tup xs => xs.length ≤ sizeLine ∧ ∃ its : List Value, Vals xs its ∧ IsTup h a its.toArray
  | .dK kvs => kvs.length ≤ sizeLine ∧ (a == sysModules) = false ∧ ∃ vs, KV kvs vs ∧ h.DictOf (mixKind P w) a vs
  | .dT kvs => kvs.length ≤ sizeLine ∧ (a == sysModules) = false ∧ ∃ xs : List (List Key × Addr × Value),
      Paired (fun (p : List Key × V) (q : List Key × Addr × Value) => p.1 = q.1 ∧ H q.2.1 = some (.tup (p.1.map kV)) ∧ RelV p.2 q.2.2) kvs xs ∧
      ∃ o es ep, h.get? a = some o ∧ o.ExactDict ∧ o.data = .dict es ep ∧ es.toList = xs.map (entryOfKey (tupleKind (mixKind P w))) ∧ (xs.map (·.1)).Nodup
  | .set S n => h.SetOf (intKind P w) a S n
  | .ins C dx fs => H dx = some (.own a) ∧ fs.length ≤ 1000 ∧ dx ≠ a ∧ h.get? a = some (PySem.W.instObj C dx) ∧
      ∃ mA, h.Ns1 dx mA ∧ (∀ f, RelO (fs.lookup f) (mA f)) ∧ PySem.Within mA (fs.map (·.1))
  | .own _ => ∃ o, h.get? a = some o
  | .xd fs => ∃ mA, h.Ns1 a mA ∧ ∀ f, RelO (fs.lookup f) (mA f)
  | .rng lo hi => ∃ t u v, h.get? a = some { cls := .type "range", data := .fields #[.int lo t, .int hi u, .int 1 v] }
  | .frz o u => h.get? a = some o ∧ ObjOk H h a u
  | .tbl ps => h.get? a = some { cls := .none, data := .fields ps }
  | .met f x => h.get? a = some (PySem.W.methodObj (.ref f) (.ref x))
  | .ext φ => φ h ∧ (∃ o, h.get? a = some o) ∧ ∀ h1 h2 : Heap, φ h1 → (∀ o, h1.get? a = some o → h2.get? a = some o) → φ h2
/-- the abstract heap is held -/
def HOk (H : Hp) (h : Heap) : Prop := ∀ a o, H a = some o → ObjOk P w H h a o
end

section
variable {P : Program} {w : World} {H H' : Hp} {h h' : Heap} {a : Addr} {o : HO}
theorem ObjOk.lt (x : ObjOk P w H h a o) : a < h.objs.size := by
  cases o with
  | lst xs => obtain ⟨_, _, _, _, e⟩ := x; exact Heap.lt_size e
  | tup xs => obtain ⟨_, _, _, p⟩ := x; exact p.lt
  | dK kvs => obtain ⟨_, _, _, _, o, _, _, e, _⟩ := x; exact Heap.lt_size e
  | dT kvs => obtain ⟨_, _, _, _, o, _, _, e, _⟩ := x; exact Heap.lt_size e
  | set S n => obtain ⟨o, _, _, _, e, _⟩ := x; exact Heap.lt_size e
  | ins C dx fs => obtain ⟨_, _, _, e, _⟩ := x; exact Heap.lt_size e
  | own y => obtain ⟨_, e⟩ := x; exact Heap.lt_size e
  | xd fs => obtain ⟨_, ⟨_, _, _, e, _⟩, _⟩ := x; exact Heap.lt_size e
  | rng lo hi => obtain ⟨_, _, _, e⟩ := x; exact Heap.lt_size e
  | frz ob u => obtain ⟨e, _⟩ := x; exact Heap.lt_size e
  | tbl ps => exact Heap.lt_size (show h.get? a = some _ from x)
  | met f y => exact Heap.lt_size (show h.get? a = some _ from x)
  | ext φ => obtain ⟨_, ⟨_, e⟩, _⟩ := x; exact Heap.lt_size e
theorem Paired.mapP {α β : Type} {F G : α → β → Prop} : ∀ {l₁ : List α} {l₂ : List β}, Paired F l₁ l₂ → (∀ a b, F a b → G a b) → Paired G l₁ l₂
  | _, _, .nil, _ => .nil
  | _, _, .cons r t, f => .cons (f _ _ r) (Paired.mapP t f)
/-- what an object's description leans on: its own object, its own dict, the tuples -/
theorem ObjOk.stay (x : ObjOk P w H h a o) (k : ∀ b u, (b = a ∨ H b = some (.own a)) → h.get? b = some u → h'.get? b = some u)
    (ho : ∀ b, H b = some (.own a) → H' b = some (.own a)) (ht : ∀ b xs, H b = some (.tup xs) → H' b = some (.tup xs)) : ObjOk P w H' h' a o := by
  induction o with
  | lst xs => obtain ⟨z, its, n, r, e⟩ := x; exact ⟨z, its, n, r, k _ _ (.inl rfl) e⟩
  | tup xs => obtain ⟨z, its, r, ob, e, c⟩ := x; exact ⟨z, its, r, ob, k _ _ (.inl rfl) e, c⟩
  | dK kvs => obtain ⟨z, y, vs, r, ob, es, ep, e, c⟩ := x; exact ⟨z, y, vs, r, ob, es, ep, k _ _ (.inl rfl) e, c⟩
  | dT kvs =>
    obtain ⟨z, y, xs, r, ob, es, ep, e, c⟩ := x
    exact ⟨z, y, xs, Paired.mapP r fun p q z => ⟨z.1, ht _ _ z.2.1, z.2.2⟩, ob, es, ep, k _ _ (.inl rfl) e, c⟩
  | set S n => obtain ⟨ob, es, ep, t, e, c⟩ := x; exact ⟨ob, es, ep, t, k _ _ (.inl rfl) e, c⟩
  | ins C dx fs =>
    obtain ⟨d, z, ne, e, mA, ⟨od, es, ep, e2, c⟩, r⟩ := x
    exact ⟨ho _ d, z, ne, k _ _ (.inl rfl) e, mA, ⟨od, es, ep, k _ _ (.inr d) e2, c⟩, r⟩
  | own y => obtain ⟨ob, e⟩ := x; exact ⟨ob, k _ _ (.inl rfl) e⟩
  | xd fs => obtain ⟨mA, ⟨od, es, ep, e, c⟩, r⟩ := x; exact ⟨mA, ⟨od, es, ep, k _ _ (.inl rfl) e, c⟩, r⟩
  | rng lo hi => obtain ⟨t, u, v, e⟩ := x; exact ⟨t, u, v, k _ _ (.inl rfl) e⟩
  | frz ob u ih => obtain ⟨e, q⟩ := x; exact ⟨k _ _ (.inl rfl) e, ih q⟩
  | tbl ps =>
    have e : h.get? a = some { cls := .none, data := .fields ps } := x
    show h'.get? a = some { cls := .none, data := .fields ps }
    exact k a _ (.inl rfl) e
  | met f y =>
    have e : h.get? a = some (PySem.W.methodObj (.ref f) (.ref y)) := x
    show h'.get? a = some (PySem.W.methodObj (.ref f) (.ref y))
    exact k a _ (.inl rfl) e
  | ext φ => obtain ⟨p, ⟨o, e⟩, st⟩ := x; exact ⟨st _ _ p fun o q => k _ _ (.inl rfl) q, ⟨o, k _ _ (.inl rfl) e⟩, st⟩
theorem HOk.lt (x : HOk P w H h) (e : H a = some o) : a < h.objs.size := (x a o e).lt
theorem HOk.fresh (x : HOk P w H h) (e : h.objs.size ≤ a) : H a = none := by
  cases q : H a with
  | none => rfl
  | some u => exact absurd (Nat.lt_of_lt_of_le (x.lt q) e) (Nat.lt_irrefl _)
/-- every object of the heap is kept -/
theorem HOk.kept (x : HOk P w H h) (k : ∀ b u, h.get? b = some u → h'.get? b = some u) : HOk P w H h' := fun a o e =>
  (x a o e).stay (fun b u _ q => k b u q) (fun _ q => q) fun _ _ q => q
/-- a new object is laid and tracked -/
theorem HOk.laid (x : HOk P w H h) (k : ∀ b u, h.get? b = some u → h'.get? b = some u) (hp : h.objs.size ≤ a) (new : ObjOk P w (upd H a o) h' a o) : HOk P w (upd H a o) h' := fun b u e => by
  have hn := x.fresh hp
  by_cases hb : b = a
  · subst hb; rw [upd_same] at e; cases e; exact new
  · rw [upd_ne hb] at e
    exact (x b u e).stay (fun c v _ q => k c v q) (fun c q => by rw [upd_ne (ne_of_none q hn)]; exact q) fun c xs q => by rw [upd_ne (ne_of_none q hn)]; exact q
end

/-- what may be read as u: it is u, or a known u -/
def Rd (H : Hp) (a : Addr) (u : HO) : Prop := H a = some u ∨ ∃ o, H a = some (.frz o u)
theorem Rd.of {H : Hp} {a : Addr} {u : HO} (h : H a = some u) : Rd H a u := .inl h
theorem Rd.ok {P : Program} {w : World} {H : Hp} {h : Heap} {a : Addr} {u : HO} (r : Rd H a u) (x : HOk P w H h) : ObjOk P w H h a u := by
  rcases r with r | ⟨o, r⟩
  · exact x a u r
  · obtain ⟨_, q⟩ := x a _ r
    exact q
/-- what may be written -/
def Mut : Option HO → Prop
  | some (.lst _) => True
  | some (.dK _) => True
  | some (.dT _) => True
  | some (.set _ _) => True
  | some (.ins _ _ _) => True
  | some (.ext _) => True
  | _ => False
section
variable {P : Program} {w : World} {H : Hp} {h h' : Heap} {x e : Addr} {o' : HO}
/-- the object at e is changed: x itself, or the dict of the instance x -/
theorem HOk.write (ok : HOk P w H h) (mu : Mut (H x)) (he : e = x ∨ H e = some (.own x)) (k : ∀ b u, b ≠ e → h.get? b = some u → h'.get? b = some u) (heo : ∃ u, h'.get? e = some u)
    (new : ObjOk P w (upd H x o') h' x o') : HOk P w (upd H x o') h' := fun b u q => by
  have nown : ∀ c y, H c = some (.own y) → c ≠ x := fun c y r z => by subst z; rw [r] at mu; exact mu
  have ntup : ∀ c xs, H c = some (.tup xs) → c ≠ x := fun c xs r z => by subst z; rw [r] at mu; exact mu
  by_cases hb : b = x
  · subst hb; rw [upd_same] at q; cases q; exact new
  · rw [upd_ne hb] at q
    by_cases hbe : b = e
    · have q' : H b = some (.own x) := by
        rcases he with z | z
        · exact absurd (hbe.trans z) hb
        · rw [hbe]; exact z
      rw [q] at q'; cases q'
      obtain ⟨v, hv⟩ := heo
      exact ⟨v, by rw [hbe]; exact hv⟩
    · refine (ok b u q).stay (fun c v hc r => k c v ?_ r) (fun c r => by rw [upd_ne (nown c b r)]; exact r) fun c xs r => by rw [upd_ne (ntup c xs r)]; exact r
      rcases hc with rfl | hc
      · exact hbe
      · rintro rfl
        rcases he with z | z
        · exact nown c b hc z
        · rw [hc] at z; cases z; exact hb rfl
end

/-! ### kept unless tracked; of the frames at fs (the callers') the slots may change (an exception that passes writes there); of the records at ex (iterators) nothing is said -/
structure Un (fs ex : List Addr) (H H' : Hp) (h h' : Heap) : Prop where
  keep : ∀ b o, h.get? b = some o → H b = none → b ∉ fs → b ∉ ex → h'.get? b = some o
  slot : ∀ b o, h.get? b = some o → H b = none → b ∈ fs → b ∉ ex → ∃ sl, h'.get? b = some { o with slots := sl }
  free : ∀ b o, h.get? b = some o → H b = none → b ∉ ex → H' b = none
  there : ∀ b o, h.get? b = some o → b ∉ ex → ∃ o', h'.get? b = some o'
  tups : ∀ b xs, H b = some (.tup xs) → H' b = some (.tup xs)
  frzs : ∀ b o u, H b = some (.frz o u) → H' b = some (.frz o u)
  tbls : ∀ b ps, H b = some (.tbl ps) → ∃ more, H' b = some (.tbl (ps ++ more))
section
variable {fs fs' ex ex' : List Addr} {H H1 H2 : Hp} {h h1 h2 h' : Heap} {a x e : Addr} {o : HO}
theorem Un.any (u : Un fs ex H H1 h h1) {b : Addr} {ob : Obj} (q : h.get? b = some ob) (n : H b = none) (hx : b ∉ ex) : ∃ sl, h1.get? b = some { ob with slots := sl } := by
  by_cases hb : b ∈ fs
  · exact u.slot b ob q n hb hx
  · exact ⟨ob.slots, u.keep b ob q n hb hx⟩
theorem Un.trans (a : Un fs ex H H1 h h1) (b : Un fs ex H1 H2 h1 h2) : Un fs ex H H2 h h2 where
  keep := fun c ob q n hc hx => b.keep c ob (a.keep c ob q n hc hx) (a.free c ob q n hx) hc hx
  slot := fun c ob q n hc hx => by
    obtain ⟨sl, e1⟩ := a.slot c ob q n hc hx
    obtain ⟨sl', e2⟩ := b.slot c _ e1 (a.free c ob q n hx) hc hx
    exact ⟨sl', e2⟩
  free := fun c ob q n hx => by
    obtain ⟨o', e1⟩ := a.there c ob q hx
    exact b.free c o' e1 (a.free c ob q n hx) hx
  there := fun c ob q hx => by
    obtain ⟨o', e1⟩ := a.there c ob q hx
    exact b.there c o' e1 hx
  tups := fun c xs q => b.tups c xs (a.tups c xs q)
  frzs := fun c ob xs q => b.frzs c ob xs (a.frzs c ob xs q)
  tbls := fun c ps q => by
    obtain ⟨m1, e1⟩ := a.tbls c ps q
    obtain ⟨m2, e2⟩ := b.tbls c _ e1
    exact ⟨m1 ++ m2, by rw [e2, Array.append_assoc]⟩
theorem Un.kept (k : ∀ b u, h.get? b = some u → h'.get? b = some u) : Un fs ex H H h h' :=
  ⟨fun b ob q _ _ _ => k b ob q, fun b ob q _ _ _ => ⟨ob.slots, k b ob q⟩, fun _ _ _ n _ => n, fun b ob q _ => ⟨ob, k b ob q⟩, fun _ _ q => q, fun _ _ _ q => q, fun _ ps q => ⟨#[], by rw [q]; simp⟩⟩
theorem Un.refl : Un fs ex H H h h := Un.kept fun _ _ q => q
theorem Un.laid (k : ∀ b u, h.get? b = some u → h'.get? b = some u) (hp : h.objs.size ≤ a) (hn : H a = none) : Un fs ex H (upd H a o) h h' where
  keep := fun b u q _ _ _ => k b u q
  slot := fun b u q _ _ _ => ⟨u.slots, k b u q⟩
  free := fun b u q n _ => by rw [upd_ne (Nat.ne_of_lt (Nat.lt_of_lt_of_le (Heap.lt_size q) hp))]; exact n
  there := fun b u q _ => ⟨u, k b u q⟩
  tups := fun b xs q => by rw [upd_ne (ne_of_none q hn)]; exact q
  frzs := fun b u xs q => by rw [upd_ne (ne_of_none q hn)]; exact q
  tbls := fun b ps q => ⟨#[], by rw [upd_ne (ne_of_none q hn), q]; simp⟩
theorem Un.write (mu : Mut (H x)) (he : e = x ∨ H e = some (.own x)) (k : ∀ b u, b ≠ e → h.get? b = some u → h'.get? b = some u) (heo : ∃ u, h'.get? e = some u) : Un fs ex H (upd H x o) h h' := by
  have hx : ∀ b, H b = none → b ≠ x := fun b n z => by subst z; rw [n] at mu; exact mu
  have hb : ∀ b, H b = none → b ≠ e := fun b n z => by
    subst z
    rcases he with r | r
    · exact hx b n r
    · rw [n] at r; cases r
  have hm : ∀ b u, H b = some u → ¬ Mut (some u) → b ≠ x := fun b u q nm z => by subst z; rw [q] at mu; exact nm mu
  refine ⟨fun b u q n _ _ => k b u (hb b n) q, fun b u q n _ _ => ⟨u.slots, k b u (hb b n) q⟩, fun b u q n _ => by rw [upd_ne (hx b n)]; exact n, fun b u q _ => ?_,
    fun b xs q => by rw [upd_ne (hm b _ q fun z => z)]; exact q, fun b u xs q => by rw [upd_ne (hm b _ q fun z => z)]; exact q, fun b ps q => ⟨#[], by rw [upd_ne (hm b _ q fun z => z), q]; simp⟩⟩
  by_cases hbe : b = e
  · subst hbe; exact heo
  · exact ⟨u, k b u hbe q⟩
theorem Un.mono (u : Un fs ex H H1 h h1) (hs : ∀ b ∈ fs, b ∈ fs') (hx : ∀ b ∈ ex, b ∈ ex') : Un fs' ex' H H1 h h1 :=
  ⟨fun b ob q n hb he => u.keep b ob q n (fun z => hb (hs b z)) fun z => he (hx b z), fun _ _ q n _ he => u.any q n fun z => he (hx _ z), fun b ob q n he => u.free b ob q n fun z => he (hx b z), fun b ob q he => u.there b ob q fun z => he (hx b z), u.tups, u.frzs, u.tbls⟩
end

/-! ### the heap without what is tracked -/
def trk (h : Heap) (H : Hp) : List Addr := (List.range h.objs.size).filter fun a => (H a).isSome
def hidT (h : Heap) (H : Hp) : Heap := PySem.W.hideAll h (trk h H)
theorem hidT_size (h : Heap) (H : Hp) : (hidT h H).objs.size = h.objs.size := PySem.W.hideAll_size _ _
theorem hidT_get {h : Heap} {H : Hp} {b : Addr} {o : Obj} (e : h.get? b = some o) (n : H b = none) : (hidT h H).get? b = some o :=
  PySem.W.hideAll_get _ e fun hm => by
    have q : (H b).isSome = true := (List.mem_filter.mp hm).2
    rw [n] at q; simp at q
theorem of_hidT {h : Heap} {H : Hp} {b : Addr} {o : Obj} (e : (hidT h H).get? b = some o) : h.get? b = some o ∧ H b = none := by
  have e' : h.get? b = some o := PySem.W.of_hideAll (trk h H) e
  refine ⟨e', ?_⟩
  cases q : H b with
  | none => rfl
  | some x =>
    have hm : b ∈ trk h H := List.mem_filter.mpr ⟨List.mem_range.mpr (Heap.lt_size e'), by simp [q]⟩
    have z : (hidT h H).get? b = none := PySem.W.hideAll_none (trk h H) hm
    rw [z] at e; cases e

/-! ### OpenK's ledger, filled with every new object but one -/
def allNews (g h : Heap) (L : Addr) : List (Addr × Obj) := (List.range h.objs.size).filterMap fun a => if a = L ∨ (g.get? a).isSome = true then none else (h.get? a).map fun o => (a, o)
def rest (g h : Heap) (L d : Addr) : List (Addr × Obj) := (allNews g h L).filter fun p => decide (p.1 ≠ d)
end L2

namespace L2
open PySem PySem.Spec PyProof.Rows

/-- the module's facts, over the base: the heap at the law's entry without what is tracked there -/
structure Mod (K : PySem.W.Frag) (mg : Str → Option Value) (base : Heap) : Prop where
  kin : K.In base
  glob : base.Ns mainGlobals mg
  blt : ∃ mb, base.Ns builtinsNs mb ∧ ∀ x : Str, x ≠ "__name__" → mb x = bootBuiltins x
  nolimit : base.NoLimit

/-- the context: a def's body (or a comprehension's block) running. base: fixed through the whole law; s₀, H₀: the entry; outer: the frames whose slots others may change (a def's callers); stack: all frames that run;
   ex: iterators that were made ahead of the entry and are walked here (a comprehension's); fn: the names whose cells were made at the entry (a def: all; a comprehension's block: its own); calm: not within an except suite; pn: pins that every state bears; xe: what is wanted of an exception that leaves the code -/
structure Cx where
  prog : Program
  w : World
  K : PySem.W.Frag
  mg : Str → Option Value
  base : Heap
  A : Around
  N : List Str
  s_0 : Shared
  H_0 : Hp
  env : Env
  outer : List Env
  stack : List Env
  ex : List Addr
  fn : Str → Bool
  calm : Bool
  pn : List (Addr × Obj)
  xe : Value → Shared → Prop
/-- the callers' frames -/
def frs (l : List Env) : List Addr := l.filterMap (·.frame)
abbrev Cx.fs (X : Cx) : List Addr := frs X.outer

def Vis (sc : Scope) (x : Str) : Prop := sc.names.lookup x = some .local ∨ sc.names.lookup x = some .cell ∨ sc.names.lookup x = some .free
def Loc (sc : Scope) (x : Str) : Prop := sc.names.lookup x = some .local ∨ sc.names.lookup x = some .cell
def Look (env : Env) (h : Heap) (m : Str → Option Value) (x : Str) (u : Value) : Prop :=
  (env.kindOf x = some .local ∧ m x = some u) ∨ ((env.kindOf x = some .cell ∨ env.kindOf x = some .free) ∧ ∃ c, env.cells.lookup x = some c ∧ h.IsCell c (some u))

structure Cx.Ok (X : Cx) : Prop where
  mod : Mod X.K X.mg X.base
  kind : X.env.scope.kind = .function
  glob : X.env.globals = mainGlobals
  blt : X.env.builtins = builtinsNs
  above : X.s_0.heap.objs.size ≤ X.env.locals
  inj : ∀ x y c, X.env.cells.lookup x = some c → X.env.cells.lookup y = some c → x = y
  has : ∀ x, (X.env.kindOf x = some .cell ∨ X.env.kindOf x = some .free) → ∃ c, X.env.cells.lookup x = some c
  cab : ∀ x c, X.fn x = true → X.env.cells.lookup x = some c → X.s_0.heap.objs.size ≤ c
  hd : X.calm = true → X.A.handled = none
  frames : X.A.frames = some X.stack
  stk : X.stack = X.outer ∨ (X.stack = X.env :: X.outer ∧ X.env.frame = some X.env.locals)
  exf : ∀ b ∈ X.ex, b ≠ X.env.locals ∧ ∀ x c, X.env.cells.lookup x = some c → c ≠ b
  bs : ∀ b o, X.base.get? b = some o → X.s_0.heap.get? b = some o ∧ X.H_0 b = none
  bsz : X.base.objs.size ≤ X.s_0.heap.objs.size
  noex : ∀ b o, X.base.get? b = some o → b ∉ X.ex
  exfs : ∀ b ∈ X.ex, b ∉ X.fs
  funs : X.s_0.heap.FunFrames X.base X.outer
  frf : ∀ b ∈ X.fs, X.H_0 b = none

structure Inv (X : Cx) (pins : List (Addr × Obj)) (σ : List (Option V)) (H : Hp) (s : Shared) : Prop where
  ok : X.Ok
  os : s.os = X.s_0.os
  bare : AllBare s.gens
  base : Un X.fs X.ex X.H_0 H X.s_0.heap s.heap
  loc : ∃ m, s.heap.Ns X.env.locals m ∧ ∀ (i : Nat) (x : Str) (v : V), X.N[i]? = some x → σ[i]? = some (some v) → Vis X.env.scope x → ∃ u, RelV v u ∧ Look X.env s.heap m x u
  cell : ∀ x c, X.env.cells.lookup x = some c → ∃ v, s.heap.IsCell c v
  free : H X.env.locals = none
  freeC : ∀ x c, X.env.cells.lookup x = some c → H c = none
  pin : ∀ p ∈ X.pn ++ pins, s.heap.get? p.1 = some p.2 ∧ H p.1 = none ∧ p.1 ≠ X.env.locals ∧ p.1 ∉ X.fs ∧ ∀ v, p.2.data ≠ .cell v
  hok : HOk X.prog X.w H s.heap
  len : σ.length = X.N.length

section
variable {X : Cx} {pins : List (Addr × Obj)} {σ : List (Option V)} {H H' : Hp} {s : Shared} {h' : Heap}

theorem Cx.Ok.nofr (ok : X.Ok) {b : Addr} {o : Obj} (e : X.base.get? b = some o) : b ∉ X.fs := fun hb => by
  have := (ok.funs.mem hb).1
  rw [e] at this; cases this
theorem Inv.bs (I : Inv X pins σ H s) : ∀ b o, X.base.get? b = some o → s.heap.get? b = some o ∧ H b = none := fun b o e =>
  ⟨I.base.keep b o (I.ok.bs b o e).1 (I.ok.bs b o e).2 (I.ok.nofr e) (I.ok.noex b o e), I.base.free b o (I.ok.bs b o e).1 (I.ok.bs b o e).2 (I.ok.noex b o e)⟩
theorem Inv.bk (I : Inv X pins σ H s) : ∀ b o, X.base.get? b = some o → s.heap.get? b = some o := fun b o e => (I.bs b o e).1
theorem Inv.mod (I : Inv X pins σ H s) : Mod X.K X.mg X.base := I.ok.mod
theorem Inv.kIn (I : Inv X pins σ H s) : X.K.In s.heap := I.ok.mod.kin.keeps I.bk
theorem Inv.nolimit (I : Inv X pins σ H s) : s.heap.NoLimit := I.ok.mod.nolimit.keeps I.bk
/-- the frame over the base: for OpenK's rules (K.In X.base is I.mod.kin) -/
theorem Inv.fr (I : Inv X pins σ H s) : ∃ m, Fr X.base X.env.locals s.heap m :=
  let ⟨m, hn, _⟩ := I.loc
  ⟨m, hn, I.bk, Nat.le_trans I.ok.bsz I.ok.above⟩
theorem Inv.lt (I : Inv X pins σ H s) : X.env.locals < s.heap.objs.size := let ⟨_, hn, _⟩ := I.loc; hn.lt
theorem Inv.sz (I : Inv X pins σ H s) : X.s_0.heap.objs.size ≤ s.heap.objs.size := Nat.le_trans I.ok.above (Nat.le_of_lt I.lt)
theorem Inv.nofs (I : Inv X pins σ H s) {a : Addr} (h : s.heap.objs.size ≤ a) : a ∉ X.fs := fun hb => by
  obtain ⟨_, o, ho, _⟩ := I.ok.funs.mem hb
  exact absurd (Nat.lt_of_lt_of_le (Heap.lt_size ho) (Nat.le_trans I.sz h)) (Nat.lt_irrefl _)
theorem Inv.cne (I : Inv X pins σ H s) : ∀ x c, X.env.cells.lookup x = some c → c ≠ X.env.locals := fun x c e z => by
  obtain ⟨v, o, ho, hd⟩ := I.cell x c e
  obtain ⟨m, ⟨o', es, ep, ho', hd', _⟩, _⟩ := I.loc
  rw [z, ho'] at ho; cases ho; rw [hd'] at hd; cases hd
theorem Inv.funs (I : Inv X pins σ H s) : s.heap.FunFrames X.base X.outer := by
  have all : ∀ (l : List Env), (∀ b ∈ frs l, b ∈ X.fs) → X.s_0.heap.FunFrames X.base l → s.heap.FunFrames X.base l := by
    intro l
    induction l with
    | nil => intro _ _; trivial
    | cons env r ih =>
      intro hs hl
      obtain ⟨hk, ⟨L, o, hf, hn, ho, hd⟩, hr⟩ := hl
      have hL : L ∈ X.fs := hs L (by unfold frs; rw [List.filterMap_cons, hf]; exact List.mem_cons_self)
      obtain ⟨sl, e⟩ := I.base.slot L o ho (I.ok.frf L hL) hL fun z => I.ok.exfs L z hL
      exact ⟨hk, ⟨L, _, hf, hn, e, hd⟩, ih (fun b hb => hs b (by unfold frs; rw [List.filterMap_cons, hf]; exact List.mem_cons_of_mem _ hb)) hr⟩
  exact all X.outer (fun _ hb => hb) I.ok.funs

/-- the frames that run, for a call -/
theorem Inv.stack (I : Inv X pins σ H s) : s.heap.FunFrames X.base X.stack := by
  rcases I.ok.stk with e | ⟨e, hf⟩
  · rw [e]; exact I.funs
  · rw [e]
    obtain ⟨m, hn, _⟩ := I.loc
    refine .cons (by rw [I.ok.kind]; decide) hf hn ?_ I.funs
    exact Heap.get?_none_of_le (Nat.le_trans I.ok.bsz I.ok.above)
theorem Inv.stkSub (I : Inv X pins σ H s) : ∀ b ∈ frs X.stack, b ∈ X.env.locals :: X.fs := fun b hb => by
  rcases I.ok.stk with e | ⟨e, hf⟩
  · rw [e] at hb; exact List.mem_cons_of_mem _ hb
  · rw [e] at hb
    unfold frs at hb
    rw [List.filterMap_cons, hf] at hb
    exact hb
theorem Inv.stkFree (I : Inv X pins σ H s) : ∀ b ∈ frs X.stack, H b = none := fun b hb => by
  rcases List.mem_cons.mp (I.stkSub b hb) with e | hb
  · rw [e]; exact I.free
  · obtain ⟨_, o, ho, _⟩ := I.ok.funs.mem hb
    exact I.base.free b o ho (I.ok.frf b hb) fun z => I.ok.exfs b z hb

/-- THE STEP: the untracked objects but the frame and the records at ch are kept (the callers' frames up to slots), the frame's map is kept, the new abstract heap is held -/
theorem Inv.step {g' : Array GenState} {t' : Nat} {d' : Drawn} {ch : List Addr} (I : Inv X pins σ H s)
    (hch : ∀ b ∈ ch, (b ∈ X.ex ∨ X.s_0.heap.objs.size ≤ b) ∧ b ≠ X.env.locals ∧ (∀ x c, X.env.cells.lookup x = some c → c ≠ b) ∧ ∀ p ∈ X.pn ++ pins, p.1 ≠ b)
    (keep : ∀ b o, b ≠ X.env.locals → b ∉ X.fs → b ∉ ch → s.heap.get? b = some o → H b = none → h'.get? b = some o)
    (slot : ∀ b o, b ≠ X.env.locals → b ∈ X.fs → b ∉ ch → s.heap.get? b = some o → H b = none → ∃ sl, h'.get? b = some { o with slots := sl }) (free : ∀ b o, b ∉ ch → s.heap.get? b = some o → H b = none → H' b = none)
    (there : ∀ b o, b ∉ ch → s.heap.get? b = some o → ∃ o', h'.get? b = some o')
    (tups : ∀ b xs, H b = some (.tup xs) → H' b = some (.tup xs)) (frzs : ∀ b o u, H b = some (.frz o u) → H' b = some (.frz o u)) (tbls : ∀ b ps, H b = some (.tbl ps) → ∃ more, H' b = some (.tbl (ps ++ more)))
    (ns : ∀ m, s.heap.Ns X.env.locals m → h'.Ns X.env.locals m) (hok : HOk X.prog X.w H' h') (hg : AllBare g') :
    Inv X pins σ H' { s with heap := h', gens := g', drawn := d', toks := t' } := by
  have neL : ∀ b o, X.s_0.heap.get? b = some o → b ≠ X.env.locals := fun b o e => Nat.ne_of_lt (Nat.lt_of_lt_of_le (Heap.lt_size e) I.ok.above)
  have neC : ∀ b o, X.s_0.heap.get? b = some o → b ∉ X.ex → b ∉ ch := fun b o e hx hb => by
    rcases (hch b hb).1 with z | z
    · exact hx z
    · exact absurd (Nat.lt_of_lt_of_le (Heap.lt_size e) z) (Nat.lt_irrefl _)
  have cellK : ∀ x c, X.env.cells.lookup x = some c → ∀ v, s.heap.IsCell c v → h'.IsCell c v := fun x c e v ⟨o, ho, hd⟩ => by
    have nch : c ∉ ch := fun z => (hch c z).2.2.1 x c e rfl
    by_cases hc : c ∈ X.fs
    · obtain ⟨sl, q⟩ := slot c o (I.cne x c e) hc nch ho (I.freeC x c e)
      exact ⟨_, q, hd⟩
    · exact ⟨o, keep c o (I.cne x c e) hc nch ho (I.freeC x c e), hd⟩
  refine ⟨I.ok, I.os, hg, ⟨fun b o e n hb hx => ?_, fun b o e n hb hx => ?_, fun b o e n hx => ?_, fun b o e hx => ?_, fun b xs e => tups b xs (I.base.tups b xs e), fun b o xs e => frzs b o xs (I.base.frzs b o xs e), fun b ps e => ?_⟩, ?_, fun x c e => ?_, ?_, fun x c e => ?_, fun p hp => ?_, hok, I.len⟩
  · exact keep b o (neL b o e) hb (neC b o e hx) (I.base.keep b o e n hb hx) (I.base.free b o e n hx)
  · obtain ⟨sl, e1⟩ := I.base.slot b o e n hb hx
    obtain ⟨sl', e2⟩ := slot b _ (neL b o e) hb (neC b o e hx) e1 (I.base.free b o e n hx)
    exact ⟨sl', e2⟩
  · obtain ⟨o', e1⟩ := I.base.there b o e hx
    exact free b o' (neC b o e hx) e1 (I.base.free b o e n hx)
  · obtain ⟨o', e1⟩ := I.base.there b o e hx
    exact there b o' (neC b o e hx) e1
  · obtain ⟨m1, e1⟩ := I.base.tbls b ps e
    obtain ⟨m2, e2⟩ := tbls b _ e1
    exact ⟨m1 ++ m2, by rw [e2, Array.append_assoc]⟩
  · obtain ⟨m, hn, hl⟩ := I.loc
    refine ⟨m, ns m hn, fun i x v e1 e2 e3 => ?_⟩
    obtain ⟨u, r, l⟩ := hl i x v e1 e2 e3
    refine ⟨u, r, ?_⟩
    rcases l with l | ⟨k, c, e, z⟩
    · exact .inl l
    · exact .inr ⟨k, c, e, cellK x c e _ z⟩
  · obtain ⟨v, z⟩ := I.cell x c e
    exact ⟨v, cellK x c e v z⟩
  · obtain ⟨m, ⟨o, _, _, ho, _⟩, _⟩ := I.loc
    exact free _ o (fun z => (hch _ z).2.1 rfl) ho I.free
  · obtain ⟨v, o, ho, hd⟩ := I.cell x c e
    exact free c o (fun z => (hch c z).2.2.1 x c e rfl) ho (I.freeC x c e)
  · obtain ⟨e, n, ne, nf, d⟩ := I.pin p hp
    have nch : p.1 ∉ ch := fun z => (hch p.1 z).2.2.2 p hp rfl
    exact ⟨keep p.1 p.2 ne nf nch e n, free p.1 p.2 nch e n, ne, nf, d⟩
/-- .. where the frame's own object is kept too -/
theorem Inv.un {t' : Nat} (I : Inv X pins σ H s) (u : Un X.fs [] H H' s.heap h') (hok : HOk X.prog X.w H' h') : Inv X pins σ H' { s with heap := h', toks := t' } := by
  obtain ⟨m, ⟨o, es, ep, ho, r⟩, _⟩ := id I.loc
  obtain ⟨sl, hL⟩ := u.any ho I.free (by simp)
  exact I.step (g' := s.gens) (d' := s.drawn) (ch := []) (fun _ z => nomatch z) (fun b o _ hb _ e n => u.keep b o e n hb (by simp)) (fun b o _ hb _ e n => u.slot b o e n hb (by simp)) (fun b o _ e n => u.free b o e n (by simp)) (fun b o _ e => u.there b o e (by simp)) u.tups u.frzs u.tbls (fun m' hm => by
    obtain ⟨o', es', ep', ho', r'⟩ := hm
    rw [ho] at ho'; cases ho'
    exact ⟨_, es', ep', hL, r'⟩) hok I.bare
/-- behind a call (or a comprehension's block): the slots of this frame may have changed too, the records at ch may have turned -/
theorem Inv.call {g' : Array GenState} {t' : Nat} {d' : Drawn} {ch : List Addr} (I : Inv X pins σ H s) (u : Un (frs X.stack) ch H H' s.heap h') (hok : HOk X.prog X.w H' h') (hg : AllBare g')
    (hch : ∀ b ∈ ch, (b ∈ X.ex ∨ X.s_0.heap.objs.size ≤ b) ∧ b ≠ X.env.locals ∧ (∀ x c, X.env.cells.lookup x = some c → c ≠ b) ∧ ∀ p ∈ X.pn ++ pins, p.1 ≠ b) :
    Inv X pins σ H' { s with heap := h', gens := g', drawn := d', toks := t' } := by
  obtain ⟨m, ⟨o, es, ep, ho, r⟩, _⟩ := id I.loc
  obtain ⟨sl, hL⟩ := u.any ho I.free fun z => (hch _ z).2.1 rfl
  exact I.step (ch := ch) hch (fun b o hL hb hc e n => u.keep b o e n (fun z => (List.mem_cons.mp (I.stkSub b z)).elim hL hb) hc) (fun b o _ _ hc e n => u.any e n hc) (fun b o hc e n => u.free b o e n hc) (fun b o hc e => u.there b o e hc) u.tups u.frzs u.tbls (fun m' hm => by
    obtain ⟨o', es', ep', ho', r'⟩ := hm
    rw [ho] at ho'; cases ho'
    exact ⟨_, es', ep', hL, r'⟩) hok hg
/-- an untracked record of ours (an iterator) has turned -/
theorem Inv.turned {t' : Nat} {it : Addr} (I : Inv X pins σ H s) (k : ∀ b o, b ≠ it → s.heap.get? b = some o → h'.get? b = some o) (hn : H it = none) (hL : it ≠ X.env.locals)
    (h1 : it ∈ X.ex ∨ X.s_0.heap.objs.size ≤ it) (h2 : ∀ x c, X.env.cells.lookup x = some c → c ≠ it) (h3 : ∀ p ∈ X.pn ++ pins, p.1 ≠ it) : Inv X pins σ H { s with heap := h', toks := t' } := by
  have nit : ∀ b u, H b = some u → b ≠ it := fun b u e z => by rw [z, hn] at e; cases e
  refine I.step (g' := s.gens) (d' := s.drawn) (ch := [it]) (fun b hb => ?_) (fun b o _ _ hc e _ => k b o (fun z => hc (by simp [z])) e) (fun b o _ _ hc e _ => ⟨o.slots, k b o (fun z => hc (by simp [z])) e⟩) (fun _ _ _ _ n => n)
    (fun b o hc e => ⟨o, k b o (fun z => hc (by simp [z])) e⟩) (fun _ _ e => e) (fun _ _ _ e => e) (fun b ps e => ⟨#[], by rw [e]; simp⟩) (fun m hm => ?_) (fun b u e => ?_) I.bare
  · have e : b = it := by simpa using hb
    subst e
    exact ⟨h1, hL, h2, h3⟩
  · obtain ⟨o, es, ep, ho, r⟩ := hm
    exact ⟨o, es, ep, k _ o (Ne.symm hL) ho, r⟩
  · refine (I.hok b u e).stay (fun c v hc q => k c v ?_ q) (fun _ q => q) fun _ _ q => q
    rcases hc with z | z
    · rw [z]; exact nit b u e
    · exact nit c _ z
theorem Inv.tok (I : Inv X pins σ H s) (t : Nat) : Inv X pins σ H { s with toks := t } := I.un (h' := s.heap) (t' := t) Un.refl I.hok
/-- all objects kept -/
theorem Inv.kept {t' : Nat} (I : Inv X pins σ H s) (k : ∀ b u, s.heap.get? b = some u → h'.get? b = some u) : Inv X pins σ H { s with heap := h', toks := t' } := I.un (Un.kept k) (I.hok.kept k)
/-- a new object laid and tracked -/
theorem Inv.laid {a : Addr} {o : HO} {t' : Nat} (I : Inv X pins σ H s) (k : ∀ b u, s.heap.get? b = some u → h'.get? b = some u) (hp : s.heap.objs.size ≤ a) (new : ObjOk X.prog X.w (upd H a o) h' a o) :
    Inv X pins σ (upd H a o) { s with heap := h', toks := t' } := I.un (Un.laid k hp (I.hok.fresh hp)) (I.hok.laid k hp new)
/-- an object written -/
theorem Inv.write {x e : Addr} {o : HO} {t' : Nat} (I : Inv X pins σ H s) (mu : Mut (H x)) (he : e = x ∨ H e = some (.own x)) (k : ∀ b u, b ≠ e → s.heap.get? b = some u → h'.get? b = some u) (heo : ∃ u, h'.get? e = some u)
    (new : ObjOk X.prog X.w (upd H x o) h' x o) : Inv X pins σ (upd H x o) { s with heap := h', toks := t' } := I.un (Un.write mu he k heo) (I.hok.write mu he k heo new)
/-- forgetting slots, pins -/
theorem Inv.weak {σ' : List (Option V)} (I : Inv X pins σ H s) (hl : σ'.length = σ.length) (w : ∀ (i : Nat) v, σ'[i]? = some (some v) → σ[i]? = some (some v)) : Inv X pins σ' H s :=
  ⟨I.ok, I.os, I.bare, I.base, let ⟨m, hn, hl'⟩ := I.loc; ⟨m, hn, fun i x v e1 e2 e3 => hl' i x v e1 (w i v e2) e3⟩, I.cell, I.free, I.freeC, I.pin, I.hok, hl.trans I.len⟩
theorem Inv.pins_of {pins' : List (Addr × Obj)} (I : Inv X pins σ H s) (h : ∀ p ∈ pins', s.heap.get? p.1 = some p.2 ∧ H p.1 = none ∧ p.1 ≠ X.env.locals ∧ p.1 ∉ X.fs ∧ ∀ v, p.2.data ≠ .cell v) : Inv X pins' σ H s :=
  ⟨I.ok, I.os, I.bare, I.base, I.loc, I.cell, I.free, I.freeC, fun p hp => (List.mem_append.mp hp).elim (fun z => I.pin p (List.mem_append_left _ z)) (h p), I.hok, I.len⟩

theorem nodup_ix {N : List Str} (hN : N.Nodup) {i j : Nat} {x : Str} (a : N[i]? = some x) (b : N[j]? = some x) : i = j := by
  obtain ⟨h1, e1⟩ := List.getElem?_eq_some_iff.mp a
  obtain ⟨h2, e2⟩ := List.getElem?_eq_some_iff.mp b
  exact (List.getElem_inj hN).mp (e1.trans e2.symm)

/-- a name is stored; what changed -/
theorem store_ok2 {M : Model} {A : Around} {E : Value → Shared → Prop} {i : Nat} {x : Str} {v : V} {u : Value} {Q : Unit → Shared → Prop} (I : Inv X pins σ H s) (hN : X.N.Nodup) (hi : X.N[i]? = some x) (hx : Loc X.env.scope x) (r : RelV v u)
    (h : ∀ s', Inv X pins (σ.set i (some v)) H s' → (∃ a, Heap.SameBut a s.heap s'.heap ∧ (a = X.env.locals ∨ X.env.cells.lookup x = some a)) → Q () s') (hf : X.fn x = true ∨ X.env.scope.names.lookup x = some .local := by first | exact .inl rfl | exact .inr rfl | assumption) : wpAny M A (storeName X.env x u) Q E s := by
  obtain ⟨m, hn, hl⟩ := id I.loc
  have hcls : (X.env.scope.kind == .class || (X.env.scope.kind == .module && X.env.locals != X.env.globals)) = false := by rw [I.ok.kind]; rfl
  have hiσ : i < σ.length := by rw [I.len]; exact (List.getElem?_eq_some_iff.mp hi).1
  have cne := I.cne
  have tracked : ∀ {a : Addr} {h' : Heap}, (∃ o, s.heap.get? a = some o ∧ H a = none) → Heap.SameBut a s.heap h' → HOk X.prog X.w H h' := fun {a h'} ha hs b ob e => by
    obtain ⟨_, _, hfree⟩ := ha
    refine (I.hok b ob e).stay (fun c w' hc q => (hs.2 c ?_).trans q) (fun _ q => q) fun _ _ q => q
    rintro rfl
    rcases hc with rfl | hc
    · rw [hfree] at e; cases e
    · rw [hfree] at hc; cases hc
  rcases hx with hk | hk
  · refine wpAny_storeName_local hk hn (fun h' hn' hs => ?_) hcls
    obtain ⟨oL, _, _, hoL, _⟩ := id hn
    refine h _ ⟨I.ok, I.os, I.bare, ⟨fun b o e n hb hx => ?_, fun b o e n hb hx => ?_, I.base.free, fun b o e hx => ?_, I.base.tups, I.base.frzs, I.base.tbls⟩, ⟨_, hn', fun j y v' e1 e2 e3 => ?_⟩, fun y c e => ?_, I.free, I.freeC, fun p hp => ?_, tracked ⟨oL, hoL, I.free⟩ hs, by simpa using I.len⟩ ⟨_, hs, .inl rfl⟩
    · exact (hs.2 b (Nat.ne_of_lt (Nat.lt_of_lt_of_le (Heap.lt_size e) I.ok.above))).trans (I.base.keep b o e n hb hx)
    · obtain ⟨sl, e1⟩ := I.base.slot b o e n hb hx
      exact ⟨sl, (hs.2 b (Nat.ne_of_lt (Nat.lt_of_lt_of_le (Heap.lt_size e) I.ok.above))).trans e1⟩
    · obtain ⟨o', e1⟩ := I.base.there b o e hx
      exact ⟨o', (hs.2 b (Nat.ne_of_lt (Nat.lt_of_lt_of_le (Heap.lt_size e) I.ok.above))).trans e1⟩
    · by_cases hj : j = i
      · subst hj
        rw [hi] at e1; cases e1
        rw [List.getElem?_set_self hiσ] at e2
        cases e2
        exact ⟨u, r, .inl ⟨hk, by simp⟩⟩
      · rw [List.getElem?_set_ne (Ne.symm hj)] at e2
        obtain ⟨u', r', q⟩ := hl j y v' e1 e2 e3
        refine ⟨u', r', ?_⟩
        rcases q with ⟨k, e⟩ | ⟨k, c, e, z⟩
        · refine .inl ⟨k, ?_⟩
          have : y ≠ x := fun e => hj (nodup_ix hN e1 (e ▸ hi))
          simp [this, e]
        · exact .inr ⟨k, c, e, z.sameBut hs (cne y c e)⟩
    · obtain ⟨w', z⟩ := I.cell y c e
      exact ⟨w', z.sameBut hs (cne y c e)⟩
    · obtain ⟨e, n, ne, nf, d⟩ := I.pin p hp
      exact ⟨(hs.2 p.1 ne).trans e, n, ne, nf, d⟩
  · have hfn : X.fn x = true := by
      rcases hf with z | z
      · exact z
      · rw [z] at hk; cases hk
    obtain ⟨c, hc⟩ := I.ok.has x (.inl hk)
    obtain ⟨w', z⟩ := I.cell x c hc
    refine wpAny_storeName_cell I.ok.kind hk hc z (fun h' hc' hs => ?_)
    obtain ⟨oc, hoc, hocd⟩ := id z
    refine h { s with heap := h' } ⟨I.ok, I.os, I.bare, ⟨fun b o e n hb hx => ?_, fun b o e n hb hx => ?_, I.base.free, fun b o e hx => ?_, I.base.tups, I.base.frzs, I.base.tbls⟩, ⟨m, hn.sameBut hs (Ne.symm (cne x c hc)), fun j y v' e1 e2 e3 => ?_⟩, fun y c' e => ?_, I.free, I.freeC, fun p hp => ?_, tracked ⟨oc, hoc, I.freeC x c hc⟩ hs, by simpa using I.len⟩ ⟨c, hs, .inr hc⟩
    · exact (hs.2 b (Nat.ne_of_lt (Nat.lt_of_lt_of_le (Heap.lt_size e) (I.ok.cab x c hfn hc)))).trans (I.base.keep b o e n hb hx)
    · obtain ⟨sl, e1⟩ := I.base.slot b o e n hb hx
      exact ⟨sl, (hs.2 b (Nat.ne_of_lt (Nat.lt_of_lt_of_le (Heap.lt_size e) (I.ok.cab x c hfn hc)))).trans e1⟩
    · obtain ⟨o', e1⟩ := I.base.there b o e hx
      exact ⟨o', (hs.2 b (Nat.ne_of_lt (Nat.lt_of_lt_of_le (Heap.lt_size e) (I.ok.cab x c hfn hc)))).trans e1⟩
    · by_cases hj : j = i
      · subst hj
        rw [hi] at e1; cases e1
        rw [List.getElem?_set_self hiσ] at e2
        cases e2
        exact ⟨u, r, .inr ⟨.inl hk, c, hc, hc'⟩⟩
      · rw [List.getElem?_set_ne (Ne.symm hj)] at e2
        obtain ⟨u', r', q⟩ := hl j y v' e1 e2 e3
        refine ⟨u', r', ?_⟩
        rcases q with q | ⟨k, c', e, z'⟩
        · exact .inl q
        · refine .inr ⟨k, c', e, z'.sameBut hs ?_⟩
          rintro rfl
          exact hj (nodup_ix hN e1 (I.ok.inj _ _ _ e hc ▸ hi))
    · by_cases hcc : c' = c
      · subst hcc; exact ⟨_, hc'⟩
      · obtain ⟨w2, z2⟩ := I.cell y c' e
        exact ⟨w2, z2.sameBut hs hcc⟩
    · obtain ⟨e, n, ne, nf, d⟩ := I.pin p hp
      refine ⟨(hs.2 p.1 ?_).trans e, n, ne, nf, d⟩
      intro q
      rw [q, hoc] at e
      have q' : oc = p.2 := Option.some.inj e
      exact d w' (by rw [← q']; exact hocd)
theorem store_ok {M : Model} {A : Around} {E : Value → Shared → Prop} {i : Nat} {x : Str} {v : V} {u : Value} {Q : Unit → Shared → Prop} (I : Inv X pins σ H s) (hN : X.N.Nodup) (hi : X.N[i]? = some x) (hx : Loc X.env.scope x) (r : RelV v u)
    (h : ∀ s', Inv X pins (σ.set i (some v)) H s' → Q () s') (hf : X.fn x = true ∨ X.env.scope.names.lookup x = some .local := by first | exact .inl rfl | exact .inr rfl | assumption) : wpAny M A (storeName X.env x u) Q E s :=
  store_ok2 I hN hi hx r (fun s' I' _ => h s' I') hf
/-- behind a call or a block, the state as it is -/
theorem Inv.call' {s' : Shared} {ch : List Addr} (I : Inv X pins σ H s) (ho : s'.os = s.os) (u : Un (frs X.stack) ch H H' s.heap s'.heap) (hok : HOk X.prog X.w H' s'.heap) (hg : AllBare s'.gens)
    (hch : ∀ b ∈ ch, (b ∈ X.ex ∨ X.s_0.heap.objs.size ≤ b) ∧ b ≠ X.env.locals ∧ (∀ x c, X.env.cells.lookup x = some c → c ≠ b) ∧ ∀ p ∈ X.pn ++ pins, p.1 ≠ b) : Inv X pins σ H' s' := by
  obtain ⟨h', g', d', t', o'⟩ := s'
  have e : o' = s.os := ho
  subst e
  exact I.call (g' := g') (t' := t') (d' := d') u hok hg hch
end

/-! ### the judgements -/
/-- an exception: its class, its own dict's address (where it has one), the abstract heap behind it -/
abbrev XK := Value → Option Addr → Hp → Prop
abbrev St := List (Option V)
abbrev VK := V → Hp → Prop
/-- an expression's reading; a test's; an argument list's -/
abbrev TE := St → Hp → VK → Prop
abbrev TT := St → Hp → (Bool → Hp → Prop) → Prop
abbrev TA := St → Hp → (List V → Hp → Prop) → Prop
/-- what is wanted behind a statement -/
structure Ends where
  nx : St → Hp → Prop
  rt : VK
  bk : St → Hp → Prop := fun _ _ => False
  ct : St → Hp → Prop := fun _ _ => False
abbrev TS := Ends → St → Hp → Prop

def EP (X : Cx) (pins : List (Addr × Obj)) (σ : St) (Q : VK) (u : Value) (s' : Shared) : Prop := ∃ v H', Inv X pins σ H' s' ∧ RelV v u ∧ Q v H'
def TP (X : Cx) (pins : List (Addr × Obj)) (σ : St) (Q : Bool → Hp → Prop) (b : Bool) (s' : Shared) : Prop := ∃ H', Inv X pins σ H' s' ∧ Q b H'
def AP (X : Cx) (pins : List (Addr × Obj)) (σ : St) (Q : List V → Hp → Prop) (us : List Value) (s' : Shared) : Prop := ∃ vs H', Inv X pins σ H' s' ∧ Vals vs us ∧ Q vs H'
def SP (X : Cx) (pins : List (Addr × Obj)) (D : Ends) (f : Flow) (s' : Shared) : Prop :=
  match f with
  | .next => ∃ σ' H', Inv X pins σ' H' s' ∧ D.nx σ' H'
  | .brk => ∃ σ' H', Inv X pins σ' H' s' ∧ D.bk σ' H'
  | .cont => ∃ σ' H', Inv X pins σ' H' s' ∧ D.ct σ' H'
  | .ret u => ∃ v σ' H', Inv X pins σ' H' s' ∧ RelV v u ∧ D.rt v H'

def PE (X : Cx) (e : Expr) (t : TE) : Prop :=
  ∀ (pins : List (Addr × Obj)) (s : Shared) (σ : St) (H : Hp) (Q : VK), Inv X pins σ H s → t σ H Q → wpAny (model X.prog X.w) X.A (eval e X.env) (EP X pins σ Q) X.xe s
def PT (X : Cx) (e : Expr) (t : TT) : Prop :=
  ∀ (pins : List (Addr × Obj)) (s : Shared) (σ : St) (H : Hp) (Q : Bool → Hp → Prop), Inv X pins σ H s → t σ H Q → wpAny (model X.prog X.w) X.A (isTrue e X.env (eval e X.env)) (TP X pins σ Q) X.xe s
/-- a test whatever its 'whole' is (and, or) -/
def PW (X : Cx) (e : Expr) (t : TT) : Prop :=
  ∀ (whole : Sem Value) (pins : List (Addr × Obj)) (s : Shared) (σ : St) (H : Hp) (Q : Bool → Hp → Prop), Inv X pins σ H s → t σ H Q → wpAny (model X.prog X.w) X.A (isTrue e X.env whole) (TP X pins σ Q) X.xe s
theorem PW.pt {X : Cx} {e : Expr} {t : TT} (h : PW X e t) : PT X e t := h _
/-- an argument list (no star), from the left -/
def PA (X : Cx) (es : List Expr) (t : TA) : Prop :=
  ∀ (pos : Pos) (pins : List (Addr × Obj)) (s : Shared) (σ : St) (H : Hp) (Q : List V → Hp → Prop), Inv X pins σ H s → t σ H Q → wpAny (model X.prog X.w) X.A (spliced (backTo pos (starEach es X.env))) (AP X pins σ Q) X.xe s
def PS (X : Cx) (st : Stmt) (t : TS) : Prop :=
  ∀ (pins : List (Addr × Obj)) (s : Shared) (σ : St) (H : Hp) (D : Ends), Inv X pins σ H s → t D σ H → wpAny (model X.prog X.w) X.A (exec st X.env) (SP X pins D) X.xe s
def PSs (X : Cx) (st : List Stmt) (t : TS) : Prop :=
  ∀ (pins : List (Addr × Obj)) (s : Shared) (σ : St) (H : Hp) (D : Ends), Inv X pins σ H s → t D σ H → wpAny (model X.prog X.w) X.A (execs st X.env) (SP X pins D) X.xe s
/-- weaken the end -/
theorem thn {α : Type} {t : Sem α} {Q Q' : α → Shared → Prop} {M : Model} {A : Around} {E : Value → Shared → Prop} {s : Shared} (h : wpAny M A t Q E s) (hQ : ∀ a s, Q a s → Q' a s) : wpAny M A t Q' E s := wpAny_mono h hQ fun _ _ x => x
end L2

namespace L2
open PySem PySem.Spec PyProof.Rows
section
variable {X : Cx}

/-- two expressions in a row -/
theorem bin {a b : Expr} {ta tb : TE} (ha : PE X a ta) (hb : PE X b tb) {pins : List (Addr × Obj)} {s : Shared} {σ : St} {H : Hp} {R : V → V → Hp → Prop} (I : Inv X pins σ H s) (h : ta σ H fun x H1 => tb σ H1 fun y H2 => R x y H2)
    {α : Type} {Q : α → Shared → Prop} {f : Value → Value → Sem α}
    (hf : ∀ v u s2 x y H2, Inv X pins σ H2 s2 → RelV x v → RelV y u → R x y H2 → wpAny (model X.prog X.w) X.A (f v u) Q X.xe s2) :
    wpAny (model X.prog X.w) X.A (eval a X.env) (fun v s₁ => wpAny (model X.prog X.w) X.A (eval b X.env) (fun u s₂ => wpAny (model X.prog X.w) X.A (f v u) Q X.xe s₂) X.xe s₁) X.xe s := by
  refine thn (ha pins s σ H _ I h) fun v s1 ⟨x, H1, I1, r1, q1⟩ => ?_
  refine thn (hb pins s1 σ H1 _ I1 q1) fun u s2 ⟨y, H2, I2, r2, q2⟩ => ?_
  exact hf v u s2 x y H2 I2 r1 r2 q2

/-! ### names and constants -/
def tVar (i : Nat) : TE := fun σ H Q => ∃ v, σ[i]? = some (some v) ∧ Q v H
def tC (v : V) : TE := fun _ H Q => Q v H
theorem pe_var {i : Nat} {x : Str} {pos : Pos} (hN : X.N[i]? = some x) (hv : Vis X.env.scope x) (hd : (x == ("__debug__" : Str)) = false := by decide) (hcd : (x == ("__classdict__" : Str)) = false := by decide) : PE X (.Name x pos) (tVar i) := by
  intro pins s σ H Q I h
  obtain ⟨v, e, h⟩ := h
  obtain ⟨m, hn, hl⟩ := I.loc
  obtain ⟨u, r, l⟩ := hl i x v hN e hv
  have fin : EP X pins σ Q u s := ⟨v, H, I, r, h⟩
  rcases l with ⟨hk, hm⟩ | ⟨hk, c, hc, hcell⟩
  · exact wpAny_Name (wpAny_loadName_local I.ok.kind hk hn hm fin) hd
  · rcases hk with hk | hk
    · exact wpAny_Name (wpAny_loadName_cell I.ok.kind hk hc hcell fin) hd
    · exact wpAny_Name (wpAny_loadName_free I.ok.kind hk hc hcell fin hcd) hd
theorem pe_int {i j pos} : PE X (.Constant (.int i) j pos) (tC (.int i)) := fun _ _ _ H _ I h => wpAny_Constant_int ⟨.int i, H, I.tok _, ⟨_, rfl⟩, h⟩
theorem pe_bl {b j pos} : PE X (.Constant (.bool b) j pos) (tC (.bl b)) := fun _ _ _ H _ I h => Constant_bool ⟨.bl b, H, I, rfl, h⟩
theorem pe_str {x j pos} : PE X (.Constant (.str x) j pos) (tC (.str x)) := fun _ _ _ H _ I h => Calls.Constant_str ⟨.str x, H, I.tok _, ⟨_, rfl⟩, h⟩

/-- a global name of the def -/
def Gl (X : Cx) (x : Str) : Prop := X.env.kindOf x = some .globalImplicit
theorem ld_glob {E : Value → Shared → Prop} {pins : List (Addr × Obj)} {s : Shared} {σ : St} {H : Hp} {x : Str} {u : Value} {pos : Pos} {Q : Value → Shared → Prop} (I : Inv X pins σ H s) (hg : Gl X x) (hm : X.mg x = some u) (h : Q u s)
    (hd : (x == ("__debug__" : Str)) = false := by decide) : wpAny (model X.prog X.w) X.A (eval (.Name x pos) X.env) Q E s :=
  Calls.Name_function_global I.ok.kind hg (Calls.loadGlobal_global (by rw [I.ok.glob]; exact I.mod.glob.keeps I.bk) hm h) hd
theorem ld_blt {E : Value → Shared → Prop} {pins : List (Addr × Obj)} {s : Shared} {σ : St} {H : Hp} {x : Str} {u : Value} {pos : Pos} {Q : Value → Shared → Prop} (I : Inv X pins σ H s) (hg : Gl X x) (hm : X.mg x = none) (hv : bootBuiltins x = some u) (h : Q u s)
    (hn : x ≠ "__name__" := by decide) (hd : (x == ("__debug__" : Str)) = false := by decide) : wpAny (model X.prog X.w) X.A (eval (.Name x pos) X.env) Q E s := by
  obtain ⟨mb, h1, h2⟩ := I.mod.blt
  exact Calls.Name_function_global I.ok.kind hg (Calls.loadGlobal_builtin (by rw [I.ok.glob]; exact I.mod.glob.keeps I.bk) hm (by rw [I.ok.blt]; exact h1.keeps I.bk) ((h2 x hn).trans hv) h) hd
theorem pe_bltn {x : Str} {v : V} {u : Value} {pos : Pos} (hg : Gl X x) (hm : X.mg x = none) (hv : bootBuiltins x = some u) (r : RelV v u) (hn : x ≠ "__name__" := by decide) (hd : (x == ("__debug__" : Str)) = false := by decide) : PE X (.Name x pos) (tC v) :=
  fun _ _ _ H _ I h => ld_blt I hg hm hv ⟨v, H, I, r, h⟩ hn hd

/-! ### arithmetic -/
variable {a b : Expr} {ta tb : TE} {pos : Pos}

/-! ### comparisons -/

/-! ### and, or, not -/
variable {tA tB' : TT} {rest : List Expr}
def tAnd (t u : TT) : TT := fun σ H Q => t σ H fun c H1 => if c = true then u σ H1 Q else Q false H1
def tOr (t u : TT) : TT := fun σ H Q => t σ H fun c H1 => if c = true then Q true H1 else u σ H1 Q
def tNot (t : TT) : TT := fun σ H Q => t σ H fun c H1 => Q (!c) H1
theorem pw_and1 (ha : PT X a tA) : PW X (.BoolOp .And [a] pos) tA := by
  intro wh pins s σ H Q I h
  refine isTrue_and (thn (ha pins s σ H Q I h) fun c s1 e => ?_)
  cases c with
  | true => exact isTrue_and_nil e
  | false => exact e
theorem pw_or1 (ha : PT X a tA) : PW X (.BoolOp .Or [a] pos) tA := by
  intro wh pins s σ H Q I h
  refine isTrue_or (thn (ha pins s σ H Q I h) fun c s1 e => ?_)
  cases c with
  | false => exact isTrue_or_nil e
  | true => exact e
theorem pw_and (ha : PT X a tA) (hb : PW X (.BoolOp .And (b :: rest) pos) tB') : PW X (.BoolOp .And (a :: b :: rest) pos) (tAnd tA tB') := by
  intro wh pins s σ H Q I h
  refine isTrue_and (thn (ha pins s σ H _ I h) fun c s1 ⟨H1, I1, q1⟩ => ?_)
  cases c with
  | true => exact hb wh pins s1 σ H1 Q I1 q1
  | false => exact ⟨H1, I1, q1⟩
theorem pw_or (ha : PT X a tA) (hb : PW X (.BoolOp .Or (b :: rest) pos) tB') : PW X (.BoolOp .Or (a :: b :: rest) pos) (tOr tA tB') := by
  intro wh pins s σ H Q I h
  refine isTrue_or (thn (ha pins s σ H _ I h) fun c s1 ⟨H1, I1, q1⟩ => ?_)
  cases c with
  | true => exact ⟨H1, I1, q1⟩
  | false => exact hb wh pins s1 σ H1 Q I1 q1
theorem pt_not (ha : PT X a tA) : PT X (.UnaryOp .Not a pos) (tNot tA) := by
  intro pins s σ H Q I h
  exact isTrue_not (ha pins s σ H (fun c H1 => Q (!c) H1) I h)
def tNotV (ta : TE) : TE := fun σ H Q => ta σ H fun x H1 => ∃ c, x = .bl c ∧ Q (.bl (!c)) H1
theorem pe_one {op} {t : TE} (h : PE X a t) : PE X (.BoolOp op [a] pos) t := fun pins s σ H Q I hw => BoolOp_one (h pins s σ H Q I hw)
theorem pe_not (ha : PE X a ta) : PE X (.UnaryOp .Not a pos) (tNotV ta) := by
  intro pins s σ H Q I h
  refine UnaryOp_ (thn (ha pins s σ H _ I h) fun v s1 ⟨x, H1, I1, r1, q1⟩ => ?_)
  obtain ⟨c, rfl, q1⟩ := q1
  cases r1
  exact not_of (wpAny_truthy_bool ⟨.bl (!c), H1, I1, rfl, q1⟩)
end
end L2

namespace L2
open PySem PySem.Spec PyProof.Rows

/-! ### a list, a tuple that is read: tracked, frozen, or an object of the module -/
def SqL (K : PySem.W.Frag) (H : Hp) (a : Addr) (xs : List V) : Prop :=
  Rd H a (.lst xs) ∨
    ∃ (o : Obj) (its : Array Value) (n : Nat), K.lookup a = some o ∧ o.cls = .type "list" ∧ o.dict = none ∧ o.data = .seq its n ∧ its.size ≤ sizeLine ∧ Vals xs its.toList
def SqT (K : PySem.W.Frag) (H : Hp) (a : Addr) (xs : List V) : Prop :=
  Rd H a (.tup xs) ∨
    ∃ (o : Obj) (its : Array Value) (n : Nat), K.lookup a = some o ∧ o.cls = .type "tuple" ∧ o.data = .seq its n ∧ its.size ≤ sizeLine ∧ Vals xs its.toList
def absV : Value → Option V
  | .none => some .non
  | .bool b => some (.bl b)
  | .int i _ => some (.int i)
  | .str x _ => some (.str x)
  | .bytes b _ => some (.byt b)
  | .float b _ => some (.flt b)
  | .ref a => some (.ref a)
  | .type n => some (.ty n)
  | _ => none
theorem RelV.abs {x : V} {u : Value} (r : RelV x u) : absV u = some x := by
  cases x with
  | non => cases r; rfl
  | bl _ => cases r; rfl
  | int _ => obtain ⟨t, rfl⟩ := r; rfl
  | str _ => obtain ⟨t, rfl⟩ := r; rfl
  | byt _ => obtain ⟨t, rfl⟩ := r; rfl
  | flt _ => obtain ⟨t, rfl⟩ := r; rfl
  | ref _ => cases r; rfl
  | ty _ => cases r; rfl
theorem RelV.inj {x y : V} {u : Value} (r : RelV x u) (q : RelV y u) : x = y := Option.some.inj (r.abs.symm.trans q.abs)
theorem Vals.inj : ∀ {xs ys : List V} {us : List Value}, Vals xs us → Vals ys us → xs = ys
  | _, _, _, .nil, .nil => rfl
  | _, _, _, .cons r t, .cons r' t' => by rw [r.inj r', Vals.inj t t']
section
variable {X : Cx} {pins : List (Addr × Obj)} {σ : St} {H : Hp} {s : Shared} {a : Addr} {xs ys : List V}
theorem SqL.of {K : PySem.W.Frag} (h : H a = some (.lst xs)) : SqL K H a xs := .inl (.inl h)
theorem SqT.of {K : PySem.W.Frag} (h : H a = some (.tup xs)) : SqT K H a xs := .inl (.inl h)
theorem Inv.list (I : Inv X pins σ H s) (h : SqL X.K H a xs) : ∃ its : List Value, Vals xs its ∧ PlainL s.heap a its.toArray ∧ xs.length ≤ sizeLine := by
  rcases h with h | ⟨o, its, n, hk, hc, hd, hs, hz, r⟩
  · obtain ⟨z, its, n, r, e⟩ := h.ok I.hok
    exact ⟨its, r, ⟨_, n, e, rfl, rfl, rfl⟩, z⟩
  · refine ⟨its.toList, r, ⟨o, n, I.kIn a o hk, hc, hd, by simpa using hs⟩, ?_⟩
    have e := r.length
    simp only [Array.length_toList] at e
    omega
theorem Inv.tuple (I : Inv X pins σ H s) (h : SqT X.K H a xs) : ∃ its : List Value, Vals xs its ∧ IsTup s.heap a its.toArray ∧ xs.length ≤ sizeLine := by
  rcases h with h | ⟨o, its, n, hk, hc, hs, hz, r⟩
  · obtain ⟨z, its, r, p⟩ := h.ok I.hok
    exact ⟨its, r, p, z⟩
  · refine ⟨its.toList, r, ⟨o, I.kIn a o hk, hc, n, by simpa using hs⟩, ?_⟩
    have e := r.length
    simp only [Array.length_toList] at e
    omega
theorem Inv.list_inj (I : Inv X pins σ H s) (h : SqL X.K H a xs) (h' : SqL X.K H a ys) : xs = ys := by
  obtain ⟨its, r, ⟨o, n, e, _, _, d⟩, _⟩ := I.list h
  obtain ⟨its', r', ⟨o', n', e', _, _, d'⟩, _⟩ := I.list h'
  rw [e] at e'; cases e'
  rw [d] at d'
  injection d' with d1 _
  have : its = its' := by simpa using congrArg Array.toList d1
  subst this
  exact r.inj r'
theorem Inv.tuple_inj (I : Inv X pins σ H s) (h : SqT X.K H a xs) (h' : SqT X.K H a ys) : xs = ys := by
  obtain ⟨its, r, ⟨o, e, _, n, d⟩, _⟩ := I.tuple h
  obtain ⟨its', r', ⟨o', e', _, n', d'⟩, _⟩ := I.tuple h'
  rw [e] at e'; cases e'
  rw [d] at d'
  injection d' with d1 _
  have : its = its' := by simpa using congrArg Array.toList d1
  subst this
  exact r.inj r'
end

/-! ### another wish about exceptions -/
abbrev Cx.wish (X : Cx) (E : Value → Shared → Prop) : Cx := { X with xe := E }
/-- no exception leaves -/
abbrev Cx.nox (X : Cx) : Cx := X.wish fun _ _ => False
theorem Cx.Ok.wish {X : Cx} (ok : X.Ok) (E : Value → Shared → Prop) : (X.wish E).Ok :=
  ⟨ok.mod, ok.kind, ok.glob, ok.blt, ok.above, ok.inj, ok.has, ok.cab, ok.hd, ok.frames, ok.stk, ok.exf, ok.bs, ok.bsz, ok.noex, ok.exfs, ok.funs, ok.frf⟩
theorem Cx.Ok.unwish {X : Cx} {E : Value → Shared → Prop} (ok : (X.wish E).Ok) : X.Ok :=
  ⟨ok.mod, ok.kind, ok.glob, ok.blt, ok.above, ok.inj, ok.has, ok.cab, ok.hd, ok.frames, ok.stk, ok.exf, ok.bs, ok.bsz, ok.noex, ok.exfs, ok.funs, ok.frf⟩
section
variable {X : Cx} {pins : List (Addr × Obj)} {σ : St} {H : Hp} {s : Shared} {E : Value → Shared → Prop}
theorem Inv.wish (I : Inv X pins σ H s) (E : Value → Shared → Prop) : Inv (X.wish E) pins σ H s := ⟨I.ok.wish E, I.os, I.bare, I.base, I.loc, I.cell, I.free, I.freeC, I.pin, I.hok, I.len⟩
theorem Inv.unwish (I : Inv (X.wish E) pins σ H s) : Inv X pins σ H s := ⟨I.ok.unwish, I.os, I.bare, I.base, I.loc, I.cell, I.free, I.freeC, I.pin, I.hok, I.len⟩
theorem SP.unwish {D : Ends} {f : Flow} {s' : Shared} (h : SP (X.wish E) pins D f s') : SP X pins D f s' := by
  cases f with
  | next => obtain ⟨σ', H', I, q⟩ := h; exact ⟨σ', H', I.unwish, q⟩
  | brk => obtain ⟨σ', H', I, q⟩ := h; exact ⟨σ', H', I.unwish, q⟩
  | cont => obtain ⟨σ', H', I, q⟩ := h; exact ⟨σ', H', I.unwish, q⟩
  | ret u => obtain ⟨v, σ', H', I, r, q⟩ := h; exact ⟨v, σ', H', I.unwish, r, q⟩
theorem PE.nox {e : Expr} {t : TE} (h : PE X.nox e t) : PE X e t := fun pins s σ H Q I hw =>
  wpAny_mono (h pins s σ H Q (I.wish _) hw) (fun _ _ ⟨v, H', I', r, q⟩ => ⟨v, H', I'.unwish, r, q⟩) fun _ _ z => False.elim z
theorem PT.nox {e : Expr} {t : TT} (h : PT X.nox e t) : PT X e t := fun pins s σ H Q I hw =>
  wpAny_mono (h pins s σ H Q (I.wish _) hw) (fun _ _ ⟨H', I', q⟩ => ⟨H', I'.unwish, q⟩) fun _ _ z => False.elim z
theorem PSs.nox {st : List Stmt} {t : TS} (h : PSs X.nox st t) : PSs X st t := fun pins s σ H D I hw =>
  wpAny_mono (h pins s σ H D (I.wish _) hw) (fun _ _ q => q.unwish) fun _ _ z => False.elim z
end

/-! ### blocks and small statements -/
section
variable {X : Cx} {st : Stmt} {rest : List Stmt} {t u : TS} {e : Expr} {te : TE} {pos : Pos}
def tNext : TS := fun D σ H => D.nx σ H
def tSeq (t u : TS) : TS := fun D σ H => t { D with nx := u D } σ H
theorem pss_nil : PSs X [] tNext := fun _ _ σ H _ I h => wpAny_execs_nil ⟨σ, H, I, h⟩
theorem pss_cons (h1 : PS X st t) (h2 : PSs X rest u) : PSs X (st :: rest) (tSeq t u) := by
  intro pins s σ H D I h
  refine wpAny_execs_cons (thn (h1 pins s σ H { D with nx := u D } I h) fun f s1 q => ?_)
  cases f with
  | next =>
    obtain ⟨σ', H', I', q⟩ := q
    exact h2 pins s1 σ' H' D I' q
  | ret v => exact q
  | brk => exact q
  | cont => exact q
theorem pss_one (h1 : PS X st t) : PSs X [st] t := by
  intro pins s σ H D I h
  refine wpAny_execs_cons (thn (h1 pins s σ H D I h) fun f s1 q => ?_)
  cases f with
  | next => exact wpAny_execs_nil q
  | ret v => exact q
  | brk => exact q
  | cont => exact q
/-- in a def's body nothing is shown -/
theorem Inv.quiet {pins : List (Addr × Obj)} {σ : St} {H : Hp} {s : Shared} (I : Inv X pins σ H s) : interactive X.env = false := by simp [interactive, I.ok.kind]
/-- an expression whose value is dropped -/
def tDrop (te : TE) : TS := fun D σ H => te σ H fun _ H1 => D.nx σ H1
theorem ps_expr (he : PE X e te) (hs : swapsWith e none pos.line X.env = pure false := by rfl) : PS X (.Expr e pos) (tDrop te) := by
  intro pins s σ H D I h
  exact wpAny_Expr_any (thn (he pins s σ H _ I h) fun v s1 ⟨x, H1, I1, r1, q1⟩ => ⟨σ, H1, I1, q1⟩) I.quiet hs
def tRet (te : TE) : TS := fun D σ H => te σ H D.rt
theorem ps_ret (he : PE X e te) : PS X (.Return (some e) pos) (tRet te) := by
  intro pins s σ H D I h
  exact wpAny_Return_some (thn (he pins s σ H _ I h) fun v s1 ⟨x, H1, I1, r1, q1⟩ => ⟨x, σ, H1, I1, r1, q1⟩)
def tIfS (c : TT) (t u : TS) : TS := fun D σ H => c σ H fun b H1 => if b = true then t D σ H1 else u D σ H1
theorem ps_if {c : Expr} {a b : List Stmt} {tc : TT} (hc : PT X c tc) (ha : PSs X a t) (hb : PSs X b u) : PS X (.If c a b pos) (tIfS tc t u) := by
  intro pins s σ H D I h
  refine wpAny_If (thn (hc pins s σ H _ I h) fun d s1 ⟨H1, I1, q1⟩ => ?_)
  cases d with
  | true => exact ha pins s1 σ H1 D I1 q1
  | false => exact hb pins s1 σ H1 D I1 q1
end

/-! ### targets -/
abbrev TG := V → St → Hp → (St → Hp → Prop) → Prop
abbrev TGs := List V → St → Hp → (St → Hp → Prop) → Prop
def PG (X : Cx) (target : Expr) (t : TG) : Prop :=
  ∀ (pins : List (Addr × Obj)) (s : Shared) (σ : St) (H : Hp) (v : V) (u : Value) (Q : St → Hp → Prop), Inv X pins σ H s → RelV v u → t v σ H Q →
    wpAny (model X.prog X.w) X.A (assign target X.env u) (fun _ s' => ∃ σ' H', Inv X pins σ' H' s' ∧ Q σ' H') X.xe s
/-- several targets, one after another -/
def PGs (X : Cx) (ts : List Expr) (t : TGs) : Prop :=
  ∀ (pins : List (Addr × Obj)) (s : Shared) (σ : St) (H : Hp) (vs : List V) (us : List Value) (Q : St → Hp → Prop), Inv X pins σ H s → Vals vs us → t vs σ H Q →
    wpAny (model X.prog X.w) X.A (assignInOrder ((assignEach ts X.env).map (·.2)) us) (fun _ s' => ∃ σ' H', Inv X pins σ' H' s' ∧ Q σ' H') X.xe s
/-- o[i] = v, by values -/
abbrev TSet := V → V → V → Hp → (Hp → Prop) → Prop
def PSet (X : Cx) (t : TSet) : Prop :=
  ∀ (pins : List (Addr × Obj)) (s : Shared) (σ : St) (H : Hp) (o i v : V) (ov iv u : Value) (Q : Hp → Prop), Inv X pins σ H s → RelV o ov → RelV i iv → RelV v u → t o i v H Q →
    wpAny (model X.prog X.w) X.A (setItem ov iv u) (fun _ s' => ∃ H', Inv X pins σ H' s' ∧ Q H') X.xe s
section
variable {X : Cx} {pos : Pos}
def gName (i : Nat) : TG := fun v σ H Q => Q (σ.set i (some v)) H
theorem pg_name {i : Nat} {x : Str} (hN : X.N.Nodup) (hi : X.N[i]? = some x) (hx : Loc X.env.scope x) (hf : X.fn x = true ∨ X.env.scope.names.lookup x = some .local := by first | exact .inl rfl | exact .inr rfl | assumption) : PG X (.Name x pos) (gName i) := by
  intro pins s σ H v u Q I r h
  exact wpAny_assign_Name (store_ok I hN hi hx r (fun s' I' => ⟨_, H, I', h⟩) hf)
def gNil : TGs := fun vs σ H Q => vs = [] ∧ Q σ H
def gCons (t : TG) (u : TGs) : TGs := fun vs σ H Q => ∃ v r, vs = v :: r ∧ t v σ H fun σ' H' => u r σ' H' Q
theorem pgs_nil : PGs X [] gNil := by
  intro pins s σ H vs us Q I r h
  obtain ⟨e, h⟩ := h
  subst e
  cases r
  exact assignInOrder_nil ⟨σ, H, I, h⟩
theorem pgs_cons {e : Expr} {es : List Expr} {t : TG} {u : TGs} (h1 : PG X e t) (h2 : PGs X es u)
    (hs : (assignEach (e :: es) X.env).map (·.2) = assign e X.env :: (assignEach es X.env).map (·.2) := by rfl) : PGs X (e :: es) (gCons t u) := by
  intro pins s σ H vs us Q I r h
  obtain ⟨v, vr, e1, h⟩ := h
  subst e1
  cases r with
  | cons r rr =>
    rw [hs]
    refine assignInOrder_cons (thn (h1 pins s σ H _ _ _ I r h) fun _ s1 ⟨σ1, H1, I1, q1⟩ => ?_)
    exact h2 pins s1 σ1 H1 _ _ Q I1 rr q1
/-- (a, b, ..) = a tuple of that length -/
def gTup (K : PySem.W.Frag) (n : Nat) (t : TGs) : TG := fun v σ H Q => ∃ a xs, v = .ref a ∧ SqT K H a xs ∧ xs.length = n ∧ t xs σ H Q
theorem pg_tup {es : List Expr} {k : Nat} {t : TGs} {n : Nat} (hc : X.calm = true) (h : PGs X es t)
    (hn : (assignEach es X.env).length = n := by rfl) (hst : (assignEach es X.env).findIdx? (·.1) = none := by rfl) : PG X (.Tuple es k pos) (gTup X.K n t) := by
  intro pins s σ H v u Q I r hw
  obtain ⟨a, xs, e1, hq, hl, hw⟩ := hw
  subst e1
  cases r
  obtain ⟨its, rv, ht, hz⟩ := I.tuple hq
  refine assign_Tuple_tuple (I.ok.hd hc) ht (by simp [hn, ← hl, rv.length]) hst fun h' hx => ?_
  have I1 : Inv X pins σ H { s with heap := h' } := I.kept (t' := s.toks) fun b o e => hx b o (Nat.ne_of_lt (Heap.lt_size e)) e
  exact h pins _ σ H xs _ Q I1 (by simpa using rv) hw
/-- o[i] = .. -/
def gSub (to ti : TE) (t : TSet) : TG := fun v σ H Q => to σ H fun o H1 => ti σ H1 fun i H2 => t o i v H2 fun H3 => Q σ H3
theorem pg_sub {o i : Expr} {to ti : TE} {t : TSet} (ho : PE X o to) (hi : PE X i ti) (hs : PSet X t)
    (ha : ∀ v, assign (.Subscript o i pos) X.env v = (do
      let ov ← holding [v] (eval o X.env)
      let iv ← holding [v, ov] (eval i X.env)
      standAt pos
      holding [v, ov, iv] (setItem ov iv v)
      release [v, ov, iv] []) := by intro _; rfl) : PG X (.Subscript o i pos) (gSub to ti t) := by
  intro pins s σ H v u Q I r h
  rw [ha]
  refine wpAny_bind (wpAny_holding (thn (ho pins s σ H _ I h) fun ov s1 ⟨x, H1, I1, r1, q1⟩ => ?_))
  refine wpAny_bind (wpAny_holding (thn (hi pins s1 σ H1 _ I1 q1) fun iv s2 ⟨y, H2, I2, r2, q2⟩ => ?_))
  refine wpAny_bind (wpAny_standAt (wpAny_bind (wpAny_holding (thn (hs pins s2 σ H2 x y v ov iv u _ I2 r1 r2 r q2) fun _ s3 ⟨H3, I3, q3⟩ => ?_))))
  exact wpAny_release ⟨σ, H3, I3, q3⟩
/-- target = value -/
def tAsg (te : TE) (g : TG) : TS := fun D σ H => te σ H fun x H1 => g x σ H1 D.nx
theorem ps_asg {tg e : Expr} {te : TE} {g : TG} (he : PE X e te) (hg : PG X tg g) (hs : swapsWithSole [tg] e pos.line X.env = pure false := by rfl) (hw : swappedStores [tg] e X.env = pure none := by rfl)
    (h1 : (assignEach [tg] X.env).map (·.2) = [assign tg X.env] := by rfl) : PS X (.Assign [tg] e pos) (tAsg te g) := by
  intro pins s σ H D I h
  refine wpAny_Assign_stores (thn (he pins s σ H _ I h) fun v s1 ⟨x, H1, I1, r1, q1⟩ => ?_) hs hw
  rw [h1]
  exact thn (hg pins s1 σ H1 x v _ I1 r1 q1) fun _ s2 q => q
/-- name = value -/
theorem ps_set {i : Nat} {x : Str} {e : Expr} {te : TE} {pos' : Pos} (hN : X.N.Nodup) (hi : X.N[i]? = some x) (hx : Loc X.env.scope x) (he : PE X e te) (hs : swapsWith e (some (.Name x pos')) pos.line X.env = pure false := by rfl) (hf : X.fn x = true ∨ X.env.scope.names.lookup x = some .local := by first | exact .inl rfl | exact .inr rfl | assumption) :
    PS X (.Assign [.Name x pos'] e pos) (tAsg te (gName i)) := by
  intro pins s σ H D I h
  refine wpAny_Assign_Name (thn (he pins s σ H _ I h) fun v s1 ⟨y, H1, I1, r1, q1⟩ => ?_) hs
  exact store_ok I1 hN hi hx r1 (fun s2 I2 => ⟨_, H1, I2, q1⟩) hf
end

/-! ### while -/
section
variable {X : Cx} {pos : Pos}
/-- the invariant W with its measure -/
def tWhile (c : TT) (tb : TS) : TS := fun D σ H => ∃ W : Nat → St → Hp → Prop, (∃ m, W m σ H) ∧ ∀ m σ H, W m σ H →
  c σ H fun b H1 => if b = true then ∃ N : St → Hp → Prop, (∀ σ' H', N σ' H' → ∃ m', m' < m ∧ W m' σ' H') ∧ tb { D with nx := N, ct := N, bk := D.nx } σ H1 else D.nx σ H1
theorem ps_while {c : Expr} {body : List Stmt} {tc : TT} {tb : TS} (hp : PassesOwn (model X.prog X.w) X.A X.env X.xe) (hc : PT X c tc) (hb : PSs X body tb) : PS X (.While c body [] pos) (tWhile tc tb) := by
  intro pins s σ H D I h
  obtain ⟨W, ⟨m0, w0⟩, turn⟩ := h
  refine wpAny_While (codeAny_whileLoop (fun n s' => ∃ σ' H', Inv X pins σ' H' s' ∧ W n σ' H') ?_ m0 ⟨σ, H, I, w0⟩)
  rintro n s1 ⟨σ1, H1, I1, w1⟩
  refine wpAny_passesOwn hp (thn (hc pins s1 σ1 H1 _ I1 (turn n σ1 H1 w1)) fun b s2 ⟨H2, I2, q2⟩ => ?_)
  cases b with
  | true =>
    obtain ⟨N, hN, q2⟩ := q2
    rw [if_pos rfl]
    refine wpAny_passesOwn hp (thn (hb pins s2 σ1 H2 _ I2 q2) fun f s3 q3 => ?_)
    cases f with
    | next =>
      obtain ⟨σ3, H3, I3, n3⟩ := q3
      obtain ⟨m', hm, w3⟩ := hN σ3 H3 n3
      exact ⟨m', hm, σ3, H3, I3, w3⟩
    | cont =>
      obtain ⟨σ3, H3, I3, n3⟩ := q3
      obtain ⟨m', hm, w3⟩ := hN σ3 H3 n3
      exact ⟨m', hm, σ3, H3, I3, w3⟩
    | brk => exact q3
    | ret v => exact q3
  | false =>
    rw [if_neg Bool.false_ne_true]
    exact wpAny_execs_nil ⟨σ1, H2, I2, q2⟩
end

/-! ### what a loop or a comprehension walks -/
/-- at turn i: it yields x (the heap may grow), or it stops -/
structure It where
  go : Nat → Hp → Prop
  yld : Nat → Hp → V → Hp → Prop
  stop : Nat → Hp → Prop
/-- the iterator's own objects may turn: they are not the frame's, not pinned, younger than the entry (or a comprehension's own) -/
def FpOk (X : Cx) (pins : List (Addr × Obj)) (H : Hp) (b : Addr) : Prop :=
  H b = none ∧ b ≠ X.env.locals ∧ b ∉ X.fs ∧ (b ∈ X.ex ∨ X.s_0.heap.objs.size ≤ b) ∧ (∀ x c, X.env.cells.lookup x = some c → c ≠ b) ∧ ∀ p ∈ X.pn ++ pins, p.1 ≠ b
theorem Inv.fpOk {X : Cx} {pins : List (Addr × Obj)} {σ : St} {H H' : Hp} {s : Shared} {b : Addr} (I : Inv X pins σ H s) (hb : s.heap.objs.size ≤ b) (hn : H' b = none) : FpOk X pins H' b := by
  refine ⟨hn, Nat.ne_of_gt (Nat.lt_of_lt_of_le I.lt hb), I.nofs hb, .inr (Nat.le_trans I.sz hb), fun x c e z => ?_, fun p hp z => ?_⟩
  · obtain ⟨v, q⟩ := I.cell x c e
    exact absurd (Nat.lt_of_lt_of_le q.lt (by rw [z]; exact hb)) (Nat.lt_irrefl _)
  · exact absurd (Nat.lt_of_lt_of_le (Heap.lt_size (I.pin p hp).1) (by rw [z]; exact hb)) (Nat.lt_irrefl _)
structure Turn (P : Program) (w : World) (K : PySem.W.Frag) (tg : Expr) (J : It) (fp : List Addr) (it : Addr) (tn : Nat → Heap → Prop) : Prop where
  mem : it ∈ fp
  obj : ∀ i h, tn i h → ∀ b ∈ fp, ∃ o, h.get? b = some o ∧ ∀ v, o.data ≠ .cell v
  keep : ∀ i h h', tn i h → (∀ b ∈ fp, ∀ o, h.get? b = some o → h'.get? b = some o) → tn i h'
  item : ∀ (X : Cx), X.prog = P → X.w = w → X.K = K → X.calm = true → ∀ (i : Nat) (pins : List (Addr × Obj)) (s : Shared) (σ : St) (H : Hp) (E : Value → Shared → Prop), Inv X pins σ H s → (∀ b ∈ fp, FpOk X pins H b) → tn i s.heap → J.go i H →
    wpAny (model P w) X.A (pyNext (.ref it)) (fun r s1 => ∃ u, r = some u ∧
      wpAny (model P w) X.A (letOwnedTupleGo tg (.ref it) u) (fun _ s2 => ∃ x H', Inv X pins σ H' s2 ∧ RelV x u ∧ J.yld i H x H' ∧ tn (i + 1) s2.heap ∧ ∀ b ∈ fp, H' b = none) E s1) E s
  done : ∀ (X : Cx), X.prog = P → X.w = w → X.K = K → X.calm = true → ∀ (i : Nat) (pins : List (Addr × Obj)) (s : Shared) (σ : St) (H : Hp) (E : Value → Shared → Prop), Inv X pins σ H s → (∀ b ∈ fp, FpOk X pins H b) → tn i s.heap → J.stop i H →
    wpAny (model P w) X.A (pyNext (.ref it)) (fun r s1 => r = none ∧ Inv X pins σ H s1) E s
  self : ∀ (A : Around) (i : Nat) (s : Shared) (Q : Value → Shared → Prop) (E : Value → Shared → Prop), tn i s.heap → Q (.ref it) s → wpAny (model P w) A (pyIter (.ref it)) Q E s
abbrev TI := St → Hp → (It → Hp → Prop) → Prop
/-- an iterator has come -/
def PIE (X : Cx) (pins : List (Addr × Obj)) (σ : St) (tg : Expr) (R : It → Hp → Prop) (itv : Value) (s2 : Shared) : Prop :=
  ∃ (it : Addr) (fp : List Addr) (tn : Nat → Heap → Prop) (J : It) (H' : Hp), itv = .ref it ∧ Inv X pins σ H' s2 ∧ Turn X.prog X.w X.K tg J fp it tn ∧ tn 0 s2.heap ∧ (∀ b ∈ fp, FpOk X pins H' b) ∧ R J H'
def PI (X : Cx) (tg iter : Expr) (wi : TI) : Prop :=
  ∀ (pins : List (Addr × Obj)) (s : Shared) (σ : St) (H : Hp) (R : It → Hp → Prop), Inv X pins σ H s → wi σ H R →
    wpAny (model X.prog X.w) X.A (eval iter X.env) (fun v s1 => wpAny (model X.prog X.w) X.A (pyIter v) (PIE X pins σ tg R) X.xe s1) X.xe s

/-- the step ahead of the store is nothing for an iterator that keeps no tuple -/
theorem go_of {M : Model} {A : Around} {E : Value → Shared → Prop} {s : Shared} {tg : Expr} {it : Addr} {u : Value} {o : Obj} {n : String} {vs : Array Value} {Q : Unit → Shared → Prop} (ho : s.heap.get? it = some o) (hc : o.cls = .type n) (hd : o.data = .fields vs)
    (hn : ["enumerate", "zip", "dict_itemiterator", "dict_reverseitemiterator", "odict_iterator", "itertools.zip_longest", "itertools.pairwise"].contains n = false) (hQ : Q () s) : wpAny M A (letOwnedTupleGo tg (.ref it) u) Q E s := by
  unfold letOwnedTupleGo
  cases tg <;> first
    | exact wpAny_pure hQ
    | (cases u <;> first
        | exact wpAny_pure hQ
        | (refine wpAny_bind (wpAny_load ho ?_)
           rw [hc, hd]
           show wpAny M A (if (["enumerate", "zip", "dict_itemiterator", "dict_reverseitemiterator", "odict_iterator", "itertools.zip_longest", "itertools.pairwise"].contains n && vs[0]? == some (rawInt _)) = true then _ else _) Q E s
           rw [if_neg (by intro h; rw [hn, Bool.false_and] at h; cases h)]
           exact wpAny_pure hQ))

/-- the list at a, as it stands at each turn (a loop may append to it) -/
def Itl (K : PySem.W.Frag) (a : Addr) : It :=
  ⟨fun i H => ∃ xs x, SqL K H a xs ∧ xs[i]? = some x, fun i H x H' => H' = H ∧ ∀ xs, SqL K H a xs → xs[i]? = some x, fun i H => ∃ xs, SqL K H a xs ∧ xs.length ≤ i⟩
def Itt (K : PySem.W.Frag) (a : Addr) : It :=
  ⟨fun i H => ∃ xs x, SqT K H a xs ∧ xs[i]? = some x, fun i H x H' => H' = H ∧ ∀ xs, SqT K H a xs → xs[i]? = some x, fun i H => ∃ xs, SqT K H a xs ∧ xs.length ≤ i⟩
/-- lo, lo + 1, .. (n of them) -/
def Itr (lo : Int) (n : Nat) : It := ⟨fun i _ => i < n, fun i H x H' => H' = H ∧ x = .int (lo + i), fun i _ => n ≤ i⟩
theorem turn_list {P : Program} {w : World} {K : PySem.W.Frag} {tg : Expr} (a it : Addr) : Turn P w K tg (Itl K a) [it] it (fun i h => h.IsListIter it a i) where
  mem := by simp
  obj := fun i h st b hb => by
    have e : b = it := by simpa using hb
    subst e
    obtain ⟨o, e, c, d⟩ := st
    exact ⟨o, e, fun v z => by rw [d] at z; cases z⟩
  keep := fun i h h' st k => st.at fun o e => k it (by simp) o e
  item := by
    intro X hP hw hK hc i pins s σ H E I hf st hg
    subst hP hw hK
    obtain ⟨xs, x, hq, hx⟩ := hg
    obtain ⟨its, rv, p, hz⟩ := I.list hq
    obtain ⟨u, hu, ru⟩ := rv.get hx
    obtain ⟨f0, f1, f2, f3, f4, f5⟩ := hf it (by simp)
    refine wpAny_pyNext_list_item st p.isList (x := u) (by simpa using hu) fun h' st' sb => ?_
    have I1 : Inv X pins σ H { s with heap := h' } := I.turned (t' := s.toks) (fun b o hb e => (sb.2 b hb).trans e) f0 f1 f3 f4 f5
    obtain ⟨o, e, c, d⟩ := id st'
    exact ⟨u, rfl, go_of (s := { s with heap := h' }) e c d (by decide) ⟨x, H, I1, ru, ⟨rfl, fun ys hy => by rw [I.list_inj hy hq]; exact hx⟩, st', fun b hb => (hf b hb).1⟩⟩
  done := by
    intro X hP hw hK hc i pins s σ H E I hf st hg
    subst hP hw hK
    obtain ⟨xs, hq, hx⟩ := hg
    obtain ⟨its, rv, p, hz⟩ := I.list hq
    obtain ⟨f0, f1, f2, f3, f4, f5⟩ := hf it (by simp)
    have hl := rv.length
    exact wpAny_pyNext_list_end (I.ok.hd hc) st p.isList (by simp; omega) fun h' eb => ⟨rfl, I.turned (t' := s.toks) (fun b o hb e => eb b o hb e) f0 f1 f3 f4 f5⟩
  self := fun _ _ _ _ _ st h => wpAny_pyIter_listiter st h
theorem turn_tuple {P : Program} {w : World} {K : PySem.W.Frag} {tg : Expr} (a it : Addr) : Turn P w K tg (Itt K a) [it] it (fun i h => h.IsTupleIter it a i) where
  mem := by simp
  obj := fun i h st b hb => by
    have e : b = it := by simpa using hb
    subst e
    obtain ⟨o, e, c, d⟩ := st
    exact ⟨o, e, fun v z => by rw [d] at z; cases z⟩
  keep := fun i h h' st k => st.at fun o e => k it (by simp) o e
  item := by
    intro X hP hw hK hc i pins s σ H E I hf st hg
    subst hP hw hK
    obtain ⟨xs, x, hq, hx⟩ := hg
    obtain ⟨its, rv, p, hz⟩ := I.tuple hq
    obtain ⟨u, hu, ru⟩ := rv.get hx
    obtain ⟨f0, f1, f2, f3, f4, f5⟩ := hf it (by simp)
    refine wpAny_pyNext_tuple_item st (show s.heap.IsTuple a its.toArray from p) (x := u) (by simpa using hu) fun h' st' sb => ?_
    have I1 : Inv X pins σ H { s with heap := h' } := I.turned (t' := s.toks) (fun b o hb e => (sb.2 b hb).trans e) f0 f1 f3 f4 f5
    obtain ⟨o, e, c, d⟩ := id st'
    exact ⟨u, rfl, go_of (s := { s with heap := h' }) e c d (by decide) ⟨x, H, I1, ru, ⟨rfl, fun ys hy => by rw [I.tuple_inj hy hq]; exact hx⟩, st', fun b hb => (hf b hb).1⟩⟩
  done := by
    intro X hP hw hK hc i pins s σ H E I hf st hg
    subst hP hw hK
    obtain ⟨xs, hq, hx⟩ := hg
    obtain ⟨its, rv, p, hz⟩ := I.tuple hq
    obtain ⟨f0, f1, f2, f3, f4, f5⟩ := hf it (by simp)
    have hl := rv.length
    exact wpAny_pyNext_tuple_end (I.ok.hd hc) st (show s.heap.IsTuple a its.toArray from p) (by simp; omega) fun h' eb => ⟨rfl, I.turned (t' := s.toks) (fun b o hb e => eb b o hb e) f0 f1 f3 f4 f5⟩
  self := fun _ _ _ _ _ st h => wpAny_pyIter_tupleiter st h
theorem turn_range {P : Program} {w : World} {K : PySem.W.Frag} {tg : Expr} (it : Addr) (lo : Int) (n : Nat) : Turn P w K tg (Itr lo n) [it] it (fun i h => IsRangeIter h it (lo + (i : Nat) * 1) ((n : Int) - (i : Nat)) 1) where
  mem := by simp
  obj := fun i h st b hb => by
    have e : b = it := by simpa using hb
    subst e
    exact ⟨_, st, fun v z => by
      have z' : Data.fields _ = Data.cell v := z
      cases z'⟩
  keep := fun i h h' st k => k it (by simp) _ st
  item := by
    intro X hP hw hK hc i pins s σ H E I hf st hg
    subst hP hw hK
    obtain ⟨f0, f1, f2, f3, f4, f5⟩ := hf it (by simp)
    have W := Walks.range (prog := X.prog) (w := X.w) (I.ok.hd hc) it lo 1 n
    refine W.item i s _ _ hg st fun v h' tk hv st' kk => ?_
    obtain ⟨t, rfl⟩ := hv
    have I1 : Inv X pins σ H { s with heap := h', toks := tk } := I.turned (fun b o hb e => kk b o (by simpa using hb) e) f0 f1 f3 f4 f5
    refine ⟨_, rfl, go_of (s := { s with heap := h', toks := tk }) (n := "range_iterator") st' rfl rfl (by decide) ⟨.int (lo + i), H, I1, ⟨t, ?_⟩, ⟨rfl, rfl⟩, st', fun b hb => (hf b hb).1⟩⟩
    rw [Int.mul_one]
  done := by
    intro X hP hw hK hc i pins s σ H E I hf st hg
    subst hP hw hK
    obtain ⟨f0, f1, f2, f3, f4, f5⟩ := hf it (by simp)
    exact wpAny_pyNext_range_end (I.ok.hd hc) st (by have : n ≤ i := hg; omega) fun h' eb => ⟨rfl, I.turned (t' := s.toks) (fun b o hb e => eb b o hb e) f0 f1 f3 f4 f5⟩
  self := fun _ _ _ _ _ st h => wpAny_pyIter_rangeiter st h
end L2

namespace L2
open PySem PySem.Spec PyProof.Rows
section
variable {X : Cx} {tg : Expr}
/-- a range object just made, walked -/
theorem range_it {pins : List (Addr × Obj)} {σ : St} {H : Hp} {s : Shared} {R : It → Hp → Prop} {E : Value → Shared → Prop} {lo hi : Int} {t u v : Tok} {tk : Nat} (I : Inv X pins σ H s) (h1 : -(2 ^ 62) ≤ lo) (h2 : lo < 2 ^ 62) (h3 : -(2 ^ 62) ≤ hi) (h4 : hi < 2 ^ 62)
    (q : R (Itr lo (hi - lo).toNat) H) : wpAny (model X.prog X.w) X.A (pyIter (.ref s.heap.objs.size)) (PIE X pins σ tg R) E { s with heap := s.heap.push { cls := .type "range", data := .fields #[.int lo t, .int hi u, .int 1 v] }, toks := tk } := by
  refine wpAny_pyIter_range (IsRange.new ..) (small_one h1 h2 h3 h4) ?_
  have I1 : Inv X pins σ H { s with heap := s.heap.push { cls := .type "range", data := .fields #[.int lo t, .int hi u, .int 1 v] }, toks := tk } := I.kept fun b o e => Heap.get?_push_of_some _ e
  refine ⟨(s.heap.push { cls := .type "range", data := .fields #[.int lo t, .int hi u, .int 1 v] }).objs.size, [(s.heap.push { cls := .type "range", data := .fields #[.int lo t, .int hi u, .int 1 v] }).objs.size], _, _, H, rfl,
    I1.kept (t' := tk) fun b o e => Heap.get?_push_of_some _ e, turn_range _ lo (hi - lo).toNat, ?_, fun b hb => ?_, q⟩
  · have e1 : lo + ((0 : Nat) : Int) * 1 = lo := by simp
    have e2 : (((hi - lo).toNat : Nat) : Int) - ((0 : Nat) : Int) = Builtin.Range.rangeSize lo hi 1 := by rw [rangeSize_one]; split <;> omega
    show IsRangeIter _ _ (lo + ((0 : Nat) : Int) * 1) ((((hi - lo).toNat : Nat) : Int) - ((0 : Nat) : Int)) 1
    rw [e1, e2]
    exact Heap.get?_push_size _ rfl
  · have e : b = (s.heap.push { cls := .type "range", data := .fields #[.int lo t, .int hi u, .int 1 v] }).objs.size := by simpa using hb
    subst e
    exact I1.fpOk (Nat.le_refl _) (I1.hok.fresh (Nat.le_refl _))
def iRng1 (ta : TA) : TI := fun σ H R => ta σ H fun vs H1 => ∃ j : Int, vs = [.int j] ∧ -(2 ^ 62) ≤ j ∧ j < 2 ^ 62 ∧ R (Itr 0 j.toNat) H1
theorem pi_range1 {a : Expr} {ta : TA} {p pos : Pos} (hg : Gl X "range") (hm : X.mg "range" = none) (ha : PA X [a] ta) (hs : starEach [a] X.env = [(false, eval a X.env)] := by rfl) : PI X tg (.Call (.Name "range" p) [a] [] pos) (iRng1 ta) := by
  intro pins s σ H R I h
  refine Call_ (ld_blt I hg hm boot_range (PyProof.Rows.callWith_type1 (thn (ha pos pins s σ H _ I h) fun us s1 ⟨vs, H1, I1, r1, q1⟩ => ?_) hs rfl))
  obtain ⟨j, e, q1, q2, q⟩ := q1
  subst e
  cases r1 with
  | cons r rr =>
    cases rr
    obtain ⟨t, rfl⟩ := r
    exact call_range_1 (range_it I1 (by omega) (by omega) q1 q2 (by simpa using q))

/-! ### for -/
/-- W: the invariant by the turn and a measure; N: what the body is to reach -/
def tFor (wi : TI) (g : TG) (tb : TS) : TS := fun D σ H => wi σ H fun J H1 => ∃ W : Nat → Nat → St → Hp → Prop, (∃ m, W 0 m σ H1) ∧ ∀ i m σ H, W i m σ H →
  (J.stop i H ∧ D.nx σ H) ∨ (J.go i H ∧ ∃ N : St → Hp → Prop, (∀ σ' H', N σ' H' → ∃ m', m' < m ∧ W (i + 1) m' σ' H') ∧ ∀ x H', J.yld i H x H' → g x σ H' fun σ2 H2 => tb { D with nx := N, ct := N, bk := D.nx } σ2 H2)
/-- the records at fp as they stand -/
def pinsAt (fp : List Addr) (h : Heap) : List (Addr × Obj) := fp.filterMap fun b => (h.get? b).map fun o => (b, o)
theorem mem_pinsAt {fp : List Addr} {h : Heap} {b : Addr} {o : Obj} (hb : b ∈ fp) (e : h.get? b = some o) : (b, o) ∈ pinsAt fp h := List.mem_filterMap.mpr ⟨b, hb, by rw [e]; rfl⟩
theorem of_pinsAt {fp : List Addr} {h : Heap} {p : Addr × Obj} (hp : p ∈ pinsAt fp h) : p.1 ∈ fp ∧ h.get? p.1 = some p.2 := by
  obtain ⟨b, hb, e⟩ := List.mem_filterMap.mp hp
  cases q : h.get? b with
  | none => rw [q] at e; cases e
  | some o =>
    rw [q] at e
    have e' : (b, o) = p := Option.some.inj e
    subst e'
    exact ⟨hb, q⟩
theorem Inv.pinned {pins : List (Addr × Obj)} {σ : St} {H : Hp} {s : Shared} {fp : List Addr} (I : Inv X pins σ H s) (hf : ∀ b ∈ fp, FpOk X pins H b) (ho : ∀ b ∈ fp, ∃ o, s.heap.get? b = some o ∧ ∀ v, o.data ≠ .cell v) : Inv X (pins ++ pinsAt fp s.heap) σ H s :=
  I.pins_of fun p hp => (List.mem_append.mp hp).elim (fun z => I.pin p (List.mem_append_right _ z)) fun z => by
    obtain ⟨hb, e⟩ := of_pinsAt z
    obtain ⟨f0, f1, f2, _⟩ := hf p.1 hb
    obtain ⟨o, e', d⟩ := ho p.1 hb
    rw [e] at e'; cases e'
    exact ⟨e, f0, f1, f2, d⟩
theorem Inv.unpinned {pins pl : List (Addr × Obj)} {σ : St} {H : Hp} {s : Shared} (I : Inv X (pins ++ pl) σ H s) : Inv X pins σ H s := I.pins_of fun p hp => I.pin p (List.mem_append_right _ (List.mem_append_left _ hp))
theorem ps_for {iter : Expr} {body : List Stmt} {wi : TI} {g : TG} {tb : TS} {pos : Pos} (hp : PassesOwn (model X.prog X.w) X.A X.env X.xe) (hc : X.calm = true) (hi : PI X tg iter wi) (hg : PG X tg g) (hb : PSs X body tb)
    (hs : ∀ x, foldedSetIterable iter X.env x = pure x := by intro _; rfl) : PS X (.For tg iter body [] pos) (tFor wi g tb) := by
  intro pins s σ H D I h
  refine wpAny_For (thn (hi pins s σ H _ I h) fun v s1 h1 => thn h1 fun itv s2 h2 => ?_) hs
  obtain ⟨it, fp, tn, J, H2, e, I2, T, st2, f2, W, ⟨m0, w0⟩, turn⟩ := h2
  subst e
  -- what stays true of the iterator's objects through the loop
  have stat : ∀ {H' : Hp}, (∀ b ∈ fp, H' b = none) → ∀ b ∈ fp, FpOk X pins H' b := fun hn b hb => ⟨hn b hb, (f2 b hb).2⟩
  refine codeAny_forLoop_any (fun n s' => ∃ i σ' H', Inv X pins σ' H' s' ∧ tn i s'.heap ∧ (∀ b ∈ fp, H' b = none) ∧ W i n σ' H') ?_ m0 ⟨0, σ, H2, I2, st2, fun b hb => (f2 b hb).1, w0⟩
  rintro n s3 ⟨i, σ3, H3, I3, st3, fr3, w3⟩
  rcases turn i n σ3 H3 w3 with ⟨stop, qn⟩ | ⟨go, N, hN, step⟩
  · refine wpAny_passesOwn hp (thn (T.done X rfl rfl rfl hc i pins s3 σ3 H3 X.xe I3 (stat fr3) st3 stop) fun r s4 ⟨hr, I4⟩ => ?_)
    subst hr
    exact wpAny_execs_nil ⟨σ3, H3, I4, qn⟩
  · refine wpAny_passesOwn hp (thn (T.item X rfl rfl rfl hc i pins s3 σ3 H3 X.xe I3 (stat fr3) st3 go) fun r s4 ⟨u, hr, h4⟩ => ?_)
    subst hr
    refine wpAny_passesOwn hp (thn h4 fun _ s5 ⟨x, H5, I5, r5, y5, st5, fr5⟩ => ?_)
    have I5' := I5.pinned (stat fr5) (T.obj _ _ st5)
    refine wpAny_passesOwn hp (thn (hg _ s5 σ3 H5 x u _ I5' r5 (step x H5 y5)) fun _ s6 ⟨σ6, H6, I6, q6⟩ => ?_)
    refine wpAny_passesOwn hp (thn (hb _ s6 σ6 H6 _ I6 q6) fun f s7 q7 => ?_)
    have again : ∀ {σ7 : St} {H7 : Hp}, Inv X (pins ++ pinsAt fp s5.heap) σ7 H7 s7 → N σ7 H7 → ∃ m, m < n ∧ ∃ i σ' H', Inv X pins σ' H' s7 ∧ tn i s7.heap ∧ (∀ b ∈ fp, H' b = none) ∧ W i m σ' H' := fun {σ7 H7} I7 n7 => by
      obtain ⟨m', hm, w7⟩ := hN σ7 H7 n7
      refine ⟨m', hm, i + 1, σ7, H7, I7.unpinned, T.keep _ _ _ st5 fun b hb o e => (I7.pin (b, o) (List.mem_append_right _ (List.mem_append_right _ (mem_pinsAt hb e)))).1, fun b hb => ?_, w7⟩
      obtain ⟨o, e, d⟩ := T.obj _ _ st5 b hb
      exact (I7.pin (b, o) (List.mem_append_right _ (List.mem_append_right _ (mem_pinsAt hb e)))).2.1
    cases f with
    | next => obtain ⟨σ7, H7, I7, n7⟩ := q7; exact again I7 n7
    | cont => obtain ⟨σ7, H7, I7, n7⟩ := q7; exact again I7 n7
    | brk => obtain ⟨σ7, H7, I7, q7⟩ := q7; exact ⟨σ7, H7, I7.unpinned, q7⟩
    | ret v => obtain ⟨x7, σ7, H7, I7, r7, q7⟩ := q7; exact ⟨x7, σ7, H7, I7.unpinned, r7, q7⟩
end

/-! ### the forms one uses -/
end L2

namespace L2
open PySem PySem.Spec PyProof.Rows

abbrev R2 := V → V → Hp → VK → Prop
/-- a two-place operation on values: f is binaryOp op, inplaceOp op or compareOp op -/
def OpR (X : Cx) (f : Value → Value → Sem Value) (r : R2) : Prop :=
  ∀ (pins : List (Addr × Obj)) (s : Shared) (σ : St) (H : Hp) (x y : V) (v u : Value) (Q : VK), Inv X pins σ H s → RelV x v → RelV y u → r x y H Q →
    wpAny (model X.prog X.w) X.A (f v u) (EP X pins σ Q) X.xe s
/-- a one-place operation -/
def UnR (X : Cx) (f : Value → Sem Value) (r : V → Hp → VK → Prop) : Prop :=
  ∀ (pins : List (Addr × Obj)) (s : Shared) (σ : St) (H : Hp) (x : V) (v : Value) (Q : VK), Inv X pins σ H s → RelV x v → r x H Q →
    wpAny (model X.prog X.w) X.A (f v) (EP X pins σ Q) X.xe s
/-- a call of a value that is known (a builtin, a type) with values -/
def CallR (X : Cx) (f : Value) (r : List V → Hp → VK → Prop) : Prop :=
  ∀ (pins : List (Addr × Obj)) (s : Shared) (σ : St) (H : Hp) (xs : List V) (us : List Value) (Q : VK), Inv X pins σ H s → Vals xs us → r xs H Q →
    wpAny (model X.prog X.w) X.A (call f us) (EP X pins σ Q) X.xe s
/-- a value's truth -/
def TruR (X : Cx) (r : V → Hp → (Bool → Hp → Prop) → Prop) : Prop :=
  ∀ (pins : List (Addr × Obj)) (s : Shared) (σ : St) (H : Hp) (x : V) (v : Value) (Q : Bool → Hp → Prop), Inv X pins σ H s → RelV x v → r x H Q →
    wpAny (model X.prog X.w) X.A (truthy v) (TP X pins σ Q) X.xe s

def tOp (r : R2) (ta tb : TE) : TE := fun σ H Q => ta σ H fun x H1 => tb σ H1 fun y H2 => r x y H2 Q
def tUn (r : V → Hp → VK → Prop) (ta : TE) : TE := fun σ H Q => ta σ H fun x H1 => r x H1 Q
/-- ints in, under C, and a value out -/
def rI (C : Int → Int → Prop) (g : Int → Int → V) : R2 := fun x y H Q => ∃ i j, x = .int i ∧ y = .int j ∧ C i j ∧ Q (g i j) H
def rI0 (g : Int → Int → V) : R2 := fun x y H Q => ∃ i j, x = .int i ∧ y = .int j ∧ Q (g i j) H
def rU (g : Int → V) : V → Hp → VK → Prop := fun x H Q => ∃ i, x = .int i ∧ Q (g i) H

section
variable {X : Cx} {a b c : Expr} {ta tb tc : TE} {pos : Pos}

theorem binT (ha : PE X a ta) (hb : PE X b tb) {pins : List (Addr × Obj)} {s : Shared} {σ : St} {H : Hp} {R : V → V → Hp → Prop} (I : Inv X pins σ H s)
    (h : ta σ H fun x H1 => tb σ H1 fun y H2 => R x y H2) {Q : Value → Shared → Prop} {f : Value → Value → Sem Value}
    (hf : ∀ v u s2 x y H2, Inv X pins σ H2 s2 → RelV x v → RelV y u → R x y H2 → wpAny (model X.prog X.w) X.A (f v u) Q X.xe s2) :
    wpAny (model X.prog X.w) X.A (eval a X.env) (fun v s₁ => wpAny (model X.prog X.w) X.A (eval b X.env) (fun u s₂ => wpAny (model X.prog X.w) X.A (f v u) Q X.xe s₂) X.xe s₁) X.xe s := by
  refine thn (ha pins s σ H _ I h) fun v s1 ⟨x, H1, I1, r1, q1⟩ => ?_
  refine thn (hb pins s1 σ H1 _ I1 q1) fun u s2 ⟨y, H2, I2, r2, q2⟩ => ?_
  exact hf v u s2 x y H2 I2 r1 r2 q2

theorem pe_op {op : Operator} {r : R2} (ho : OpR X (binaryOp op) r) (ha : PE X a ta) (hb : PE X b tb) : PE X (.BinOp a op b pos) (tOp r ta tb) := by
  intro pins s σ H Q I h
  exact wpAny_BinOp (binT ha hb I h fun v u s2 x y H2 I2 rx ry q => ho pins s2 σ H2 x y v u Q I2 rx ry q)
theorem pe_un {op : UnaryOp} {r : V → Hp → VK → Prop} (ho : UnR X (unaryOp op) r) (ha : PE X a ta) : PE X (.UnaryOp op a pos) (tUn r ta) := by
  intro pins s σ H Q I h
  exact UnaryOp_ (thn (ha pins s σ H _ I h) fun v s1 ⟨x, H1, I1, r1, q1⟩ => ho pins s1 σ H1 x v Q I1 r1 q1)

/-! ### ints -/
theorem opI {f : Value → Value → Sem Value} {C : Int → Int → Prop} {g : Int → Int → Int}
    (rule : ∀ (i j : Int) (t u : Tok) (s : Shared) (Q : Value → Shared → Prop) (E : Value → Shared → Prop), C i j → Q (.int (g i j) s.toks) { s with toks := s.toks + 1 } → wpAny (model X.prog X.w) X.A (f (.int i t) (.int j u)) Q E s) :
    OpR X f (rI C fun i j => .int (g i j)) := by
  intro pins s σ H x y v u Q I rx ry h
  obtain ⟨i, j, rfl, rfl, hc, q⟩ := h
  obtain ⟨t, rfl⟩ := rx
  obtain ⟨t', rfl⟩ := ry
  exact rule i j t t' s _ _ hc ⟨.int (g i j), H, I.tok _, ⟨_, rfl⟩, q⟩
theorem opI0 {f : Value → Value → Sem Value} {g : Int → Int → Int}
    (rule : ∀ (i j : Int) (t u : Tok) (s : Shared) (Q : Value → Shared → Prop) (E : Value → Shared → Prop), Q (.int (g i j) s.toks) { s with toks := s.toks + 1 } → wpAny (model X.prog X.w) X.A (f (.int i t) (.int j u)) Q E s) :
    OpR X f (rI0 fun i j => .int (g i j)) := by
  intro pins s σ H x y v u Q I rx ry h
  obtain ⟨i, j, rfl, rfl, q⟩ := h
  obtain ⟨t, rfl⟩ := rx
  obtain ⟨t', rfl⟩ := ry
  exact rule i j t t' s _ _ ⟨.int (g i j), H, I.tok _, ⟨_, rfl⟩, q⟩
theorem opB0 {f : Value → Value → Sem Value} {g : Int → Int → Bool}
    (rule : ∀ (i j : Int) (t u : Tok) (s : Shared) (Q : Value → Shared → Prop) (E : Value → Shared → Prop), Q (.bool (g i j)) s → wpAny (model X.prog X.w) X.A (f (.int i t) (.int j u)) Q E s) :
    OpR X f (rI0 fun i j => .bl (g i j)) := by
  intro pins s σ H x y v u Q I rx ry h
  obtain ⟨i, j, rfl, rfl, q⟩ := h
  obtain ⟨t, rfl⟩ := rx
  obtain ⟨t', rfl⟩ := ry
  exact rule i j t t' s _ _ ⟨.bl (g i j), H, I, rfl, q⟩

def CPow (i j : Int) : Prop := 0 ≤ j ∧ j ≤ 1000000 ∧ i.natAbs < 2 ^ 64
def CMul (i j : Int) : Prop := (-(2 ^ 64) < i ∧ i < 2 ^ 64) ∨ (-(2 ^ 64) < j ∧ j < 2 ^ 64)
theorem CMul.ok {i j : Int} (h : CMul i j) : IntMulOk i j := by
  rcases h with ⟨h1, h2⟩ | ⟨h1, h2⟩
  · exact .of_left (intBits_le_64 h1 h2)
  · exact .of_right (intBits_le_64 h1 h2)

theorem op_add : OpR X (binaryOp .Add) (rI0 fun i j => .int (i + j)) := opI0 fun _ _ _ _ _ _ _ q => add_int q
theorem op_sub : OpR X (binaryOp .Sub) (rI0 fun i j => .int (i - j)) := opI0 fun _ _ _ _ _ _ _ q => sub_int q
theorem op_mul : OpR X (binaryOp .Mult) (rI CMul fun i j => .int (i * j)) := opI fun _ _ _ _ _ _ _ hc q => mul_int q hc.ok
/-- % by a positive divisor of any size -/
theorem op_mod : OpR X (binaryOp .Mod) (rI (fun _ j => 0 < j) fun i j => .int (i % j)) := opI fun i j _ _ _ _ _ hc q => by
  have h1 : (0 : Int) < j := hc
  exact mod_int' (by omega) (by rw [Int.fmod_eq_emod_of_nonneg i (by omega)]; exact q)
theorem op_pow : OpR X (binaryOp .Pow) (rI CPow fun i j => .int (i ^ j.toNat)) := opI fun _ _ _ _ _ _ _ hc q => pow_int_small hc.1 hc.2.1 hc.2.2 q


theorem unI {f : Value → Sem Value} {g : Int → Int}
    (rule : ∀ (i : Int) (t : Tok) (s : Shared) (Q : Value → Shared → Prop) (E : Value → Shared → Prop), Q (.int (g i) s.toks) { s with toks := s.toks + 1 } → wpAny (model X.prog X.w) X.A (f (.int i t)) Q E s) :
    UnR X f (rU fun i => .int (g i)) := by
  intro pins s σ H x v Q I rx h
  obtain ⟨i, rfl, q⟩ := h
  obtain ⟨t, rfl⟩ := rx
  exact rule i t s _ _ ⟨.int (g i), H, I.tok _, ⟨_, rfl⟩, q⟩
theorem un_neg : UnR X (unaryOp .USub) (rU fun i => .int (-i)) := unI fun _ _ _ _ _ q => neg_int q

/-! ### bools among ints: n += (a < b) -/
end

/-! ### comparisons -/


section
variable {X : Cx} {a b c : Expr} {ta tb tc : TE} {pos : Pos}

theorem op_lt : OpR X (compareOp .Lt) (rI0 fun i j => .bl (decide (i < j))) := opB0 fun _ _ _ _ _ _ _ q => lt_int q
theorem op_le : OpR X (compareOp .LtE) (rI0 fun i j => .bl (decide (i ≤ j))) := opB0 fun _ _ _ _ _ _ _ q => le_int q
theorem op_gt : OpR X (compareOp .Gt) (rI0 fun i j => .bl (decide (j < i))) := opB0 fun _ _ _ _ _ _ _ q => gt_int q
theorem op_ge : OpR X (compareOp .GtE) (rI0 fun i j => .bl (decide (j ≤ i))) := opB0 fun _ _ _ _ _ _ _ q => ge_int q



/-- two rules for one operation: by cases -/
theorem OpR.or {f : Value → Value → Sem Value} {r r' : R2} (h : OpR X f r) (h' : OpR X f r') : OpR X f (fun x y H Q => r x y H Q ∨ r' x y H Q) := by
  intro pins s σ H x y v u Q I rx ry q
  rcases q with q | q
  · exact h pins s σ H x y v u Q I rx ry q
  · exact h' pins s σ H x y v u Q I rx ry q

theorem nomark (b : Expr) {op : CmpOp} (h : op ≠ .In := by decide) (h2 : op ≠ .NotIn := by decide) : behindInMarks op b = false := by
  have e1 : (op == CmpOp.In) = false := by cases op <;> first | rfl | exact absurd rfl h
  have e2 : (op == CmpOp.NotIn) = false := by cases op <;> first | rfl | exact absurd rfl h2
  cases b <;> simp [behindInMarks, e1, e2]
/-- a comparison as a value; hm: nomark b, or (for in, not in) by with_unfolding_all rfl -/
theorem pe_cmpR {op : CmpOp} {r : R2} (ho : OpR X (compareOp op) r) (ha : PE X a ta) (hb : PE X b tb) (hm : behindInMarks op b = false) : PE X (.Compare a [op] [b] pos) (tOp r ta tb) := by
  intro pins s σ H Q I h
  exact wpAny_Compare1 (binT ha hb I h fun v u s2 x y H2 I2 rx ry q => ho pins s2 σ H2 x y v u Q I2 rx ry q) hm
/-- a reading of a value as a test -/
def tTest (t : TE) : TT := fun σ H Q => t σ H fun x H' => ∃ k, x = .bl k ∧ Q k H'
theorem pt_cmpR {op : CmpOp} {r : R2} (ho : OpR X (compareOp op) r) (ha : PE X a ta) (hb : PE X b tb) (hm : behindInMarks op b = false) : PT X (.Compare a [op] [b] pos) (tTest (tOp r ta tb)) := by
  intro pins s σ H Q I h
  refine wpAny_isTrue_Compare1 (thn (ha pins s σ H _ I h) fun v s1 ⟨x, H1, I1, r1, q1⟩ => thn (hb pins s1 σ H1 _ I1 q1) fun u s2 ⟨y, H2, I2, r2, q2⟩ =>
    thn (ho pins s2 σ H2 x y v u _ I2 r1 r2 q2) fun c s3 ⟨z, H3, I3, r3, k, e, q3⟩ => ?_) hm
  subst e
  cases r3
  exact wpAny_truthy_bool ⟨H3, I3, q3⟩

/-! ### truth -/
/-- a value's truth by the abstract heap -/
def TruV (K : PySem.W.Frag) (x : V) (H : Hp) (k : Bool) : Prop :=
  match x with
  | .non => k = false
  | .bl b => k = b
  | .int i => k = (i != 0)
  | .str y => y.length ≤ sizeLine ∧ k = ((y.length : Int) != 0)
  | .byt y => y.size ≤ sizeLine ∧ k = ((y.size : Int) != 0)
  | .ref p => (∃ xs, SqL K H p xs ∧ k = !xs.isEmpty) ∨ (∃ xs, SqT K H p xs ∧ k = !xs.isEmpty) ∨ ∃ kvs, H p = some (.dK kvs) ∧ k = !kvs.isEmpty
  | _ => False
theorem isEmpty_kv {κ : Type} {kvs : List (κ × V)} {vs : List (κ × Value)} (r : KV kvs vs) : (!vs.isEmpty) = !kvs.isEmpty := by
  cases r <;> rfl
theorem isEmpty_of {xs : List V} {its : List Value} (r : Vals xs its) : (!its.toArray.isEmpty) = !xs.isEmpty := by
  cases r <;> simp
theorem line63 : (sizeLine : Nat) < 2 ^ 63 := by rw [sizeLine_eq]; decide
theorem tru_ok : TruR X (fun x H Q => ∃ k, TruV X.K x H k ∧ Q k H) := by
  intro pins s σ H x v Q I rx h
  obtain ⟨k, e, q⟩ := h
  have hl := line63
  have hs : sizeLine = 16777216 := sizeLine_eq
  cases x with
  | non =>
    cases rx
    have e' : k = false := e
    subst e'
    exact truthy_none ⟨H, I, q⟩
  | bl b =>
    cases rx
    have e' : k = b := e
    subst e'
    exact wpAny_truthy_bool ⟨H, I, q⟩
  | int i =>
    obtain ⟨t, rfl⟩ := rx
    have e' : k = (i != 0) := e
    subst e'
    exact PySem.P.truthy_int ⟨H, I, q⟩
  | str y =>
    obtain ⟨t, rfl⟩ := rx
    obtain ⟨hy, e'⟩ : y.length ≤ sizeLine ∧ k = ((y.length : Int) != 0) := e
    subst e'
    exact PySem.P.truthy_str (by omega) ⟨H, I.tok _, q⟩
  | byt y =>
    obtain ⟨t, rfl⟩ := rx
    obtain ⟨hy, e'⟩ : y.size ≤ sizeLine ∧ k = ((y.size : Int) != 0) := e
    subst e'
    exact PySem.W.truthy_bytes (by omega) ⟨H, I.tok _, q⟩
  | ref p =>
    cases rx
    have e' : (∃ xs, SqL X.K H p xs ∧ k = !xs.isEmpty) ∨ (∃ xs, SqT X.K H p xs ∧ k = !xs.isEmpty) ∨ ∃ kvs, H p = some (.dK kvs) ∧ k = !kvs.isEmpty := e
    rcases e' with ⟨xs, hx, e'⟩ | ⟨xs, hx, e'⟩ | ⟨kvs, hx, e'⟩
    · subst e'
      obtain ⟨its, r, pl, hz⟩ := I.list hx
      have hlen := r.length
      exact wpAny_truthy_list pl.isList (by simp only [List.size_toArray]; omega) ⟨H, I.tok _, by rw [isEmpty_of r]; exact q⟩
    · subst e'
      obtain ⟨its, r, pl, hz⟩ := I.tuple hx
      have hlen := r.length
      exact truthy_tuple pl (by simp only [List.size_toArray]; omega) ⟨H, I.tok _, by rw [isEmpty_of r]; exact q⟩
    · subst e'
      obtain ⟨hz, hS, vs, r, m⟩ : kvs.length ≤ sizeLine ∧ (p == sysModules) = false ∧ ∃ vs, KV kvs vs ∧ s.heap.DictOf (mixKind X.prog X.w) p vs := I.hok p _ hx
      have hlen : kvs.length = vs.length := Paired.length r
      exact wpAny_truthy_dict hS m (by omega) ⟨H, I.tok _, by rw [isEmpty_kv r]; exact q⟩
  | _ => exact (show False from e).elim
/-- any expression whose test is its value's truth (a name, a call, a subscript, a field ..: he by fun _ => rfl) -/
theorem pt_truth (ha : PE X a ta) (he : ∀ whole, isTrue a X.env whole = (do let v ← whole; standAt a.pos; holding [v] (truthy v))) :
    PT X a (fun σ H Q => ta σ H fun x H' => ∃ k, TruV X.K x H' k ∧ Q k H') := by
  intro pins s σ H Q I h
  exact isTrue_plain (thn (ha pins s σ H _ I h) fun v s1 ⟨x, H1, I1, r1, q1⟩ => tru_ok pins s1 σ H1 x v Q I1 r1 q1) (he _)

/-! ### strs and bytes -/
theorem op_add_str : OpR X (binaryOp .Add) (fun x y H Q => ∃ i j, x = .str i ∧ y = .str j ∧ i.length + j.length ≤ sizeLine ∧ Q (.str (i ++ j)) H) := by
  intro pins s σ H x y v u Q I rx ry h
  obtain ⟨i, j, rfl, rfl, hz, q⟩ := h
  obtain ⟨t, rfl⟩ := rx
  obtain ⟨t', rfl⟩ := ry
  exact add_str (fun t' tk => ⟨.str (i ++ j), H, I.tok _, ⟨_, rfl⟩, q⟩) hz


/-! ### scalar builtins, by CallR -/
theorem vals1 {x : V} {us : List Value} (r : Vals [x] us) : ∃ u, us = [u] ∧ RelV x u := by
  cases r with
  | cons r1 r2 => cases r2; exact ⟨_, rfl, r1⟩
theorem vals2 {x y : V} {us : List Value} (r : Vals [x, y] us) : ∃ u w', us = [u, w'] ∧ RelV x u ∧ RelV y w' := by
  cases r with
  | cons r1 r2 =>
    cases r2 with
    | cons r3 r4 => cases r4; exact ⟨_, _, rfl, r1, r3⟩
theorem call_max2 (hc : X.calm = true) : CallR X (.builtin "max") (fun xs H Q => ∃ i j, xs = [.int i, .int j] ∧ Q (.int (if j > i then j else i)) H) := by
  intro pins s σ H xs us Q I r h
  obtain ⟨i, j, rfl, q⟩ := h
  obtain ⟨u, w', rfl, ⟨t, rfl⟩, ⟨t', rfl⟩⟩ := vals2 r
  refine max_two_ints (I.ok.hd hc) fun h' tk k => ⟨_, H, I.kept k, ?_, q⟩
  by_cases hj : j > i
  · rw [if_pos hj, if_pos hj]; exact ⟨_, rfl⟩
  · rw [if_neg hj, if_neg hj]; exact ⟨_, rfl⟩
theorem call_min2 (hc : X.calm = true) : CallR X (.builtin "min") (fun xs H Q => ∃ i j, xs = [.int i, .int j] ∧ Q (.int (if j < i then j else i)) H) := by
  intro pins s σ H xs us Q I r h
  obtain ⟨i, j, rfl, q⟩ := h
  obtain ⟨u, w', rfl, ⟨t, rfl⟩, ⟨t', rfl⟩⟩ := vals2 r
  refine min_two_ints (I.ok.hd hc) fun h' tk k => ⟨_, H, I.kept k, ?_, q⟩
  by_cases hj : j < i
  · rw [if_pos hj, if_pos hj]; exact ⟨_, rfl⟩
  · rw [if_neg hj, if_neg hj]; exact ⟨_, rfl⟩
theorem call_int1 : CallR X (.type "int") (fun xs H Q => (∃ i, xs = [.int i] ∧ Q (.int i) H) ∨ ∃ k, xs = [.bl k] ∧ Q (.int (if k then 1 else 0)) H) := by
  intro pins s σ H xs us Q I r h
  rcases h with ⟨i, rfl, q⟩ | ⟨k, rfl, q⟩
  · obtain ⟨u, rfl, t, rfl⟩ := vals1 r
    exact call_int_int ⟨.int i, H, I, ⟨_, rfl⟩, q⟩
  · obtain ⟨u, rfl, r1⟩ := vals1 r
    cases r1
    exact call_int_bool ⟨.int (if k then 1 else 0), H, I.tok _, ⟨_, rfl⟩, q⟩
/-- len of a str, a bytes, a list, a tuple -/
def LenV (K : PySem.W.Frag) (x : V) (H : Hp) (n : Nat) : Prop :=
  match x with
  | .str y => y.length ≤ sizeLine ∧ n = y.length
  | .byt y => y.size ≤ sizeLine ∧ n = y.size
  | .ref p => (∃ xs, SqL K H p xs ∧ n = xs.length) ∨ ∃ xs, SqT K H p xs ∧ n = xs.length
  | _ => False
theorem call_len : CallR X (.builtin "len") (fun xs H Q => ∃ x n, xs = [x] ∧ LenV X.K x H n ∧ Q (.int n) H) := by
  intro pins s σ H xs us Q I r h
  obtain ⟨x, n, rfl, e, q⟩ := h
  obtain ⟨u, rfl, rx⟩ := vals1 r
  have hl := line63
  have hs : sizeLine = 16777216 := sizeLine_eq
  cases x with
  | str y =>
    obtain ⟨t, rfl⟩ := rx
    obtain ⟨hy, e'⟩ : y.length ≤ sizeLine ∧ n = y.length := e
    subst e'
    exact len_str (by omega) ⟨.int _, H, I.tok _, ⟨_, rfl⟩, q⟩
  | byt y =>
    obtain ⟨t, rfl⟩ := rx
    obtain ⟨hy, e'⟩ : y.size ≤ sizeLine ∧ n = y.size := e
    subst e'
    exact PySem.W.len_bytes (by omega) ⟨.int _, H, I.tok _, ⟨_, rfl⟩, q⟩
  | ref p =>
    cases rx
    have e' : (∃ xs, SqL X.K H p xs ∧ n = xs.length) ∨ ∃ xs, SqT X.K H p xs ∧ n = xs.length := e
    rcases e' with ⟨xs, hx, e'⟩ | ⟨xs, hx, e'⟩
    · subst e'
      obtain ⟨its, r', pl, hz⟩ := I.list hx
      have hlen := r'.length
      exact Calls.call_len_list pl.isList (by simp only [List.size_toArray]; omega) ⟨.int xs.length, H, I.tok _, ⟨_, by simp only [List.size_toArray]; rw [hlen]⟩, q⟩
    · subst e'
      obtain ⟨its, r', pl, hz⟩ := I.tuple hx
      have hlen := r'.length
      exact len_tuple pl (by simp only [List.size_toArray]; omega) ⟨.int xs.length, H, I.tok _, ⟨_, by simp only [List.size_toArray]; rw [hlen]⟩, q⟩
  | _ => exact (show False from e).elim
end
end L2

namespace L2
open PySem PySem.Spec PyProof.Rows

/-! ### an instance, its attributes a map -/
structure ObjM (h : Heap) (x dx C : Addr) (mA : Str → Option Value) : Prop where
  obj : h.get? x = some (PySem.W.instObj C dx)
  ns : h.Ns1 dx mA
  ne : dx ≠ x

theorem lookIn_ns {h : Heap} {dx : Addr} {mA : Str → Option Value} (n : h.Ns1 dx mA) : ∃ od, h.get? dx = some od ∧ ∀ name, PySem.W.lookIn name od = some (mA name) := by
  obtain ⟨o, es, ep, ho, hd, hk, _, hm⟩ := n
  refine ⟨o, ho, fun name => ?_⟩
  have e := hm name
  unfold nsFind findBy at e
  rw [← Array.find?_toList] at e
  unfold PySem.W.lookIn
  rw [hd]
  dsimp only
  split
  · rename_i y q
    rw [q] at e
    exact congrArg some e
  · rename_i q
    rw [q] at e
    have a : es.toList.any (·.refKey) = false := by
      rw [List.any_eq_false]
      intro y hy
      obtain ⟨z, t, hkey⟩ := hk y (Array.mem_toList_iff.mp hy)
      simp [DictEntry.refKey, hkey]
    have a' : ¬ es.toList.any (·.refKey) = true := by rw [a]; exact Bool.false_ne_true
    rw [if_neg a']
    exact congrArg some e

theorem ObjM.look {h : Heap} {x dx C : Addr} {mA : Str → Option Value} (I : ObjM h x dx C mA) : ∃ od, PySem.W.InstAt h x (PySem.W.instObj C dx) C (some od) ∧ ∀ name, PySem.W.lookIn name od = some (mA name) :=
  let ⟨od, ho, hl⟩ := lookIn_ns I.ns
  ⟨od, ⟨I.obj, rfl, rfl, ho⟩, hl⟩

section
variable {prog : Program} {w : World} {A : Around} {E : Value → Shared → Prop} {s : Shared} {K : PySem.W.Frag} {x dx C f : Addr} {mA : Str → Option Value} {name : Str} {v : Value}





end

/-! ### the attributes as a list of pairs -/

theorem RelO.some_of {v : V} {o : Option Value} (r : RelO (some v) o) : ∃ u, o = some u ∧ RelV v u := by
  cases o with
  | none => exact (show False from r).elim
  | some u => exact ⟨u, rfl, r⟩

section
variable {P : Program} {w : World} {H H' : Hp} {h h' : Heap} {a C dx : Addr} {fs fs' : List (Str × V)}
theorem ins_get (hok : HOk P w H h) (e : H a = some (.ins C dx fs)) : ∃ mA, ObjM h a dx C mA ∧ (∀ f, RelO (fs.lookup f) (mA f)) ∧ PySem.Within mA (fs.map (·.1)) ∧ fs.length ≤ 1000 ∧ H dx = some (.own a) := by
  obtain ⟨d, z, ne, ob, mA, n, r, q⟩ := (show ObjOk P w H h a (.ins C dx fs) from hok a _ e)
  exact ⟨mA, ⟨ob, n, ne⟩, r, q, z, d⟩
end

/-! ### what of the text a class must have -/
structure Cls (K : PySem.W.Frag) (C : Addr) : Prop where
  pg : PySem.W.plainGet K C Str.empty = true
  hd : PySem.W.hasDictIn K C = true
  po : PySem.W.plainOver K C = true
  sa : PySem.W.findIn K (.ref C) "__setattr__" = some (some (.builtin "object.__setattr__"))
theorem Cls.get {K : PySem.W.Frag} {C : Addr} (c : Cls K C) (f : Str) : PySem.W.plainGet K C f = true := c.pg
/-- a constant of the class -/
structure Con (K : PySem.W.Frag) (C : Addr) (f : Str) (v : V) (u : Value) : Prop where
  at_ : PySem.W.findIn K (.ref C) f = some (some u)
  rel : RelV v u
  get : PySem.W.specialIn K u "__get__" = some none
  cp : PySem.W.copiedNames.contains f = false
/-- a method: a plain def of the class or of one above it -/
structure Meth (K : PySem.W.Frag) (C : Addr) (m : Str) (f : Addr) : Prop where
  at_ : PySem.W.findIn K (.ref C) m = some (some (.ref f))
  fn : PySem.W.isFn K (.ref f) = true
  kp : PySem.W.keepIn K (.ref f) = true

section
variable {X : Cx} {pins : List (Addr × Obj)} {σ : St} {H : Hp} {s : Shared} {a C dx : Addr} {fs : List (Str × V)} {f : Str} {v : V} {A : Around} {E : Value → Shared → Prop}





/-- a new instance, tracked, without attributes -/
theorem Inv.made (I : Inv X pins σ H s) : Inv X pins σ (upd (upd H s.heap.objs.size (.own (s.heap.objs.size + 1))) (s.heap.objs.size + 1) (.ins C s.heap.objs.size []))
    { s with heap := (s.heap.push PySem.W.emptyDict).push (PySem.W.instObj C s.heap.objs.size) } := by
  have e1 : (s.heap.push PySem.W.emptyDict).get? s.heap.objs.size = some PySem.W.emptyDict := Heap.get?_push_size s.heap rfl
  have e2 : ((s.heap.push PySem.W.emptyDict).push (PySem.W.instObj C s.heap.objs.size)).get? (s.heap.objs.size + 1) = some (PySem.W.instObj C s.heap.objs.size) := by
    have := Heap.get?_push_size (s.heap.push PySem.W.emptyDict) (o := PySem.W.instObj C s.heap.objs.size) rfl
    rwa [Heap.size_push] at this
  have e3 : (s.heap.push PySem.W.emptyDict).Ns s.heap.objs.size (fun _ => none) := ⟨PySem.W.emptyDict, #[], _, e1, rfl, (fun e he => absurd he (by simp)), fun _ => rfl⟩
  have I1 := I.laid (a := s.heap.objs.size) (o := .own (s.heap.objs.size + 1)) (h' := s.heap.push PySem.W.emptyDict) (t' := s.toks) (fun b u q => Heap.get?_push_of_some _ q) (Nat.le_refl _) ⟨_, e1⟩
  refine I1.laid (a := s.heap.objs.size + 1) (o := .ins C s.heap.objs.size []) (t' := s.toks) (fun b u q => Heap.get?_push_of_some _ q) (Nat.le_of_eq (Heap.size_push _ _)) ?_
  have ne : s.heap.objs.size ≠ s.heap.objs.size + 1 := Nat.ne_of_lt (Nat.lt_succ_self _)
  refine ⟨by rw [upd_ne ne, upd_same], Nat.zero_le _, ne, e2, fun _ => none, (Heap.Ns1.of_empty e3).at fun o q => Heap.get?_push_of_some _ q, fun _ => True.intro, fun y hy => absurd rfl hy⟩

end

/-! ### readings and rules -/

section
variable {X : Cx} {o e value : Expr} {f : Str} {pos pos' tpos : Pos} {ta tv : TE}

end

/-! ### isinstance -/
section
variable {X : Cx} {pins : List (Addr × Obj)} {σ : St} {H : Hp} {s : Shared} {A : Around} {E : Value → Shared → Prop} {Q : Value → Shared → Prop} {c : Value} {b : Bool}
/-- the type of a value, as the fragment's deciders take it; for an instance its class -/
inductive TyOf (K : PySem.W.Frag) (H : Hp) : V → Value → Prop where
  | non : TyOf K H .non (.type "NoneType")
  | bl (x : Bool) : TyOf K H (.bl x) (.type "bool")
  | int (i : Int) : TyOf K H (.int i) (.type "int")
  | str (x : Str) : TyOf K H (.str x) (.type "str")
  | flt (x : UInt64) : TyOf K H (.flt x) (.type "float")
  | lst {a : Addr} {xs : List V} (e : H a = some (.lst xs)) : TyOf K H (.ref a) (.type "list")
  | frz {a : Addr} {o : Obj} {xs : List V} (e : H a = some (.frz o (.lst xs))) : TyOf K H (.ref a) (.type "list")
  | tup {a : Addr} {xs : List V} (e : H a = some (.tup xs)) : TyOf K H (.ref a) (.type "tuple")
  | dK {a : Addr} {kvs : List (Key × V)} (e : H a = some (.dK kvs)) : TyOf K H (.ref a) (.type "dict")
  | dT {a : Addr} {kvs : List (List Key × V)} (e : H a = some (.dT kvs)) : TyOf K H (.ref a) (.type "dict")
  | ins {a C dx : Addr} {fs : List (Str × V)} (e : H a = some (.ins C dx fs)) (cl : Cls K C) (ha : PySem.W.findIn K (.ref C) "__class__" = some (some (.builtin "object.__class__")))
      (hn : PySem.W.specialIn K (.builtin "object.__class__") "__get__" = some (some (.builtin "getset_descriptor.__get__"))) (htk : PySem.W.takesIn K (.builtin "object.__class__") = some true)
      (hm : PySem.W.mroIn K C (.type "object") = some true) : TyOf K H (.ref a) (.ref C)
/-- isinstance(x, c) for one class c, a built-in or an own one: kitOne's answer -/
theorem isinst_ok {x : V} {u t : Value} (I : Inv X pins σ H s) (rx : RelV x u) (ty : TyOf X.K H x t) (e : PySem.W.kitOne X.K t c = some b) (h : ∀ tk, Q (.bool b) { s with toks := tk }) :
    wpAny (model X.prog X.w) A (call (.builtin "isinstance") [u, c]) Q E s := by
  cases ty with
  | non => cases (show u = Value.none from rx); exact PySem.W.kia_one PySem.W.kitx_none I.kIn True.intro e (fun z => nomatch z) h
  | bl y => cases (show u = Value.bool y from rx); exact PySem.W.kia_one PySem.W.kitx_bool I.kIn True.intro e (fun z => nomatch z) h
  | int i => obtain ⟨t, q⟩ := (show ∃ t, u = Value.int i t from rx); cases q; exact PySem.W.kia_one PySem.W.kitx_int I.kIn True.intro e (fun z => nomatch z) h
  | str y => obtain ⟨t, q⟩ := (show ∃ t, u = Value.str y t from rx); cases q; exact PySem.W.kia_one PySem.W.kitx_str I.kIn True.intro e (fun z => nomatch z) h
  | flt y => obtain ⟨t, q⟩ := (show ∃ t, u = Value.float y t from rx); cases q; exact PySem.W.kia_one PySem.W.kitx_float I.kIn True.intro e (fun z => nomatch z) h
  | @lst a xs ea =>
    cases (show u = Value.ref a from rx)
    obtain ⟨_, _, n, _, h1⟩ := (show ObjOk X.prog X.w H s.heap a (.lst xs) from I.hok a _ ea)
    exact PySem.W.kia_one PySem.W.kitx_list I.kIn ⟨_, h1, rfl⟩ e (fun z => nomatch z) h
  | @frz a ob xs ea =>
    cases (show u = Value.ref a from rx)
    obtain ⟨_, _, _, n, _, h1⟩ := (show ObjOk X.prog X.w H s.heap a (.frz ob (.lst xs)) from I.hok a _ ea)
    exact PySem.W.kia_one PySem.W.kitx_list I.kIn ⟨_, h1, rfl⟩ e (fun z => nomatch z) h
  | @tup a xs ea =>
    cases (show u = Value.ref a from rx)
    obtain ⟨_, _, _, p⟩ := (show ObjOk X.prog X.w H s.heap a (.tup xs) from I.hok a _ ea)
    obtain ⟨o, h1, h2, _⟩ := p
    exact PySem.W.kia_one PySem.W.kitx_tuple I.kIn ⟨o, h1, h2⟩ e (fun z => nomatch z) h
  | @dK a kvs ea =>
    cases (show u = Value.ref a from rx)
    obtain ⟨_, _, vs, _, p⟩ := (show ObjOk X.prog X.w H s.heap a (.dK kvs) from I.hok a _ ea)
    obtain ⟨o, es, ep, h1, h2, _⟩ := p
    exact PySem.W.kia_one PySem.W.kitx_dict I.kIn ⟨o, h1, h2.1⟩ e (fun z => nomatch z) h
  | @dT a kvs ea =>
    cases (show u = Value.ref a from rx)
    obtain ⟨_, _, xs, _, o, es, ep, h1, h2, _⟩ := (show ObjOk X.prog X.w H s.heap a (.dT kvs) from I.hok a _ ea)
    exact PySem.W.kia_one PySem.W.kitx_dict I.kIn ⟨o, h1, h2.1⟩ e (fun z => nomatch z) h
  | @ins a C dx fs ea cl ha hn htk hm =>
    cases (show u = Value.ref a from rx)
    obtain ⟨mA, O, _⟩ := ins_get I.hok ea
    obtain ⟨od, J, _⟩ := O.look
    exact PySem.W.kia_one (PySem.W.kitx_own (cl.get _) cl.hd ha hn htk hm) I.kIn J e (fun z => nomatch z) h
end
end L2

namespace L2
open PySem PySem.Spec PyProof.Rows

/-! ### room -/
structure Room (k : Nat) (A : Around) : Prop where
  hd : A.handled = none
  dp : A.depth + 3 * k + 5 < recursionLimit
  un : A.units + 16 * k + 200 < cLine
theorem Room.mono {j k : Nat} {A : Around} (r : Room k A) (h : j ≤ k) : Room j A := ⟨r.hd, by have := r.dp; omega, by have := r.un; omega⟩
theorem Room.deeper {k : Nat} {A : Around} (r : Room (k + 1) A) (env : Env) : Room k (A.deeper env) :=
  ⟨r.hd, by have := r.dp; show A.depth + 1 + 3 * k + 5 < _; omega, by have := r.un; show A.units + 3 + 16 * k + 200 < _; omega⟩
theorem Room.in1 {k : Nat} {A : Around} (r : Room (k + 1) A) : Room k A.in1 :=
  ⟨r.hd, by have := r.dp; show A.depth + 3 * k + 5 < _; omega, by have := r.un; show A.units + 1 + 16 * k + 200 < _; omega⟩
theorem Room.depth {k : Nat} {A : Around} (r : Room k A) : A.depth < recursionLimit := by have := r.dp; omega
theorem Room.units {k : Nat} {A : Around} (r : Room k A) : A.units + 64 < cLine := by have := r.un; omega

/-! ### argument lists and displays -/
def tNil : TA := fun _ H Q => Q [] H
def tCons (ta : TE) (tr : TA) : TA := fun σ H Q => ta σ H fun x H1 => tr σ H1 fun xs H2 => Q (x :: xs) H2
section
variable {X : Cx} {e : Expr} {es : List Expr} {te : TE} {t : TA} {pos : Pos}
theorem pa_nil : PA X [] tNil := fun _ _ _ _ H Q I h => Calls.spliced_nil ⟨[], H, I, .nil, h⟩
theorem pa_cons (ha : PE X e te) (hr : PA X es t) (hs : starEach (e :: es) X.env = (false, eval e X.env) :: starEach es X.env := by rfl) : PA X (e :: es) (tCons te t) := by
  intro pos pins s σ H Q I h
  rw [hs]
  show wpAny _ _ (spliced ((false, eval e X.env) :: backTo pos (starEach es X.env))) _ _ s
  refine Calls.spliced_cons (thn (ha pins s σ H _ I h) fun u s1 ⟨x, H1, I1, r1, q1⟩ => ?_)
  exact thn (hr pos pins s1 σ H1 _ I1 q1) fun us s2 ⟨xs, H2, I2, r2, q2⟩ => ⟨x :: xs, H2, I2, .cons r1 r2, q2⟩

/-- a tuple, a list of written items -/
def tTup (t : TA) : TE := fun σ H Q => t σ H fun xs H1 => xs.length ≤ sizeLine ∧ ∀ p, H1 p = none → Q (.ref p) (upd H1 p (.tup xs))
def tLst (t : TA) : TE := fun σ H Q => t σ H fun xs H1 => xs.length ≤ sizeLine ∧ ∀ p, H1 p = none → Q (.ref p) (upd H1 p (.lst xs))
theorem pe_tup {x1} (h : PA X es t) : PE X (.Tuple es x1 pos) (tTup t) := by
  intro pins s σ H Q I hq
  refine wpAny_Tuple_spliced (thn (h pos pins s σ H _ I hq) fun us s1 ⟨xs, H1, I1, r, z, q⟩ => ⟨by rw [← r.length]; exact z, ?_⟩)
  have hf : H1 s1.heap.objs.size = none := I1.hok.fresh (Nat.le_refl _)
  refine ⟨.ref s1.heap.objs.size, upd H1 s1.heap.objs.size (.tup xs), I1.laid (t' := s1.toks) (fun b u e => Heap.get?_push_of_some _ e) (Nat.le_refl _) ?_, rfl, q _ hf⟩
  exact ⟨z, us, r, ⟨_, Heap.get?_push_size _ rfl, rfl, _, rfl⟩⟩
theorem pe_lst (h : PA X es t) : PE X (.List es pos) (tLst t) := by
  intro pins s σ H Q I hq
  refine wpAny_List_spliced (thn (h pos pins s σ H _ I hq) fun us s1 ⟨xs, H1, I1, r, z, q⟩ => ⟨by rw [← r.length]; exact z, ?_⟩)
  have hf : H1 s1.heap.objs.size = none := I1.hok.fresh (Nat.le_refl _)
  refine ⟨.ref s1.heap.objs.size, upd H1 s1.heap.objs.size (.lst xs), I1.laid (t' := s1.toks) (fun b u e => Heap.get?_push_of_some _ e) (Nat.le_refl _) ?_, rfl, q _ hf⟩
  exact ⟨z, us, 0, r, Heap.get?_push_size _ rfl⟩
end

/-! ### what a def promises -/
/-- a def's promise: the bound arguments in the parameters' order, the heap, the wanted end, the wanted exception -/
abbrev Sp := List V → Hp → VK → XK → Prop
/-- how an exception lies behind a call (file 08 gives it): the callers' frames, abstract heap and state ahead of the call, the wish, the exception, the state -/
abbrev CXT := List Env → Hp → Shared → XK → Value → Shared → Prop

/-- the state at a call -/
structure Env0 (P : Program) (w : World) (K : PySem.W.Frag) (mg : Str → Option Value) (base : Heap) (A : Around) (outer : List Env) (s : Shared) (H : Hp) : Prop where
  frames : A.frames = some outer
  mod : Mod K mg base
  bs : ∀ b o, base.get? b = some o → s.heap.get? b = some o ∧ H b = none
  bsz : base.objs.size ≤ s.heap.objs.size
  funs : s.heap.FunFrames base outer
  frf : ∀ b ∈ frs outer, H b = none
  hok : HOk P w H s.heap
  bare : AllBare s.gens
/-- a call's end -/
def CE (outer : List Env) (P : Program) (w : World) (H : Hp) (s : Shared) (Q : VK) (u : Value) (s' : Shared) : Prop :=
  ∃ v H', s'.os = s.os ∧ AllBare s'.gens ∧ Un (frs outer) [] H H' s.heap s'.heap ∧ HOk P w H' s'.heap ∧ RelV v u ∧ Q v H'
def CR (CX : CXT) (outer : List Env) (P : Program) (w : World) (H : Hp) (s : Shared) (Q : VK) (E : XK) (r : Result) (s' : Shared) : Prop :=
  match r with
  | .ok (.ret u) => CE outer P w H s Q u s'
  | .ok _ => False
  | .error e => CX outer H s E e s'
structure FnOk (P : Program) (w : World) (K : PySem.W.Frag) (mg : Str → Option Value) (base : Heap) (CX : CXT) (k : Nat) (f : Addr) (fd : FuncData) (ps : List Str) (sp : Sp) : Prop where
  len : ∀ vs H Q E, sp vs H Q E → vs.length = ps.length
  run : ∀ (A : Around) (outer : List Env) (s : Shared) (H : Hp) (args : Args) (us : List Value) (vs : List V) (Q : VK) (E : XK), Room k A → Env0 P w K mg base A outer s H → BindsTo s fd args (ps.zip us) → Vals vs us → sp vs H Q E →
    codeAny (model P w) A (.call (.ref f) args) (CR CX outer P w H s Q E) s
theorem FnOk.mono {P : Program} {w : World} {K : PySem.W.Frag} {mg : Str → Option Value} {base : Heap} {CX : CXT} {j k : Nat} {f : Addr} {fd : FuncData} {ps : List Str} {sp : Sp} (F : FnOk P w K mg base CX j f fd ps sp) (h : j ≤ k) :
    FnOk P w K mg base CX k f fd ps sp := ⟨F.len, fun A outer s H args us vs Q E hr => F.run A outer s H args us vs Q E (hr.mono h)⟩
/-- a weaker promise -/
theorem FnOk.imp {P : Program} {w : World} {K : PySem.W.Frag} {mg : Str → Option Value} {base : Heap} {CX : CXT} {k : Nat} {f : Addr} {fd : FuncData} {ps : List Str} {sp sp' : Sp} (F : FnOk P w K mg base CX k f fd ps sp)
    (h : ∀ vs H Q E, sp' vs H Q E → sp vs H Q E) : FnOk P w K mg base CX k f fd ps sp' :=
  ⟨fun vs H Q E q => F.len vs H Q E (h _ _ _ _ q), fun A outer s H args us vs Q E hr he hb hv hs => F.run A outer s H args us vs Q E hr he hb hv (h _ _ _ _ hs)⟩

theorem Env0.in1 {P : Program} {w : World} {K : PySem.W.Frag} {mg : Str → Option Value} {base : Heap} {A : Around} {outer : List Env} {s : Shared} {H : Hp} (e : Env0 P w K mg base A outer s H) :
    Env0 P w K mg base A.in1 outer s H := ⟨e.frames, e.mod, e.bs, e.bsz, e.funs, e.frf, e.hok, e.bare⟩

section
variable {X : Cx} {pins : List (Addr × Obj)} {σ : St} {H : Hp} {s s' : Shared}
/-- from a body: what a callee wants -/
theorem Inv.env0 (I : Inv X pins σ H s) : Env0 X.prog X.w X.K X.mg X.base X.A X.stack s H :=
  ⟨I.ok.frames, I.ok.mod, I.bs, Nat.le_trans I.ok.bsz I.sz, I.stack, I.stkFree, I.hok, I.bare⟩
/-- behind a call -/
theorem Inv.after {Q : VK} {u : Value} (I : Inv X pins σ H s) (h : CE X.stack X.prog X.w H s Q u s') : EP X pins σ Q u s' := by
  obtain ⟨v, H', os, bare, un, hok, r, q⟩ := h
  obtain ⟨hh, g, d, t, os'⟩ := s'
  obtain rfl : os' = s.os := os
  exact ⟨v, H', I.call (h' := hh) (g' := g) (d' := d) (t' := t) (ch := []) un hok bare (fun b z => absurd z (by simp)), r, q⟩
end

/-! ### calls -/
/-- f(..): the written arguments, then the defaults dvs; E: what is wanted of an exception -/
def tCall (sp : Sp) (dvs : List V) (E : XK) (t : TA) : TE := fun σ H Q => t σ H fun vs H1 => sp (vs ++ dvs) H1 Q E

/-- how the parameters are bound: us the positional arguments, kw the keywords' values by name, ds the defaults that fill up -/
def Binds (K : PySem.W.Frag) (fd : FuncData) (ps : List Str) (ds : List Value) : Prop :=
  ∀ (s : Shared) (us : List Value), K.In s.heap → (us ++ ds).length = ps.length → BindsTo s fd ⟨us, []⟩ (ps.zip (us ++ ds))
/-- every parameter is given -/
theorem Binds.all {K : PySem.W.Frag} {fd : FuncData} {ps : List Str} (h : ∀ us : List Value, us.length = ps.length → bindArgs fd ⟨us, []⟩ = pure (ps.zip us)) : Binds K fd ps [] := fun s us _ hl => by
  rw [List.append_nil] at hl ⊢
  exact .of_eq (h us hl)

/-- an exception of a callee reaches what this body wants of exceptions -/
def Passes (CX : CXT) (X : Cx) (E : XK) : Prop := ∀ (pins : List (Addr × Obj)) (σ : St) (H : Hp) (s : Shared) (e : Value) (s' : Shared), Inv X pins σ H s → CX X.stack H s E e s' → X.xe e s'

section
variable {X : Cx} {CX : CXT} {k : Nat} {f C : Addr} {fd : FuncData} {ps : List Str} {sp : Sp} {dvs : List V} {ds : List Value} {E : XK} {x m : Str} {p pos apos : Pos} {e o : Expr} {es : List Expr} {ta : TE} {t : TA}

/-- the callee runs -/
theorem run_fn {pins : List (Addr × Obj)} {σ : St} {H : Hp} {s : Shared} {Q : VK} {us : List Value} {vs : List V} (F : FnOk X.prog X.w X.K X.mg X.base CX k f fd ps sp) (hr : Room k X.A) (hb : Binds X.K fd ps ds) (hd : Vals dvs ds) (hx : Passes CX X E)
    (I : Inv X pins σ H s) (r : Vals vs us) (h : sp (vs ++ dvs) H Q E) : wpAny (model X.prog X.w) X.A (call (.ref f) us) (EP X pins σ Q) X.xe s := by
  have r2 : Vals (vs ++ dvs) (us ++ ds) := r.append hd
  have hl : (us ++ ds).length = ps.length := by rw [← r2.length]; exact F.len _ _ _ _ h
  refine wpAny_call (codeAny_mono (F.run X.A X.stack s H ⟨us, []⟩ (us ++ ds) (vs ++ dvs) Q E hr I.env0 (hb s us I.kIn hl) r2 h) fun r s' hq => ?_)
  cases r with
  | error e => exact hx pins σ H s e s' I hq
  | ok fl =>
    cases fl with
    | ret u => exact I.after hq
    | next => exact False.elim hq
    | brk => exact False.elim hq
    | cont => exact False.elim hq

theorem pe_call (F : FnOk X.prog X.w X.K X.mg X.base CX k f fd ps sp) (hr : Room k X.A) (hg : Gl X x) (hm : X.mg x = some (.ref f)) (hk : PySem.W.keepIn X.K (.ref f) = true) (hb : Binds X.K fd ps ds) (hd : Vals dvs ds) (hx : Passes CX X E)
    (ha : PA X (e :: es) t) (hdb : (x == ("__debug__" : Str)) = false := by decide) (he : starEach (e :: es) X.env = (false, eval e X.env) :: starEach es X.env := by rfl) (hpl : (backTo pos (starEach es X.env)).any (·.1) = false := by rfl) :
    PE X (.Call (.Name x p) (e :: es) [] pos) (tCall sp dvs E t) := by
  intro pins s σ H Q I h
  refine wpAny_Call_Name_kw (ld_glob I hg hm ?_ hdb)
  refine PySem.W.callWith_K (h₀ := X.base) I.ok.mod.kin hk (thn (ha pos pins s σ H _ I h) fun us s1 ⟨vs, H1, I1, r, q⟩ => ⟨I1.kIn, ?_⟩) he hpl
  exact run_fn F hr hb hd hx I1 r q


/-- what a class must have to be made -/
structure Mk (K : PySem.W.Frag) (C f : Addr) : Prop where
  makes : PySem.W.makesIn K C = true
  init : PySem.W.findIn K (.ref C) "__init__" = some (some (.ref f))
  fn : PySem.W.isFn K (.ref f) = true
  kp : PySem.W.keepIn K (.ref C) = true

end

/-! ### keywords -/
section
variable {X : Cx} {CX : CXT} {k : Nat} {f C : Addr} {fd : FuncData} {ps ks : List Str} {sp : Sp} {E : XK} {x m : Str} {p pos apos kpos : Pos} {e o : Expr} {es : List Expr} {kws : List Keyword} {te ta : TE} {t tk : TA} {nm : Option Str}

/-- how a call with keywords binds: g puts the positional values us and the keywords' values ws (names ks) in the parameters' order, defaults among them -/
structure KBinds (K : PySem.W.Frag) (fd : FuncData) (ps ks : List Str) (g : List Value → List Value → List Value) (gV : List V → List V → List V) : Prop where
  to : ∀ (s : Shared) (us ws : List Value), K.In s.heap → (g us ws).length = ps.length → BindsTo s fd ⟨us, ks.zip ws⟩ (ps.zip (g us ws))
  rel : ∀ {vs : List V} {us : List Value} {zs : List V} {ws : List Value}, Vals vs us → Vals zs ws → Vals (gV vs zs) (g us ws)
variable {g : List Value → List Value → List Value} {gV : List V → List V → List V}
end

/-! ### a def's body keeps its promise -/
/-- names: the parameters first -/
structure FnScope (N P : List Str) (sc : Scope) : Prop where
  kind : sc.kind = .function
  co : sc.isCoroutine = false
  gen : sc.isGenerator = false
  nd : N.Nodup
  pre : N.take P.length = P
  par : ∀ x ∈ P, sc.names.lookup x = some .local ∨ sc.names.lookup x = some .cell
  nofree : ∀ y ∈ sc.names, y.2 ≠ .free

theorem bindL_out {kindOf : Str → Option NameKind} {x : Str} : ∀ {binds : List (Str × Value)} {m : Str → Option Value}, (∀ v, (x, v) ∉ binds) → bindL kindOf binds m x = m x
  | [], _, _ => rfl
  | (n, v) :: r, m, h => by
    unfold bindL
    rw [bindL_out fun w hw => h w (List.mem_cons_of_mem _ hw)]
    split
    · have : x ≠ n := by rintro rfl; exact h v List.mem_cons_self
      simp [this]
    · rfl
theorem bindC_out {kindOf : Str → Option NameKind} {x : Str} : ∀ {binds : List (Str × Value)} {m : Str → Option Value}, (∀ v, (x, v) ∉ binds) → bindC kindOf binds m x = m x
  | [], _, _ => rfl
  | (n, v) :: r, m, h => by
    unfold bindC
    rw [bindC_out fun w hw => h w (List.mem_cons_of_mem _ hw)]
    split
    · rfl
    · have : x ≠ n := by rintro rfl; exact h v List.mem_cons_self
      simp [this]
theorem bindL_get {kindOf : Str → Option NameKind} {x : Str} {v : Value} : ∀ {P : List Str} {vs : List Value} {i : Nat} {m : Str → Option Value}, P.Nodup → P[i]? = some x → vs[i]? = some v → kindOf x = some .local →
    bindL kindOf (P.zip vs) m x = some v
  | [], _, _, _, _, h, _, _ => by simp at h
  | _ :: _, [], _, _, _, _, h, _ => by simp at h
  | p :: P, w :: vs, 0, m, nd, h1, h2, hk => by
    simp at h1 h2; subst h1; subst h2
    show bindL kindOf ((p, w) :: P.zip vs) m p = _
    unfold bindL
    rw [bindL_out fun v hv => (List.nodup_cons.mp nd).1 (List.of_mem_zip hv).1, if_pos hk]
    simp
  | p :: P, w :: vs, i + 1, m, nd, h1, h2, hk => by
    show bindL kindOf ((p, w) :: P.zip vs) m x = _
    unfold bindL
    exact bindL_get (i := i) (List.nodup_cons.mp nd).2 (by simpa using h1) (by simpa using h2) hk
theorem bindC_get {kindOf : Str → Option NameKind} {x : Str} {v : Value} : ∀ {P : List Str} {vs : List Value} {i : Nat} {m : Str → Option Value}, P.Nodup → P[i]? = some x → vs[i]? = some v → kindOf x ≠ some .local →
    bindC kindOf (P.zip vs) m x = some v
  | [], _, _, _, _, h, _, _ => by simp at h
  | _ :: _, [], _, _, _, _, h, _ => by simp at h
  | p :: P, w :: vs, 0, m, nd, h1, h2, hk => by
    simp at h1 h2; subst h1; subst h2
    show bindC kindOf ((p, w) :: P.zip vs) m p = _
    unfold bindC
    rw [bindC_out fun v hv => (List.nodup_cons.mp nd).1 (List.of_mem_zip hv).1, if_neg hk]
    simp
  | p :: P, w :: vs, i + 1, m, nd, h1, h2, hk => by
    show bindC kindOf ((p, w) :: P.zip vs) m x = _
    unfold bindC
    exact bindC_get (i := i) (List.nodup_cons.mp nd).2 (by simpa using h1) (by simpa using h2) hk

/-- the names' values at the entry -/
def start (N : List Str) (vs : List V) : St := vs.map some ++ List.replicate (N.length - vs.length) none

/-- the context of a def's body, at its entry; an exception leaves the frame, then lies as CX says -/
def cxOf (CX : CXT) (P : Program) (w : World) (K : PySem.W.Frag) (mg : Str → Option Value) (base : Heap) (N : List Str) (qual : Str) (scope : Scope) (f : Addr) (cd : Value) (A : Around) (outer : List Env) (s : Shared) (H : Hp) (E : XK) : Cx where
  prog := P
  w := w
  K := K
  mg := mg
  base := base
  A := A.deeper (envOfC qual scope s.heap.objs.size f cd)
  N := N
  s_0 := s
  H_0 := H
  env := envOfC qual scope s.heap.objs.size f cd
  outer := outer
  stack := envOfC qual scope s.heap.objs.size f cd :: outer
  ex := []
  calm := true
  fn := fun _ => true
  pn := []
  xe := fun e s' => wpAny (model P w) (A.deeper (envOfC qual scope s.heap.objs.size f cd)) (leaving (envOfC qual scope s.heap.objs.size f cd) e) (fun _ s'' => CX outer H s E e s'') (fun e' s'' => CX outer H s E e' s'') s'

theorem cell_has {sc : Scope} {n : Nat} {x : Str} (h : sc.names.lookup x = some .cell) : ∃ c, (cellsFrom n sc.names []).lookup x = some c := by
  have q := PySem.W.cellsFrom_some sc.names n [] (.inl h)
  exact Option.isSome_iff_exists.mp q

theorem inv_start {CX : CXT} {P : Program} {w : World} {K : PySem.W.Frag} {mg : Str → Option Value} {base : Heap} {N ps : List Str} {qual : Str} {scope : Scope} {f : Addr} {cd : Value} {A : Around} {outer : List Env} {s s1 : Shared} {H : Hp} {E : XK} {us : List Value} {vs : List V}
    (S : FnScope N ps scope) (hd : A.handled = none) (e0 : Env0 P w K mg base A outer s H) (hl : vs.length = ps.length) (r : Vals vs us)
    (x : InCallC s s.heap.objs.size (bindL (envOfC qual scope s.heap.objs.size f cd).kindOf (ps.zip us) fun _ => none) (cellsFrom (s.heap.objs.size + 1) scope.names []) (bindC (envOfC qual scope s.heap.objs.size f cd).kindOf (ps.zip us) fun _ => none) s1) :
    Inv (cxOf CX P w K mg base N qual scope f cd A outer s H E) [] (start N vs) H s1 := by
  have hpl : ps.length ≤ N.length := by have := congrArg List.length S.pre; rw [List.length_take] at this; omega
  obtain ⟨h1, tk, rfl, hk⟩ := x.done
  have noA : ∀ b : Addr, b ∉ (cxOf CX P w K mg base N qual scope f cd A outer s H E).ex := fun b z => absurd (show b ∈ ([] : List Addr) from z) (by simp)
  refine ⟨⟨e0.mod, S.kind, rfl, rfl, Nat.le_refl _, fun y z c h1 h2 => ?_, fun y hy => ?_, fun y c _ h => ?_, fun _ => hd, Around.frames_deeper e0.frames, .inr ⟨rfl, rfl⟩, fun b z => absurd z (noA b), e0.bs, e0.bsz, fun b _ _ => noA b, fun b z => absurd z (noA b), e0.funs, e0.frf⟩,
    rfl, e0.bare, Un.kept hk, ⟨_, x.toInCall.ns, fun i y v h1 h2 h3 => ?_⟩, fun y c h => ⟨_, x.cell y c h⟩, e0.hok.fresh (Nat.le_refl _), fun y c h => ?_, fun p hp => absurd (show p ∈ ([] : List (Addr × Obj)) from hp) (by simp), e0.hok.kept hk, ?_⟩
  · exact name_of_addr x.apart (PySem.mem_of_lookup h1) (PySem.mem_of_lookup h2)
  · have hy : scope.names.lookup y = some .cell ∨ scope.names.lookup y = some .free := hy
    rcases hy with hy | hy
    · exact cell_has hy
    · exact absurd rfl (S.nofree _ (PySem.mem_of_lookup hy))
  · exact Nat.le_of_lt (x.above y c (PySem.mem_of_lookup h))
  · have hi : i < vs.length := by
      unfold start at h2
      by_cases hi : i < vs.length
      · exact hi
      · rw [List.getElem?_append_right (by simpa using hi)] at h2
        rw [List.getElem?_replicate] at h2
        split at h2 <;> cases h2
    have ha : vs[i]? = some v := by
      unfold start at h2
      rw [List.getElem?_append_left (by simpa using hi), List.getElem?_map] at h2
      cases e : vs[i]? with
      | none => rw [e] at h2; cases h2
      | some a => rw [e] at h2; cases h2; rfl
    obtain ⟨u, hu, rv⟩ := r.get ha
    have hp : ps[i]? = some y := by
      rw [← S.pre, List.getElem?_take_of_lt (by omega)]; exact h1
    have ndP : ps.Nodup := by rw [← S.pre]; exact S.nd.sublist (List.take_sublist _ _)
    refine ⟨u, rv, ?_⟩
    rcases S.par y (List.mem_of_getElem? hp) with k | k
    · exact .inl ⟨k, bindL_get ndP hp hu k⟩
    · obtain ⟨c, e⟩ := cell_has (n := s.heap.objs.size + 1) k
      refine .inr ⟨.inl k, c, e, ?_⟩
      have q := x.cell y c e
      rw [bindC_get ndP hp hu (by show scope.names.lookup y ≠ _; rw [k]; decide)] at q
      exact q
  · exact e0.hok.fresh (Nat.le_of_lt (x.above y c (PySem.mem_of_lookup h)))
  · unfold start
    show _ = N.length
    rw [List.length_append, List.length_map, List.length_replicate]
    omega

/-- THE RULE: a def (or a method) of the text, by its body. The body's reading t is chosen for each entry; it is run at the parameters' values -/
theorem fn_of {CX : CXT} {P : Program} {w : World} {K : PySem.W.Frag} {mg : Str → Option Value} {base : Heap} {k : Nat} {f : Addr} {name qual : Str} {params : Arguments} {body : List Stmt} {scope : Scope} {dV kV doc pm cdv ct oc : Value} {an od : Option Addr}
    {osl : Array (Option Value)} {N ps : List Str} {sp : Sp} (lk : K.lookup f = some ⟨oc, od, .func (PySem.W.fnOf name qual params body scope dV kV doc pm an cdv ct), osl⟩) (hcd : PySem.W.codeIn K cdv qual = true) (S : FnScope N ps scope)
    (len : ∀ vs H Q E, sp vs H Q E → vs.length = ps.length)
    (hbody : ∀ (A : Around) (outer : List Env) (s : Shared) (H : Hp) (vs : List V) (Q : VK) (E : XK), Room k (A.deeper (envOfC qual scope s.heap.objs.size f cdv)) → sp vs H Q E →
      ∃ t, PSs (cxOf CX P w K mg base N qual scope f cdv A outer s H E) body t ∧ t { nx := fun _ H' => Q .non H', rt := Q } (start N vs) H) :
    FnOk P w K mg base CX (k + 1) f (PySem.W.fnOf name qual params body scope dV kV doc pm an cdv ct) ps sp := by
  refine ⟨len, fun A outer s H args us vs Q E hr e0 hb r hsp => ?_⟩
  have hl := len _ _ _ _ hsp
  have KX : K.In s.heap := e0.mod.kin.keeps fun b o e => (e0.bs b o e).1
  have lim : s.heap.NoLimit := e0.mod.nolimit.keeps fun b o e => (e0.bs b o e).1
  have hkind : ∀ y ∈ ps.zip us, scope.names.lookup y.1 = some .local ∨ (scope.names.lookup y.1 = some .cell ∧ ((cellsFrom (s.heap.objs.size + 1) scope.names []).lookup y.1).isSome = true) := fun ⟨n, v⟩ hy => by
    rcases S.par n (List.of_mem_zip hy).1 with q | q
    · exact .inl q
    · exact .inr ⟨q, PySem.W.cellsFrom_some _ _ _ (.inl q)⟩
  refine codeAny_call_function hr.depth (KX _ _ lk) rfl S.co S.gen rfl (PySem.W.codeRec_of KX hcd) (hb _ _ _ _ ?_)
  refine wpAny_newFunctionEnv_cells S.kind hkind fun env he s1 x => ?_
  subst he
  refine ⟨lim.keeps x.toInCall.keep, codeAny_func ?_⟩
  obtain ⟨t, ht, hq⟩ := hbody A outer s H vs Q E (hr.deeper _) hsp
  have I : Inv (cxOf CX P w K mg base N qual scope f cdv A outer s H E) [] (start N vs) H s1 := inv_start S hr.hd e0 hl r x
  refine wpAny_mono (ht [] s1 (start N vs) H _ I hq) (fun fl s' hs => ?_) fun e s' hs => hs
  have fin : ∀ {σ' : St} {H' : Hp} {v : V} {u : Value}, Inv (cxOf CX P w K mg base N qual scope f cdv A outer s H E) [] σ' H' s' → RelV v u → Q v H' → CE outer P w H s Q u s' :=
    fun {σ' H' v u} J rv q => ⟨v, H', J.os, J.bare, J.base, J.hok, rv, q⟩
  cases fl with
  | ret u =>
    obtain ⟨v, σ', H', J, rv, q⟩ := hs
    exact fin J rv q
  | next =>
    obtain ⟨σ', H', J, q⟩ := hs
    exact fin (v := V.non) (u := Value.none) J rfl q
  | brk =>
    obtain ⟨_, _, _, q⟩ := hs
    exact False.elim q
  | cont =>
    obtain ⟨_, _, _, q⟩ := hs
    exact False.elim q
end L2

namespace L2
open PySem PySem.Spec PyProof.Rows
section
variable {X : Cx} {x : Str} {p pos : Pos} {e : Expr} {es : List Expr} {t : TA} {id T : String} {r : List V → Hp → VK → Prop}

def tCB (r : List V → Hp → VK → Prop) (t : TA) : TE := fun σ H Q => t σ H fun vs H1 => r vs H1 Q
/-- f(e, ..), f a built-in function -/
theorem pe_callB (hc : CallR X (.builtin id) r) (hg : Gl X x) (hm : X.mg x = none) (hv : bootBuiltins x = some (.builtin id)) (ha : PA X (e :: es) t) (hn : x ≠ "__name__" := by decide) (hdb : (x == ("__debug__" : Str)) = false := by decide)
    (he : starEach (e :: es) X.env = (false, eval e X.env) :: starEach es X.env := by rfl) (hpl : (backTo pos (starEach es X.env)).any (·.1) = false := by rfl) : PE X (.Call (.Name x p) (e :: es) [] pos) (tCB r t) := by
  intro pins s σ H Q I h
  refine wpAny_Call_Name_kw (ld_blt I hg hm hv ?_ hn hdb)
  exact PyProof.Rows.callWith_builtin1 (thn (ha pos pins s σ H _ I h) fun us s1 ⟨vs, H1, I1, r1, q1⟩ => hc pins s1 σ H1 vs us Q I1 r1 q1) he hpl
/-- T(e, ..), T a built-in type -/
theorem pe_callTy (hc : CallR X (.type T) r) (hg : Gl X x) (hm : X.mg x = none) (hv : bootBuiltins x = some (.type T)) (ha : PA X (e :: es) t) (hn : x ≠ "__name__" := by decide) (hdb : (x == ("__debug__" : Str)) = false := by decide)
    (he : starEach (e :: es) X.env = (false, eval e X.env) :: starEach es X.env := by rfl) (hpl : (backTo pos (starEach es X.env)).any (·.1) = false := by rfl) : PE X (.Call (.Name x p) (e :: es) [] pos) (tCB r t) := by
  intro pins s σ H Q I h
  refine wpAny_Call_Name_kw (ld_blt I hg hm hv ?_ hn hdb)
  exact PyProof.Rows.callWith_type1 (thn (ha pos pins s σ H _ I h) fun us s1 ⟨vs, H1, I1, r1, q1⟩ => hc pins s1 σ H1 vs us Q I1 r1 q1) he hpl
end
end L2

namespace HT
open PySem PyProof.Rows



section
open PySem.SeqAt
open PySem.AutoSeq1 (wpAny_loadPart')
open PySem.MeetsSeq PySem.MeetsSeq2 PySem.MeetsSeq3

end

section
variable {prog : Program} {w : World} {A : Around} {E : Value → Shared → Prop} {s : Shared}



/-! ### t[a:b], not the whole -/
/-- a slice's bound as a place among n (d where it is left out) -/
def sIx (n d : Nat) : Option Int → Nat
  | none => d
  | some v => if v < 0 then (v + (n : Int)).toNat else min v.toNat n
theorem sIx_none (n d : Nat) : sIx n d none = d := rfl
theorem sIx_nat (n d k : Nat) : sIx n d (some (k : Int)) = min k n := by
  show (if (k : Int) < 0 then ((k : Int) + (n : Int)).toNat else min (k : Int).toNat n) = min k n
  rw [if_neg (by omega), Int.toNat_natCast]
theorem sIx_le (n d : Nat) (hd : d ≤ n) (o : Option Int) : sIx n d o ≤ n := by
  cases o with
  | none => exact hd
  | some v =>
    show (if v < 0 then (v + (n : Int)).toNat else min v.toNat n) ≤ n
    by_cases hv : v < 0
    · rw [if_pos hv]; omega
    · rw [if_neg hv]; exact Nat.min_le_right _ _
theorem clip_eq (v : Int) (n d : Nat) : (if v < 0 then max (v + (n : Int)) 0 else min v (n : Int)) = ((sIx n d (some v) : Nat) : Int) := by
  show (if v < 0 then max (v + (n : Int)) 0 else min v (n : Int)) = (((if v < 0 then (v + (n : Int)).toNat else min v.toNat n) : Nat) : Int)
  by_cases hv : v < 0
  · simp only [if_pos hv]; omega
  · simp only [if_neg hv]; omega
theorem adjust_gen (lo hi : Option Int) (n : Nat) : Builtin.Slice.sliceAdjust lo hi 1 (n : Int) = (((sIx n 0 lo : Nat) : Int), ((sIx n n hi : Nat) : Int)) := by
  have h1 : ¬ ((1 : Int) < 0) := by omega
  unfold Builtin.Slice.sliceAdjust
  simp only [h1, if_false]
  refine Prod.ext ?_ ?_
  · cases lo with
    | none => rfl
    | some v => exact clip_eq v n 0
  · cases hi with
    | none => rfl
    | some v => exact clip_eq v n n
theorem places_gen (i j : Nat) : Builtin.Slice.slicePlaces (i : Int) (j : Int) 1 = j - i := by
  unfold Builtin.Slice.slicePlaces
  have h1 : (1 : Int) > 0 := by omega
  simp only [h1, if_true, Int.ediv_one]
  split <;> omega
theorem slicePart_ {v : Value} {o : Option Int} {Q : Option Int → Shared → Prop} (p : IsPart v o) (h : Q o s) : wpAny (model prog w) A (Builtin.Slice.slicePartIndex v) Q E s := by
  cases p with
  | none => exact slicePart_none h
  | int i t => exact slicePart_int h
theorem sliceApplied_gen {sl : Addr} {vl vu : Value} {lo hi : Option Int} {n : Nat} {Q : Int × Int × Nat → Shared → Prop} (hs : s.heap.IsSliceOf sl vl vu .none) (pl : IsPart vl lo) (pu : IsPart vu hi)
    (h : Q (((sIx n 0 lo : Nat) : Int), 1, sIx n n hi - sIx n 0 lo) s) : wpAny (model prog w) A (Builtin.Slice.sliceApplied (.ref sl) (pure (n : Int))) Q E s := by
  obtain ⟨os, hos, hcs, hds⟩ := id hs
  unfold Builtin.Slice.sliceApplied Builtin.Slice.sliceFields
  refine wpAny_bind (wpAny_bind (wpAny_field hos hds (x := vl) rfl (wpAny_bind (wpAny_field hos hds (x := vu) rfl (wpAny_bind (wpAny_field hos hds (x := .none) rfl (wpAny_pure ?_)))))))
  refine wpAny_bind (slicePart_none ?_)
  show wpAny _ _ (if ((1 : Int) == 0) = true then _ else _) _ _ s
  rw [if_neg (by decide)]
  refine wpAny_bind (slicePart_ pl (wpAny_bind (slicePart_ pu (wpAny_bind (wpAny_pure ?_)))))
  show wpAny _ _ (match Builtin.Slice.sliceAdjust lo hi 1 (n : Int) with | (lo, hi) => pure (lo, (1 : Int), Builtin.Slice.slicePlaces lo hi 1)) _ _ s
  rw [adjust_gen lo hi n]
  show wpAny _ _ (pure (((sIx n 0 lo : Nat) : Int), (1 : Int), Builtin.Slice.slicePlaces ((sIx n 0 lo : Nat) : Int) ((sIx n n hi : Nat) : Int) 1)) _ _ s
  rw [places_gen]
  exact wpAny_pure h
theorem pick_gen (xs : Array Value) (i k : Nat) : ((List.range k).filterMap fun (m : Nat) => xs[((i : Int) + (m : Int) * 1).toNat]?).toArray = ((xs.toList.drop i).take k).toArray := by
  have e : (fun (m : Nat) => xs[((i : Int) + (m : Int) * 1).toNat]?) = fun m => xs[i + m]? := by
    funext m
    have : ((i : Int) + (m : Int) * 1).toNat = i + m := by omega
    rw [this]
  rw [e]
  have := pick_run xs i k
  rw [List.filterMap_map] at this
  have e2 : ((fun x => xs[x]?) ∘ fun x => i + x) = fun m => xs[i + m]? := rfl
  rw [e2] at this
  rw [this]

theorem getItem_tuple_cut {t sl : Addr} {items : Array Value} {vl vu : Value} {lo hi : Option Int} {Q : Value → Shared → Prop} (ht : IsTup s.heap t items) (hs : s.heap.IsSliceOf sl vl vu .none) (pl : IsPart vl lo) (pu : IsPart vu hi)
    (hw : ¬ (sIx items.size 0 lo = 0 ∧ sIx items.size items.size hi = items.size))
    (h : Q (.ref s.heap.objs.size) { s with heap := s.heap.push { cls := .type "tuple", data := .seq ((items.toList.drop (sIx items.size 0 lo)).take (sIx items.size items.size hi - sIx items.size 0 lo)).toArray } })
    (hsz : items.size ≤ sizeLine) : wpAny (model prog w) A (getItem (.ref t) (.ref sl)) Q E s := by
  have htake : sizeOk (.seq ((items.toList.drop (sIx items.size 0 lo)).take (sIx items.size items.size hi - sIx items.size 0 lo)).toArray) := by
    show ((items.toList.drop (sIx items.size 0 lo)).take (sIx items.size items.size hi - sIx items.size 0 lo)).toArray.size ≤ sizeLine
    rw [List.size_toArray, List.length_take, List.length_drop, Array.length_toList]
    omega
  have hj : sIx items.size items.size hi ≤ items.size := sIx_le _ _ (Nat.le_refl _) hi
  obtain ⟨os, hos, hcs, hds⟩ := id hs
  have hTs : s.TypeIs (.ref sl) "slice" := ⟨os, hos, hcs⟩
  unfold getItem
  try with_reducible refine wpAny_holding ?_
  first | refine wpAny_bind (wpAny_pure ?_) | skip
  refine wpAny_bind (wpAny_sequenceKey ht.typeIs (by decide) ?_)
  refine wpAny_bind (wpAny_callSpecial?_slot (name := Str.ofString "__getitem__") ht.typeIs PyProof.Rows.slot_tuple_getitem
    (wpAny_call_entry PyProof.Rows.slot_tuple_getitem ht.typeIs entry_tuple_getitem ?_ (args_tuple_getitem _ _)))
  show wpAny _ _ (Builtin.Tuple.tupleItemsOf (.ref t) >>= _) _ _ s
  refine wpAny_bind (tupleItemsOf_ ht ?_)
  refine wpAny_bind (wpAny_typeOf hTs ?_)
  rw [if_pos (by decide)]
  refine wpAny_bind (sliceApplied_gen hs pl pu ?_)
  have hno : ¬ ((((sIx items.size 0 lo : Nat) : Int) == 0 && (1 : Int) == 1 && (sIx items.size items.size hi - sIx items.size 0 lo) == items.size) = true) := by
    intro q
    rw [Bool.and_eq_true, Bool.and_eq_true] at q
    have q1 : ((sIx items.size 0 lo : Nat) : Int) = 0 := eq_of_beq q.1.1
    have q2 : sIx items.size items.size hi - sIx items.size 0 lo = items.size := eq_of_beq q.2
    exact hw ⟨by omega, by omega⟩
  show wpAny _ _ (if (((sIx items.size 0 lo : Nat) : Int) == 0 && (1 : Int) == 1 && (sIx items.size items.size hi - sIx items.size 0 lo) == items.size) = true then _ else _) _ _ s
  rw [if_neg hno, pick_gen]
  first
    | exact wpAny_bind (m := Builtin.Tuple.tupleExact _) (wpAny_newObj_type (wpAny_pure ⟨_, rfl, wpAny_pure h⟩) htake)
    | exact wpAny_bind (m := Builtin.Tuple.tupleExact _) (wpAny_newObj_type (wpAny_bind (wpAny_pure (wpAny_pure ⟨_, rfl, wpAny_pure h⟩))) htake)
    | exact wpAny_bind (wpAny_bind (m := Builtin.Tuple.tupleExact _) (wpAny_newObj_type (wpAny_pure (wpAny_pure ⟨_, rfl, wpAny_pure h⟩)) htake))
    | exact wpAny_bind (wpAny_bind (m := Builtin.Tuple.tupleExact _) (wpAny_newObj_type (wpAny_pure ⟨_, rfl, wpAny_pure h⟩) htake))
end
end HT

namespace L2
open PySem PySem.Spec PyProof.Rows

/-! ### the parts of a slice -/
abbrev TO := St → Hp → (Option Int → Hp → Prop) → Prop
/-- a slice's part (left out, or an int) -/
def PO (X : Cx) (e : Option Expr) (t : TO) : Prop :=
  ∀ (pins : List (Addr × Obj)) (s : Shared) (σ : St) (H : Hp) (Q : Option Int → Hp → Prop), Inv X pins σ H s → t σ H Q →
    wpAny (model X.prog X.w) X.A (evalPart e X.env) (fun u s' => ∃ o H', Inv X pins σ H' s' ∧ IsPart u o ∧ Q o H') X.xe s
def tNoPart : TO := fun _ H Q => Q none H
def tPart (t : TE) : TO := fun σ H Q => t σ H fun x H1 => ∃ i, x = .int i ∧ Q (some i) H1


section
variable {X : Cx} {e : Expr} {te : TE} {lo hi : Option Expr} {tl th : TO} {pos p2 : Pos}

theorem po_none : PO X none tNoPart := by
  intro pins s σ H Q I h
  rw [evalPart_none]
  exact wpAny_pure ⟨none, H, I, .none, h⟩
theorem po_some (h : PE X e te) : PO X (some e) (tPart te) := by
  intro pins s σ H Q I hw
  rw [evalPart_some]
  refine thn (h pins s σ H _ I hw) fun u s1 ⟨x, H1, I1, r1, q1⟩ => ?_
  obtain ⟨i, rfl, q⟩ := q1
  obtain ⟨t, rfl⟩ := r1
  exact ⟨some i, H1, I1, .int i t, q⟩

/-- what a slice of a value is, by values: the slice object stands at sl -/
def SlR (X : Cx) (r : V → Option Int → Option Int → Hp → VK → Prop) : Prop :=
  ∀ (pins : List (Addr × Obj)) (s : Shared) (σ : St) (H : Hp) (x : V) (v vl vu : Value) (lo hi : Option Int) (sl : Addr) (Q : VK), Inv X pins σ H s → RelV x v → s.heap.IsSliceOf sl vl vu .none → IsPart vl lo → IsPart vu hi → r x lo hi H Q →
    ∃ T id, typeLookup (.type T) "__getitem__" = pure (some (.builtin id)) ∧ s.TypeIs v T ∧ wpAny (model X.prog X.w) X.A (getItem v (.ref sl)) (EP X pins σ Q) X.xe s
theorem SlR.or {r r' : V → Option Int → Option Int → Hp → VK → Prop} (h : SlR X r) (h' : SlR X r') : SlR X (fun x lo hi H Q => r x lo hi H Q ∨ r' x lo hi H Q) := by
  intro pins s σ H x v vl vu lo hi sl Q I rx hs pl pu q
  rcases q with q | q
  · exact h pins s σ H x v vl vu lo hi sl Q I rx hs pl pu q
  · exact h' pins s σ H x v vl vu lo hi sl Q I rx hs pl pu q
def tSl (r : V → Option Int → Option Int → Hp → VK → Prop) (te : TE) (tl th : TO) : TE := fun σ H Q => te σ H fun x H1 => tl σ H1 fun l H2 => th σ H2 fun u H3 => r x l u H3 Q
/-- a[lo:hi], any a -/
theorem pe_slice {r : V → Option Int → Option Int → Hp → VK → Prop} (hr : SlR X r) (he : PE X e te) (hl : PO X lo tl) (hu : PO X hi th) : PE X (.Subscript e (.Slice lo hi none p2) pos) (tSl r te tl th) := by
  intro pins s σ H Q I h
  refine Subscript_ (thn (he pins s σ H _ I h) fun v s1 ⟨x, H1, I1, r1, q1⟩ => ?_)
  refine wpAny_Slice (thn (hl pins s1 σ H1 _ I1 q1) fun vl s2 ⟨l, H2, I2, pl, q2⟩ => thn (hu pins s2 σ H2 _ I2 q2) fun vu s3 ⟨u, H3, I3, pu, q3⟩ => ?_)
  rw [evalPart_none]
  refine wpAny_pure ?_
  have I4 : Inv X pins σ H3 { s3 with heap := s3.heap.push { cls := .type "slice", data := .fields #[vl, vu, .none] } } := I3.kept (t' := s3.toks) fun b ob q => Heap.get?_push_of_some _ q
  obtain ⟨T, id, hT, ht, hg⟩ := hr pins { s3 with heap := s3.heap.push { cls := .type "slice", data := .fields #[vl, vu, .none] } } σ H3 x v vl vu l u s3.heap.objs.size Q I4 r1 (Heap.IsSliceOf.new ..) pl pu q3
  show wpAny (model X.prog X.w) X.A (subscriptTail e (.Slice lo hi none p2) v (.ref s3.heap.objs.size)) (EP X pins σ Q) X.xe { s3 with heap := s3.heap.push { cls := .type "slice", data := .fields #[vl, vu, .none] } }
  exact tail_any (ops := [.ref s3.heap.objs.size, v]) ht hT hg (by with_unfolding_all rfl)

/-- the items of xs[lo:hi] -/
def cutV (xs : List V) (lo hi : Option Int) : List V := (xs.drop (HT.sIx xs.length 0 lo)).take (HT.sIx xs.length xs.length hi - HT.sIx xs.length 0 lo)
theorem cutV_length (xs : List V) (lo hi : Option Int) : (cutV xs lo hi).length ≤ xs.length := by
  unfold cutV
  rw [List.length_take, List.length_drop]
  omega
/-- t[lo:hi], not the whole of it (the whole would be t itself) -/
def rSlT (K : PySem.W.Frag) : V → Option Int → Option Int → Hp → VK → Prop := fun x lo hi H Q => ∃ a xs, x = .ref a ∧ SqT K H a xs ∧
  ¬ (HT.sIx xs.length 0 lo = 0 ∧ HT.sIx xs.length xs.length hi = xs.length) ∧ ∀ p, H p = none → Q (.ref p) (upd H p (.tup (cutV xs lo hi)))
theorem sl_tup : SlR X (rSlT X.K) := by
  intro pins s σ H x v vl vu lo hi sl Q I rx hs pl pu h
  obtain ⟨a, xs, rfl, hx, hw, q⟩ := h
  cases rx
  obtain ⟨its, r, ht, hz⟩ := I.tuple hx
  have hlen : its.toArray.size = xs.length := by rw [List.size_toArray]; exact r.length.symm
  refine ⟨"tuple", _, PyProof.Rows.slot_tuple_getitem.lookup, ht.typeIs, ?_⟩
  refine HT.getItem_tuple_cut ht hs pl pu (by rw [hlen]; exact hw) ?_ (by rw [hlen]; exact hz)
  rw [hlen]
  refine ⟨.ref s.heap.objs.size, _, I.laid (t' := s.toks) (o := .tup (cutV xs lo hi)) (fun b ob q => Heap.get?_push_of_some _ q) (Nat.le_refl _) ?_, rfl, q _ (I.hok.fresh (Nat.le_refl _))⟩
  exact ⟨Nat.le_trans (cutV_length xs lo hi) hz, _, (r.drop (HT.sIx xs.length 0 lo)).take (HT.sIx xs.length xs.length hi - HT.sIx xs.length 0 lo), IsTup.new _ _⟩

/-! ### t < u, t + u -/
end
end L2

namespace L2
open PySem PySem.Spec PyProof.Rows

/-! ### places -/
/-- the place that an index of any sign means -/
def ixN (n : Nat) (i : Int) : Option Nat := if 0 ≤ i then (if i < n then some i.toNat else none) else if -(n : Int) ≤ i then some (i + n).toNat else none
def atI {α : Type} (xs : List α) (i : Int) : Option α := (ixN xs.length i).bind fun j => xs[j]?
theorem ixN_seq {n : Nat} {i : Int} {j : Nat} (h : ixN n i = some j) : seqIndex? i n = some j ∧ j < n ∧ -(n : Int) ≤ i ∧ i < n := by
  unfold ixN at h
  by_cases h0 : 0 ≤ i
  · rw [if_pos h0] at h
    by_cases h1 : i < n
    · rw [if_pos h1] at h
      have e : i.toNat = j := Option.some.inj h
      exact ⟨by rw [seqIndex_of h0 h1, e], by omega, by omega, h1⟩
    · rw [if_neg h1] at h; cases h
  · rw [if_neg h0] at h
    by_cases h1 : -(n : Int) ≤ i
    · rw [if_pos h1] at h
      have e : (i + n).toNat = j := Option.some.inj h
      exact ⟨by rw [seqIndex_neg (by omega) h1, e], by omega, h1, by omega⟩
    · rw [if_neg h1] at h; cases h
theorem atI_get {α : Type} {xs : List α} {i : Int} {v : α} (h : atI xs i = some v) : ∃ j, seqIndex? i xs.length = some j ∧ xs[j]? = some v ∧ j < xs.length ∧ -(xs.length : Int) ≤ i ∧ i < xs.length := by
  unfold atI at h
  cases e : ixN xs.length i with
  | none => rw [e] at h; cases h
  | some j =>
    rw [e] at h
    obtain ⟨h1, h2, h3, h4⟩ := ixN_seq e
    exact ⟨j, h1, h, h2, h3, h4⟩
theorem atI_nat {α : Type} {xs : List α} {j : Nat} {v : α} (h : xs[j]? = some v) : atI xs (j : Int) = some v := by
  have hj : j < xs.length := (List.getElem?_eq_some_iff.mp h).1
  have e : ixN xs.length (j : Int) = some j := by
    unfold ixN
    rw [if_pos (by omega), if_pos (by omega)]; simp
  unfold atI; rw [e]; exact h
theorem atI_last {α : Type} (xs : List α) (v : α) : atI (xs ++ [v]) (-1) = some v := by
  have hl : (xs ++ [v]).length = xs.length + 1 := by simp
  have e : ixN (xs ++ [v]).length (-1) = some xs.length := by
    unfold ixN
    rw [hl, if_neg (by decide), if_pos (by omega)]
    congr 1
    omega
  unfold atI
  rw [e]
  show (xs ++ [v])[xs.length]? = some v
  simp

/-! ### what may be subscripted -/
/-- what stands as an index of a plain subscript -/
def PlainIx (b : Expr) : Prop := ∀ o i, subscripted b false o i = operate [o, i] (getItem o i)
/-- a subscript by values -/
def IxR (X : Cx) (r : R2) : Prop :=
  ∀ (value slice : Expr) (pins : List (Addr × Obj)) (s : Shared) (σ : St) (H : Hp) (x y : V) (v u : Value) (Q : VK), Inv X pins σ H s → RelV x v → RelV y u → r x y H Q →
    subscripted slice false v u = operate [v, u] (getItem v u) → wpAny (model X.prog X.w) X.A (subscriptTail value slice v u) (EP X pins σ Q) X.xe s
/-- a call of a builtin's method by values: the receiver, the arguments -/
def MtR (X : Cx) (id : String) (r : V → List V → Hp → VK → Prop) : Prop :=
  ∀ (pins : List (Addr × Obj)) (s : Shared) (σ : St) (H : Hp) (x : V) (xs : List V) (v : Value) (us : List Value) (Q : VK), Inv X pins σ H s → RelV x v → Vals xs us → r x xs H Q →
    wpAny (model X.prog X.w) X.A (call (.builtin id) (v :: us)) (EP X pins σ Q) X.xe s
section
variable {X : Cx} {a b : Expr} {ta tb : TE} {pos : Pos}
theorem IxR.or {r r' : R2} (h : IxR X r) (h' : IxR X r') : IxR X (fun x y H Q => r x y H Q ∨ r' x y H Q) := by
  intro value slice pins s σ H x y v u Q I rx ry q hs
  rcases q with q | q
  · exact h value slice pins s σ H x y v u Q I rx ry q hs
  · exact h' value slice pins s σ H x y v u Q I rx ry q hs
theorem MtR.or {id : String} {r r' : V → List V → Hp → VK → Prop} (h : MtR X id r) (h' : MtR X id r') : MtR X id (fun x xs H Q => r x xs H Q ∨ r' x xs H Q) := by
  intro pins s σ H x xs v us Q I rx rs q
  rcases q with q | q
  · exact h pins s σ H x xs v us Q I rx rs q
  · exact h' pins s σ H x xs v us Q I rx rs q
/-- a[b] -/
theorem pe_ix {r : R2} (hr : IxR X r) (ha : PE X a ta) (hb : PE X b tb) (hs : PlainIx b) : PE X (.Subscript a b pos) (tOp r ta tb) := by
  intro pins s σ H Q I h
  exact Subscript_ (binT ha hb I h fun v u s2 x y H2 I2 rx ry q => hr a b pins s2 σ H2 x y v u Q I2 rx ry q (hs _ _))

def rIxL (K : PySem.W.Frag) : R2 := fun x y H Q => ∃ p xs i v, x = .ref p ∧ y = .int i ∧ SqL K H p xs ∧ atI xs i = some v ∧ Q v H
def rIxT (K : PySem.W.Frag) : R2 := fun x y H Q => ∃ p xs i v, x = .ref p ∧ y = .int i ∧ SqT K H p xs ∧ atI xs i = some v ∧ Q v H
def rIxS : R2 := fun x y H Q => ∃ z i c, x = .str z ∧ y = .int i ∧ z.length ≤ sizeLine ∧ atI z.cps.toList i = some c ∧ Q (.str ⟨#[c]⟩) H
theorem ix_list : IxR X (rIxL X.K) := by
  intro value slice pins s σ H x y v u Q I rx ry h hs
  obtain ⟨p, xs, i, z, rfl, rfl, hq, he, q⟩ := h
  cases rx
  obtain ⟨t, rfl⟩ := ry
  obtain ⟨its, r, pl, hz⟩ := I.list hq
  obtain ⟨j, h1, h2, h3, h4, h5⟩ := atI_get he
  obtain ⟨w, ew, rw'⟩ := r.get h2
  have hl := r.length
  have hn := line63
  have fin : EP X pins σ Q w s := ⟨z, H, I, rw', q⟩
  by_cases h0 : 0 ≤ i
  · have hj : i.toNat = j := by
      rw [seqIndex_of h0 h5] at h1
      exact Option.some.inj h1
    exact item_listR pl.isList h0 (by omega) (by rw [hj]; simpa using ew) fin hs
  · have hj : (i + (its.toArray.size : Int)).toNat = j := by
      rw [seqIndex_neg (by omega) h4] at h1
      rw [List.size_toArray, ← hl]
      exact Option.some.inj h1
    exact subscriptTail_builtinR (x := w) pl.isList.typeIs slot_list_getitem.lookup
      (wpAny_getItem_list_neg (Q := fun r s' => r = w ∧ EP X pins σ Q r s') pl.isList (by omega) (by rw [List.size_toArray] <;> omega) (by omega) (by rw [hj]; simpa using ew) ⟨rfl, fin⟩) hs
theorem ix_tup : IxR X (rIxT X.K) := by
  intro value slice pins s σ H x y v u Q I rx ry h hs
  obtain ⟨p, xs, i, z, rfl, rfl, hq, he, q⟩ := h
  cases rx
  obtain ⟨t, rfl⟩ := ry
  obtain ⟨its, r, pl, hz⟩ := I.tuple hq
  obtain ⟨j, h1, h2, h3, h4, h5⟩ := atI_get he
  obtain ⟨w, ew, rw'⟩ := r.get h2
  have hl := r.length
  have hn := line63
  have fin : EP X pins σ Q w s := ⟨z, H, I, rw', q⟩
  exact subscriptTail_builtinR (x := w) pl.typeIs slot_tuple_getitem.lookup
    (getItem_tuple (j := j) (Q := fun r s' => r = w ∧ EP X pins σ Q r s') pl (by omega) (by omega) (by rw [List.size_toArray, ← hl]; exact h1) (by simpa using ew) ⟨rfl, fin⟩) hs
theorem ix_str : IxR X rIxS := by
  intro value slice pins s σ H x y v u Q I rx ry h hs
  obtain ⟨z, i, c, rfl, rfl, hz, he, q⟩ := h
  obtain ⟨t, rfl⟩ := rx
  obtain ⟨t', rfl⟩ := ry
  obtain ⟨j, h1, h2, h3, h4, h5⟩ := atI_get he
  have hl : z.cps.toList.length = z.length := by simp [Str.length]
  rw [hl] at h1 h4 h5
  have hn := line63
  exact tail_any (typeIs_str s z t) slot_str_getitem.lookup (getItem_str (c := c) (by
    have e1 : decide (i < -(2 ^ 63 : Int)) = false := decide_eq_false (by omega)
    have e2 : decide (i ≥ 2 ^ 63) = false := decide_eq_false (by omega)
    rw [e1, e2, Bool.or_false]) (by rw [h1]; simpa using h2) ⟨.str ⟨#[c]⟩, H, I.tok _, ⟨_, rfl⟩, q⟩) hs

/-! ### xs[i] = v, any sign -/
/-- the list's object behind a store -/
theorem mapSeq_set (its : List Value) (n j : Nat) (u : Value) : Obj.mapSeq (·.setIfInBounds j u) { cls := .type "list", data := .seq its.toArray n } = { cls := .type "list", data := .seq (its.set j u).toArray n } := by
  simp [Obj.mapSeq]
theorem Inv.lst {pins : List (Addr × Obj)} {σ : St} {H : Hp} {s : Shared} {p : Addr} {xs : List V} (I : Inv X pins σ H s) (h : H p = some (.lst xs)) :
    ∃ (its : List Value) (n : Nat), Vals xs its ∧ s.heap.get? p = some { cls := .type "list", data := .seq its.toArray n } ∧ xs.length ≤ sizeLine := by
  obtain ⟨z, its, n, r, e⟩ := I.hok p _ h
  exact ⟨its, n, r, e, z⟩
/-- the list at p is written by an update of its object -/
theorem Inv.lstUpd {pins : List (Addr × Obj)} {σ : St} {H : Hp} {s : Shared} {p : Addr} {xs ys : List V} {its its' : List Value} {n n' : Nat} {f : Obj → Obj} (I : Inv X pins σ H s) (h : H p = some (.lst xs))
    (ho : s.heap.get? p = some { cls := .type "list", data := .seq its.toArray n }) (hf : f { cls := .type "list", data := .seq its.toArray n } = { cls := .type "list", data := .seq its'.toArray n' }) (r : Vals ys its') (hz : ys.length ≤ sizeLine) (t : Nat) :
    Inv X pins σ (upd H p (.lst ys)) { s with heap := s.heap.update p f, toks := t } := by
  have e : (s.heap.update p f).get? p = some { cls := .type "list", data := .seq its'.toArray n' } := by
    rw [Heap.get?_update_self f ho (by rw [hf] <;> rfl), hf]
  refine I.write (x := p) (e := p) (by rw [h]; trivial) (.inl rfl) (fun b u hb q => (Heap.get?_update_other _ _ (Ne.symm hb)).trans q) ⟨_, e⟩ ?_
  exact ⟨hz, its', n', r, e⟩
def rSetL : V → V → V → Hp → (Hp → Prop) → Prop := fun o i v H Q => ∃ p xs k j, o = .ref p ∧ i = .int k ∧ H p = some (.lst xs) ∧ ixN xs.length k = some j ∧ Q (upd H p (.lst (xs.set j v)))
theorem set_list : PSet X rSetL := by
  intro pins s σ H o i v ov iv u Q I ro ri rv h
  obtain ⟨p, xs, k, j, rfl, rfl, hp, hj, q⟩ := h
  cases ro
  obtain ⟨t, rfl⟩ := ri
  obtain ⟨its, n, r, ho, hz⟩ := I.lst hp
  obtain ⟨h1, h2, h3, h4⟩ := ixN_seq hj
  have hl := r.length
  have hn := line63
  have I' : Inv X pins σ (upd H p (.lst (xs.set j v))) { s with heap := s.heap.update p (Obj.mapSeq (·.setIfInBounds j u)) } :=
    I.lstUpd hp ho (mapSeq_set its n j u) (r.set rv j) (by rw [List.length_set]; exact hz) s.toks
  by_cases h0 : 0 ≤ k
  · have hk : k.toNat = j := by
      rw [seqIndex_of h0 h4] at h1
      exact Option.some.inj h1
    exact PySem.W.ki_setAt ho h0 (by omega) (by rw [List.size_toArray, ← hl]; exact h4) (by rw [hk]; exact ⟨_, I', q⟩)
  · have hk : (k + (its.toArray.size : Int)).toNat = j := by
      rw [seqIndex_neg (by omega) h3] at h1
      rw [List.size_toArray, ← hl]
      exact Option.some.inj h1
    exact PySem.W.ki_setBack ho (by omega) (by rw [List.size_toArray, ← hl]; exact h3) (by omega) (by rw [hk]; exact ⟨_, I', q⟩)

/-! ### slices -/
theorem slice_bounds (lo hi : Option Int) (n : Nat) : (sliceBounds lo hi none n).1 = ((HT.sIx n 0 lo : Nat) : Int) ∧ (sliceBounds lo hi none n).2.1 = ((HT.sIx n n hi : Nat) : Int) ∧ (sliceBounds lo hi none n).2.2 = 1 := by
  refine ⟨?_, ?_, rfl⟩
  · cases lo with
    | none => simp [sliceBounds, HT.sIx]
    | some i =>
      simp only [sliceBounds, HT.sIx, Option.getD_none, show (1 : Int) > 0 by decide, if_true]
      by_cases h : i < 0
      · simp only [h, if_true] <;> omega
      · simp only [h, if_false] <;> omega
  · cases hi with
    | none => simp [sliceBounds, HT.sIx]
    | some i =>
      simp only [sliceBounds, HT.sIx, Option.getD_none, show (1 : Int) > 0 by decide, if_true]
      by_cases h : i < 0
      · simp only [h, if_true] <;> omega
      · simp only [h, if_false] <;> omega
theorem slicePick_cut (its : List Value) (lo hi : Option Int) : slicePick its.toArray lo hi none = ((its.drop (HT.sIx its.length 0 lo)).take (HT.sIx its.length its.length hi - HT.sIx its.length 0 lo)).toArray := by
  obtain ⟨h1, h2, h3⟩ := slice_bounds lo hi its.toArray.size
  unfold slicePick
  rw [h1, h2, h3]
  simp only [sliceRange_one, pick_run, List.size_toArray] <;> rfl
/-- xs[lo:hi] of a list: a new list -/
def rSlL (K : PySem.W.Frag) : V → Option Int → Option Int → Hp → VK → Prop := fun x lo hi H Q => ∃ a xs, x = .ref a ∧ SqL K H a xs ∧ ∀ p, H p = none → Q (.ref p) (upd H p (.lst (cutV xs lo hi)))
theorem sl_list : SlR X (rSlL X.K) := by
  intro pins s σ H x v vl vu lo hi sl Q I rx hs pl pu h
  obtain ⟨a, xs, rfl, hx, q⟩ := h
  cases rx
  obtain ⟨its, r, ht, hz⟩ := I.list hx
  have hlen := r.length
  refine ⟨"list", _, slot_list_getitem.lookup, ht.isList.typeIs, ?_⟩
  refine wpAny_getItem_list_slice ht.isList hs pl pu .none (by simp) ?_ (by rw [List.size_toArray] <;> omega)
  rw [slicePick_cut, ← hlen]
  refine ⟨.ref s.heap.objs.size, _, I.laid (t' := s.toks) (o := .lst (cutV xs lo hi)) (fun b ob q => Heap.get?_push_of_some _ q) (Nat.le_refl _) ?_, rfl, q _ (I.hok.fresh (Nat.le_refl _))⟩
  exact ⟨Nat.le_trans (cutV_length xs lo hi) hz, _, 0, (r.drop (HT.sIx xs.length 0 lo)).take (HT.sIx xs.length xs.length hi - HT.sIx xs.length 0 lo), Heap.get?_push_size _ rfl⟩

/-! ### in, not in: flat items -/
theorem op_notIn_str : OpR X (compareOp .NotIn) (fun x y H Q => ∃ i j, x = .str i ∧ y = .str j ∧ Q (.bl (!(!(Builtin.Str.occurrences j i 0 j.length 1).isEmpty))) H) := by
  intro pins s σ H x y v u Q I rx ry h
  obtain ⟨i, j, rfl, rfl, q⟩ := h
  obtain ⟨t, rfl⟩ := rx
  obtain ⟨t', rfl⟩ := ry
  exact notIn_str ⟨.bl _, H, I, rfl, q⟩

/-! ### len, list(x), tuple(x) of any list or tuple that is read -/
theorem call_len_seq : CallR X (.builtin "len") (fun xs H Q => ∃ p ys, xs = [.ref p] ∧ (SqL X.K H p ys ∨ SqT X.K H p ys) ∧ Q (.int ys.length) H) := by
  intro pins s σ H xs us Q I r h
  obtain ⟨p, ys, rfl, hq, q⟩ := h
  obtain ⟨u, rfl, rx⟩ := vals1 r
  cases rx
  have hn := line63
  rcases hq with hq | hq
  · obtain ⟨its, r', pl, hz⟩ := I.list hq
    have hlen := r'.length
    exact Calls.call_len_list pl.isList (by simp only [List.size_toArray] <;> omega) ⟨.int ys.length, H, I.tok _, ⟨s.toks + 1, by rw [List.size_toArray, hlen]⟩, q⟩
  · obtain ⟨its, r', pl, hz⟩ := I.tuple hq
    have hlen := r'.length
    exact len_tuple pl (by simp only [List.size_toArray] <;> omega) ⟨.int ys.length, H, I.tok _, ⟨s.toks + 1, by rw [List.size_toArray, hlen]⟩, q⟩
theorem CallR.or {f : Value} {r r' : List V → Hp → VK → Prop} (h : CallR X f r) (h' : CallR X f r') : CallR X f (fun xs H Q => r xs H Q ∨ r' xs H Q) := by
  intro pins s σ H xs us Q I rs q
  rcases q with q | q
  · exact h pins s σ H xs us Q I rs q
  · exact h' pins s σ H xs us Q I rs q
theorem call_list_of : CallR X (.type "list") (fun xs H Q => ∃ p ys, xs = [.ref p] ∧ (SqL X.K H p ys ∨ SqT X.K H p ys) ∧ ∀ l, H l = none → Q (.ref l) (upd H l (.lst ys))) := by
  intro pins s σ H xs us Q I r h
  obtain ⟨p, ys, rfl, hq, q⟩ := h
  obtain ⟨u, rfl, rx⟩ := vals1 r
  cases rx
  have fin : ∀ (its : List Value), Vals ys its → ys.length ≤ sizeLine → ∀ (h' : Heap) (c' : Nat), (∀ b o', s.heap.get? b = some o' → h'.get? b = some o') →
      h'.get? s.heap.objs.size = some { cls := .type "list", dict := none, data := .seq its.toArray c', slots := #[] } → EP X pins σ Q (.ref s.heap.objs.size) { s with heap := h' } := fun its r' hz h' c' kp e =>
    ⟨.ref s.heap.objs.size, _, I.laid (t' := s.toks) kp (Nat.le_refl _) (show ObjOk X.prog X.w _ h' _ (.lst ys) from ⟨hz, its, c', r', e⟩), rfl, q _ (I.hok.fresh (Nat.le_refl _))⟩
  rcases hq with hq | hq
  · obtain ⟨its, r', pl, hz⟩ := I.list hq
    have hlen := r'.length
    obtain ⟨o, ho, hc, n, hd⟩ := pl.isList
    exact call_list_seq p (.inl rfl) ho hc hd (fun h' c' kp e => fin its r' hz h' c' kp e) (by simp only [List.size_toArray] <;> omega)
  · obtain ⟨its, r', pl, hz⟩ := I.tuple hq
    have hlen := r'.length
    obtain ⟨o, ho, hc, n, hd⟩ := pl
    exact call_list_seq p (.inr rfl) ho hc hd (fun h' c' kp e => fin its r' hz h' c' kp e) (by simp only [List.size_toArray] <;> omega)

/-! ### the call of a builtin's method: o.m(..) -/
/-- the value is of that builtin type -/
def tyV (K : PySem.W.Frag) (T : String) (x : V) (H : Hp) : Prop := match x with
  | .str _ => T = "str"
  | .int _ => T = "int"
  | .ref p => (T = "list" ∧ ∃ xs, SqL K H p xs) ∨ (T = "tuple" ∧ ∃ o, K.lookup p = some o ∧ o.cls = .type "tuple" ∧ o.dict = none) ∨
      (T = "dict" ∧ ((∃ kvs, H p = some (.dK kvs)) ∨ ∃ kvs, H p = some (.dT kvs))) ∨ (T = "set" ∧ ∃ S n, H p = some (.set S n))
  | _ => False
theorem tyV_is {pins : List (Addr × Obj)} {σ : St} {H : Hp} {s : Shared} {T : String} {x : V} {v : Value} (I : Inv X pins σ H s) (r : RelV x v) (ty : tyV X.K T x H) :
    s.TypeIs v T ∧ ∀ a, v = .ref a → ∃ ob, s.heap.get? a = some ob ∧ ob.dict = none := by
  cases x with
  | str z =>
    obtain ⟨t, rfl⟩ := r
    cases (show T = "str" from ty)
    exact ⟨typeIs_str s z t, fun _ e => nomatch e⟩
  | int i =>
    obtain ⟨t, rfl⟩ := r
    cases (show T = "int" from ty)
    exact ⟨typeIs_int s i t, fun _ e => nomatch e⟩
  | ref p =>
    cases r
    rcases ty with ⟨rfl, xs, hq⟩ | ⟨rfl, o, hk, hc, hd⟩ | ⟨rfl, hk⟩ | ⟨rfl, S, n, hk⟩
    · obtain ⟨its, _, pl, _⟩ := I.list hq
      refine ⟨pl.isList.typeIs, fun a e => ?_⟩
      cases e
      obtain ⟨o, n, e, c, hd, _⟩ := pl
      exact ⟨o, e, hd⟩
    · refine ⟨⟨o, I.kIn p o hk, hc⟩, fun a e => ?_⟩
      cases e
      exact ⟨o, I.kIn _ o hk, hd⟩
    · have z : ∃ o, s.heap.get? p = some o ∧ o.ExactDict := by
        rcases hk with ⟨kvs, hk⟩ | ⟨kvs, hk⟩
        · obtain ⟨_, _, _, _, o, _, _, e, ex, _⟩ := I.hok p _ hk
          exact ⟨o, e, ex⟩
        · obtain ⟨_, _, _, _, o, _, _, e, ex, _⟩ := I.hok p _ hk
          exact ⟨o, e, ex⟩
      obtain ⟨o, e, ex⟩ := z
      refine ⟨⟨o, e, ex.1⟩, fun a e2 => ?_⟩
      cases e2
      exact ⟨o, e, ex.2.1⟩
    · obtain ⟨o, _, _, _, e, ex, _⟩ := I.hok p _ hk
      refine ⟨⟨o, e, ex.1⟩, fun a e2 => ?_⟩
      cases e2
      exact ⟨o, e, ex.2.1⟩
  | _ => exact False.elim ty
def tBM0 (K : PySem.W.Frag) (T : String) (r : V → List V → Hp → VK → Prop) (to : TE) : TE := fun σ H Q => to σ H fun x H1 => tyV K T x H1 ∧ r x [] H1 Q
def tBM (K : PySem.W.Frag) (T : String) (r : V → List V → Hp → VK → Prop) (to : TE) (t : TA) : TE := fun σ H Q => to σ H fun x H1 => tyV K T x H1 ∧ t σ H1 fun xs H2 => r x xs H2 Q
variable {o e : Expr} {es : List Expr} {to : TE} {t : TA} {name : Str} {apos cpos : Pos} {T id : String} {r : V → List V → Hp → VK → Prop}
theorem pe_bm0 (pa : PlainAttrs T) (slot : Slot T name id) (hty : typeOf (.builtin id) = pure (.type "method_descriptor")) (hm : MtR X id r) (ho : PE X o to)
    (hbase : attributeBase o name X.env (eval o X.env) = eval o X.env := by rfl) (hline : (apos.endLine == cpos.line) = true := by rfl) : PE X (.Call (.Attribute o name apos) [] [] cpos) (tBM0 X.K T r to) := by
  intro pins s σ H Q I h
  refine wpAny_Call_method0_late hbase hline (thn (ho pins s σ H _ I h) fun v s1 ⟨x, H1, I1, r1, ty, q1⟩ => ?_)
  obtain ⟨h1, h2⟩ := tyV_is I1 r1 ty
  exact ⟨T, id, pa, slot, hty, h1, h2, Calls.callWith_builtin rfl (PySem.evalArgs_none (hm pins s1 σ H1 x [] v [] Q I1 r1 .nil q1))⟩
theorem pe_bm (pa : PlainAttrs T) (slot : Slot T name id) (hty : typeOf (.builtin id) = pure (.type "method_descriptor")) (hm : MtR X id r) (ho : PE X o to) (ha : PA X (e :: es) t)
    (hbase : attributeBase o name X.env (eval o X.env) = eval o X.env := by rfl)
    (hfew : ((backTo cpos (starEach (e :: es) X.env)).all (fun x => !x.1) && (backToKw cpos (keywordEach [] X.env)).all (fun x => x.1.isSome)
      && decide ((e :: es).length + ([] : List Keyword).length + (if ([] : List Keyword).isEmpty then 0 else 1) < 30)) = true := by rfl)
    (hline : (apos.endLine == cpos.line) = true := by rfl) (hs : starEach (e :: es) X.env = (false, eval e X.env) :: starEach es X.env := by rfl) (hplain : (backTo cpos (starEach es X.env)).any (·.1) = false := by rfl) :
    PE X (.Call (.Attribute o name apos) (e :: es) [] cpos) (tBM X.K T r to t) := by
  intro pins s σ H Q I h
  refine wpAny_Call_method_late hbase hfew hline rfl (thn (ho pins s σ H _ I h) fun v s1 ⟨x, H1, I1, r1, ty, q1⟩ => ?_)
  obtain ⟨h1, h2⟩ := tyV_is I1 r1 ty
  refine ⟨T, id, pa, slot, hty, h1, h2, ?_⟩
  have hA := ha cpos pins s1 σ H1 _ I1 q1
  rw [hs] at hA ⊢
  refine Calls.callWith_builtin (by show (false || (backTo cpos (starEach es X.env)).any (·.1)) = false; rw [hplain] <;> rfl) (Calls.evalArgs_plain ?_)
  exact thn hA fun us s2 ⟨vs, H2, I2, r2, q2⟩ => hm pins s2 σ H2 x vs v us Q I2 r1 r2 q2
/- xs.append(e), list.index on a module's tuple .. are MtR facts of 06m -/
end
end L2

namespace L2
open PySem PySem.Spec PyProof.Rows

def MtM (X : Cx) (id : String) (r : V → List V → Hp → VK → Prop) : Prop :=
  ∀ (pins : List (Addr × Obj)) (s : Shared) (σ : St) (H : Hp) (x : V) (xs : List V) (v : Value) (us : List Value) (Q : VK), Inv X pins σ H s → RelV x v → Vals xs us → r x xs H Q →
    wpAny (model X.prog X.w) X.A (call (.builtin id) (v :: us)) (EP X pins σ Q) X.xe s

/-! ### lists of values -/
theorem Vals.one : ∀ {x : V} {us : List Value}, Vals [x] us → ∃ u, us = [u] ∧ RelV x u
  | _, _, .cons r .nil => ⟨_, rfl, r⟩
theorem Vals.two : ∀ {x y : V} {us : List Value}, Vals [x, y] us → ∃ u v, us = [u, v] ∧ RelV x u ∧ RelV y v
  | _, _, _, .cons r (.cons q .nil) => ⟨_, _, rfl, r, q⟩
theorem Vals.zero : ∀ {us : List Value}, Vals [] us → us = []
  | _, .nil => rfl
theorem Vals.dropLast {xs : List V} {us : List Value} (h : Vals xs us) : Vals xs.dropLast us.dropLast := by
  induction h with
  | nil => exact .nil
  | cons r t ih =>
    cases t with
    | nil => exact .nil
    | cons q t' => exact .cons r ih
theorem Vals.eraseIdx : ∀ {xs : List V} {us : List Value} (i : Nat), Vals xs us → Vals (xs.eraseIdx i) (us.eraseIdx i)
  | _, _, _, .nil => .nil
  | _, _, 0, .cons _ t => t
  | _, _, i + 1, .cons r t => .cons r (Vals.eraseIdx i t)
theorem Vals.reverse {xs : List V} {us : List Value} (h : Vals xs us) : Vals xs.reverse us.reverse := by
  induction h with
  | nil => exact .nil
  | cons r t ih => rw [List.reverse_cons, List.reverse_cons]; exact Vals.append ih (.cons r .nil)
theorem Vals.rep {xs : List V} {us : List Value} (h : Vals xs us) : ∀ k : Nat, Vals (List.replicate k xs).flatten (List.replicate k us).flatten
  | 0 => .nil
  | k + 1 => by
    rw [List.replicate_succ, List.replicate_succ, List.flatten_cons, List.flatten_cons]
    exact Vals.append h (Vals.rep h k)
theorem erase_last {α : Type} (l : List α) : l.eraseIdx (l.length - 1) = l.dropLast := by
  induction l with
  | nil => rfl
  | cons a r ih =>
    cases r with
    | nil => rfl
    | cons b r =>
      have e : (a :: b :: r).length - 1 = ((b :: r).length - 1) + 1 := by
        have h1 : (a :: b :: r).length = r.length + 2 := rfl
        have h2 : (b :: r).length = r.length + 1 := rfl
        omega
      rw [e, List.eraseIdx_cons_succ, ih]
      all_goals rfl
theorem foldl_rep (its : List Value) : ∀ (k : Nat) (acc : List Value),
    List.foldl (fun x1 x2 => x1 ++ x2) acc.toArray (List.replicate k its.toArray) = (acc ++ (List.replicate k its).flatten).toArray
  | 0, acc => by simp
  | k + 1, acc => by
    have e : acc.toArray ++ its.toArray = (acc ++ its).toArray := by simp
    have e2 : (acc ++ its) ++ (List.replicate k its).flatten = acc ++ (List.replicate (k + 1) its).flatten := by
      rw [List.replicate_succ, List.flatten_cons, List.append_assoc]
    rw [← e2, ← foldl_rep its k (acc ++ its), ← e, List.replicate_succ, List.foldl_cons]

section
variable {X : Cx} {pins : List (Addr × Obj)} {σ : St} {H : Hp} {s : Shared} {l b : Addr} {xs ys zs : List V}

/-! ### the two steps: a tracked list is rewritten, a new list is laid -/
theorem Inv.lset {its its' : List Value} {n : Nat} {f : Array Value → Array Value} {t' : Nat} (I : Inv X pins σ H s) (hH : H l = some (.lst xs))
    (e : s.heap.get? l = some { cls := .type "list", data := .seq its.toArray n }) (hf : f its.toArray = its'.toArray) (hv : Vals ys its') (hz : ys.length ≤ sizeLine) :
    Inv X pins σ (upd H l (.lst ys)) { s with heap := s.heap.update l (Obj.mapSeq f), toks := t' } := by
  have q := PySem.IsL.update e f
  rw [hf] at q
  refine I.write (x := l) (e := l) (by rw [hH]; exact trivial) (.inl rfl) (fun b' u hb hu => (Heap.get?_update_other s.heap (Obj.mapSeq f) (Ne.symm hb)).trans hu) ⟨_, q⟩ ?_
  exact ⟨hz, its', _, hv, q⟩
theorem Inv.lnew {its : List Value} {t' : Nat} (I : Inv X pins σ H s) (hv : Vals ys its) (hz : ys.length ≤ sizeLine) :
    Inv X pins σ (upd H s.heap.objs.size (.lst ys)) { s with heap := s.heap.push { cls := .type "list", data := .seq its.toArray }, toks := t' } :=
  I.laid (fun _ _ q => Heap.get?_push_of_some _ q) (Nat.le_refl _) ⟨hz, its, 0, hv, Heap.get?_push_size _ rfl⟩
theorem Inv.fresh (I : Inv X pins σ H s) : H s.heap.objs.size = none := I.hok.fresh (Nat.le_refl _)
theorem Inv.lstM (I : Inv X pins σ H s) (hH : H l = some (.lst xs)) : xs.length ≤ sizeLine ∧ ∃ (its : List Value) (n : Nat), Vals xs its ∧ xs.length = its.length ∧ s.heap.get? l = some { cls := .type "list", data := .seq its.toArray n } := by
  obtain ⟨z, its, n, r, e⟩ := I.hok l _ hH
  exact ⟨z, its, n, r, r.length, e⟩

theorem notLongL {n : Nat} (h : n ≤ sizeLine) : Builtin.List.listTooLong n = false := by
  unfold Builtin.List.listTooLong
  exact decide_eq_false (by omega)
end

section
variable {X : Cx}

/-! ### methods -/
def rAppend : V → List V → Hp → VK → Prop := fun x vs H Q => ∃ l xs y, x = .ref l ∧ vs = [y] ∧ H l = some (.lst xs) ∧ xs.length < sizeLine ∧ Q .non (upd H l (.lst (xs ++ [y])))
theorem mt_append : MtM X "list.append" rAppend := by
  intro pins s σ H x vs v us Q I rx rv h
  obtain ⟨l, xs, y, rfl, rfl, hH, hz, q⟩ := h
  cases rx
  obtain ⟨u, rfl, ru⟩ := rv.one
  obtain ⟨z, its, n, r, hl, e⟩ := I.lstM hH
  refine call_meets F.slot_list_append ⟨_, e, rfl⟩ F.entry_list_append (F.args_list_append_2 _ _) (PySem.list_append l its.toArray n u (by rw [List.size_toArray]; omega)) ⟨e, ?_⟩
  refine ⟨.non, _, I.lset (its' := its ++ [u]) hH e (by simp) (r.append (.cons ru .nil)) ?_, rfl, q⟩
  rw [List.length_append, List.length_singleton]
  omega


def rPop : V → List V → Hp → VK → Prop := fun x vs H Q => ∃ l xs y, x = .ref l ∧ vs = [] ∧ H l = some (.lst xs) ∧ xs[xs.length - 1]? = some y ∧ Q y (upd H l (.lst xs.dropLast))
theorem mt_pop : MtM X "list.pop" rPop := by
  intro pins s σ H x vs v us Q I rx rv h
  obtain ⟨l, xs, y, rfl, rfl, hH, hy, q⟩ := h
  cases rx
  have hus := rv.zero
  subst hus
  obtain ⟨z, its, n, r, hl, e⟩ := I.lstM hH
  obtain ⟨u, hu, ru⟩ := r.get hy
  have hy' : its.toArray[its.toArray.size - 1]? = some u := by
    show its.toArray[its.length - 1]? = some u
    rw [← Array.getElem?_toList, ← hl]
    exact hu
  refine call_meets F.slot_list_pop ⟨_, e, rfl⟩ F.entry_list_pop (F.args_list_pop_1 _) (MeetsSeq.list_pop_last l its.toArray n u hy' (by rw [List.size_toArray]; omega)) ⟨e, ?_⟩
  refine ⟨y, _, I.lset (its' := its.dropLast) hH e ?_ r.dropLast ?_, ru, q⟩
  · show its.toArray.eraseIdxIfInBounds (its.toArray.size - 1) = its.dropLast.toArray
    rw [List.size_toArray, List.eraseIdxIfInBounds_toArray, erase_last]
  · rw [List.length_dropLast]
    omega




/-! ### list + list, list += list, list * int -/
def rCat : R2 := fun x y H Q => ∃ l b xs zs, x = .ref l ∧ y = .ref b ∧ H l = some (.lst xs) ∧ H b = some (.lst zs) ∧ xs.length + zs.length ≤ sizeLine ∧ ∀ p, H p = none → Q (.ref p) (upd H p (.lst (xs ++ zs)))
theorem op_cat : OpR X (binaryOp .Add) rCat := by
  intro pins s σ H x y v u Q I rx ry h
  obtain ⟨l, b, xs, zs, rfl, rfl, hH, hB, hz, q⟩ := h
  cases rx
  cases ry
  obtain ⟨z, its, n, r, hl, e⟩ := I.lstM hH
  obtain ⟨z2, its2, n2, r2, hl2, e2⟩ := I.lstM hB
  refine PySem.P.add_list e e2 ?_ (by rw [List.size_toArray, List.size_toArray]; omega)
  have ea : its.toArray ++ its2.toArray = (its ++ its2).toArray := by simp
  rw [ea]
  exact ⟨.ref _, _, I.lnew (t' := s.toks) (r.append r2) (by rw [List.length_append]; omega), rfl, q _ I.fresh⟩
/-- a list times an int (a negative one is nothing) -/
def rRep : R2 := fun x y H Q => ∃ l k xs, x = .ref l ∧ y = .int k ∧ H l = some (.lst xs) ∧ -(2 ^ 63) ≤ k ∧ k < 2 ^ 63 ∧ xs.length * k.toNat ≤ sizeLine ∧
  ∀ p, H p = none → Q (.ref p) (upd H p (.lst (List.replicate k.toNat xs).flatten))
theorem len_rep {α : Type} (xs : List α) (k : Nat) : (List.replicate k xs).flatten.length = k * xs.length := by
  induction k with
  | zero => simp
  | succ k ih => rw [List.replicate_succ, List.flatten_cons, List.length_append, ih, Nat.succ_mul, Nat.add_comm]
theorem op_rep : OpR X (binaryOp .Mult) rRep := by
  intro pins s σ H x y v u Q I rx ry h
  obtain ⟨l, k, xs, rfl, rfl, hH, h1, h2, hz, q⟩ := h
  cases rx
  obtain ⟨t, rfl⟩ := ry
  obtain ⟨z, its, n, r, hl, e⟩ := I.lstM hH
  have hlen : its.toArray.size * k.toNat ≤ sizeLine := by rw [List.size_toArray, ← hl]; exact hz
  have hcap : ¬ its.toArray.size * k.toNat > (2 ^ 63 - 1) / 8 := by
    have : (sizeLine : Nat) ≤ (2 ^ 63 - 1) / 8 := by decide
    omega
  have hfit : ¬ (!Builtin.List.listFitsIndex k) = true := by
    rw [fitsIndex_both h1 h2]
    exact Bool.false_ne_true
  have hlong : ¬ Builtin.List.listTooLong (its.toArray.size * k.toNat) = true := by
    rw [notLongL hlen]
    exact Bool.false_ne_true
  have hnew : List.foldl (fun x1 x2 => x1 ++ x2) #[] (List.replicate (if its.toArray.isEmpty = true then 0 else k.toNat) its.toArray) = (List.replicate k.toNat its).flatten.toArray := by
    have f0 : ∀ m : Nat, List.foldl (fun x1 x2 => x1 ++ x2) #[] (List.replicate m its.toArray) = (List.replicate m its).flatten.toArray := fun m => by
      have := foldl_rep its m []
      rw [List.nil_append] at this
      exact this
    rw [f0]
    cases its with
    | nil => simp
    | cons a r' => rw [if_neg (by simp)]
  refine wpAny_binaryOp_repeat_ref (T := "list") (U := "int") (by decide) ⟨_, e, rfl⟩ (fun s' => typeIs_int s' k t) noFill_list_mul F.fills_int_mul F.slot_int_rmul repeat_list F.slot_int_index.lookup
    (call_meets F.slot_int_rmul (typeIs_int s k t) F.entry_int_rmul (F.args_int_rmul_2 _ _) (int___rmul___int_list k t l its.toArray n)
      ⟨e, rfl, ⟨_, e, rfl⟩, call_meets F.slot_list_mul ⟨_, e, rfl⟩ F.entry_list_mul (F.args_list_mul_2 _ _) (AutoListH.list___mul___list_int_3 l its.toArray n k t hfit hcap hlong) ⟨e, ?_⟩⟩)
  rw [hnew]
  exact ⟨.ref _, _, I.lnew (t' := s.toks) (r.rep k.toNat) (by rw [len_rep, Nat.mul_comm]; exact hz), rfl, q _ I.fresh⟩

/-! ### del xs[i] -/
end

/-! ### xs[a:b] = ys -/
section
variable {prog : Program} {w : World} {A : Around} {E : Value → Shared → Prop} {s : Shared}
theorem splice_eq (its its2 : List Value) (a c : Nat) : its.toArray.extract 0 a ++ its2.toArray ++ its.toArray.extract c its.toArray.size = (its.take a ++ its2 ++ its.drop c).toArray := by
  apply Array.toList_inj.mp
  first
    | (simp
       exact List.take_of_length_le (by simp))
    | simp [List.take_of_length_le]
    | simp
theorem bounds_run {a c n : Nat} (hac : a ≤ c) (hc : c ≤ n) : sliceBounds (some (a : Int)) (some (c : Int)) none n = ((a : Int), (c : Int), 1) := by
  simp only [sliceBounds, Option.getD_none]
  have h1 : ¬ ((a : Int) < 0) := by omega
  have h2 : ¬ ((c : Int) < 0) := by omega
  simp only [h1, h2, if_false, show (1 : Int) > 0 by decide, if_true]
  congr 1
  · omega
  · congr 1; omega
set_option maxRecDepth 100000 in
/-- list.__setitem__ with a slice of step one and another list -/
theorem setItem_slice {l b sl : Addr} {items new : Array Value} {n n2 : Nat} {vl vu : Value} {a c : Nat} {Q : Unit → Shared → Prop}
    (e : s.heap.get? l = some { cls := .type "list", data := .seq items n }) (e2 : s.heap.get? b = some { cls := .type "list", data := .seq new n2 }) (hne : l ≠ b)
    (hs : s.heap.IsSliceOf sl vl vu .none) (pl : IsPart vl (some (a : Int))) (pu : IsPart vu (some (c : Int))) (hac : a ≤ c) (hc : c ≤ items.size)
    (hsz : items.size + new.size ≤ sizeLine) (h : Q () { s with heap := s.heap.update l (Obj.mapSeq fun xs => xs.extract 0 a ++ new ++ xs.extract c xs.size) }) :
    wpAny (model prog w) A (setItem (.ref l) (.ref sl) (.ref b)) Q E s := by
  have hl : s.heap.IsList l items := PySem.IsL.isList e
  have hb : s.heap.IsList b new := PySem.IsL.isList e2
  obtain ⟨os, hos, hcs, hds⟩ := id hs
  have hTs : s.TypeIs (.ref sl) "slice" := ⟨os, hos, hcs⟩
  have hstep : ¬ ((rawPart none == rawInt 0) = true) := Bool.false_ne_true
  have hsame : Builtin.List.listSameRef (.ref l) (.ref b) = false := by
    unfold Builtin.List.listSameRef
    exact beq_eq_false_iff_ne.mpr hne
  have hmax : (max (a : Int) (c : Int)).toNat = c := by omega
  have hz' : ((fun xs : Array Value => xs.extract 0 a ++ new ++ xs.extract c xs.size) items).size ≤ sizeLine + 1 := by
    simp only [Array.size_append, Array.size_extract]
    omega
  unfold setItem
  try with_reducible refine wpAny_holding ?_
  first | refine wpAny_bind (wpAny_pure ?_) | skip
  refine wpAny_bind (wpAny_sequenceKey hl.typeIs (by decide) ?_)
  refine wpAny_bind (wpAny_callSpecial?_slot (name := Str.ofString "__setitem__") hl.typeIs slot_list_setitem
    (wpAny_call_entry slot_list_setitem hl.typeIs entry_list_setitem ?_ (args_list_setitem _ _ _)))
  show wpAny _ _ (Builtin.List.listSubscript? (.ref sl) >>= _) _ _ s
  refine wpAny_bind ?_
  unfold Builtin.List.listSubscript?
  refine wpAny_bind (wpAny_specialOf hTs slice_no_index ?_)
  simp only [Option.isNone_none, if_true]
  refine wpAny_pure ?_
  show wpAny _ _ (typeOf (.ref sl) >>= _) _ _ s
  refine wpAny_bind (wpAny_typeOf hTs ?_)
  first
    | rw [if_neg (by decide)]
    | refine PySem.W.KFB.if_not (by decide) ?_
  rw [listSliceParts_eq]
  refine wpAny_bind (wpAny_bind (wpAny_field hos hds (x := .none) rfl (wpAny_bind (wpAny_listPart .none ?_))))
  rw [if_neg hstep]
  refine wpAny_bind (wpAny_field hos hds (x := vl) rfl (wpAny_bind (wpAny_listPart pl ?_)))
  refine wpAny_bind (wpAny_field hos hds (x := vu) rfl (wpAny_bind (wpAny_listPart pu (wpAny_pure ?_))))
  first
    | simp only [hsame, Bool.false_eq_true, if_false]
    | refine PySem.W.KFB.if_not hsame ?_
    | (dsimp only
       rw [if_neg (by rw [hsame]; exact Bool.false_ne_true)])
  refine wpAny_bind (m := Builtin.List.listAllItems (.ref b) "must assign iterable to extended slice") ?_
  unfold Builtin.List.listAllItems
  refine wpAny_bind (wpAny_typeOf hb.typeIs ?_)
  first
    | refine PySem.W.KFB.if_so (by decide) ?_
    | rw [if_pos (by decide)]
    | simp only [beq_self_eq_true, Bool.true_or, if_true]
  unfold Builtin.List.listItems
  refine wpAny_bind (wpAny_seqItems e2 rfl (wpAny_pure ?_))
  refine wpAny_bind (wpAny_bind (wpAny_seqItems e rfl (wpAny_pure ?_)))
  refine wpAny_bind (wpAny_of_eq ((sliceIndices_raw (some (a : Int)) (some (c : Int)) none items.size (by simp)).trans (congrArg (pure : Int × Int × Int → Sem (Int × Int × Int)) (bounds_run hac hc))) ?_)
  show wpAny _ _ (if ((1 : Int) == 1) = true then _ else _) _ _ s
  rw [if_pos (by decide)]
  refine wpAny_bind (wpAny_rule ?_)
  first
    | simp only [notLongL hsz, Bool.false_eq_true, if_false]
    | refine PySem.W.KFB.if_not (notLongL hsz) ?_
  first | refine wpAny_bind (wpAny_pure ?_) | skip
  show wpAny _ _ (updateSeq l (fun xs => xs.extract 0 ((a : Int)).toNat ++ new ++ xs.extract (max (a : Int) (c : Int)).toNat xs.size) >>= _) _ _ s
  rw [hmax, Int.toNat_natCast]
  refine wpAny_bind (wpAny_updateSeq (hz := Nat.le_trans (Nat.le_add_right _ _) hsz) (_hz' := hz') e rfl ?_)
  refine wpAny_bind (wpAny_letGo ?_)
  first
    | exact wpAny_bind (wpAny_pure (wpAny_pure ⟨.none, rfl, wpAny_pure h⟩))
    | exact wpAny_pure ⟨.none, rfl, wpAny_pure h⟩
end

section
variable {X : Cx}
/-- xs[a:c] = ys of another list, at the value level: sl is the slice object that was just made -/
theorem set_slice {pins : List (Addr × Obj)} {s : Shared} {σ : St} {H : Hp} {l b sl : Addr} {xs ys : List V} {a c : Int} {vl vu : Value} {Q : Unit → Shared → Prop} (I : Inv X pins σ H s)
    (hH : H l = some (.lst xs)) (hB : H b = some (.lst ys)) (hne : l ≠ b) (hs : s.heap.IsSliceOf sl vl vu .none) (ra : RelV (.int a) vl) (rc : RelV (.int c) vu) (h0 : 0 ≤ a) (hac : a ≤ c) (hc : c ≤ xs.length)
    (hz : xs.length + ys.length ≤ sizeLine) (h : ∀ s', Inv X pins σ (upd H l (.lst (xs.take a.toNat ++ ys ++ xs.drop c.toNat))) s' → Q () s') :
    wpAny (model X.prog X.w) X.A (setItem (.ref l) (.ref sl) (.ref b)) Q X.xe s := by
  obtain ⟨ta, rfl⟩ := ra
  obtain ⟨tc, rfl⟩ := rc
  obtain ⟨z, its, n, r, hl, e⟩ := I.lstM hH
  obtain ⟨z2, its2, n2, r2, hl2, e2⟩ := I.lstM hB
  obtain ⟨a', rfl⟩ := Int.eq_ofNat_of_zero_le h0
  obtain ⟨c', rfl⟩ := Int.eq_ofNat_of_zero_le (Int.le_trans h0 hac)
  simp only [Int.toNat_natCast] at h
  refine setItem_slice (a := a') (c := c') e e2 hne hs (.int _ _) (.int _ _) (by omega) (by rw [List.size_toArray]; omega) (by rw [List.size_toArray, List.size_toArray]; omega) (h _ ?_)
  refine I.lset (its' := its.take a' ++ its2 ++ its.drop c') (t' := s.toks) hH e ?_ (Vals.append (Vals.append (r.take _) r2) (r.drop _)) ?_
  · exact splice_eq its its2 a' c'
  · rw [List.length_append, List.length_append, List.length_take, List.length_drop]
    omega
end
end L2

namespace L2
open PySem PySem.Spec PyProof.Rows

theorem Vals.ints : ∀ {ns : List Int} {us : List Value}, Vals (ns.map V.int) us → IntsAre us ns
  | [], us, h => by
    rw [List.map_nil] at h
    cases h
    exact IntsAre.nil
  | n :: ns, us, h => by
    rw [List.map_cons] at h
    cases h with
    | cons r t =>
      obtain ⟨k, rfl⟩ := r
      exact IntsAre.cons n k (Vals.ints t)
theorem Vals.strs : ∀ {xs : List Str} {us : List Value}, Vals (xs.map V.str) us → StrsAre us xs
  | [], us, h => by
    rw [List.map_nil] at h
    cases h
    exact StrsAre.nil
  | x :: xs, us, h => by
    rw [List.map_cons] at h
    cases h with
    | cons r t =>
      obtain ⟨k, rfl⟩ := r
      exact StrsAre.cons x k (Vals.strs t)
theorem Vals.ref1 {a : Addr} {us : List Value} (r : Vals [V.ref a] us) : us = [Value.ref a] := by
  cases r with
  | cons r t =>
    cases t
    cases r
    rfl

/-! ### the library's walks over a list of ints, kept objects alone -/
section
variable {prog : Program} {w : World} {A : Around} {E : Value → Shared → Prop} {s : Shared} {l : Addr} {its : List Value} {ns : List Int} {Q : Value → Shared → Prop}
theorem max_raw (hh : A.handled = none) (hl : s.heap.IsList l its.toArray) (hi : IntsAre its ns) (hne : 0 < ns.length)
    (h : ∀ h' tk M t', (∀ b o, s.heap.get? b = some o → h'.get? b = some o) → M ∈ ns → (∀ a, a ∈ ns → a ≤ M) → Q (.int M t') { s with heap := h', toks := tk }) : wpAny (model prog w) A (call (.builtin "max") [.ref l]) Q E s := by
  obtain ⟨xs, e⟩ := hi.allInts.items
  have hn : numsOf (intItems xs).toList = ns := by rw [← e]; exact hi.numsOf
  rw [nums_intItems] at hn
  subst hn
  rw [e] at hl
  have hsz : 0 < xs.size := by simpa using hne
  refine PySem.max_intList hh hl hsz fun v h' tk hv hk => ?_
  obtain ⟨t, rfl⟩ := intItems_at hv
  obtain ⟨h1, h2⟩ := argBest_gt (numAt xs) (xs.size - 1)
  refine h h' tk _ t hk ?_ fun a ha => ?_
  · rw [numAt_eq]; exact PySem.getD_mem (by rw [List.length_map, Array.length_toList]; omega)
  · obtain ⟨j, hj, rfl⟩ := mem_getD ha
    rw [List.length_map, Array.length_toList] at hj
    rw [← numAt_eq]; exact h2 j (by omega)
theorem min_raw (hh : A.handled = none) (hl : s.heap.IsList l its.toArray) (hi : IntsAre its ns) (hne : 0 < ns.length)
    (h : ∀ h' tk M t', (∀ b o, s.heap.get? b = some o → h'.get? b = some o) → M ∈ ns → (∀ a, a ∈ ns → M ≤ a) → Q (.int M t') { s with heap := h', toks := tk }) : wpAny (model prog w) A (call (.builtin "min") [.ref l]) Q E s := by
  obtain ⟨xs, e⟩ := hi.allInts.items
  have hn : numsOf (intItems xs).toList = ns := by rw [← e]; exact hi.numsOf
  rw [nums_intItems] at hn
  subst hn
  rw [e] at hl
  have hsz : 0 < xs.size := by simpa using hne
  refine PySem.min_intList hh hl hsz fun v h' tk hv hk => ?_
  obtain ⟨t, rfl⟩ := intItems_at hv
  obtain ⟨h1, h2⟩ := argBest_lt (numAt xs) (xs.size - 1)
  refine h h' tk _ t hk ?_ fun a ha => ?_
  · rw [numAt_eq]; exact PySem.getD_mem (by rw [List.length_map, Array.length_toList]; omega)
  · obtain ⟨j, hj, rfl⟩ := mem_getD ha
    rw [List.length_map, Array.length_toList] at hj
    rw [← numAt_eq]; exact h2 j (by omega)
end

/-! ### the calls, by values (CallR of 03t; MtR of 06l) -/
section
variable {X : Cx}
/-- max(xs), min(xs) of a list of ints -/
def rMax (K : PySem.W.Frag) : List V → Hp → VK → Prop := fun vs H Q => ∃ (a : Addr) (ns : List Int), vs = [V.ref a] ∧ SqL K H a (ns.map V.int) ∧ 0 < ns.length ∧ ∀ m, m ∈ ns → (∀ y, y ∈ ns → y ≤ m) → Q (.int m) H
def rMin (K : PySem.W.Frag) : List V → Hp → VK → Prop := fun vs H Q => ∃ (a : Addr) (ns : List Int), vs = [V.ref a] ∧ SqL K H a (ns.map V.int) ∧ 0 < ns.length ∧ ∀ m, m ∈ ns → (∀ y, y ∈ ns → m ≤ y) → Q (.int m) H
theorem cr_max (hc : X.calm = true) : CallR X (.builtin "max") (rMax X.K) := by
  intro pins s σ H vs us Q I r h
  obtain ⟨a, ns, rfl, hs, hne, q⟩ := h
  obtain ⟨its, rv, hl, _⟩ := I.list hs
  rw [Vals.ref1 r]
  exact max_raw (I.ok.hd hc) hl.isList rv.ints hne fun h' tk m t' hk h1 h2 => ⟨.int _, H, I.kept hk, ⟨_, rfl⟩, q m h1 h2⟩
theorem cr_min (hc : X.calm = true) : CallR X (.builtin "min") (rMin X.K) := by
  intro pins s σ H vs us Q I r h
  obtain ⟨a, ns, rfl, hs, hne, q⟩ := h
  obtain ⟨its, rv, hl, _⟩ := I.list hs
  rw [Vals.ref1 r]
  exact min_raw (I.ok.hd hc) hl.isList rv.ints hne fun h' tk m t' hk h1 h2 => ⟨.int _, H, I.kept hk, ⟨_, rfl⟩, q m h1 h2⟩

/-! sorted, sort (fewer than 64 items: the library's own bound) -/
end

/-! ### list.index, flat items -/
section
variable {X : Cx}
end

/-! ### type(x) of an own instance; is, is not of a module's class -/
section
variable {X : Cx}
end

/-! ### any(xs), all(xs) of a list of bools -/
section
variable {X : Cx}
end

/-! ### == and != of data at any depth: none, bools, ints, texts, lists, tuples -/
mutual
inductive Dp (K : PySem.W.Frag) (H : Hp) : V → PyData → Prop
  | non : Dp K H .non .none
  | bl (b : Bool) : Dp K H (.bl b) (.bool b)
  | int (i : Int) : Dp K H (.int i) (.int i)
  | str (x : Str) : Dp K H (.str x) (.str x)
  | lst {a : Addr} {xs : List V} {ds : List PyData} : SqL K H a xs → DpAll K H xs ds → Dp K H (.ref a) (.list ds)
  | tup {a : Addr} {xs : List V} {ds : List PyData} : SqT K H a xs → DpAll K H xs ds → Dp K H (.ref a) (.tuple ds)
inductive DpAll (K : PySem.W.Frag) (H : Hp) : List V → List PyData → Prop
  | nil : DpAll K H [] []
  | cons {v : V} {vs : List V} {d : PyData} {ds : List PyData} : Dp K H v d → DpAll K H vs ds → DpAll K H (v :: vs) (d :: ds)
end
section
variable {X : Cx} {pins : List (Addr × Obj)} {σ : St} {H : Hp} {s : Shared}
mutual
theorem Dp.reads (I : Inv X pins σ H s) : ∀ (d : PyData) (v : V) (u : Value), Dp X.K H v d → RelV v u → ∃ as, Reads s.heap u d as
  | .none, _, _, h, r => by
    cases h
    cases r
    exact ⟨_, Reads.none⟩
  | .bool b, _, _, h, r => by
    cases h
    cases r
    exact ⟨_, Reads.bool b⟩
  | .int i, _, _, h, r => by
    cases h
    obtain ⟨t, rfl⟩ := r
    exact ⟨_, Reads.int i t⟩
  | .str x, _, _, h, r => by
    cases h
    obtain ⟨t, rfl⟩ := r
    exact ⟨_, Reads.str x t⟩
  | .list ds, _, _, h, r => by
    cases h with
    | lst hs ha =>
      cases r
      obtain ⟨its, rv, ⟨o, n, ho, hc, _, hd⟩, _⟩ := I.list hs
      obtain ⟨as, hr⟩ := Dp.readsAll I ds _ its ha rv
      exact ⟨_, Reads.list ho hc hd hr⟩
  | .tuple ds, _, _, h, r => by
    cases h with
    | tup hs ha =>
      cases r
      obtain ⟨its, rv, ⟨o, ho, hc, n, hd⟩, _⟩ := I.tuple hs
      obtain ⟨as, hr⟩ := Dp.readsAll I ds _ its ha rv
      exact ⟨_, Reads.tuple ho hc hd hr⟩
  | .dict _, _, _, h, _ => by cases h
theorem Dp.readsAll (I : Inv X pins σ H s) : ∀ (ds : List PyData) (vs : List V) (us : List Value), DpAll X.K H vs ds → Vals vs us → ∃ as, ReadsAll s.heap us ds as
  | [], _, _, h, r => by
    cases h
    cases r
    exact ⟨_, ReadsAll.nil⟩
  | d :: ds, _, _, h, r => by
    cases h with
    | cons h1 h2 =>
      cases r with
      | cons r1 r2 =>
        obtain ⟨as, q1⟩ := Dp.reads I d _ _ h1 r1
        obtain ⟨bs, q2⟩ := Dp.readsAll I ds _ _ h2 r2
        exact ⟨_, ReadsAll.cons q1 q2⟩
end
end
section
variable {X : Cx}
end
end L2

namespace L2
open PySem PySem.Spec PyProof.Rows
abbrev CellAt (h : Heap) (c : Addr) (v : Option Value) : Prop := h.IsCell c v
def relS (scope sc : Scope) : Scope :=
  { scope with names := scope.names.map fun (n, k) => if (k == .free && sc.kind == .function && sc.names.lookup n == some .cell) then (n, .cell) else (n, k) }

def cloFrom (cells : List (Str × Addr)) : List (Str × NameKind) → List (Str × Addr) → List (Str × Addr)
  | [], acc => acc
  | (n, k) :: r, acc => if k == .free then cloFrom cells r ((n, (cells.lookup n).getD 0) :: acc) else cloFrom cells r acc

theorem closure_loop (env : Env) (f : Str × NameKind → List (Str × Addr) → Sem (ForInStep (List (Str × Addr))))
    (hf : ∀ n k c, f (n, k) c = if k == .free then (do let a ← cellOf env n; pure (.yield ((n, a) :: c))) else pure (.yield c)) :
    ∀ (names : List (Str × NameKind)) (acc : List (Str × Addr)), (∀ y ∈ names, y.2 = .free → ∃ c, env.cells.lookup y.1 = some c) → forIn names acc f = pure (cloFrom env.cells names acc)
  | [], acc, _ => by rw [List.forIn_nil]; rfl
  | (n, k) :: r, acc, h => by
    rw [List.forIn_cons, hf]
    have ih := fun acc => closure_loop env f hf r acc fun y hy => h y (List.mem_cons_of_mem _ hy)
    unfold cloFrom
    by_cases hk : (k == NameKind.free) = true
    · rw [if_pos hk, if_pos hk]
      obtain ⟨c, hc⟩ := h (n, k) List.mem_cons_self (by simpa using hk)
      have e : cellOf env n = pure c := by unfold cellOf; rw [hc]
      rw [e]
      have e2 : (env.cells.lookup n).getD 0 = c := by rw [hc]; rfl
      rw [e2]
      exact ih _
    · rw [if_neg hk, if_neg hk]
      exact ih _
theorem closure_ok {scope : Scope} {env : Env} (h : ∀ y ∈ scope.names, y.2 = .free → ∃ c, env.cells.lookup y.1 = some c) : closureFor scope env = pure (cloFrom env.cells scope.names []) := by
  simp only [closureFor]
  rw [closure_loop env _ (fun n k c => rfl) scope.names [] h]
  rfl

theorem mem_lookup {α : Type} : ∀ {l : List (Str × α)} {n : Str} {c : α}, (n, c) ∈ l → ∃ c', l.lookup n = some c'
  | (k, v) :: r, n, c, h => by
    rw [List.lookup_cons]
    cases hb : n == k with
    | true => exact ⟨_, rfl⟩
    | false =>
      rcases List.mem_cons.mp h with e | h
      · cases e; simp at hb
      · exact mem_lookup h

theorem cloFrom_mem {cells : List (Str × Addr)} : ∀ {names : List (Str × NameKind)} {acc : List (Str × Addr)} {n : Str} {c : Addr}, (n, c) ∈ cloFrom cells names acc → (n, c) ∈ acc ∨ ((n, .free) ∈ names ∧ c = (cells.lookup n).getD 0)
  | [], _, _, _, h => .inl h
  | (m, k) :: r, acc, n, c, h => by
    unfold cloFrom at h
    split at h
    · rename_i hk
      have hk : k = .free := by simpa using hk
      rcases cloFrom_mem h with h | ⟨h1, h2⟩
      · rcases List.mem_cons.mp h with e | h
        · cases e; exact .inr ⟨hk ▸ List.mem_cons_self, rfl⟩
        · exact .inl h
      · exact .inr ⟨List.mem_cons_of_mem _ h1, h2⟩
    · rcases cloFrom_mem h with h | ⟨h1, h2⟩
      · exact .inl h
      · exact .inr ⟨List.mem_cons_of_mem _ h1, h2⟩
theorem cloFrom_acc {cells : List (Str × Addr)} : ∀ {names : List (Str × NameKind)} {acc : List (Str × Addr)} {p : Str × Addr}, p ∈ acc → p ∈ cloFrom cells names acc
  | [], _, _, h => h
  | (m, k) :: r, acc, p, h => by
    unfold cloFrom
    split
    · exact cloFrom_acc (List.mem_cons_of_mem _ h)
    · exact cloFrom_acc h
theorem cloFrom_has {cells : List (Str × Addr)} : ∀ {names : List (Str × NameKind)} {acc : List (Str × Addr)} {n : Str}, (n, .free) ∈ names → (n, (cells.lookup n).getD 0) ∈ cloFrom cells names acc
  | (m, k) :: r, acc, n, h => by
    unfold cloFrom
    rcases List.mem_cons.mp h with e | h
    · cases e
      exact cloFrom_acc List.mem_cons_self
    · split
      · exact cloFrom_has h
      · exact cloFrom_has h

theorem cells_mem : ∀ {names : List (Str × NameKind)} {h : Heap} {acc : List (Str × Addr)} {x : Str} {c : Addr}, (x, c) ∈ cellsFrom h.objs.size names acc →
    (x, c) ∈ acc ∨ ((x, .cell) ∈ names ∧ h.objs.size ≤ c ∧ CellAt (pushCells h names) c none)
  | [], _, _, _, _, h => .inl h
  | (n, k) :: r, h, acc, x, c, hm => by
    unfold cellsFrom at hm
    unfold pushCells
    split at hm
    · rename_i hk
      rw [if_pos hk]
      have hk : k = .cell := by simpa using hk
      rw [← Heap.size_push h { cls := .type "cell", data := .cell none }] at hm
      rcases cells_mem hm with hm | ⟨h1, h2, h3⟩
      · rcases List.mem_cons.mp hm with e | hm
        · cases e
          exact .inr ⟨hk ▸ List.mem_cons_self, Nat.le_refl _, _, pushCells_keeps r _ _ _ (Heap.get?_push_size _ rfl), rfl⟩
        · exact .inl hm
      · rw [Heap.size_push] at h2
        exact .inr ⟨List.mem_cons_of_mem _ h1, Nat.le_of_succ_le h2, h3⟩
    · rename_i hk
      rw [if_neg hk]
      rcases cells_mem hm with hm | ⟨h1, h2, h3⟩
      · exact .inl hm
      · exact .inr ⟨List.mem_cons_of_mem _ h1, h2, h3⟩
theorem cells_acc : ∀ {names : List (Str × NameKind)} {n : Nat} {acc : List (Str × Addr)} {p : Str × Addr}, p ∈ acc → p ∈ cellsFrom n names acc
  | [], _, _, _, h => h
  | (m, k) :: r, n, acc, p, h => by
    unfold cellsFrom
    split
    · exact cells_acc (List.mem_cons_of_mem _ h)
    · exact cells_acc h
theorem cells_has : ∀ {names : List (Str × NameKind)} {n : Nat} {acc : List (Str × Addr)} {x : Str}, (x, .cell) ∈ names → ∃ c, (x, c) ∈ cellsFrom n names acc
  | (m, k) :: r, n, acc, x, h => by
    unfold cellsFrom
    rcases List.mem_cons.mp h with e | h
    · cases e
      exact ⟨n, cells_acc List.mem_cons_self⟩
    · split
      · exact cells_has h
      · exact cells_has h
theorem cells_inj : ∀ {names : List (Str × NameKind)} {h : Heap} {acc : List (Str × Addr)} {x y : Str} {c : Addr}, (∀ p ∈ acc, p.2 < h.objs.size) → (∀ x y c, (x, c) ∈ acc → (y, c) ∈ acc → x = y) →
    (x, c) ∈ cellsFrom h.objs.size names acc → (y, c) ∈ cellsFrom h.objs.size names acc → x = y
  | [], _, _, _, _, _, _, hi, h1, h2 => hi _ _ _ h1 h2
  | (n, k) :: r, h, acc, x, y, c, hl, hi, h1, h2 => by
    unfold cellsFrom at h1 h2
    split at h1
    · rename_i hk
      rw [if_pos hk] at h2
      rw [← Heap.size_push h { cls := .type "cell", data := .cell none }] at h1 h2
      refine cells_inj (h := h.push _) (fun p hp => ?_) (fun x y c a b => ?_) h1 h2
      · rw [Heap.size_push]
        rcases List.mem_cons.mp hp with rfl | hp
        · exact Nat.lt_succ_self _
        · exact Nat.lt_succ_of_lt (hl p hp)
      · rcases List.mem_cons.mp a with e | a <;> rcases List.mem_cons.mp b with e' | b
        · cases e; cases e'; rfl
        · cases e; exact absurd (hl _ b) (Nat.lt_irrefl _)
        · cases e'; exact absurd (hl _ a) (Nat.lt_irrefl _)
        · exact hi _ _ _ a b
    · rename_i hk
      rw [if_neg hk] at h2
      exact cells_inj hl hi h1 h2

theorem newEnv_comp {M : Model} {A : Around} {E : Value → Shared → Prop} {s : Shared} {scope : Scope} {globals : Addr} {closure : List (Str × Addr)} {qual : Str} {func : Option Addr} {code : Value} {around : Env} {builtins : Addr} {Q : Env → Shared → Prop}
    (h : Q (newEnv scope s.heap.objs.size globals (cellsFrom (s.heap.objs.size + 1) scope.names closure) qual func code (some around) builtins)
      { s with heap := pushCells (s.heap.push { cls := .type "dict", data := .dict #[] }) scope.names }) :
    wpAny M A (newFunctionEnv scope globals closure [] qual func code (some around) builtins) Q E s := by
  simp only [newFunctionEnv, Option.isSome_some, if_true]
  refine wpAny_bind (wpAny_alloc ?_)
  refine wpAny_bind (wpAny_layCells _ (fun n k c => rfl) scope.names closure _ _ ?_)
  rw [show ({ s with heap := s.heap.push { cls := .type "dict", data := .dict #[] } } : Shared).heap.objs.size = s.heap.objs.size + 1 from Heap.size_push ..]
  rw [List.forIn_nil]
  exact wpAny_bind (wpAny_pure (wpAny_pure h))

/-- every name of the written scope, in the scope that runs -/
theorem lookup_relS {sc : Scope} : ∀ {names : List (Str × NameKind)} {x : Str} {k : NameKind},
    (names.map fun (n, k) => if (k == NameKind.free && sc.kind == .function && sc.names.lookup n == some .cell) then (n, NameKind.cell) else (n, k)).lookup x = some k →
    ∃ k', names.lookup x = some k' ∧ (k = k' ∨ (k' = .free ∧ k = .cell))
  | [], _, _, h => by simp at h
  | (n, k₀) :: r, x, k, h => by
    have ih := @lookup_relS sc r x k
    have h' : List.lookup x ((if (k₀ == NameKind.free && sc.kind == .function && sc.names.lookup n == some .cell) = true then (n, NameKind.cell) else (n, k₀)) :: (r.map _)) = some k := h
    cases hx : x == n with
    | true =>
      simp only [List.lookup_cons, hx]
      by_cases hc : (k₀ == NameKind.free && sc.kind == .function && sc.names.lookup n == some .cell) = true
      · rw [if_pos hc] at h'
        simp only [List.lookup_cons, hx] at h'
        cases h'
        simp only [Bool.and_eq_true, beq_iff_eq] at hc
        exact ⟨k₀, rfl, .inr ⟨hc.1.1, rfl⟩⟩
      · rw [if_neg hc] at h'
        simp only [List.lookup_cons, hx] at h'
        cases h'
        exact ⟨_, rfl, .inl rfl⟩
    | false =>
      simp only [List.lookup_cons, hx]
      by_cases hc : (k₀ == NameKind.free && sc.kind == .function && sc.names.lookup n == some .cell) = true
      · rw [if_pos hc] at h'
        simp only [List.lookup_cons, hx] at h'
        exact ih h'
      · rw [if_neg hc] at h'
        simp only [List.lookup_cons, hx] at h'
        exact ih h'



/-- the names of a comprehension's block: its own (with their places in N), or captured -/
structure BlkOk (N : List Str) (sc scope : Scope) (own : List (Str × Nat)) : Prop where
  kind : scope.kind = .function
  uniq : ∀ y ∈ scope.names, scope.names.lookup y.1 = some y.2
  ix : ∀ p ∈ own, N[p.2]? = some p.1
  free : ∀ y ∈ scope.names, y.2 = .free → sc.names.lookup y.1 = some .cell ∨ sc.names.lookup y.1 = some .free
  own : ∀ y ∈ scope.names, y.2 = .local ∨ y.2 = .cell → y.1 ∈ own.map (·.1) ∨ y.1 ∉ N
/-- the slots of the block's own names forgotten -/
def wipe (σ : St) : List Nat → St
  | [] => σ
  | v :: vs => (wipe σ vs).set v none
theorem wipe_length (σ : St) : ∀ vs : List Nat, (wipe σ vs).length = σ.length
  | [] => rfl
  | v :: vs => by unfold wipe; rw [List.length_set, wipe_length σ vs]
theorem wipe_some {σ : St} {i : Nat} {x : V} : ∀ {vs : List Nat}, (wipe σ vs)[i]? = some (some x) → σ[i]? = some (some x) ∧ i ∉ vs
  | [], h => ⟨h, by simp⟩
  | v :: vs, h => by
    unfold wipe at h
    by_cases hi : v = i
    · subst hi
      by_cases hv : v < (wipe σ vs).length
      · rw [List.getElem?_set_self hv] at h; cases h
      · rw [List.getElem?_eq_none (by simpa using hv)] at h; cases h
    · rw [List.getElem?_set_ne hi] at h
      obtain ⟨h1, h2⟩ := wipe_some h
      exact ⟨h1, by simp only [List.mem_cons, not_or]; exact ⟨fun e => hi e.symm, h2⟩⟩

/-- the context of a block that starts at s, its iterator's objects at fp -/
abbrev Cx.blk (X : Cx) (s : Shared) (H : Hp) (scope : Scope) (cenv : Env) (fp : List Addr) : Cx := { X with s_0 := s, H_0 := H, env := cenv, outer := X.stack, ex := fp, fn := fun x => scope.names.lookup x == some .cell, pn := [], xe := fun _ _ => False }
section
variable {X : Cx} {pins : List (Addr × Obj)} {σ : St} {H : Hp} {s : Shared}
theorem block_start {scope : Scope} {own : List (Str × Nat)} {fp : List Addr} (I : Inv X pins σ H s) (ok : BlkOk X.N X.env.scope scope own) (hN : X.N.Nodup) (hfp : ∀ b ∈ fp, FpOk X pins H b ∧ b < s.heap.objs.size) :
    Inv (X.blk s H scope (compEnvC scope (cellsFrom (s.heap.objs.size + 1) scope.names (cloFrom X.env.cells scope.names [])) s.heap.objs.size X.env) fp) [] (wipe σ (own.map (·.2))) H { s with heap := pushCells (s.heap.push { cls := .type "dict", data := .dict #[] }) scope.names } := by
  have hfree : ∀ y ∈ scope.names, y.2 = .free → ∃ c, X.env.cells.lookup y.1 = some c := fun y hy e => by
    rcases ok.free y hy e with k | k
    · exact I.ok.has _ (.inl k)
    · exact I.ok.has _ (.inr k)
  generalize hcenv : compEnvC scope (cellsFrom (s.heap.objs.size + 1) scope.names (cloFrom X.env.cells scope.names [])) s.heap.objs.size X.env = cenv
  have kp : ∀ b o, s.heap.get? b = some o → (pushCells (s.heap.push { cls := .type "dict", data := .dict #[] }) scope.names).get? b = some o := fun b o e => pushCells_keeps _ _ _ _ (Heap.get?_push_of_some _ e)
  have hL : cenv.locals = s.heap.objs.size := by rw [← hcenv]; rfl
  have hcl : cenv.cells = cellsFrom (s.heap.objs.size + 1) scope.names (cloFrom X.env.cells scope.names []) := by rw [← hcenv]; rfl
  have hsc : cenv.scope = relS scope X.env.scope := by rw [← hcenv]; rfl
  rw [← Heap.size_push s.heap { cls := .type "dict", data := .dict #[] }] at hcl
  have cm : ∀ {y c}, (y, c) ∈ cloFrom X.env.cells scope.names [] → X.env.cells.lookup y = some c ∧ c < s.heap.objs.size := fun {y c} hm => by
    rcases cloFrom_mem hm with hm | ⟨h1, rfl⟩
    · cases hm
    · obtain ⟨c, hc⟩ := hfree _ h1 rfl
      rw [hc]
      obtain ⟨w, z⟩ := I.cell _ _ hc
      exact ⟨rfl, z.lt⟩
  have mem : ∀ {y c}, cenv.cells.lookup y = some c → (X.env.cells.lookup y = some c ∧ c < s.heap.objs.size) ∨ (s.heap.objs.size + 1 ≤ c ∧ CellAt (pushCells (s.heap.push { cls := .type "dict", data := .dict #[] }) scope.names) c none) := fun {y c} e => by
    rw [hcl] at e
    rcases cells_mem (PySem.mem_of_lookup e) with hm | ⟨_, h2, h3⟩
    · exact .inl (cm hm)
    · rw [Heap.size_push] at h2; exact .inr ⟨h2, h3⟩
  have look : ∀ {y}, scope.names.lookup y = some .free → ∃ c, cenv.cells.lookup y = some c ∧ X.env.cells.lookup y = some c := fun {y} hl => by
    have hy : (y, NameKind.free) ∈ scope.names := PySem.mem_of_lookup hl
    obtain ⟨c', e'⟩ := mem_lookup (cells_acc (names := scope.names) (n := (s.heap.push { cls := .type "dict", data := .dict #[] }).objs.size) (cloFrom_has (cells := X.env.cells) (acc := []) hy))
    rw [← hcl] at e'
    refine ⟨c', e', ?_⟩
    rw [hcl] at e'
    rcases cells_mem (PySem.mem_of_lookup e') with hm | ⟨h1, _, _⟩
    · exact (cm hm).1
    · have := ok.uniq _ h1
      rw [hl] at this; cases this
  have okB : (X.blk s H scope cenv fp).Ok := by
    refine ⟨I.ok.mod, by show cenv.scope.kind = _; rw [hsc]; exact ok.kind, by show cenv.globals = _; rw [← hcenv]; exact I.ok.glob, by show cenv.builtins = _; rw [← hcenv]; exact I.ok.blt, by show s.heap.objs.size ≤ cenv.locals; rw [hL]; exact Nat.le_refl _,
      fun y z c e1 e2 => ?_, fun y hy => ?_, fun y c z e => ?_, I.ok.hd, I.ok.frames, .inl rfl, fun b hb => ⟨?_, fun y c e z => ?_⟩, I.bs, Nat.le_trans I.ok.bsz I.sz, fun b o e hb => ?_, fun b hb z => ?_, I.stack, I.stkFree⟩
    · have e1 : cenv.cells.lookup y = some c := e1
      have e2 : cenv.cells.lookup z = some c := e2
      rw [hcl] at e1 e2
      refine cells_inj (fun p hp => ?_) (fun y z c a b => I.ok.inj y z c (cm a).1 (cm b).1) (PySem.mem_of_lookup e1) (PySem.mem_of_lookup e2)
      rw [Heap.size_push]
      exact Nat.lt_succ_of_lt (cm (y := p.1) (c := p.2) hp).2
    · show ∃ c, cenv.cells.lookup y = some c
      have key : ∀ k, cenv.kindOf y = some k → (k = .cell ∨ k = .free) → ∃ c, cenv.cells.lookup y = some c := fun k hk hk' => by
        unfold Env.kindOf at hk
        rw [hsc] at hk
        obtain ⟨k', e, r⟩ := lookup_relS hk
        have : k' = .cell ∨ k' = .free := by
          rcases r with rfl | ⟨rfl, _⟩
          · exact hk'
          · exact .inr rfl
        rcases this with rfl | rfl
        · obtain ⟨c, hm⟩ := cells_has (n := (s.heap.push { cls := .type "dict", data := .dict #[] }).objs.size) (acc := cloFrom X.env.cells scope.names []) (PySem.mem_of_lookup e)
          obtain ⟨c', e'⟩ := mem_lookup hm
          exact ⟨c', by rw [hcl]; exact e'⟩
        · obtain ⟨c, h1, _⟩ := look e
          exact ⟨c, h1⟩
      rcases hy with hy | hy
      · exact key _ hy (.inl rfl)
      · exact key _ hy (.inr rfl)
    · have z : (scope.names.lookup y == some NameKind.cell) = true := z
      have z : scope.names.lookup y = some .cell := by simpa using z
      have e : cenv.cells.lookup y = some c := e
      rw [hcl] at e
      rcases cells_mem (PySem.mem_of_lookup e) with hm | ⟨_, h2, _⟩
      · rcases cloFrom_mem hm with hm | ⟨h1, _⟩
        · cases hm
        · have q := ok.uniq _ h1
          rw [z] at q; cases q
      · rw [Heap.size_push] at h2
        exact Nat.le_of_succ_le h2
    · show b ≠ cenv.locals
      rw [hL]; exact Nat.ne_of_lt (hfp b hb).2
    · have e : cenv.cells.lookup y = some c := e
      rcases mem e with ⟨h1, _⟩ | ⟨h1, _⟩
      · exact (hfp b hb).1.2.2.2.2.1 y c h1 z
      · have h2 : s.heap.objs.size + 1 ≤ b := by rw [← z]; exact h1
        exact absurd (Nat.lt_of_lt_of_le (hfp b hb).2 (Nat.le_of_succ_le h2)) (Nat.lt_irrefl _)
    · rcases (hfp b hb).1.2.2.2.1 with z | z
      · exact I.ok.noex b o e z
      · exact absurd (Nat.lt_of_lt_of_le (Heap.lt_size e) (Nat.le_trans I.ok.bsz z)) (Nat.lt_irrefl _)
    · rcases List.mem_cons.mp (I.stkSub b z) with z | z
      · exact (hfp b hb).1.2.1 z
      · exact (hfp b hb).1.2.2.1 z
  refine ⟨okB, rfl, I.bare, Un.kept kp, ⟨fun _ => none, ?_, fun i y av e1 e2 e3 => ?_⟩, fun y c e => ?_, ?_, fun y c e => ?_, fun p hp => ?_, I.hok.kept kp, by rw [wipe_length]; exact I.len⟩
  · show Heap.Ns _ cenv.locals _
    rw [hL]
    exact Heap.Ns.keeps (Heap.Ns.new ..) fun b o e => pushCells_keeps _ _ _ _ e
  · obtain ⟨e2, hne⟩ := wipe_some e2
    have hfr : scope.names.lookup y = some .free ∧ (cenv.kindOf y = some .cell ∨ cenv.kindOf y = some .free) := by
      have key : ∀ k, cenv.scope.names.lookup y = some k → k = .local ∨ k = .cell ∨ k = .free → scope.names.lookup y = some .free ∧ (cenv.kindOf y = some .cell ∨ cenv.kindOf y = some .free) := fun k hk hk' => by
        have hk0 := hk
        rw [hsc] at hk
        obtain ⟨k', e, r⟩ := lookup_relS hk
        have no : ¬ (k' = .local ∨ k' = .cell) := fun hh => by
          rcases ok.own _ (PySem.mem_of_lookup e) hh with e' | e'
          · obtain ⟨p, hp, hpy⟩ := List.mem_map.mp e'
            have e3 := ok.ix p hp
            have : p.1 = y := hpy
            rw [this] at e3
            exact hne (List.mem_map.mpr ⟨p, hp, nodup_ix hN e3 e1⟩)
          · exact e' (List.mem_of_getElem? e1)
        rcases r with rfl | ⟨rfl, rfl⟩
        · rcases hk' with rfl | rfl | rfl
          · exact absurd (.inl rfl) no
          · exact absurd (.inr rfl) no
          · exact ⟨e, .inr hk0⟩
        · exact ⟨e, .inl hk0⟩
      have e3 : Vis cenv.scope y := e3
      rcases e3 with e3 | e3 | e3
      · exact key _ e3 (.inl rfl)
      · exact key _ e3 (.inr (.inl rfl))
      · exact key _ e3 (.inr (.inr rfl))
    obtain ⟨m, hn, hl⟩ := I.loc
    have hvis : Vis X.env.scope y := (ok.free _ (PySem.mem_of_lookup hfr.1) rfl).elim (fun k => .inr (.inl k)) (fun k => .inr (.inr k))
    obtain ⟨w, r, q⟩ := hl i y av e1 e2 hvis
    refine ⟨w, r, .inr ⟨hfr.2, ?_⟩⟩
    obtain ⟨c, h1, h2⟩ := look hfr.1
    rcases q with ⟨k, _⟩ | ⟨_, c', e', z⟩
    · have k : X.env.scope.names.lookup y = some .local := k
      rcases ok.free _ (PySem.mem_of_lookup hfr.1) rfl with k' | k' <;> rw [show X.env.scope.names.lookup y = _ from k'] at k <;> cases k
    · rw [h2] at e'; cases e'
      exact ⟨c, h1, z.keeps kp⟩
  · have e : cenv.cells.lookup y = some c := e
    rcases mem e with ⟨h1, _⟩ | ⟨_, z⟩
    · obtain ⟨w, z⟩ := I.cell y c h1
      exact ⟨w, z.keeps kp⟩
    · exact ⟨_, z⟩
  · show H cenv.locals = none
    rw [hL]; exact I.hok.fresh (Nat.le_refl _)
  · have e : cenv.cells.lookup y = some c := e
    rcases mem e with ⟨h1, _⟩ | ⟨h1, _⟩
    · exact I.freeC y c h1
    · exact I.hok.fresh (Nat.le_of_succ_le h1)
  · exact absurd (show p ∈ ([] : List (Addr × Obj)) ++ [] from hp) (by simp)

/-- an item appended to a tracked list -/
theorem app_ok {E : Value → Shared → Prop} {D : Addr} {xs : List V} {y : V} {v : Value} {Q : Value → Shared → Prop} (I : Inv X pins σ H s) (hD : H D = some (.lst xs)) (hz : xs.length < sizeLine) (r : RelV y v)
    (h : ∀ s', Inv X pins σ (upd H D (.lst (xs ++ [y]))) s' → Q .none s') : wpAny (model X.prog X.w) X.A (call (.builtin "list.append") [.ref D, v]) Q E s := by
  obtain ⟨hz', its, n, ri, e⟩ := I.hok D _ hD
  have hl := ri.length
  refine append_at (hsz := by rw [List.size_toArray]; omega) e fun h' sb ho' => ?_
  refine h { s with heap := h' } (I.write (t' := s.toks) (by rw [hD]; trivial) (.inl rfl) (fun b u hb q => (sb.2 b hb).trans q) ⟨_, ho'⟩ ⟨by rw [List.length_append]; exact hz, its ++ [v], n + 1, ri.append (.cons r .nil), ?_⟩)
  rw [ho']
  simp

/-- a clause's tests -/
def PTs (X : Cx) (ifs : List Expr) (t : TT) : Prop :=
  ∀ (pins : List (Addr × Obj)) (s : Shared) (σ : St) (H : Hp) (Q : Bool → Hp → Prop), Inv X pins σ H s → t σ H Q →
    wpAny (model X.prog X.w) X.A (forIn ifs true fun c r => if r = true then do let ok ← isTrue c X.env (eval c X.env); pure (ForInStep.yield ok) else pure (ForInStep.yield r)) (TP X pins σ Q) X.xe s
def tYes : TT := fun _ H Q => Q true H
theorem pts_nil : PTs X [] tYes := fun _ _ _ H _ I h => wpAny_tests_nil ⟨H, I, h⟩
theorem pts_one {c : Expr} {t : TT} (h : PT X c t) : PTs X [c] t := fun pins s σ H Q I hw => wpAny_tests_one (h pins s σ H Q I hw)
end

theorem thnF {α : Type} {t : Sem α} {Q Q' : α → Shared → Prop} {M : Model} {A : Around} {E : Value → Shared → Prop} {s : Shared} (h : wpAny M A t Q (fun _ _ => False) s) (hQ : ∀ a s, Q a s → Q' a s) : wpAny M A t Q' E s := wpAny_mono h hQ fun _ _ z => False.elim z

/-- the loop of a list comprehension's block, the target of any form (codeAny_compLoop_tests asks a target that no tuple goes to; statement and proof follow it, PyProof/CompMap.lean:41-61, with the step letOwnedTupleGo kept) -/
theorem compLoop_any {prog : Program} {w : World} {A : Around} {R : Result → Shared → Prop} {s : Shared} {elt target iter : Expr} {ifs : List Expr} {scope : Scope} {pos : Pos} {it acc : Value} {env : Env} (I : Nat → Shared → Prop)
    (turn : ∀ n s, I n s → wpAny (model prog w) A (pyNext it) (fun r s₁ => match r with
      | none => R (.ok .next) s₁
      | some v => wpAny (model prog w) A (letOwnedTupleGo target it v) (fun _ s₁' => wpAny (model prog w) A (assign target env v) (fun _ s₂ =>
          wpAny (model prog w) A (forIn ifs true fun c r => if r = true then do let ok ← isTrue c env (eval c env); pure (ForInStep.yield ok) else pure (ForInStep.yield r)) (fun ok s₃ =>
            if ok = true then wpAny (model prog w) A (eval elt env) (fun x s₄ =>
              wpAny (model prog w) A (call (.builtin "list.append") [acc, x]) (fun _ s₅ => ∃ m, m < n ∧ I m s₅) (notedBy (model prog w) A env fun e s' => R (.error e) s') s₄) (notedBy (model prog w) A env fun e s' => R (.error e) s') s₃
            else ∃ m, m < n ∧ I m s₃) (notedBy (model prog w) A env fun e s' => R (.error e) s') s₂) (notedBy (model prog w) A env fun e s' => R (.error e) s') s₁') (notedBy (model prog w) A env fun e s' => R (.error e) s') s₁) (notedBy (model prog w) A env fun e s' => R (.error e) s') s)
    (n : Nat) (h : I n s) :
    codeAny (model prog w) A (.compLoop (.ListComp elt [⟨target, iter, ifs, 0⟩] scope pos) 0 it acc env) R s := by
  refine codeAny_loop rfl I (fun n s hI => ?_) n h
  show wpAny _ A ((compTurn (.ListComp elt [⟨target, iter, ifs, 0⟩] scope pos) 0 it acc env).onRaise (fun x => do noteFrame x env; theTreesLotGoes x)) _ _ s
  refine wpAny_noted ?_
  rw [compTurn_list]
  refine wpAny_bind (wpAny_standAt (wpAny_bind (wpAny_mono (turn n s hI) (fun r s₁ h₁ => ?_) fun _ _ h' => h')))
  cases r with
  | none => exact wpAny_pure h₁
  | some v =>
    refine wpAny_bind (wpAny_mono h₁ (fun _ s₁' h₁' => ?_) fun _ _ h' => h')
    refine wpAny_bind (wpAny_mono h₁' (fun _ s₂ h₂ => wpAny_bind (wpAny_mono h₂ (fun ok s₃ h₃ => ?_) fun _ _ h' => h')) fun _ _ h' => h')
    cases ok with
    | false => exact wpAny_pure ⟨rfl, h₃⟩
    | true =>
      exact wpAny_bind (wpAny_bind (wpAny_mono h₃ (fun x s₄ h₄ => wpAny_bind (wpAny_mono h₄ (fun _ s₅ h₅ => wpAny_pure (wpAny_pure ⟨rfl, h₅⟩)) fun _ _ h' => h')) fun _ _ h' => h'))

section
variable {X : Cx}
/-- [elt for target in iter if ..]: D the new list; W by the turn and a measure, Nx what a turn is to reach -/
def tLc (wi : TI) (g : TG) (tt : TT) (te : TE) (vs : List Nat) : TE := fun σ H Q => wi σ H fun J H1 => ∀ D, H1 D = none → ∃ W : Nat → Nat → Hp → Prop, (∃ m, W 0 m (upd H1 D (.lst []))) ∧ ∀ i m H, W i m H →
  (J.stop i H ∧ Q (.ref D) H) ∨ (J.go i H ∧ ∃ Nx : Hp → Prop, (∀ H', Nx H' → ∃ m', m' < m ∧ W (i + 1) m' H') ∧ ∀ x H', J.yld i H x H' → g x (wipe σ vs) H' fun σ2 H2 => wipe σ2 vs = wipe σ vs ∧ tt σ2 H2 fun b H3 =>
    if b = true then te σ2 H3 fun y H4 => ∃ acc, H4 D = some (.lst acc) ∧ acc.length < sizeLine ∧ Nx (upd H4 D (.lst (acc ++ [y]))) else Nx H3)
theorem lc_core {pins : List (Addr × Obj)} {s : Shared} {σ : St} {H : Hp} {Q : VK} {elt tg iter : Expr} {ifs : List Expr} {scope : Scope} {own : List (Str × Nat)} {pos pos' : Pos} {wi : TI} {g : TG} {tt : TT} {te : TE} {use : Option (Value → Sem Unit)} {Qf : Value → Shared → Prop}
    (hc : X.calm = true) (hN : X.N.Nodup) (I : Inv X pins σ H s) (hi : PI X tg iter wi) (ok : BlkOk X.N X.env.scope scope own)
    (hg : ∀ (s : Shared) (H : Hp) (C : Addr) (cl : List (Str × Addr)) (fp : List Addr), PG (X.blk s H scope (compEnvC scope cl C X.env) fp) tg g) (ht : ∀ (s : Shared) (H : Hp) (C : Addr) (cl : List (Str × Addr)) (fp : List Addr), PTs (X.blk s H scope (compEnvC scope cl C X.env) fp) ifs tt)
    (he : ∀ (s : Shared) (H : Hp) (C : Addr) (cl : List (Str × Addr)) (fp : List Addr), PE (X.blk s H scope (compEnvC scope cl C X.env) fp) elt te) (hs : ∀ x, foldedSetIterable iter X.env x = pure x)
    (h : tLc wi g tt te (own.map (·.2)) σ H Q)
    (hRR : ∀ D C s' m H', Inv X pins σ H' s' → Q (.ref D) H' → s'.heap.Ns C m → FpOk X pins H' C → compPost (model X.prog X.w) X.A X.xe use Qf (.ref D) C (.ok .next) s') :
    wpAny (model X.prog X.w) X.A (comprehension (.ListComp elt [⟨tg, iter, ifs, 0⟩] scope pos) scope X.env pos' (newList []) false (eval iter X.env) use) Qf X.xe s := by
  have hfree : ∀ y ∈ scope.names, y.2 = .free → ∃ c, X.env.cells.lookup y.1 = some c := fun y hy e => by
    rcases ok.free y hy e with k | k
    · exact I.ok.has _ (.inl k)
    · exact I.ok.has _ (.inr k)
  refine wpAny_comprehension_free (use := use) rfl hs (closure_ok hfree) ok.kind (fun y hy e => by rw [ok.uniq y hy, e])
    (thn (hi pins s σ H _ I h) fun xv s1 hx => thn hx fun itv s2 h2 => ?_)
  obtain ⟨it, fp, tn, J, H2, e, I2, T, st2, f2, q⟩ := h2
  subst e
  refine wpAny_newObj_type (newEnv_comp ?_) (by show 0 ≤ sizeLine; decide)
  generalize hD : s2.heap.objs.size = D
  have hDn : H2 D = none := I2.hok.fresh (Nat.le_of_eq hD)
  obtain ⟨W, ⟨m0, w0⟩, turn⟩ := q D hDn
  -- the new list
  generalize hs3 : ({ s2 with heap := s2.heap.push { cls := .type "list", data := .seq ([] : List Value).toArray } } : Shared) = s3
  have I3 : Inv X pins σ (upd H2 D (.lst [])) s3 := by
    rw [← hs3]
    refine I2.laid (t' := s2.toks) (fun b o e => Heap.get?_push_of_some _ e) (Nat.le_of_eq hD) ⟨Nat.zero_le _, [], 0, .nil, ?_⟩
    rw [← hD]
    exact Heap.get?_push_size _ rfl
  have h3 : s3.heap = s2.heap.push { cls := .type "list", data := .seq ([] : List Value).toArray } := by rw [← hs3]
  have sz : ∀ b ∈ fp, b < s2.heap.objs.size := fun b hb => by
    obtain ⟨o, e, _⟩ := T.obj _ _ st2 b hb
    exact Heap.lt_size e
  have f3 : ∀ b ∈ fp, FpOk X pins (upd H2 D (.lst [])) b ∧ b < s3.heap.objs.size := fun b hb => by
    have hlt := sz b hb
    refine ⟨⟨?_, (f2 b hb).2⟩, by rw [h3, Heap.size_push]; exact Nat.lt_succ_of_lt hlt⟩
    rw [upd_ne (by rw [← hD]; exact Nat.ne_of_lt hlt)]
    exact (f2 b hb).1
  have st3 : tn 0 s3.heap := T.keep _ _ _ st2 fun b _ o e => by rw [h3]; exact Heap.get?_push_of_some _ e
  have I4 := block_start I3 ok hN f3
  have pg := hg s3 (upd H2 D (.lst [])) s3.heap.objs.size (cellsFrom (s3.heap.objs.size + 1) scope.names (cloFrom X.env.cells scope.names [])) fp
  have pt := ht s3 (upd H2 D (.lst [])) s3.heap.objs.size (cellsFrom (s3.heap.objs.size + 1) scope.names (cloFrom X.env.cells scope.names [])) fp
  have pe := he s3 (upd H2 D (.lst [])) s3.heap.objs.size (cellsFrom (s3.heap.objs.size + 1) scope.names (cloFrom X.env.cells scope.names [])) fp
  show codeAny _ _ (.compStart (.ListComp elt [⟨tg, iter, ifs, 0⟩] scope pos) 0 (.ref it) (.ref D) (compEnvC scope (cellsFrom (s3.heap.objs.size + 1) scope.names (cloFrom X.env.cells scope.names [])) s3.heap.objs.size X.env)) (compPost (model X.prog X.w) X.A X.xe use Qf (.ref D) s3.heap.objs.size) { s3 with heap := pushCells (s3.heap.push { cls := .type "dict", data := .dict #[] }) scope.names }
  have nfp : ∀ b ∈ fp, (upd H2 D (.lst [])) b = none := fun b hb => (f3 b hb).1.1
  generalize hce : compEnvC scope (cellsFrom (s3.heap.objs.size + 1) scope.names (cloFrom X.env.cells scope.names [])) s3.heap.objs.size X.env = ce at I4 pg pt pe ⊢
  have cL : ce.locals = s3.heap.objs.size := by subst hce; rfl
  generalize hH3 : upd H2 D (.lst []) = H3 at I3 I4 pg pt pe w0 nfp f3
  generalize hs4 : ({ s3 with heap := pushCells (s3.heap.push { cls := .type "dict", data := .dict #[] }) scope.names } : Shared) = s4 at I4 ⊢
  have st4 : tn 0 s4.heap := T.keep _ _ _ st3 fun b _ o e => by rw [← hs4]; exact pushCells_keeps _ _ _ _ (Heap.get?_push_of_some _ e)
  have stat : ∀ {σ' : St} {H' : Hp} {s' : Shared}, Inv (X.blk s3 H3 scope ce fp) [] σ' H' s' → (∀ b ∈ fp, H' b = none) → ∀ b ∈ fp, FpOk (X.blk s3 H3 scope ce fp) [] H' b := fun {σ' H' s'} I' hn b hb =>
    ⟨hn b hb, (I'.ok.exf b hb).1, I'.ok.exfs b hb, .inl hb, fun x c e => (I'.ok.exf b hb).2 x c e, fun p hp => absurd (show p ∈ ([] : List (Addr × Obj)) ++ [] from hp) (by simp)⟩
  have loop : codeAny (model X.prog X.w) X.A (.compLoop (.ListComp elt [⟨tg, iter, ifs, 0⟩] scope pos) 0 (.ref it) (.ref D) ce) (compPost (model X.prog X.w) X.A X.xe use Qf (.ref D) s3.heap.objs.size) s4 := by
    refine compLoop_any (fun n s' => ∃ i H', Inv (X.blk s3 H3 scope ce fp) [] (wipe σ (own.map (·.2))) H' s' ∧ tn i s'.heap ∧ (∀ b ∈ fp, H' b = none) ∧ W i n H') ?_ m0 ⟨0, H3, I4, st4, nfp, w0⟩
    rintro n s5 ⟨i, H5, I5, st5, n5, w5⟩
    rcases turn i n H5 w5 with ⟨stop, qq⟩ | ⟨go, Nx, hNx, step⟩
    · have td := T.done (X.blk s3 H3 scope ce fp) rfl rfl rfl hc i [] s5 _ H5 (fun _ _ => False) I5 (stat I5 n5) st5 stop
      refine thnF td fun r s6 ⟨hr, I6⟩ => ?_
      subst hr
      -- back in the def's context
      have I7 : Inv X pins σ H5 s6 := I3.call' (ch := fp) I6.os I6.base I6.hok I6.bare fun b hb => ⟨(f3 b hb).1.2.2.2.1, (f3 b hb).1.2.1, (f3 b hb).1.2.2.2.2.1, (f3 b hb).1.2.2.2.2.2⟩
      have nC : H5 s3.heap.objs.size = none := by
        have z : H5 ce.locals = none := I6.free
        rw [cL] at z
        exact z
      obtain ⟨m, hn, _⟩ := I6.loc
      have hn : s6.heap.Ns ce.locals m := hn
      rw [cL] at hn
      exact hRR D s3.heap.objs.size s6 m H5 I7 qq hn (I3.fpOk (Nat.le_refl _) nC)
    · have ti := T.item (X.blk s3 H3 scope ce fp) rfl rfl rfl hc i [] s5 _ H5 (fun _ _ => False) I5 (stat I5 n5) st5 go
      refine thnF ti fun r s6 ⟨u, hr, h6⟩ => ?_
      subst hr
      refine thnF h6 fun _ s7 ⟨x, H7, I7, r7, y7, st7, n7⟩ => ?_
      have I7' := I7.pinned (stat I7 n7) (T.obj _ _ st7)
      refine thnF (pg _ s7 _ H7 x u _ I7' r7 (step x H7 y7)) fun _ s8 ⟨σ8, H8, I8, hw8, q8⟩ => ?_
      refine thnF (pt _ s8 σ8 H8 _ I8 q8) fun b s9 ⟨H9, I9, q9⟩ => ?_
      -- the turn's end
      have fin : ∀ {s' : Shared} {H' : Hp}, Inv (X.blk s3 H3 scope ce fp) ([] ++ pinsAt fp s7.heap) σ8 H' s' → Nx H' → ∃ m, m < n ∧ ∃ i H', Inv (X.blk s3 H3 scope ce fp) [] (wipe σ (own.map (·.2))) H' s' ∧ tn i s'.heap ∧ (∀ b ∈ fp, H' b = none) ∧ W i m H' := fun {s' H'} I' nx => by
        obtain ⟨m', hm, w'⟩ := hNx H' nx
        have pin' : ∀ b ∈ fp, ∀ o, s7.heap.get? b = some o → s'.heap.get? b = some o ∧ H' b = none := fun b hb o e =>
          let z := I'.pin (b, o) (List.mem_append_right _ (List.mem_append_right _ (mem_pinsAt hb e)))
          ⟨z.1, z.2.1⟩
        have hl : (wipe σ (own.map (·.2))).length = σ8.length := by rw [← hw8, wipe_length]
        refine ⟨m', hm, i + 1, H', (I'.unpinned (pins := [])).weak hl (fun j v e => ?_), T.keep _ _ _ st7 fun b hb o e => (pin' b hb o e).1, fun b hb => ?_, w'⟩
        · rw [← hw8] at e
          exact (wipe_some e).1
        · obtain ⟨o, e, _⟩ := T.obj _ _ st7 b hb
          exact (pin' b hb o e).2
      cases b with
      | false =>
        simp only [Bool.false_eq_true, if_false] at q9 ⊢
        exact fin I9 q9
      | true =>
        simp only [if_true] at q9 ⊢
        refine thnF (pe _ s9 σ8 H9 _ I9 q9) fun z s10 ⟨yv, H10, I10, r10, acc, hD10, hz10, nx⟩ => ?_
        exact app_ok (X := X.blk s3 H3 scope ce fp) I10 hD10 hz10 r10 fun s11 I11 => fin I11 nx
  exact codeAny_compStart_list loop (T.self X.A 0 _ _ _ st4 loop)
/-- as a value -/
theorem pe_lc {elt tg iter : Expr} {ifs : List Expr} {scope : Scope} {own : List (Str × Nat)} {pos : Pos} {wi : TI} {g : TG} {tt : TT} {te : TE} (hc : X.calm = true) (hN : X.N.Nodup) (hi : PI X tg iter wi) (ok : BlkOk X.N X.env.scope scope own)
    (hg : ∀ (s : Shared) (H : Hp) (C : Addr) (cl : List (Str × Addr)) (fp : List Addr), PG (X.blk s H scope (compEnvC scope cl C X.env) fp) tg g) (ht : ∀ (s : Shared) (H : Hp) (C : Addr) (cl : List (Str × Addr)) (fp : List Addr), PTs (X.blk s H scope (compEnvC scope cl C X.env) fp) ifs tt)
    (he : ∀ (s : Shared) (H : Hp) (C : Addr) (cl : List (Str × Addr)) (fp : List Addr), PE (X.blk s H scope (compEnvC scope cl C X.env) fp) elt te) (hs : ∀ x, foldedSetIterable iter X.env x = pure x := by intro _; rfl) :
    PE X (.ListComp elt [⟨tg, iter, ifs, 0⟩] scope pos) (tLc wi g tt te (own.map (·.2))) := by
  intro pins s σ H Q I h
  rw [eval_ListComp]
  refine lc_core hc hN I hi ok hg ht he hs h fun D C s' m H' I' q hn f => ⟨m, hn, fun h'' sb => ?_⟩
  obtain ⟨f0, f1, f2, f3, f4, f5⟩ := f
  exact ⟨.ref D, H', I'.turned (t' := s'.toks) (fun b o hb e => (sb.2 b hb).trans e) f0 f1 f3 f4 f5, rfl, q⟩
/-- name = [..] on one line, the name a local -/
theorem ps_setLc {i : Nat} {y : Str} {py : Pos} {elt tg iter : Expr} {ifs : List Expr} {scope : Scope} {own : List (Str × Nat)} {pos spos : Pos} {wi : TI} {g : TG} {tt : TT} {te : TE} (hc : X.calm = true) (hN : X.N.Nodup) (hy : X.N[i]? = some y) (hyl : X.env.scope.names.lookup y = some .local)
    (hsw : swapsWith (.ListComp elt [⟨tg, iter, ifs, 0⟩] scope pos) (some (.Name y py)) spos.line X.env = pure true) (hi : PI X tg iter wi) (ok : BlkOk X.N X.env.scope scope own)
    (hg : ∀ (s : Shared) (H : Hp) (C : Addr) (cl : List (Str × Addr)) (fp : List Addr), PG (X.blk s H scope (compEnvC scope cl C X.env) fp) tg g) (ht : ∀ (s : Shared) (H : Hp) (C : Addr) (cl : List (Str × Addr)) (fp : List Addr), PTs (X.blk s H scope (compEnvC scope cl C X.env) fp) ifs tt)
    (he : ∀ (s : Shared) (H : Hp) (C : Addr) (cl : List (Str × Addr)) (fp : List Addr), PE (X.blk s H scope (compEnvC scope cl C X.env) fp) elt te) (hs : ∀ x, foldedSetIterable iter X.env x = pure x := by intro _; rfl) :
    PS X (.Assign [.Name y py] (.ListComp elt [⟨tg, iter, ifs, 0⟩] scope pos) spos) (tAsg (tLc wi g tt te (own.map (·.2))) (gName i)) := by
  intro pins s σ H D I h
  rw [exec_Assign_Name_used _ _ _ _ hsw]
  refine wpAny_bind (wpAny_standAt (wpAny_bind ?_))
  show wpAny _ X.A (do let _ ← comprehension (.ListComp elt [⟨tg, iter, ifs, 0⟩] scope pos) scope X.env (firstIterPos [⟨tg, iter, ifs, 0⟩] pos) (newList []) false (eval iter X.env) (some (assign (.Name y py) X.env))) _ _ s
  have h : tLc wi g tt te (own.map (·.2)) σ H (fun x H1 => gName i x σ H1 D.nx) := h
  refine wpAny_bind (thn (lc_core (Qf := fun _ s' => SP X pins D .next s') hc hN I hi ok hg ht he hs h fun L C s' m H' I' q hn f => ?_) fun _ s' hq => wpAny_pure (wpAny_pure hq))
  show wpAny _ _ (assign (.Name y py) X.env (.ref L)) _ _ _
  refine wpAny_assign_Name (store_ok2 (v := V.ref L) I' hN hy (.inl hyl) rfl (fun s2 I2 ⟨a, sb, ha⟩ => ?_) (.inr hyl))
  obtain ⟨f0, f1, f2, f3, f4, f5⟩ := f
  have haC : C ≠ a := by
    rcases ha with z | z
    · rw [z]; exact f1
    · exact fun e => f4 y a z e.symm
  refine ⟨m, hn.sameBut sb haC, fun h3 sb3 => ?_⟩
  exact ⟨_, H', I2.turned (t' := s2.toks) (fun b o hb e => (sb3.2 b hb).trans e) f0 f1 f3 f4 f5, q⟩
theorem sw_true {elt : Expr} {gs : List Comprehension} {scope : Scope} {pos py : Pos} {y : Str} {l : Nat} {env : Env} (hk : env.scope.kind = .function) (hy : env.scope.names.lookup y = some .local) (hl : (py.line == pos.line) = true)
    (ha : (scope.names.any fun (n, k) => n == y && (k == .local || k == .cell)) = false) : swapsWith (.ListComp elt gs scope pos) (some (.Name y py)) l env = pure true := by
  have ky : env.kindOf y = some .local := hy
  have hb : env.blockKind = .function := by unfold Env.blockKind; rw [hk]; rfl
  unfold swapsWith
  simp only [hb, ky, ha, Expr.pos, hl]
  rfl
end

/-! ### the forms one uses -/
def blkC (N : List Str) (sc scope : Scope) (own : List (Str × Nat)) : Bool :=
  (match scope.kind with | .function => true | _ => false) && (scope.names.all fun y => decide (scope.names.lookup y.1 = some y.2)) && (own.all fun p => decide (N[p.2]? = some p.1)) &&
    (scope.names.all fun y => match y.2 with
      | .free => (match sc.names.lookup y.1 with | some .cell => true | some .free => true | _ => false)
      | .local => decide (y.1 ∈ own.map (·.1)) || decide (y.1 ∉ N)
      | .cell => decide (y.1 ∈ own.map (·.1)) || decide (y.1 ∉ N)
      | _ => true)
theorem blkOk_by {N : List Str} {sc scope : Scope} {own : List (Str × Nat)} (h : blkC N sc scope own = true) : BlkOk N sc scope own := by
  unfold blkC at h
  simp only [Bool.and_eq_true, List.all_eq_true, decide_eq_true_eq] at h
  obtain ⟨⟨⟨h1, h2⟩, h3⟩, h4⟩ := h
  refine ⟨?_, h2, h3, fun y hy e => ?_, fun y hy e => ?_⟩
  · split at h1
    · assumption
    · cases h1
  · have q := h4 y hy
    simp only [e] at q
    split at q <;> first | exact .inl (by assumption) | exact .inr (by assumption) | cases q
  · have q := h4 y hy
    rcases e with e | e <;> (simp only [e, Bool.or_eq_true, decide_eq_true_eq] at q; exact q)
end L2

namespace L2
open PySem PySem.Spec PyProof.Rows


section
variable {prog : Program} {w : World} {A : Around} {R : Result → Shared → Prop} {s : Shared} {elt t0 i0 t1 i1 : Expr} {ifs0 ifs1 : List Expr} {scope : Scope} {pos : Pos} {it acc : Value} {env : Env}
end

section
variable {X : Cx}
end
end L2

namespace L2
open PySem PySem.Spec PyProof.Rows

/-! ### lists of pairs as tables -/
section
variable {κ : Type} [DecidableEq κ]
def valV (kvs : List (κ × V)) (k : κ) : Option V := (kvs.find? fun kv => decide (kv.1 = k)).map (·.2)
/-- in its place, or at the end -/
def putK (kvs : List (κ × V)) (k : κ) (v : V) : List (κ × V) :=
  if (kvs.any fun kv => decide (kv.1 = k)) = true then kvs.map (fun kv => if kv.1 = k then (kv.1, v) else kv) else kvs ++ [(k, v)]
def dropK (kvs : List (κ × V)) (k : κ) : List (κ × V) := kvs.filter fun kv => decide (kv.1 ≠ k)

theorem valV_pos {p : κ × V} {r : List (κ × V)} {k : κ} (e : p.1 = k) : valV (p :: r) k = some p.2 := by simp [valV, List.find?_cons, e]
theorem valV_neg {p : κ × V} {r : List (κ × V)} {k : κ} (e : ¬ p.1 = k) : valV (p :: r) k = valV r k := by simp [valV, List.find?_cons, e]
theorem valV_any (k : κ) : ∀ kvs : List (κ × V), (kvs.any fun kv => decide (kv.1 = k)) = (valV kvs k).isSome
  | [] => rfl
  | p :: r => by
    rw [List.any_cons]
    by_cases e : p.1 = k
    · simp only [valV_pos e, decide_eq_true e, Bool.true_or, Option.isSome_some]
    · rw [valV_neg e, decide_eq_false e, Bool.false_or]; exact valV_any k r
theorem length_putK (kvs : List (κ × V)) (k : κ) (v : V) : (putK kvs k v).length ≤ kvs.length + 1 := by
  unfold putK
  split
  · rw [List.length_map]; omega
  · rw [List.length_append, List.length_cons, List.length_nil]; omega
theorem putK_new {kvs : List (κ × V)} {k : κ} (v : V) (h : valV kvs k = none) : putK kvs k v = kvs ++ [(k, v)] := by
  unfold putK
  rw [valV_any, h]
  exact if_neg (by decide)

theorem RelO.isSome_eq {o : Option V} {u : Option Value} (r : RelO o u) : o.isSome = u.isSome := by
  cases o with
  | none => cases u with
    | none => rfl
    | some _ => exact (show False from r).elim
  | some _ => cases u with
    | none => exact (show False from r).elim
    | some _ => rfl
theorem RelO.getD {o : Option V} {u : Option Value} {d : V} {d' : Value} (r : RelO o u) (rd : RelV d d') : RelV (o.getD d) (u.getD d') := by
  cases o with
  | none => cases u with
    | none => exact rd
    | some _ => exact (show False from r).elim
  | some _ => cases u with
    | none => exact (show False from r).elim
    | some _ => exact r

/-- raw tables of the same keys -/
theorem KV.val {kvs : List (κ × V)} {vs : List (κ × Value)} (r : KV kvs vs) (k : κ) : RelO (valV kvs k) (valueAt vs k) := by
  unfold KV at r
  induction r with
  | nil => exact True.intro
  | @cons p q ps qs h t ih =>
    obtain ⟨h1, h2⟩ := h
    by_cases e : p.1 = k
    · have e' : q.1 = k := h1.symm.trans e
      have b : valueAt (q :: qs) k = some q.2 := by simp [valueAt, List.find?_cons, e']
      rw [valV_pos e, b]; exact h2
    · have e' : ¬ q.1 = k := fun z => e (h1.trans z)
      have b : valueAt (q :: qs) k = valueAt qs k := by simp [valueAt, List.find?_cons, e']
      rw [valV_neg e, b]; exact ih
theorem KV.any {kvs : List (κ × V)} {vs : List (κ × Value)} (r : KV kvs vs) (k : κ) : (kvs.any fun kv => decide (kv.1 = k)) = vs.any fun kv => decide (kv.1 = k) := by
  unfold KV at r
  induction r with
  | nil => rfl
  | cons h t ih => rw [List.any_cons, List.any_cons, ih, h.1]
theorem KV.repl {kvs : List (κ × V)} {vs : List (κ × Value)} (r : KV kvs vs) (k : κ) {y : V} {u : Value} (ry : RelV y u) :
    KV (kvs.map fun kv => if kv.1 = k then (kv.1, y) else kv) (vs.map fun kv => if kv.1 = k then (kv.1, u) else kv) := by
  unfold KV at r ⊢
  induction r with
  | nil => exact .nil
  | @cons p q ps qs h t ih =>
    rw [List.map_cons, List.map_cons]
    refine .cons ?_ ih
    obtain ⟨h1, h2⟩ := h
    by_cases e : p.1 = k
    · rw [if_pos e, if_pos (h1.symm.trans e)]; exact ⟨h1, ry⟩
    · rw [if_neg e, if_neg (fun z => e (h1.trans z))]; exact ⟨h1, h2⟩
theorem KV.put {kvs : List (κ × V)} {vs : List (κ × Value)} (r : KV kvs vs) (k : κ) {y : V} {u : Value} (ry : RelV y u) : KV (putK kvs k y) (stored vs k u) := by
  unfold putK stored
  rw [r.any k]
  by_cases e : (vs.any fun kv => decide (kv.1 = k)) = true
  · rw [if_pos e, if_pos e]; exact r.repl k ry
  · rw [if_neg e, if_neg e]; exact Paired.snoc r ⟨rfl, ry⟩
theorem KV.drop {kvs : List (κ × V)} {vs : List (κ × Value)} (r : KV kvs vs) (k : κ) : KV (dropK kvs k) (without vs k) := by
  unfold KV at r ⊢
  unfold dropK without
  induction r with
  | nil => exact .nil
  | @cons p q ps qs h t ih =>
    obtain ⟨h1, h2⟩ := h
    rw [List.filter_cons, List.filter_cons]
    by_cases e : p.1 = k
    · have a : ¬ decide (p.1 ≠ k) = true := by simp [e]
      have b : ¬ decide (q.1 ≠ k) = true := by simp [h1.symm.trans e]
      rw [if_neg a, if_neg b]; exact ih
    · have e' : ¬ q.1 = k := fun z => e (h1.trans z)
      have a : decide (p.1 ≠ k) = true := by simp [e]
      have b : decide (q.1 ≠ k) = true := by simp [e']
      rw [if_pos a, if_pos b]; exact .cons ⟨h1, h2⟩ ih
theorem KV.keys {kvs : List (κ × V)} {vs : List (κ × Value)} (r : KV kvs vs) : kvs.map (·.1) = vs.map (·.1) := by
  unfold KV at r
  induction r with
  | nil => rfl
  | cons h t ih => rw [List.map_cons, List.map_cons, ih, h.1]
theorem KV.length {kvs : List (κ × V)} {vs : List (κ × Value)} (r : KV kvs vs) : kvs.length = vs.length := Paired.length r
end


/-! ### a tracked dict, its keys ints and texts or tuples of these -/
theorem kV_is {P : Program} {w : World} {k : Key} {u : Value} (r : RelV (kV k) u) : (mixKind P w).is k u = true := by
  cases k with
  | inl i => obtain ⟨t, e⟩ := (show ∃ t, u = Value.int i t from r); subst e; exact mixKind_int P w i t
  | inr x => obtain ⟨t, e⟩ := (show ∃ t, u = Value.str x t from r); subst e; exact mixKind_str P w x t
theorem items_are {P : Program} {w : World} : ∀ {ks : List Key} {us : List Value}, Vals (ks.map kV) us → ItemsAre (mixKind P w) ks us
  | [], _, r => by rw [List.map_nil] at r; cases r; exact .nil
  | k :: ks, _, r => by
    rw [List.map_cons] at r
    cases r with
    | cons h t => exact .cons (kV_is h) (items_are t)

/-- raw entries of a dict with tuple keys -/
abbrev KT (H : Hp) : List (List Key × V) → List (List Key × Addr × Value) → Prop := Paired fun p q => p.1 = q.1 ∧ H q.2.1 = some (.tup (p.1.map kV)) ∧ RelV p.2 q.2.2
theorem KT.val {H : Hp} {kvs : List (List Key × V)} {xs : List (List Key × Addr × Value)} (r : KT H kvs xs) (k : List Key) : RelO (valV kvs k) ((atKey xs k).map (·.2)) := by
  induction r with
  | nil => exact True.intro
  | @cons p q ps qs h t ih =>
    obtain ⟨h1, _, h2⟩ := h
    by_cases e : p.1 = k
    · have e' : q.1 = k := h1.symm.trans e
      have b : atKey (q :: qs) k = some q.2 := by simp [atKey, List.find?_cons, e']
      rw [valV_pos e, b]; exact h2
    · have e' : ¬ q.1 = k := fun z => e (h1.trans z)
      have b : atKey (q :: qs) k = atKey qs k := by simp [atKey, List.find?_cons, e']
      rw [valV_neg e, b]; exact ih
theorem KT.repl {H : Hp} {kvs : List (List Key × V)} {xs : List (List Key × Addr × Value)} (r : KT H kvs xs) (k : List Key) {y : V} {u : Value} (ry : RelV y u) :
    KT H (kvs.map fun kv => if kv.1 = k then (kv.1, y) else kv) (xs.map (putAt k u)) := by
  induction r with
  | nil => exact .nil
  | @cons p q ps qs h t ih =>
    rw [List.map_cons, List.map_cons]
    refine .cons ?_ ih
    obtain ⟨h1, h2, h3⟩ := h
    unfold putAt
    by_cases e : p.1 = k
    · rw [if_pos e, if_pos (h1.symm.trans e)]; exact ⟨h1, h2, ry⟩
    · rw [if_neg e, if_neg (fun z => e (h1.trans z))]; exact ⟨h1, h2, h3⟩
theorem KT.put {H : Hp} {kvs : List (List Key × V)} {xs : List (List Key × Addr × Value)} (r : KT H kvs xs) (k : List Key) {b : Addr} {y : V} {u : Value} (hb : H b = some (.tup (k.map kV))) (ry : RelV y u) :
    KT H (putK kvs k y) (storedH xs k b u) := by
  have e : (kvs.any fun kv => decide (kv.1 = k)) = (atKey xs k).isSome := by
    rw [valV_any, (r.val k).isSome_eq, Option.isSome_map]
  unfold putK storedH
  rw [e]
  by_cases q : (atKey xs k).isSome = true
  · rw [if_pos q, if_pos q]; exact r.repl k ry
  · rw [if_neg q, if_neg q]; exact Paired.snoc r ⟨rfl, hb, ry⟩
theorem KT.keeps {H H' : Hp} {kvs : List (List Key × V)} {xs : List (List Key × Addr × Value)} (r : KT H kvs xs) (ht : ∀ b ys, H b = some (.tup ys) → H' b = some (.tup ys)) : KT H' kvs xs :=
  Paired.mapP r fun _ _ z => ⟨z.1, ht _ _ z.2.1, z.2.2⟩

section
variable {P : Program} {w : World} {H : Hp} {h : Heap} {a : Addr}
theorem rd_of {u : HO} (ok : HOk P w H h) (e : Rd H a u) : ObjOk P w H h a u := e.ok ok
theorem dk_rd {kvs : List (Key × V)} (ok : HOk P w H h) (e : Rd H a (.dK kvs)) : kvs.length ≤ sizeLine ∧ (a == sysModules) = false ∧ ∃ vs, KV kvs vs ∧ h.DictOf (mixKind P w) a vs :=
  show ObjOk P w H h a (.dK kvs) from rd_of ok e
theorem dk_of {kvs : List (Key × V)} (ok : HOk P w H h) (e : H a = some (.dK kvs)) : kvs.length ≤ sizeLine ∧ (a == sysModules) = false ∧ ∃ vs, KV kvs vs ∧ h.DictOf (mixKind P w) a vs := dk_rd ok (.inl e)
/-- a tracked tuple of ints and texts is a key -/
theorem key_of {ks : List Key} (ok : HOk P w H h) (e : H a = some (.tup (ks.map kV))) : (tupleKind (mixKind P w)).is h ks a := by
  obtain ⟨_, its, r, o, h1, h2, n, h3⟩ := (show ObjOk P w H h a (.tup (ks.map kV)) from ok a _ e)
  exact ⟨o, its.toArray, n, h1, h2, h3, by simpa using items_are r⟩
theorem dt_rd {kvs : List (List Key × V)} (ok : HOk P w H h) (e : Rd H a (.dT kvs)) : kvs.length ≤ sizeLine ∧ (a == sysModules) = false ∧
    ∃ xs, KT H kvs xs ∧ h.DictOfH (tupleKind (mixKind P w)) a xs := by
  obtain ⟨z, y, xs, r, o, es, ep, h1, h2, h3, h4, h5⟩ := (show ObjOk P w H h a (.dT kvs) from rd_of ok e)
  refine ⟨z, y, xs, r, o, es, ep, h1, h2, h3, h4, fun x hx => ?_, h5⟩
  have all : ∀ {l : List (List Key × V)} {m : List (List Key × Addr × Value)}, KT H l m → ∀ x ∈ m, (tupleKind (mixKind P w)).is h x.1 x.2.1 := by
    intro l m q
    induction q with
    | nil => intro x hx; exact nomatch hx
    | @cons p q ps qs hq t ih =>
      intro x hx
      rcases List.mem_cons.mp hx with e | hx
      · subst e
        exact key_of ok (by rw [← hq.1]; exact hq.2.1)
      · exact ih x hx
  exact all r x hx
theorem dt_of {kvs : List (List Key × V)} (ok : HOk P w H h) (e : H a = some (.dT kvs)) : kvs.length ≤ sizeLine ∧ (a == sysModules) = false ∧
    ∃ xs, KT H kvs xs ∧ h.DictOfH (tupleKind (mixKind P w)) a xs := dt_rd ok (.inl e)
end

/-- what the dict at a holds at the key y -/
def DGet (H : Hp) (a : Addr) (y : V) (r : Option V) : Prop :=
  (∃ kvs k, Rd H a (.dK kvs) ∧ y = kV k ∧ r = valV kvs k) ∨ ∃ kvs k b, Rd H a (.dT kvs) ∧ y = .ref b ∧ H b = some (.tup (k.map kV)) ∧ r = valV kvs k
/-- the heap behind a[y] = v -/
def DPut (H : Hp) (a : Addr) (y v : V) (H' : Hp) : Prop :=
  (∃ kvs k, H a = some (.dK kvs) ∧ y = kV k ∧ kvs.length < sizeLine ∧ H' = upd H a (.dK (putK kvs k v))) ∨
  ∃ kvs k b, H a = some (.dT kvs) ∧ y = .ref b ∧ H b = some (.tup (k.map kV)) ∧ kvs.length < sizeLine ∧ H' = upd H a (.dT (putK kvs k v))
theorem DGet.k {H : Hp} {a : Addr} {kvs : List (Key × V)} {k : Key} (e : H a = some (.dK kvs)) : DGet H a (kV k) (valV kvs k) := .inl ⟨kvs, k, .inl e, rfl, rfl⟩
theorem DGet.t {H : Hp} {a b : Addr} {kvs : List (List Key × V)} {k : List Key} (e : H a = some (.dT kvs)) (eb : H b = some (.tup (k.map kV))) : DGet H a (.ref b) (valV kvs k) := .inr ⟨kvs, k, b, .inl e, rfl, eb, rfl⟩
theorem DPut.k {H : Hp} {a : Addr} {kvs : List (Key × V)} {k : Key} {v : V} (e : H a = some (.dK kvs)) (hl : kvs.length < sizeLine) : DPut H a (kV k) v (upd H a (.dK (putK kvs k v))) := .inl ⟨kvs, k, e, rfl, hl, rfl⟩
theorem DPut.t {H : Hp} {a b : Addr} {kvs : List (List Key × V)} {k : List Key} {v : V} (e : H a = some (.dT kvs)) (eb : H b = some (.tup (k.map kV))) (hl : kvs.length < sizeLine) :
    DPut H a (.ref b) v (upd H a (.dT (putK kvs k v))) := .inr ⟨kvs, k, b, e, rfl, eb, hl, rfl⟩


section
variable {X : Cx} {pins : List (Addr × Obj)} {σ : St} {H : Hp} {s : Shared} {a : Addr} {y v : V} {u r : Value} {o : Option V} {A : Around} {E : Value → Shared → Prop}

theorem Inv.big (I : Inv X pins σ H s) : sysModules < s.heap.objs.size := by
  have h : mainGlobals < s.heap.objs.size := (I.mod.glob.keeps I.bk).lt
  exact Nat.lt_trans (by decide) h

/-- d[y], there -/
theorem d_getItem {Q : Value → Shared → Prop} (hu : A.units + 1 < cLine) (I : Inv X pins σ H s) (g : DGet H a y (some v)) (ry : RelV y u) (h : ∀ w' s', Inv X pins σ H s' → RelV v w' → Q w' s') :
    wpAny (model X.prog X.w) A (getItem (.ref a) u) Q E s := by
  rcases g with ⟨kvs, k, e, ey, l⟩ | ⟨kvs, k, b, e, ey, eb, l⟩
  · subst ey
    obtain ⟨z, hd, vs, rel, dd⟩ := dk_rd I.hok e
    obtain ⟨w', hw, rw'⟩ := RelO.some_of (v := v) (o := valueAt vs k) (by rw [l]; exact rel.val k)
    exact wpAny_getItem_of (kV_is ry) dd.mapOf hw (h w' _ (I.tok _) rw')
  · subst ey
    cases (show u = Value.ref b from ry)
    obtain ⟨z, hd, xs, rel, dd⟩ := dt_rd I.hok e
    obtain ⟨w', hw, rw'⟩ := RelO.some_of (v := v) (o := (atKey xs k).map (·.2)) (by rw [l]; exact rel.val k)
    obtain ⟨p, hp, hp2⟩ := Option.map_eq_some_iff.mp hw
    refine wpAny_getItem_heap (tupleKind_room_in1 hu) (key_of I.hok eb) dd hp ?_
    rw [hp2]
    exact h w' _ (I.tok _) rw'
/-- a dict's object is replaced -/
theorem d_write {h' : Heap} {t' : Nat} {ob : HO} (I : Inv X pins σ H s) (mu : Mut (H a)) (hs : Heap.SameBut a s.heap h') (he : ∃ q, h'.get? a = some q) (new : ObjOk X.prog X.w (upd H a ob) h' a ob) :
    Inv X pins σ (upd H a ob) { s with heap := h', toks := t' } :=
  I.write (x := a) (e := a) mu (.inl rfl) (fun b q hb z => (hs.2 b hb).trans z) he new
theorem dk_new {P : Program} {w : World} {H' : Hp} {h' : Heap} {kvs : List (Key × V)} {vs : List (Key × Value)} (z : kvs.length ≤ sizeLine) (hd : (a == sysModules) = false) (rel : KV kvs vs) (dd : h'.DictOf (mixKind P w) a vs) :
    ObjOk P w H' h' a (.dK kvs) := ⟨z, hd, vs, rel, dd⟩
/-- d[y] = v -/
theorem d_setItem {H' : Hp} {Q : Unit → Shared → Prop} (hu : A.units + 1 < cLine) (I : Inv X pins σ H s) (g : DPut H a y v H') (ry : RelV y u) (rv : RelV v r) (h : ∀ s', Inv X pins σ H' s' → Q () s') :
    wpAny (model X.prog X.w) A (setItem (.ref a) u r) Q E s := by
  rcases g with ⟨kvs, k, e, ey, l, eH⟩ | ⟨kvs, k, b, e, ey, eb, l, eH⟩
  · subst ey eH
    obtain ⟨z, hd, vs, rel, dd⟩ := dk_of I.hok e
    have hz : vs.length ≤ sizeLine := by rw [← rel.length]; exact z
    have hl : (putK kvs k v).length ≤ sizeLine := by have := length_putK kvs k v; omega
    refine wpAny_setItem_pairs (hsz := hz) (kV_is ry) dd fun h' dd' hs => h _ ?_
    have he : ∃ q, h'.get? a = some q := let ⟨q, _, _, hq, _⟩ := dd'; ⟨q, hq⟩
    exact d_write I (by rw [e]; exact True.intro) hs he (dk_new hl hd (rel.put k rv) dd')
  · subst ey eH
    cases (show u = Value.ref b from ry)
    obtain ⟨z, hd, xs, rel, dd⟩ := dt_of I.hok e
    have hz : xs.length ≤ sizeLine := by rw [← Paired.length rel]; exact z
    have hl : (putK kvs k v).length ≤ sizeLine := by have := length_putK kvs k v; omega
    refine wpAny_setItem_heap (hsz := hz) (tupleKind_room_in1 hu) (key_of I.hok eb) dd fun h' dd' hs => h _ ?_
    obtain ⟨q, es, ep, hq, h2, h3, h4, _, h5⟩ := dd'
    refine d_write I (by rw [e]; exact True.intro) hs ⟨q, hq⟩ ⟨hl, hd, _, (rel.put k eb rv).keeps fun c ys ec => ?_, q, es, ep, hq, h2, h3, h4, h5⟩
    rw [upd_ne (ne_of ec e (fun z => nomatch z))]
    exact ec
end

section
variable {X : Cx} {pins : List (Addr × Obj)} {σ : St} {H : Hp} {s : Shared} {a : Addr} {kvs : List (Key × V)} {k : Key} {u : Value} {A : Around} {E : Value → Shared → Prop}
end


/-! ### readings and rules -/
/-- the element of a subscription, not a slice -/
def NoSl (i : Expr) : Prop := ∀ ov iv, subscripted i false ov iv = operate [ov, iv] (getItem ov iv)
theorem subD_of {prog : Program} {w : World} {A : Around} {E : Value → Shared → Prop} {s : Shared} {env : Env} {value slice : Expr} {pos : Pos} {T id : String} {Q : Value → Shared → Prop}
    (hl : typeLookup (.type T) "__getitem__" = pure (some (.builtin id))) (hs : NoSl slice)
    (h : wpAny (model prog w) A (eval value env) (fun o s₁ => wpAny (model prog w) A (eval slice env) (fun i s₂ => s₂.TypeIs o T ∧ wpAny (model prog w) A (getItem o i) Q E s₂) E s₁) E s) :
    wpAny (model prog w) A (eval (.Subscript value slice pos) env) Q E s := by
  refine Subscript_ (wpAny_mono h (fun o s₁ h₁ => wpAny_mono h₁ (fun i s₂ h₂ => ?_) fun _ _ x => x) fun _ _ x => x)
  obtain ⟨hT, h₂⟩ := h₂
  unfold subscriptTail
  refine wpAny_bind ?_
  rw [getitemInPython_of_ne hT.not_modules]
  refine wpAny_bind (wpAny_specialOf hT hl ?_)
  have fin : wpAny (model prog w) A (subscripted slice false o i) (fun r s₃ => wpAny (model prog w) A (letTemporaryGo value o r >>= fun _ => pure r) Q E s₃) E s₂ := by
    rw [hs o i]
    exact wpAny_operating (wpAny_mono h₂ (fun r s₃ h₃ => wpAny_bind (wpAny_letTemporaryGo (wpAny_pure h₃))) fun _ _ x => x)
  first
    | exact wpAny_pure (wpAny_bind fin)
    | exact wpAny_bind (wpAny_pure (wpAny_bind fin))
    | exact wpAny_bind fin

theorem dict_typeIs {X : Cx} {pins : List (Addr × Obj)} {σ : St} {H : Hp} {s : Shared} {a : Addr} {y : V} {o : Option V} (I : Inv X pins σ H s) (g : DGet H a y o) : s.TypeIs (.ref a) "dict" := by
  rcases g with ⟨kvs, k, e, _, _⟩ | ⟨kvs, k, b, e, _, _, _⟩
  · obtain ⟨_, _, vs, _, dd⟩ := dk_rd I.hok e
    exact dd.typeIs
  · obtain ⟨_, _, xs, _, dd⟩ := dt_rd I.hok e
    exact dd.typeIs

/-- d[y] -/
def tDGet (td ty : TE) : TE := fun σ H Q => td σ H fun x H1 => ty σ H1 fun y H2 => ∃ a v, x = .ref a ∧ DGet H2 a y (some v) ∧ Q v H2
/-- d[y] = v -/
def sDPut (td ty tv : TE) : TS := fun D σ H => tv σ H fun v H1 => td σ H1 fun x H2 => ty σ H2 fun y H3 => ∃ a H4, x = .ref a ∧ DPut H3 a y v H4 ∧ D.nx σ H4

section
variable {X : Cx} {o i e value : Expr} {pos pos' tpos : Pos} {td ty tv : TE}
theorem pe_dget (hu : X.A.units + 1 < cLine) (ho : PE X o td) (hi : PE X i ty) (hs : NoSl i) : PE X (.Subscript o i pos) (tDGet td ty) := by
  intro pins s σ H Q I h
  refine subD_of PySem.F.slot_dict_getitem.lookup hs (thn (ho pins s σ H _ I h) fun u s1 ⟨x, H1, I1, rx, q1⟩ => thn (hi pins s1 σ H1 _ I1 q1) fun iv s2 ⟨y, H2, I2, ry, a, v, ex, g, q2⟩ => ?_)
  subst ex
  obtain rfl : u = Value.ref a := rx
  exact ⟨dict_typeIs I2 g, d_getItem hu I2 g ry fun w' s3 I3 rw' => ⟨v, H2, I3, rw', q2⟩⟩
theorem ps_dput (hu : X.A.units + 1 < cLine) (ho : PE X o td) (hi : PE X i ty) (hv : PE X value tv) (hs : swapsWith value (some (.Subscript o i pos')) pos.line X.env = pure false) :
    PS X (.Assign [.Subscript o i pos'] value pos) (sDPut td ty tv) := by
  intro pins s σ H D I h
  refine wpAny_Assign_Subscript (thn (hv pins s σ H _ I h) fun r s1 ⟨v, H1, I1, rv, q1⟩ => thn (ho pins s1 σ H1 _ I1 q1) fun u s2 ⟨x, H2, I2, rx, q2⟩ => thn (hi pins s2 σ H2 _ I2 q2) fun iv s3 ⟨y, H3, I3, ry, a, H4, ex, g, q3⟩ => ?_) hs
  subst ex
  obtain rfl : u = Value.ref a := rx
  exact d_setItem hu I3 g ry rv fun s4 I4 => ⟨σ, H4, I4, q3⟩
end


/-! ### displays -/
theorem dk_empty {P : Program} {w : World} {H : Hp} (h : Heap) (hb : sysModules < h.objs.size) : ObjOk P w H (h.push { cls := .type "dict", data := .dict #[] }) h.objs.size (.dK []) :=
  ⟨Nat.zero_le _, beq_eq_false_iff_ne.mpr (Ne.symm (Nat.ne_of_lt hb)), [], .nil, Heap.DictOf.new h⟩
section
variable {X : Cx} {pos : Pos}
end

/-- the pairs of a display, from the left -/
def tPairs : List (TE × TE) → St → Hp → (List (V × V) → Hp → Prop) → Prop
  | [], _, H, Q => Q [] H
  | (tk, tv) :: r, σ, H, Q => tk σ H fun x H1 => tv σ H1 fun y H2 => tPairs r σ H2 fun ps H3 => Q ((x, y) :: ps) H3
abbrev VV : List (V × V) → List (Value × Value) → Prop := Paired fun p q => RelV p.1 q.1 ∧ RelV p.2 q.2
def PPs (X : Cx) (pos : Pos) (keys : List (Option Expr)) (values : List Expr) (trs : List (TE × TE)) : Prop :=
  ∀ (pins : List (Addr × Obj)) (s : Shared) (σ : St) (H : Hp) (Q : List (V × V) → Hp → Prop), Inv X pins σ H s → tPairs trs σ H Q →
    wpAny (model X.prog X.w) X.A (evalPairs (pairTrees keys values X.env pos)) (fun vs s' => ∃ ps H', Inv X pins σ H' s' ∧ VV ps vs ∧ Q ps H') X.xe s
theorem pps_nil {X : Cx} {pos : Pos} : PPs X pos [] [] [] := fun pins s σ H Q I h => pairTrees_nil_walk ⟨[], H, I, .nil, h⟩
theorem pps_cons {X : Cx} {pos : Pos} {k v : Expr} {ks : List (Option Expr)} {vs : List Expr} {tk tv : TE} {trs : List (TE × TE)} (hk : PE X k tk) (hv : PE X v tv) (hr : PPs X pos ks vs trs) :
    PPs X pos (some k :: ks) (v :: vs) ((tk, tv) :: trs) := fun pins s σ H Q I h =>
  pairTrees_cons_walk (thn (hk pins s σ H _ I h) fun u s1 ⟨x, H1, I1, rx, q1⟩ => thn (hv pins s1 σ H1 _ I1 q1) fun w2 s2 ⟨y, H2, I2, ry, q2⟩ =>
    thn (hr pins s2 σ H2 _ I2 q2) fun ws s3 ⟨ps, H3, I3, rel, q3⟩ => ⟨(x, y) :: ps, H3, I3, .cons ⟨rx, ry⟩ rel, q3⟩)

def mergeK (kvs more : List (Key × V)) : List (Key × V) := more.foldl (fun acc kv => putK acc kv.1 kv.2) kvs
theorem KV.merge : ∀ {more : List (Key × V)} {rs : List (Key × Value)} {kvs : List (Key × V)} {vs : List (Key × Value)}, KV more rs → KV kvs vs → KV (mergeK kvs more) (merged vs rs) := by
  intro more rs kvs vs r
  unfold KV at r
  induction r generalizing kvs vs with
  | nil => intro q; exact q
  | @cons p q ps qs h t ih =>
    intro r0
    have e : KV (putK kvs p.1 p.2) (stored vs q.1 q.2) := by
      have := r0.put p.1 h.2
      rw [← h.1]; exact this
    exact ih e
theorem length_mergeK : ∀ (more kvs : List (Key × V)), (mergeK kvs more).length ≤ kvs.length + more.length
  | [], kvs => by show kvs.length ≤ kvs.length + 0; omega
  | p :: r, kvs => by
    have h1 := length_mergeK r (putK kvs p.1 p.2)
    have h2 := length_putK kvs p.1 p.2
    show (mergeK (putK kvs p.1 p.2) r).length ≤ _
    rw [List.length_cons]; omega
theorem carries_of {P : Program} {w : World} : ∀ {kvs : List (Key × V)} {ws : List (Value × Value)}, VV (kvs.map fun kv => (kV kv.1, kv.2)) ws → ∃ rs, Carries (mixKind P w) ws rs ∧ KV kvs rs
  | [], _, r => by rw [List.map_nil] at r; cases r; exact ⟨[], True.intro, .nil⟩
  | p :: kvs, _, r => by
    rw [List.map_cons] at r
    cases r with
    | @cons a b as bs h t =>
      obtain ⟨rs, c, q⟩ := carries_of (P := P) (w := w) t
      obtain ⟨b1, b2⟩ := b
      exact ⟨(p.1, b2) :: rs, ⟨kV_is h.1, rfl, c⟩, .cons ⟨rfl, h.2⟩ q⟩
/-- {k: v, ..} with keys ints and texts; the new dict stands empty while the pairs are made -/
def tDisp (trs : List (TE × TE)) : TE := fun σ H Q => ∀ p, H p = none → tPairs trs σ (upd H p (.dK [])) fun ps H2 => H2 p = some (.dK []) ∧ ∃ kvs : List (Key × V), ps = kvs.map (fun kv => (kV kv.1, kv.2)) ∧ kvs.length ≤ 15 ∧ Q (.ref p) (upd H2 p (.dK (mergeK [] kvs)))
theorem pe_disp {X : Cx} {pos : Pos} {keys : List (Option Expr)} {values : List Expr} {trs : List (TE × TE)} (h : PPs X pos keys values trs) (hall : keys.all (·.isSome) = true) (hl : keys.length = values.length) (h0 : keys ≠ [])
    (h15 : keys.length ≤ 15) : PE X (.Dict keys values pos) (tDisp trs) := by
  intro pins s σ H Q I q
  have hn := I.hok.fresh (Nat.le_refl s.heap.objs.size)
  have I1 := I.laid (a := s.heap.objs.size) (o := .dK []) (h' := s.heap.push { cls := .type "dict", data := .dict #[] }) (t' := s.toks) (fun _ _ q => Heap.get?_push_of_some _ q) (Nat.le_refl _) (dk_empty s.heap I.big)
  refine wpAny_Dict_walk (knd := mixKind X.prog X.w) hall hl h0 h15 (thn (h pins _ σ _ _ I1 (q _ hn)) fun ws s2 ⟨ps, H2, I2, rel, e, kvs, ep, lk, q2⟩ => ?_)
  subst ep
  obtain ⟨rs, c, rk⟩ := carries_of (P := X.prog) (w := X.w) rel
  obtain ⟨z, hd, vs0, r0, dd⟩ := dk_of I2.hok e
  cases r0
  refine ⟨rs, c, dd, fun h' dd' hs => ⟨.ref s.heap.objs.size, _, ?_, rfl, q2⟩⟩
  have hz : (mergeK [] kvs).length ≤ sizeLine := by
    have h1 := length_mergeK kvs []
    rw [List.length_nil] at h1
    rw [sizeLine_eq]; omega
  have he : ∃ q, h'.get? s.heap.objs.size = some q := let ⟨q, _, _, hq, _⟩ := dd'; ⟨q, hq⟩
  exact d_write I2 (by rw [e]; exact True.intro) hs he (dk_new hz hd (rk.merge .nil) dd')


/-! ### methods -/
/-- a method call o.m(e) of a built-in, with one argument: what must be seen of the text -/
structure M1 (X : Cx) (o : Expr) (m : Str) (apos : Pos) (e : Expr) (cpos : Pos) : Prop where
  base : attributeBase o m X.env (eval o X.env) = eval o X.env
  few : ((backTo cpos (starEach [e] X.env)).all (fun x => !x.1) && (backToKw cpos (keywordEach [] X.env)).all (fun x => x.1.isSome)
    && decide (([e] : List Expr).length + ([] : List Keyword).length + (if ([] : List Keyword).isEmpty then 0 else 1) < 30)) = true
  line : (apos.endLine == cpos.line) = true
  trees : backTo cpos (starEach [e] X.env) = [(false, eval e X.env)]
structure M2 (X : Cx) (o : Expr) (m : Str) (apos : Pos) (e f : Expr) (cpos : Pos) : Prop where
  base : attributeBase o m X.env (eval o X.env) = eval o X.env
  few : ((backTo cpos (starEach [e, f] X.env)).all (fun x => !x.1) && (backToKw cpos (keywordEach [] X.env)).all (fun x => x.1.isSome)
    && decide (([e, f] : List Expr).length + ([] : List Keyword).length + (if ([] : List Keyword).isEmpty then 0 else 1) < 30)) = true
  line : (apos.endLine == cpos.line) = true
  trees : backTo cpos (starEach [e, f] X.env) = [(false, eval e X.env), (false, eval f X.env)]


section
variable {X : Cx} {pins : List (Addr × Obj)} {σ : St} {H : Hp} {s : Shared} {a : Addr} {y d : V} {u r : Value} {o : Option V} {A : Around} {E : Value → Shared → Prop}
end

section
variable {X : Cx} {o e f : Expr} {apos cpos : Pos} {td ty tx : TE}
end

/-! ### dict(d): a copy -/
section
variable {X : Cx} {pins : List (Addr × Obj)} {σ : St} {H : Hp} {s : Shared} {a : Addr} {kvs : List (Key × V)} {A : Around} {E : Value → Shared → Prop}
end


section
variable {X : Cx} {pins : List (Addr × Obj)} {σ : St} {H : Hp} {s : Shared} {a : Addr} {y : V} {u : Value} {A : Around} {E : Value → Shared → Prop}
end
end L2

namespace L2
open PySem PySem.Spec PyProof.Rows


section
variable {prog : Program} {w : World} {A : Around} {E : Value → Shared → Prop}


end

section
variable {X : Cx}
end
end L2

namespace L2
open PySem PySem.Spec PyProof.Rows

theorem boot_reversed5 : bootBuiltins "reversed" = some (.type "reversed") := by decide +kernel

section
variable {X : Cx} {pins : List (Addr × Obj)} {σ : St} {H : Hp} {s : Shared} {h' : Heap}
/-- several records of ours have turned -/
theorem Inv.turnedL {t' : Nat} {ch : List Addr} (I : Inv X pins σ H s) (k : ∀ b o, b ∉ ch → s.heap.get? b = some o → h'.get? b = some o) (hf : ∀ b ∈ ch, FpOk X pins H b) : Inv X pins σ H { s with heap := h', toks := t' } := by
  have nit : ∀ b u, H b = some u → b ∉ ch := fun b u e z => by
    have q := (hf b z).1
    rw [q] at e; cases e
  refine I.step (g' := s.gens) (d' := s.drawn) (ch := ch) (fun b hb => ⟨(hf b hb).2.2.2.1, (hf b hb).2.1, (hf b hb).2.2.2.2.1, (hf b hb).2.2.2.2.2⟩) (fun b o _ _ hc e _ => k b o hc e) (fun b o _ _ hc e _ => ⟨o.slots, k b o hc e⟩)
    (fun _ _ _ _ n => n) (fun b o hc e => ⟨o, k b o hc e⟩) (fun _ _ e => e) (fun _ _ _ e => e) (fun b ps e => ⟨#[], by rw [e]; simp⟩) (fun m hm => ?_) (fun b u e => ?_) I.bare
  · obtain ⟨o, es, ep, ho, r⟩ := hm
    exact ⟨o, es, ep, k _ o (fun z => (hf _ z).2.1 rfl) ho, r⟩
  · refine (I.hok b u e).stay (fun c v hc q => k c v ?_ q) (fun _ q => q) fun _ _ q => q
    rcases hc with z | z
    · rw [z]; exact nit b u e
    · exact nit c _ z
/-- .. and one new object is laid -/
theorem Inv.turnedNew {t' : Nat} {ch : List Addr} {T : Addr} {ob : HO} (I : Inv X pins σ H s) (k : ∀ b o, b ∉ ch → s.heap.get? b = some o → h'.get? b = some o) (hf : ∀ b ∈ ch, FpOk X pins H b) (hT : s.heap.objs.size ≤ T)
    (new : ObjOk X.prog X.w (upd H T ob) h' T ob) : Inv X pins σ (upd H T ob) { s with heap := h', toks := t' } := by
  have hn : H T = none := I.hok.fresh hT
  have nit : ∀ b u, H b = some u → b ∉ ch := fun b u e z => by
    have q := (hf b z).1
    rw [q] at e; cases e
  refine I.step (g' := s.gens) (d' := s.drawn) (ch := ch) (fun b hb => ⟨(hf b hb).2.2.2.1, (hf b hb).2.1, (hf b hb).2.2.2.2.1, (hf b hb).2.2.2.2.2⟩) (fun b o _ _ hc e _ => k b o hc e) (fun b o _ _ hc e _ => ⟨o.slots, k b o hc e⟩)
    (fun b o _ e n => ?_) (fun b o hc e => ⟨o, k b o hc e⟩) (fun b xs e => ?_) (fun b o u e => ?_) (fun b ps e => ⟨#[], ?_⟩) (fun m hm => ?_) (fun b u e => ?_) I.bare
  · rw [upd_ne (Nat.ne_of_lt (Nat.lt_of_lt_of_le (Heap.lt_size e) hT))]; exact n
  · rw [upd_ne (ne_of_none e hn)]; exact e
  · rw [upd_ne (ne_of_none e hn)]; exact e
  · rw [upd_ne (ne_of_none e hn), e]; simp
  · obtain ⟨o, es, ep, ho, r⟩ := hm
    exact ⟨o, es, ep, k _ o (fun z => (hf _ z).2.1 rfl) ho, r⟩
  · by_cases hb : b = T
    · subst hb
      rw [upd_same] at e
      cases e
      exact new
    · rw [upd_ne hb] at e
      refine (I.hok b u e).stay (fun c v hc q => k c v ?_ q) (fun c q => by rw [upd_ne (ne_of_none q hn)]; exact q) fun c xs q => by rw [upd_ne (ne_of_none q hn)]; exact q
      rcases hc with z | z
      · rw [z]; exact nit b u e
      · exact nit c _ z

/-! ### locking a thing while a statement runs -/
end
section
variable {X : Cx}

/-! ### one iterator just laid -/
theorem pi_one {tg : Expr} {pins : List (Addr × Obj)} {σ : St} {H : Hp} {s : Shared} {R : It → Hp → Prop} {J : It} {tn : Nat → Heap → Prop} {tk : Nat} (I : Inv X pins σ H s) (o : Obj)
    (T : Turn X.prog X.w X.K tg J [s.heap.objs.size] s.heap.objs.size tn) (st : tn 0 (s.heap.push o)) (q : R J H) : PIE X pins σ tg R (.ref s.heap.objs.size) { s with heap := s.heap.push o, toks := tk } := by
  refine ⟨s.heap.objs.size, [s.heap.objs.size], tn, J, H, rfl, I.kept fun b ob e => Heap.get?_push_of_some _ e, T, st, fun b hb => ?_, q⟩
  have e : b = s.heap.objs.size := by simpa using hb
  subst e
  exact I.fpOk (Nat.le_refl _) (I.hok.fresh (Nat.le_refl _))
end

/-! ### range with a step -/
section
variable {X : Cx} {tg : Expr}
end

/-! ### reversed(list) -/
section
variable {X : Cx} {tg : Expr}
end

/-! ### a str -/
def Its (x : Str) : It := ⟨fun i _ => i < x.cps.size, fun i H v H' => H' = H ∧ ∃ c, x.cps[i]? = some c ∧ v = .str ⟨#[c]⟩, fun i _ => x.cps.size ≤ i⟩
theorem turn_str {P : Program} {w : World} {K : PySem.W.Frag} {tg : Expr} (it : Addr) (x : Str) (t : Tok) (ty : String) (hty : ty = "str_ascii_iterator" ∨ ty = "str_iterator") :
    Turn P w K tg (Its x) [it] it (fun i h => h.IsStrIter it ty x t i) where
  mem := by simp
  obj := fun i h st b hb => by
    have e : b = it := by simpa using hb
    subst e
    obtain ⟨o, e, c, d⟩ := st
    exact ⟨o, e, fun v z => by rw [d] at z; cases z⟩
  keep := fun i h h' st k => let ⟨o, ho, r⟩ := st; ⟨o, k it (by simp) o ho, r⟩
  item := by
    intro X hP hw hK hc i pins s σ H E I hf st hg
    subst hP hw hK
    obtain ⟨f0, f1, f2, f3, f4, f5⟩ := hf it (by simp)
    have W : Walks X.prog X.w X.A it [it] [it] x.cps.size (SignAt x) (fun i h => h.IsStrIter it ty x t i) := by
      rcases hty with e | e
      · rw [e]; exact Walks.strAscii (I.ok.hd hc) it x t
      · rw [e]; exact Walks.strWide (I.ok.hd hc) it x t
    have hno : ["enumerate", "zip", "dict_itemiterator", "dict_reverseitemiterator", "odict_iterator", "itertools.zip_longest", "itertools.pairwise"].contains ty = false := by
      rcases hty with e | e
      · rw [e]; decide
      · rw [e]; decide
    refine W.item i s _ _ hg st fun v h' tk hv st' kk => ?_
    obtain ⟨c, u, hcx, rfl⟩ := hv
    have I1 : Inv X pins σ H { s with heap := h', toks := tk } := I.turned (fun b o hb e => kk b o (by simpa using hb) e) f0 f1 f3 f4 f5
    obtain ⟨oi, e, cc, dd⟩ := id st'
    exact ⟨_, rfl, go_of (s := { s with heap := h', toks := tk }) e cc dd hno ⟨.str ⟨#[c]⟩, H, I1, ⟨u, rfl⟩, ⟨rfl, c, hcx, rfl⟩, st', fun b hb => (hf b hb).1⟩⟩
  done := by
    intro X hP hw hK hc i pins s σ H E I hf st hg
    subst hP hw hK
    obtain ⟨f0, f1, f2, f3, f4, f5⟩ := hf it (by simp)
    have hx : x.cps[i]? = none := Array.getElem?_eq_none hg
    rcases hty with e | e
    · rw [e] at st
      exact wpAny_pyNext_ascii_end (I.ok.hd hc) st hx fun h' eb => ⟨rfl, I.turned (t' := s.toks) (fun b o hb e => eb b o hb e) f0 f1 f3 f4 f5⟩
    · rw [e] at st
      exact wpAny_pyNext_wide_end (I.ok.hd hc) st hx fun h' eb => ⟨rfl, I.turned (t' := s.toks) (fun b o hb e => eb b o hb e) f0 f1 f3 f4 f5⟩
  self := fun A i s Q E st h => by
    rcases hty with e | e
    · rw [e] at st; exact wpAny_pyIter_striter_ascii st h
    · rw [e] at st; exact wpAny_pyIter_striter_wide st h

/-! ### a dict's keys: any dict's entries -/
section
variable {prog : Program} {w : World} {A : Around} {E : Value → Shared → Prop} {s : Shared}
end

/-! ### a locked dict -/
section
variable {X : Cx} {pins : List (Addr × Obj)} {σ : St} {H : Hp} {s : Shared} {d : Addr} {o : Obj}
end

section
variable {P : Program} {w : World} {K : PySem.W.Frag} {tg : Expr} {d : Addr} {o : Obj} {es : Array DictEntry} {ep : Nat}
end

/-! ### for k in d, d.keys(), d.values(), d.items() -/
section
variable {X : Cx} {tg e : Expr} {td : TE} {apos cpos : Pos}
end

/-! ### enumerate(list) -/
/-! ### zip(list, list) -/
theorem boot_zip5 : bootBuiltins "zip" = some (.type "zip") := by decide +kernel
end L2

section 
namespace Bits
open PySem PyProof.Rows








end Bits
end 

section 
namespace TL
open PySem PySem.Builtin PySem.Builtin.Str PySem.StrLaws

abbrev tl (x : Str) : List Nat := x.cps.toList

/-! ### the list functions -/
/-- S stands at the head of l -/
def pre (S l : List Nat) : Bool := l.take S.length == S
/-- l cut at each S from the left; k signs are still to be passed over -/
def spl (S : List Nat) : Nat → List Nat → List Nat → List (List Nat)
  | _, acc, [] => [acc]
  | 0, acc, c :: r => if pre S (c :: r) = true then acc :: spl S (S.length - 1) [] r else spl S 0 (acc ++ [c]) r
  | k + 1, acc, _ :: r => spl S k acc r
/-- what stands before the first S, and behind it -/
def par (S : List Nat) : List Nat → List Nat → Option (List Nat × List Nat)
  | _, [] => none
  | acc, c :: r => if pre S (c :: r) = true then some (acc, (c :: r).drop S.length) else par S (acc ++ [c]) r




/-! ### the model's split and partition are these -/




/-! ### computing spl and par -/


/-! ### digits -/

/-! ### words: x.split() -/
end TL
end 

namespace L2
open PySem PySem.Spec PyProof.Rows




section
variable {X : Cx} {pins : List (Addr × Obj)} {σ : St} {H : Hp} {s : Shared} {Q : VK}
end

section
variable {X : Cx}





/-! ### of a text alone -/

/-! ### of a text and a text -/
theorem mt1 {id : String} {g : Str → Str → V} (rule : ∀ (a b : Str) (t u : Tok) (s : Shared) (Q : Value → Shared → Prop), (∀ (v : Value) (k : Nat), RelV (g a b) v → Q v { s with toks := k }) →
    wpAny (model X.prog X.w) X.A (call (.builtin id) [.str a t, .str b u]) Q X.xe s) : MtR X id (fun x xs H Q => ∃ a b, x = .str a ∧ xs = [.str b] ∧ Q (g a b) H) := by
  intro pins s σ H x xs v us Q I rx rs h
  obtain ⟨a, b, rfl, rfl, h⟩ := h
  obtain ⟨t, rfl⟩ := rx
  cases rs with
  | cons r1 rs =>
    cases rs
    obtain ⟨u, rfl⟩ := r1
    exact rule a b t u s _ fun v k r => ⟨g a b, H, I.tok k, r, h⟩
theorem mt_startswith : MtR X "str.startswith" (fun x xs H Q => ∃ a b, x = .str a ∧ xs = [.str b] ∧ Q (.bl (Txt.startswith a b)) H) :=
  mt1 (g := fun a b => .bl (Txt.startswith a b)) fun _ _ _ _ s _ h => PySem.SC.startswith (h _ s.toks rfl)

end

section
variable {X : Cx} {o e : Expr} {to te : TE}
def tM1 (r : V → List V → Hp → VK → Prop) (to te : TE) : TE := fun σ H Q => to σ H fun x H1 => (∃ a, x = .str a) ∧ te σ H1 fun y H2 => r x [y] H2 Q
theorem pe_m1 {id : String} {name : Str} {apos pos : Pos} {r : V → List V → Hp → VK → Prop} (slot : Slot "str" name id) (ty : typeOf (.builtin id) = pure (.type "method_descriptor")) (rule : MtR X id r) (ho : PE X o to) (he : PE X e te)
    (hs : starEach [e] X.env = [(false, eval e X.env)] := by rfl) (hbase : attributeBase o name X.env (eval o X.env) = eval o X.env := by rfl) (hline : (apos.endLine == pos.line) = true := by rfl) :
    PE X (.Call (.Attribute o name apos) [e] [] pos) (tM1 r to te) := by
  intro pins s σ H Q I h
  refine PySem.Call_method1 hbase hs hline (thn (ho pins s σ H _ I h) fun v s1 ⟨x, H1, I1, r1, q1⟩ => ?_)
  obtain ⟨⟨a, rfl⟩, q1⟩ := q1
  obtain ⟨t, rfl⟩ := _root_.id r1
  refine ⟨"str", _, F.plainAttrs_str, slot, ty, typeIs_str _ _ _, (fun _ e => nomatch e), Calls.callWith_builtin rfl (Calls.evalArgs_plain (Calls.spliced_cons ?_))⟩
  exact thn (he pins s1 σ H1 _ I1 q1) fun u s2 ⟨y, H2, I2, r2, q2⟩ => Calls.spliced_nil (rule pins s2 σ H2 _ [y] _ [u] Q I2 r1 (.cons r2 .nil) q2)

end
end L2

namespace L2
open PySem PySem.Spec PyProof.Rows

section
variable {X : Cx}
end

/-! ### slices of a text -/
theorem IsPart.raw {v : Value} {o : Option Int} (p : IsPart v o) : ∃ l : Option (Int × Tok), v = partValue l ∧ l.map (·.1) = o := by
  cases p with
  | none => exact ⟨none, rfl, rfl⟩
  | int i t => exact ⟨some (i, t), rfl, rfl⟩

/-- a part, clipped, as the text's slice reckons it -/
def clipS (n d : Nat) : Option Int → Int
  | none => (d : Int)
  | some i => max 0 (min (if i < 0 then i + (n : Int) else i) (n : Int))
theorem clipS_eq (n d : Nat) (o : Option Int) : clipS n d o = ((HT.sIx n d o : Nat) : Int) := by
  cases o with
  | none => rfl
  | some v =>
    show max (0 : Int) (min (if v < 0 then v + (n : Int) else v) (n : Int)) = (((if v < 0 then (v + (n : Int)).toNat else min v.toNat n) : Nat) : Int)
    by_cases hv : v < 0
    · simp only [if_pos hv]
      omega
    · simp only [if_neg hv]
      omega
theorem sidx_clip (a b : Option Int) (n : Nat) : Builtin.Str.strSliceIndices a b 1 n = sliceRange (clipS n 0 a) (clipS n n b) 1 := by
  have h1 : ((1 : Int) > 0) = True := by simp
  cases a <;> cases b <;> first
    | rfl
    | (simp only [Builtin.Str.strSliceIndices, clipS, h1, if_true]; rfl)
    | simp [Builtin.Str.strSliceIndices, clipS]
theorem sidx (a b : Option Int) (n : Nat) : Builtin.Str.strSliceIndices a b 1 n = (List.range (HT.sIx n n b - HT.sIx n 0 a)).map (fun k => HT.sIx n 0 a + k) := by
  rw [sidx_clip, clipS_eq, clipS_eq]
  generalize HT.sIx n 0 a = p
  generalize HT.sIx n n b = q
  simp only [sliceRange, show ((1 : Int) > 0) = True from by simp, if_true]
  by_cases hlt : (p : Int) < q
  · have e3 : (((q : Int) - p + 1 - 1) / 1).toNat = q - p := by first | omega | (simp; done) | (simp; omega)
    simp only [hlt, if_true, e3]
    refine List.map_congr_left fun k _ => ?_
    omega
  · have : q - p = 0 := by omega
    simp [hlt, this]

/-- z[lo:hi] -/
def cutS (z : Str) (lo hi : Option Int) : Str :=
  ⟨((z.cps.toList.drop (HT.sIx z.length 0 lo)).take (HT.sIx z.length z.length hi - HT.sIx z.length 0 lo)).toArray⟩
theorem sliceText_cut (z : Str) (lo hi : Option Int) : PySem.StrLaws.sliceText z lo hi = cutS z lo hi := by
  have h1 : HT.sIx z.length 0 lo ≤ z.length := HT.sIx_le _ _ (Nat.zero_le _) _
  have h2 : HT.sIx z.length z.length hi ≤ z.length := HT.sIx_le _ _ (Nat.le_refl _) _
  have hp : HT.sIx z.length 0 lo ≤ max (HT.sIx z.length 0 lo) (HT.sIx z.length z.length hi) := Nat.le_max_left _ _
  have hq : max (HT.sIx z.length 0 lo) (HT.sIx z.length z.length hi) ≤ z.length := Nat.max_le.mpr ⟨h1, h2⟩
  have hd : max (HT.sIx z.length 0 lo) (HT.sIx z.length z.length hi) - HT.sIx z.length 0 lo = HT.sIx z.length z.length hi - HT.sIx z.length 0 lo := by omega
  have e : Builtin.Str.strSliceIndices lo hi 1 z.length =
      Builtin.Str.strSliceIndices (some ((HT.sIx z.length 0 lo : Nat) : Int)) (some ((max (HT.sIx z.length 0 lo) (HT.sIx z.length z.length hi) : Nat) : Int)) 1 z.length := by
    rw [PySem.StrLaws.strSliceIndices_plain hp hq, hd, sidx]
  have e2 : PySem.StrLaws.sliceText z lo hi =
      PySem.StrLaws.sliceText z (some ((HT.sIx z.length 0 lo : Nat) : Int)) (some ((max (HT.sIx z.length 0 lo) (HT.sIx z.length z.length hi) : Nat) : Int)) := by
    unfold PySem.StrLaws.sliceText
    rw [e]
  rw [e2, PySem.StrLaws.sliceText_nat z hp hq, hd]
  rfl
theorem cutS_length (z : Str) (lo hi : Option Int) : (cutS z lo hi).length ≤ z.length := by
  show (((z.cps.toList.drop (HT.sIx z.length 0 lo)).take (HT.sIx z.length z.length hi - HT.sIx z.length 0 lo)).toArray).size ≤ z.cps.size
  rw [List.size_toArray, List.length_take, List.length_drop, Array.length_toList]
  omega
def rSlS : V → Option Int → Option Int → Hp → VK → Prop := fun x lo hi H Q => ∃ z, x = .str z ∧ z.length ≤ sizeLine ∧ Q (.str (cutS z lo hi)) H
theorem sl_str {X : Cx} : SlR X rSlS := by
  intro pins s σ H x v vl vu lo hi sl Q I rx hs pl pu h
  obtain ⟨z, rfl, hz, q⟩ := h
  obtain ⟨t, rfl⟩ := rx
  obtain ⟨os, hos, hcs, hds⟩ := hs
  obtain ⟨l, rfl, rfl⟩ := IsPart.raw pl
  obtain ⟨u, rfl, rfl⟩ := IsPart.raw pu
  refine ⟨"str", _, F.slot_str_getitem.lookup, typeIs_str _ _ _, ?_⟩
  refine wpAny_getItem_str_slice (l := l) (u := u) (st := none) ⟨os, hos, hcs, hds⟩ rfl ?_
  have hl : (PySem.StrLaws.sliceText z (l.map (·.1)) (u.map (·.1))).length ≤ sizeLine := by
    rw [sliceText_cut]
    exact Nat.le_trans (cutS_length z _ _) hz
  rw [← sliceText_cut] at q
  unfold PySem.StrLaws.sliceText at q hl
  show Made.post (if ((1 : Int) == 1 && (Builtin.Str.strSliceIndices (l.map (·.1)) (u.map (·.1)) 1 z.length).length == z.length) = true then Made.val (.str z t)
    else Made.str ⟨((Builtin.Str.strSliceIndices (l.map (·.1)) (u.map (·.1)) 1 z.length).filterMap (z.cps[·]?)).toArray⟩) (EP X pins σ Q) s
  by_cases c : ((1 : Int) == 1 && (Builtin.Str.strSliceIndices (l.map (·.1)) (u.map (·.1)) 1 z.length).length == z.length) = true
  · rw [if_pos c] at q ⊢
    exact ⟨.str z, H, I, ⟨t, rfl⟩, q⟩
  · rw [if_neg c] at q hl ⊢
    exact ⟨hl, .str _, H, I.tok _, ⟨_, rfl⟩, q⟩
end L2

namespace Att
open PySem PySem.W PySem.Calls PyProof.Rows

/-! ### the script -/
theorem ints_of_wellAll {P : Params} {h : Heap} : ∀ (ns : List Int) (vs : List Value), WellAll P h vs (ns.map WData.int) → IntsAre vs ns := by
  intro ns
  induction ns with
  | nil =>
    intro vs w
    rw [List.map_nil] at w
    cases w
    exact .nil
  | cons n ns ih =>
    intro vs w
    rw [List.map_cons] at w
    cases w with
    | cons a b =>
      cases a
      exact .cons _ _ (ih _ b)

theorem script_of {l : OpenLaw} {n : Nat} (hn : l.most = some n) {P : Params} {h : Heap} {args : List WData} {vals : List Value}
    (hpre : l.row.toRowW.claim.pre args = true) (hwl : WellAll P h vals args) :
    ∃ a vs ns, vals = [Value.ref a] ∧ args = [WData.list (ns.map WData.int)] ∧ h.get? a = some { cls := .type "list", data := .seq vs.toArray } ∧ IntsAre vs ns ∧ ns.length ≤ n := by
  have hsh : WShape.hasAll [] args [.list .int] = true := (pre_splitW hpre).1
  have hc : l.pre.holds [] { args := args } = true := (pre_splitW hpre).2
  obtain ⟨d, r, rfl, h1, h2⟩ := hasAllW_cons hsh
  obtain rfl := hasAllW_nil h2
  obtain ⟨xs, rfl, h3⟩ := hasW_list h1
  obtain ⟨ns, rfl⟩ := items_int h3
  have hlen : ns.length ≤ n := by
    unfold OpenLaw.pre at hc
    have h4 : (WTm.not (.lt (.lit (.int (n : Int))) (.len (.arg 0)))).holds [] { args := [.list (ns.map .int)] } = true := by
      have h4 := (holds_andW hc).1
      rw [hn] at h4
      exact h4
    have h5 := condW_of h4 (w_not (w_lt w_lit (w_len_list (w_arg rfl))))
    rw [List.length_map] at h5
    refine Nat.le_of_not_lt fun q => ?_
    have q' : (n : Int) < ((ns.length : Nat) : Int) := by omega
    first
      | (rw [decide_eq_true q'] at h5; exact absurd h5 (by decide))
      | (simp at h5; omega)
  cases hwl with
  | cons w1 w2 =>
    cases w2
    cases w1 with
    | list ho hall => exact ⟨_, _, ns, rfl, rfl, ho, ints_of_wellAll ns _ hall, hlen⟩

theorem post_true (l : OpenLaw) (args : List WData) : l.row.toRowW.claim.post args (.bool true) args = true :=
  postW_of (r := l.row.toRowW) (X := (true == true))
    (show WShape.has [] (.bool true) .bool = true by first | rfl | decide | simp [WShape.has, WShape.arms, WShape.armsAll])
    (show (WTm.eq .res (.lit (.bool true))).value [] { args := args, res := some (.bool true), after := args } = some (.bool (true == true)) from w_eq_bool (w_res rfl) w_lit) rfl

/-! ### the attachment: holds_open's last premise (the goal 'hc' behind k_head) from a wpAny of the law's body -/

/-- the same from a codeAny of the CALL (for a layer whose function contracts speak of calls) -/
theorem attach_call {l : OpenLaw} {n : Nat} {q : Program} {loose : List Str} {XP : (Str → Option Value) → Heap → Prop} {YP : World → Heap → Prop} {d : DefRec}
    (hn : l.most = some n) (hdf : d.params.defaults = [])
    (call : ∀ (w : World) (s₀ s₁ : Shared) (mg mb : Str → Option Value) (fa : Addr) (o : Obj) (pm cd doc : Value) (a : Addr) (vs : List Value) (ns : List Int),
      Ground q loose [] XP w s₀ mg mb s₁.heap → YP w s₁.heap →
      s₁.heap.get? fa = some o → o.data = .func (docDef d.name d.params d.body d.scope pm cd doc) → s₁.heap.CodeRec cd d.name → mg d.name = some (.ref fa) →
      s₁.heap.get? a = some { cls := .type "list", data := .seq vs.toArray } → IntsAre vs ns → ns.length ≤ n → s₁.gens = #[] →
      codeAny (model l.prog w) callerA (.call (.ref fa) ⟨[.ref a], []⟩) (fun r s' => r = .ok (.ret (.bool true)) ∧ OldK s₁.heap s'.heap ∧ s'.os = s₁.os ∧ AllBare s'.gens) s₁) :
    WalkO q loose XP YP l.row.toRowW d [] (fun f vs => PySem.call f vs) := by
  intro w s₀ s₁ mg mb G Y fa o pm cd doc dV kV ho hd hcd hD hmg hg args vals as hpre hlay hrd hwl hlo
  obtain rfl : dV = .none := Dflts.none hD hdf
  obtain rfl : kV = .none := Dflts.noKw hD
  obtain ⟨a, vs, ns, rfl, rfl, hobj, hints, hlen⟩ := script_of hn hpre hwl
  refine enter_call (codeAny_mono (call w s₀ s₁ mg mb fa o pm cd doc a vs ns G Y ho (fd_plain hd) hcd hmg hobj hints hlen hg) fun r s' hq => ?_)
  obtain ⟨rfl, h2, h3, h4⟩ := hq
  exact ⟨.inl ⟨.bool true, .bool true, [], rfl, fun _ => rfl, .bool true, post_true l _, fun _ => ⟨List.Pairwise.nil, fun _ hm => (nomatch hm)⟩⟩, h2, h3, h4⟩


/-! ### rules over ANY heap (no ledger) from facts about the written part K: the library's own take a ledger (News) for what they write -/
section
variable {prog : Program} {w : World} {A : Around} {E : Value → Shared → Prop} {s : Shared} {K : Frag}





/-! the whole heap as the ledger: makes every rule that writes through a ledger a rule over any heap -/
def ledger (h : Heap) (L d : Addr) : List (Addr × Obj) := (List.range h.objs.size).filterMap fun a => if a = L ∨ a = d then none else (h.get? a).map fun o => (a, o)

end
end Att

namespace L2
open PySem PySem.Spec PyProof.Rows

theorem vals_ints : ∀ {vs : List Value} {ns : List Int}, IntsAre vs ns → Vals (ns.map V.int) vs
  | _, _, .nil => .nil
  | _, _, .cons n t h => .cons ⟨t, rfl⟩ (vals_ints h)

/-- nothing is tracked but the script, known to the object (or it is an object of the module) -/
def Only (H : Hp) : Prop := ∀ b, H b = none ∨ ∃ o xs, H b = some (.frz o (.lst xs))

/-- THE HEAD: the law's promise, at the heap behind the top. F, the promise of the law's def, may use that base is part of the heap (so K.In base, base.Ns mainGlobals mg stand in Mod) -/
theorem law_call {P : Program} {w : World} {K : PySem.W.Frag} {mg mb : Str → Option Value} {CX : CXT} {k : Nat} {fa a : Addr} {fd : FuncData} {x : Str} {sp : Sp} {s₁ : Shared} {vs : List Value} {ns : List Int}
    (KX : K.In s₁.heap) (hns : s₁.heap.Ns mainGlobals mg) (hb : s₁.heap.Ns builtinsNs mb) (hbb : ∀ x : Str, x ≠ "__name__" → mb x = bootBuiltins x) (hlim : s₁.heap.NoLimit) (hg : s₁.gens = #[])
    (ha : s₁.heap.get? a = some { cls := .type "list", data := .seq vs.toArray }) (hi : IntsAre vs ns) (hl : ns.length ≤ sizeLine) (hr : Room k callerA)
    (F : ∀ base : Heap, K.In base → base.Ns mainGlobals mg → FnOk P w K mg base CX k fa fd [x] sp) (hbind : ∀ (s : Shared) (u : Value), BindsTo s fd ⟨[u], []⟩ [(x, u)])
    (hsp : ∀ H : Hp, Only H → SqL K H a (ns.map V.int) → sp [.ref a] H (fun v _ => v = .bl true) fun _ _ _ => False)
    (hCX : ∀ H e s', CX [] H s₁ (fun _ _ _ => False) e s' → False) :
    codeAny (model P w) callerA (.call (.ref fa) ⟨[.ref a], []⟩) (fun r s' => r = .ok (.ret (.bool true)) ∧ OldK s₁.heap s'.heap ∧ s'.os = s₁.os ∧ AllBare s'.gens) s₁ := by
  have rv := vals_ints hi
  have lenV := hi.length
  -- from an abstract heap in which nothing but the script may be tracked
  have core : ∀ H : Hp, Only H → SqL K H a (ns.map V.int) → HOk P w H s₁.heap → (∀ b, H b ≠ none → b = a) → (H a ≠ none → K.lookup a = none) →
      codeAny (model P w) callerA (.call (.ref fa) ⟨[.ref a], []⟩) (fun r s' => r = .ok (.ret (.bool true)) ∧ OldK s₁.heap s'.heap ∧ s'.os = s₁.os ∧ AllBare s'.gens) s₁ := by
    intro H hO hS hok hA hK
    have base_of : ∀ {b : Addr} {o : Obj}, s₁.heap.get? b = some o → H b = none → (hidT s₁.heap H).get? b = some o := fun e n => hidT_get e n
    have noA : ∀ {b : Addr} {o : Obj} {es : Array DictEntry} {ep : Nat}, s₁.heap.get? b = some o → o.data = .dict es ep → H b = none := fun {b o es ep} e d => by
      cases q : H b with
      | none => rfl
      | some u =>
        have e' : b = a := hA b (by rw [q]; simp)
        subst e'
        rw [ha] at e; cases e
        have d' : Data.seq vs.toArray _ = Data.dict es ep := d
        cases d'
    have nsK : ∀ {b : Addr} {m : Str → Option Value}, s₁.heap.Ns b m → (hidT s₁.heap H).Ns b m := fun {b m} ⟨o, es, ep, e, d, r⟩ => ⟨o, es, ep, base_of e (noA e d), d, r⟩
    have hKb : K.In (hidT s₁.heap H) := fun b o e => base_of (KX b o e) (by
      cases q : H b with
      | none => rfl
      | some u =>
        have e' : b = a := hA b (by rw [q]; simp)
        subst e'
        rw [hK (by rw [q]; simp)] at e; cases e)
    have hM : Mod K mg (hidT s₁.heap H) := ⟨hKb, nsK hns, ⟨mb, nsK hb, hbb⟩, let ⟨mc, h1, h2⟩ := hlim; ⟨mc, nsK h1, h2⟩⟩
    have e0 : Env0 P w K mg (hidT s₁.heap H) callerA [] s₁ H := ⟨rfl, hM, fun b o e => of_hidT e, Nat.le_of_eq (hidT_size _ _), trivial, fun b hb => absurd (show b ∈ ([] : List Addr) from hb) (by simp), hok, .of_eq hg⟩
    refine codeAny_mono ((F _ hKb (nsK hns)).run callerA [] s₁ H ⟨[.ref a], []⟩ [.ref a] [.ref a] _ _ hr e0 (hbind s₁ (.ref a)) (.cons rfl .nil) (hsp H hO hS)) fun r s' h => ?_
    cases r with
    | error e => exact (hCX H e s' h).elim
    | ok fl =>
      cases fl with
      | next => exact False.elim h
      | brk => exact False.elim h
      | cont => exact False.elim h
      | ret u =>
        obtain ⟨v, H', os, bare, un, hok', r', q⟩ := h
        have q' : v = .bl true := q
        subst q'
        obtain rfl : u = Value.bool true := r'
        refine ⟨rfl, OldK.of_keep fun b o e => ?_, os, bare⟩
        cases q : H b with
        | none => exact un.keep b o e q (by intro z; exact absurd (show b ∈ ([] : List Addr) from z) (by simp)) (by simp)
        | some u =>
          rcases hO b with z | ⟨ob, xs, z⟩
          · rw [q] at z; cases z
          · have z2 := un.frzs b ob _ z
            obtain ⟨e1, _⟩ := hok b _ z
            obtain ⟨e2, _⟩ := hok' b _ z2
            rw [e] at e1; cases e1
            exact e2
  cases hk : K.lookup a with
  | some o =>
    -- the script is one of the module's own objects
    have e := KX a o hk
    rw [ha] at e
    cases e
    refine core (fun _ => none) (fun _ => .inl rfl) (.inr ⟨_, vs.toArray, _, hk, rfl, rfl, rfl, by rw [List.size_toArray, lenV]; exact hl, by simpa using rv⟩) (fun b u z => by have z' : (none : Option HO) = some u := z; cases z') (fun b z => absurd rfl z) fun z => absurd rfl z
  | none =>
    refine core (fun b => if b = a then some (.frz { cls := .type "list", data := .seq vs.toArray } (.lst (ns.map V.int))) else none) (fun b => ?_) (.inl (.inr ⟨{ cls := .type "list", data := .seq vs.toArray }, if_pos rfl⟩)) (fun b u z => ?_) (fun b z => ?_) fun _ => hk
    · by_cases hb : b = a
      · exact .inr ⟨_, _, if_pos hb⟩
      · exact .inl (if_neg hb)
    · by_cases hb : b = a
      · have z' := (if_pos hb).symm.trans z
        cases z'
        subst hb
        exact ⟨ha, by rw [List.length_map]; exact hl, vs, _, rv, ha⟩
      · have z' := (if_neg hb).symm.trans z
        cases z'
    · by_cases hb : b = a
      · exact hb
      · exact absurd (if_neg hb) z
end L2

namespace L2
open PySem PySem.Spec PyProof.Rows

abbrev KOf {K : PySem.W.Frag} {h : Heap} (_ : K.In h) : PySem.W.Frag := K

/-- the goal that k_head leaves (case hc), from the law's promise. F gives the function object fd (K's own) once, then the promise over every base -/
theorem walk_of {l : PySem.W.OpenLaw} {n k : Nat} {q : Program} {loose : List Str} {XP : (Str → Option Value) → Heap → Prop} {YP : World → Heap → Prop} {d : DefRec} {K : Params → PySem.W.Frag} {CX : World → CXT} {sp : World → Sp} {x : Str}
    (hn : l.most = some n) (hn2 : n ≤ sizeLine) (hdf : d.params.defaults = []) (hr : Room k callerA)
    (hY : ∀ (w : World) (h : Heap), YP w h → (K w.params).In h)
    (F : ∀ (w : World) (mg : Str → Option Value) (fa : Addr) (h : Heap), (K w.params).In h → h.Ns mainGlobals mg → mg d.name = some (.ref fa) →
      ∃ fd : FuncData, (∀ (s : Shared) (u : Value), BindsTo s fd ⟨[u], []⟩ [(x, u)]) ∧
        ∀ base : Heap, (K w.params).In base → base.Ns mainGlobals mg → FnOk l.prog w (K w.params) mg base (CX w) k fa fd [x] (sp w))
    (hsp : ∀ (w : World) (H : Hp) (a : Addr) (ns : List Int), ns.length ≤ n → Only H → SqL (K w.params) H a (ns.map V.int) → sp w [.ref a] H (fun v _ => v = .bl true) fun _ _ _ => False)
    (hCX : ∀ (w : World) (H : Hp) (s : Shared) (e : Value) (s' : Shared), CX w [] H s (fun _ _ _ => False) e s' → False) :
    PySem.W.WalkO q loose XP YP l.row.toRowW d [] (fun f vs => PySem.call f vs) := by
  refine Att.attach_call hn hdf fun w s₀ s₁ mg mb fa o pm cd doc a vs ns G Y ho hd hcd hmg hobj hints hlen hg => ?_
  have KX := hY w _ Y
  obtain ⟨fd, hb, hF⟩ := F w mg fa _ KX G.T.g hmg
  exact law_call KX G.T.g G.T.b G.T.builtins G.T.nolimit hg hobj hints (Nat.le_trans hlen hn2) hr hF hb (fun H hO hS => hsp w H a ns hlen hO hS) fun H e s' => hCX w H s₁ e s'
end L2

/- THE LAST THEOREM (shape; LID, My.* are yours):
   My.Adr: a structure of the addresses that your layer names (classes, functions); My.Txt K t: a structure (Prop) of the equations over K;
   My.txt_mk : {K} {implicit addresses ..} (e1 : nsIn K mainGlobals "law" = some (some (.ref f))) (e2 : K.lookup f = some ⟨oc, od, .func (fnOf "law" "law" params body scope dV kV doc pm an cdv ct), sl⟩) (e3 : codeIn K cdv "law" = true) .. : ∃ t, My.Txt K t

set_option maxRecDepth 100000 in
set_option maxHeartbeats 0 in
theorem PySem.Challenge.cw_LID_holds : PySem.Challenge.rw_LID.Holds := by
  w_on; o_law; k_head; (case hw => w_witness2)
  k_fill
  refine L2.walk_of (l := PySem.Challenge.rw_LID) (n := 63) (k := 40) (x := "script") (CX := fun w => ..) (sp := fun _ => My.sp_law) rfl (by decide) rfl ⟨rfl, by decide, by decide⟩ (fun w h Y => PySem.W.kIn_of Y) ?F ?S ?C
  case F =>
    intro w mg fa h KX G hmg
    have T : ∃ t, My.Txt (L2.KOf KX) t := by
      dsimp only [L2.KOf]                          -- K must stand as «<heap const> w.params» for k_is
      refine' My.txt_mk ?e1 ?e2 ?e3 ..
      (case e1 => PySem.W.k_is)                    -- in the order: a name -> its address -> its object -> its parts
      (case e2 => PySem.W.k_is)
      ..
    obtain ⟨t, T⟩ := T
    have e0 := hmg.symm.trans (PySem.W.mg_of KX G T.law)
    cases e0                                       -- fa is the law's own address
    exact ⟨_, fun s u => .of_eq rfl, fun base kb nb => My.law_fn T kb nb⟩     -- if «.of_eq rfl» comes too early: refine' ⟨_, ?b, fun base kb nb => My.law_fn T kb nb⟩; exact fun s u => .of_eq rfl
  case S => exact fun w H a ns hl hO hS => ..
  case C => exact ..
(the tactic k_is has no namespace: write k_is) -/

/-! SHORT WORDS over the layer: a def of the text, its body, what a loop and a test want. -/
namespace L2
open PySem PySem.Spec PyProof.Rows

/-! ### the text by places -/
def defArgs (s : Stmt) : Arguments := match s with
  | .FunctionDef _ a _ _ _ _ _ _ _ _ => a
  | _ => { posonlyargs := [], args := [], vararg := none, kwonlyargs := [], kw_defaults := [], kwarg := none, defaults := [] }
def defBody (s : Stmt) : List Stmt := match s with
  | .FunctionDef _ _ b _ _ _ _ _ _ _ => b
  | _ => []
def defScope (s : Stmt) : Scope := match s with
  | .FunctionDef _ _ _ _ _ _ sc _ _ _ => sc
  | _ => { kind := .function, names := [], isGenerator := false, isCoroutine := false }

/-! ### no exception leaves a def -/
abbrev CX0 : CXT := fun _ _ _ _ _ _ => False
abbrev E0 : XK := fun _ _ _ => False
theorem pass0 {X : Cx} : Passes CX0 X E0 := fun _ _ _ _ _ _ _ h => h.elim

/-! ### a def (or method) of the text as it stands behind the top -/
structure Fun (K : PySem.W.Frag) (x qual : Str) (st : Stmt) (f : Addr) (fd : FuncData) : Prop where
  ex : ∃ (oc : Value) (od : Option Addr) (kV doc pm : Value) (an : Option Addr) (cdv ct : Value) (osl : Array (Option Value)),
    fd = PySem.W.fnOf x qual (defArgs st) (defBody st) (defScope st) .none kV doc pm an cdv ct ∧ K.lookup f = some ⟨oc, od, .func fd, osl⟩ ∧ PySem.W.codeIn K cdv qual = true
  kp : PySem.W.keepIn K (.ref f) = true
section
variable {P : Program} {w : World} {K : PySem.W.Frag} {mg : Str → Option Value} {base : Heap}
/-- THE RULE for a def: its body as a term of rules, and the reading of that term -/
theorem Fun.ok {x qual : Str} {st : Stmt} {f : Addr} {fd : FuncData} {N ps : List Str} {k : Nat} {sp : Sp} (F : Fun K x qual st f fd) (S : FnScope N ps (defScope st)) (len : ∀ vs H Q E, sp vs H Q E → vs.length = ps.length)
    (hbody : ∀ (cdv : Value) (A : Around) (outer : List Env) (s : Shared) (H : Hp) (vs : List V) (Q : VK) (E : XK), Room k (A.deeper (envOfC qual (defScope st) s.heap.objs.size f cdv)) → sp vs H Q E →
      ∃ t, PSs (cxOf CX0 P w K mg base N qual (defScope st) f cdv A outer s H E).nox (defBody st) t ∧ t { nx := fun _ H' => Q .non H', rt := Q } (start N vs) H) : FnOk P w K mg base CX0 (k + 1) f fd ps sp := by
  obtain ⟨oc, od, kV, doc, pm, an, cdv, ct, osl, rfl, lk, hcd⟩ := F.ex
  refine fn_of lk hcd S len fun A outer s H vs Q E hr hsp => ?_
  obtain ⟨t, h, q⟩ := hbody cdv A outer s H vs Q E hr hsp
  exact ⟨t, h.nox, q⟩
/-- how its arguments bind (no defaults): h is «fun _ _ _ _ _ _ us hl => match us, hl with | [_, _], _ => rfl», one _ a parameter -/
theorem Fun.binds {x qual : Str} {st : Stmt} {f : Addr} {fd : FuncData} {ps : List Str} (F : Fun K x qual st f fd)
    (h : ∀ (kV doc pm : Value) (an : Option Addr) (cdv ct : Value) (us : List Value), us.length = ps.length → bindArgs (PySem.W.fnOf x qual (defArgs st) (defBody st) (defScope st) .none kV doc pm an cdv ct) ⟨us, []⟩ = pure (ps.zip us)) : Binds K fd ps [] := by
  obtain ⟨oc, od, kV, doc, pm, an, cdv, ct, osl, rfl, lk, hcd⟩ := F.ex
  exact .all (h kV doc pm an cdv ct)
theorem fun_mk {x qual : Str} {st : Stmt} {f : Addr} {oc : Value} {od an : Option Addr} {osl : Array (Option Value)} {kV doc pm cdv ct : Value} (l : K.lookup f = some ⟨oc, od, .func (PySem.W.fnOf x qual (defArgs st) (defBody st) (defScope st) .none kV doc pm an cdv ct), osl⟩)
    (c : PySem.W.codeIn K cdv qual = true) (k : PySem.W.keepIn K (.ref f) = true) : Fun K x qual st f (PySem.W.fnOf x qual (defArgs st) (defBody st) (defScope st) .none kV doc pm an cdv ct) := ⟨⟨oc, od, kV, doc, pm, an, cdv, ct, osl, rfl, l, c⟩, k⟩
end

/-! ### expressions in short: the name that stands in the i-th slot -/
section
variable {X : Cx}
theorem pv (i : Nat) {x : Str} {pos : Pos} (hN : X.N[i]? = some x := by rfl) (hv : Vis X.env.scope x := by first | exact Or.inl rfl | exact Or.inr (Or.inl rfl) | exact Or.inr (Or.inr rfl)) (hd : (x == ("__debug__" : Str)) = false := by decide)
    (hcd : (x == ("__classdict__" : Str)) = false := by decide) : PE X (.Name x pos) (tVar i) := pe_var hN hv hd hcd
end

/-! ### tests -/
theorem iteF {A B : Prop} (h : B) : if false = true then A else B := by
  rw [if_neg Bool.false_ne_true]
  exact h
theorem iteT {A B : Prop} (h : A) : if true = true then A else B := by
  rw [if_pos rfl]
  exact h

/-! ### heaps -/
/-- all that was tracked is as it was -/
def Same (H H' : Hp) : Prop := ∀ b o, H b = some o → H' b = some o
theorem Same.refl (H : Hp) : Same H H := fun _ _ h => h
theorem Same.trans {H H1 H2 : Hp} (a : Same H H1) (b : Same H1 H2) : Same H H2 := fun c o h => b c o (a c o h)
theorem Same.free {H H' : Hp} (e : Same H H') {l : Addr} (h : H' l = Option.none) : H l = Option.none := by
  cases q : H l with
  | none => rfl
  | some o =>
    rw [e l o q] at h
    cases h
theorem Same.seq {K : PySem.W.Frag} {H H' : Hp} {a : Addr} {xs : List V} (e : Same H H') (h : SqL K H a xs) : SqL K H' a xs := by
  rcases h with (h | ⟨o, h⟩) | h
  · exact .inl (.inl (e _ _ h))
  · exact .inl (.inr ⟨o, e _ _ h⟩)
  · exact .inr h

/-! ### a dict's pairs: keys that differ -/
section
variable {κ : Type} [DecidableEq κ]
end
/-! ### lists -/
theorem nd_ix {α : Type} {l : List α} (hN : l.Nodup) {i j : Nat} {x : α} (a : l[i]? = some x) (b : l[j]? = some x) : i = j := by
  obtain ⟨h1, e1⟩ := List.getElem?_eq_some_iff.mp a
  obtain ⟨h2, e2⟩ := List.getElem?_eq_some_iff.mp b
  exact (List.getElem_inj hN).mp (e1.trans e2.symm)
/-- a new instance and its __init__ leave all that was tracked as it was -/
theorem Same.made {H H1 : Hp} {x dx C : Addr} (nx : H x = Option.none) (nd : H dx = Option.none) (k : ∀ b o, (upd (upd H dx (.own x)) x (.ins C dx [])) b = some o → b ≠ x → H1 b = some o) : Same H H1 := fun b o e =>
  k b o (by rw [upd_ne (ne_of_none e nx), upd_ne (ne_of_none e nd)]; exact e) (ne_of_none e nx)
end L2

set_option Elab.async false
set_option linter.all false
set_option maxRecDepth 100000
set_option maxHeartbeats 4000000
namespace Hv
open PySem PySem.Spec PyProof.Rows L2

/-- plain data; a list that may change is a number in the abstract heap, one that never changes its items -/
inductive D where
  | non | bl (b : Bool) | int (i : Int) | str (x : Str) | tup (ds : List D) | lst (n : Nat) | rol (ds : List D) | ty (n : String) | dct (ks : List Key) (n : Nat)

abbrev Hb := List (List D)
abbrev En := List (Option D)

/-- what stands at a place of the list heap: a list, or a dict by its keys; and the values there -/
inductive Kd where
  | l | d (ks : List Key)
def cellOf : HO → Option (Kd × List V)
  | .lst vs => some (.l, vs)
  | .dK kvs => some (.d (kvs.map (·.1)), kvs.map (·.2))
  | _ => none
theorem cell_l {o : HO} {vs : List V} (e : cellOf o = some (.l, vs)) : o = .lst vs := by
  cases o <;> simp [cellOf] at e
  rw [e]
theorem cell_d {o : HO} {ks : List Key} {vs : List V} (e : cellOf o = some (.d ks, vs)) : ∃ kvs, o = .dK kvs ∧ kvs.map (·.1) = ks ∧ kvs.map (·.2) = vs := by
  cases o <;> simp [cellOf] at e
  exact ⟨_, rfl, e.1, e.2⟩
/-- a list that nobody writes -/
def RoL (K : PySem.W.Frag) (H : Hp) (a : Addr) (xs : List V) : Prop :=
  (∃ o, H a = some (.frz o (.lst xs))) ∨
    ∃ (o : Obj) (its : Array Value) (n : Nat), K.lookup a = some o ∧ o.cls = .type "list" ∧ o.dict = none ∧ o.data = .seq its n ∧ its.size ≤ sizeLine ∧ Vals xs its.toList
theorem RoL.sq {K : PySem.W.Frag} {H : Hp} {a : Addr} {xs : List V} (h : RoL K H a xs) : SqL K H a xs := by
  rcases h with h | h
  · exact .inl (.inr h)
  · exact .inr h

mutual
def Rp (K : PySem.W.Frag) (H : Hp) (ms : List Addr) : D → V → Prop
  | .non, v => v = .non
  | .bl b, v => v = .bl b
  | .int i, v => v = .int i
  | .str x, v => v = .str x
  | .tup ds, v => ∃ p vs, v = .ref p ∧ SqT K H p vs ∧ Rps K H ms ds vs
  | .lst n, v => ∃ p, v = .ref p ∧ ms[n]? = some p ∧ ∃ vs, H p = some (.lst vs)
  | .rol ds, v => ∃ p vs, v = .ref p ∧ RoL K H p vs ∧ Rps K H ms ds vs
  | .ty n, v => v = .ty n
  | .dct ks n, v => ∃ p, v = .ref p ∧ ms[n]? = some p ∧ ∃ kvs, H p = some (.dK kvs) ∧ kvs.map (·.1) = ks
def Rps (K : PySem.W.Frag) (H : Hp) (ms : List Addr) : List D → List V → Prop
  | [], vs => vs = []
  | d :: ds, vs => ∃ v r, vs = v :: r ∧ Rp K H ms d v ∧ Rps K H ms ds r
end

/-- what a step leaves as it was -/
structure Up (K : PySem.W.Frag) (H : Hp) (ms : List Addr) (H' : Hp) (ms' : List Addr) : Prop where
  tup : ∀ p vs, SqT K H p vs → SqT K H' p vs
  rol : ∀ p vs, RoL K H p vs → RoL K H' p vs
  ix : ∀ (n : Nat) p, ms[n]? = some p → ms'[n]? = some p
  kd : ∀ p o k vs, p ∈ ms → H p = some o → cellOf o = some (k, vs) → ∃ o' vs', H' p = some o' ∧ cellOf o' = some (k, vs')

section
variable {K : PySem.W.Frag} {H H' H1 H2 : Hp} {ms ms' ms1 ms2 : List Addr} {h h' : Hb}
mutual
theorem Rp.up (u : Up K H ms H' ms') : ∀ (d : D) (v : V), Rp K H ms d v → Rp K H' ms' d v
  | .non, v, r => by simpa only [Rp] using r
  | .bl b, v, r => by simpa only [Rp] using r
  | .int i, v, r => by simpa only [Rp] using r
  | .str x, v, r => by simpa only [Rp] using r
  | .ty x, v, r => by simpa only [Rp] using r
  | .tup ds, v, r => by
    simp only [Rp] at r ⊢
    obtain ⟨p, vs, e, s, q⟩ := r
    exact ⟨p, vs, e, u.tup p vs s, Rps.up u ds vs q⟩
  | .lst n, v, r => by
    simp only [Rp] at r ⊢
    obtain ⟨p, e, q, vs, hv⟩ := r
    obtain ⟨o', vs', e1, e2⟩ := u.kd p _ _ _ (List.mem_of_getElem? q) hv rfl
    exact ⟨p, e, u.ix n p q, vs', by rw [e1, cell_l e2]⟩
  | .dct ks n, v, r => by
    simp only [Rp] at r ⊢
    obtain ⟨p, e, q, kvs, hv, hk⟩ := r
    obtain ⟨o', vs', e1, e2⟩ := u.kd p _ _ _ (List.mem_of_getElem? q) hv rfl
    obtain ⟨kvs', e3, e4, _⟩ := cell_d e2
    exact ⟨p, e, u.ix n p q, kvs', by rw [e1, e3], by rw [e4]; exact hk⟩
  | .rol ds, v, r => by
    simp only [Rp] at r ⊢
    obtain ⟨p, vs, e, s, q⟩ := r
    exact ⟨p, vs, e, u.rol p vs s, Rps.up u ds vs q⟩
theorem Rps.up (u : Up K H ms H' ms') : ∀ (ds : List D) (vs : List V), Rps K H ms ds vs → Rps K H' ms' ds vs
  | [], vs, r => by simpa only [Rps] using r
  | d :: ds, vs, r => by
    simp only [Rps] at r ⊢
    obtain ⟨v, t, e, a, b⟩ := r
    exact ⟨v, t, e, Rp.up u d v a, Rps.up u ds t b⟩
end
theorem Rps.length : ∀ {ds : List D} {vs : List V}, Rps K H ms ds vs → ds.length = vs.length
  | [], vs, r => by simp only [Rps] at r; subst r; rfl
  | d :: ds, vs, r => by
    simp only [Rps] at r
    obtain ⟨v, t, rfl, _, b⟩ := r
    simp only [List.length_cons, Rps.length b]
theorem Rps.get : ∀ {ds : List D} {vs : List V} {i : Nat} {d : D}, Rps K H ms ds vs → ds[i]? = some d → ∃ v, vs[i]? = some v ∧ Rp K H ms d v
  | [], _, _, _, _, e => by simp at e
  | c :: ds, vs, 0, d, r, e => by
    simp only [Rps] at r
    obtain ⟨v, t, rfl, a, _⟩ := r
    simp at e; subst e
    exact ⟨v, by simp, a⟩
  | c :: ds, vs, i + 1, d, r, e => by
    simp only [Rps] at r
    obtain ⟨v, t, rfl, _, b⟩ := r
    obtain ⟨w, h1, h2⟩ := Rps.get (i := i) b (by simpa using e)
    exact ⟨w, by simpa using h1, h2⟩
theorem Rps.app : ∀ {as bs : List D} {us vs : List V}, Rps K H ms as us → Rps K H ms bs vs → Rps K H ms (as ++ bs) (us ++ vs)
  | [], _, us, _, r, s => by simp only [Rps] at r; subst r; simpa using s
  | a :: as, bs, us, vs, r, s => by
    simp only [Rps] at r
    obtain ⟨v, t, rfl, x, y⟩ := r
    simp only [List.cons_append, Rps]
    exact ⟨v, t ++ vs, rfl, x, Rps.app y s⟩
theorem Rps.one {d : D} {v : V} (r : Rp K H ms d v) : Rps K H ms [d] [v] := by simp only [Rps]; exact ⟨v, [], rfl, r, rfl⟩
theorem Rps.set : ∀ {ds : List D} {vs : List V} {d : D} {v : V} (i : Nat), Rps K H ms ds vs → Rp K H ms d v → Rps K H ms (ds.set i d) (vs.set i v)
  | [], vs, _, _, _, r, _ => by simp only [Rps] at r; subst r; simp [Rps]
  | c :: ds, vs, d, v, 0, r, q => by
    simp only [Rps] at r
    obtain ⟨w, t, rfl, a, b⟩ := r
    simp only [List.set_cons_zero, Rps]
    exact ⟨v, t, rfl, q, b⟩
  | c :: ds, vs, d, v, i + 1, r, q => by
    simp only [Rps] at r
    obtain ⟨w, t, rfl, a, b⟩ := r
    simp only [List.set_cons_succ, Rps]
    exact ⟨w, t.set i v, rfl, a, Rps.set i b q⟩
theorem Rps.take : ∀ {ds : List D} {vs : List V} (n : Nat), Rps K H ms ds vs → Rps K H ms (ds.take n) (vs.take n)
  | _, _, 0, _ => by simp [Rps]
  | [], vs, _ + 1, r => by simp only [Rps] at r; subst r; simp [Rps]
  | d :: ds, vs, n + 1, r => by
    simp only [Rps] at r
    obtain ⟨w, t, rfl, a, b⟩ := r
    simp only [List.take_succ_cons, Rps]
    exact ⟨w, t.take n, rfl, a, Rps.take n b⟩
theorem Rps.drop : ∀ {ds : List D} {vs : List V} (n : Nat), Rps K H ms ds vs → Rps K H ms (ds.drop n) (vs.drop n)
  | _, _, 0, r => by simpa using r
  | [], vs, _ + 1, r => by simp only [Rps] at r; subst r; simp [Rps]
  | d :: ds, vs, n + 1, r => by
    simp only [Rps] at r
    obtain ⟨w, t, rfl, a, b⟩ := r
    simpa using Rps.drop n b
theorem Rps.rev : ∀ {ds : List D} {vs : List V}, Rps K H ms ds vs → Rps K H ms ds.reverse vs.reverse
  | [], vs, r => by simp only [Rps] at r; subst r; simp [Rps]
  | d :: ds, vs, r => by
    simp only [Rps] at r
    obtain ⟨w, t, rfl, a, b⟩ := r
    simp only [List.reverse_cons]
    exact (Rps.rev b).app (Rps.one a)
theorem Rps.rep {ds : List D} {vs : List V} (r : Rps K H ms ds vs) : ∀ k : Nat, Rps K H ms (List.replicate k ds).flatten (List.replicate k vs).flatten
  | 0 => by simp [Rps]
  | k + 1 => by simp only [List.replicate_succ, List.flatten_cons]; exact r.app (Rps.rep r k)

/-- the abstract heap is held -/
structure HRp (K : PySem.W.Frag) (H : Hp) (ms : List Addr) (h : Hb) : Prop where
  len : ms.length = h.length
  nd : ms.Nodup
  at_ : ∀ (n : Nat) xs, h[n]? = some xs → ∃ p o k vs, ms[n]? = some p ∧ H p = some o ∧ cellOf o = some (k, vs) ∧ Rps K H ms xs vs
theorem HRp.mem (hr : HRp K H ms h) {p : Addr} (hp : p ∈ ms) : ∃ o k vs, H p = some o ∧ cellOf o = some (k, vs) := by
  obtain ⟨n, hn, e⟩ := List.getElem_of_mem hp
  have hn' : n < h.length := by rw [← hr.len]; exact hn
  obtain ⟨q, o, k, vs, e1, e2, e3, _⟩ := hr.at_ n h[n] (by simp [hn'])
  rw [List.getElem?_eq_getElem hn, e] at e1
  cases e1
  exact ⟨o, k, vs, e2, e3⟩
theorem HRp.nomem (hr : HRp K H ms h) {p : Addr} {o : HO} (e : H p = some o) (ho : cellOf o = none) : p ∉ ms := fun hp => by
  obtain ⟨o', k, vs, q, c⟩ := hr.mem hp
  rw [e] at q; cases q
  rw [ho] at c; cases c
theorem HRp.fresh (hr : HRp K H ms h) {p : Addr} (e : H p = none) : p ∉ ms := fun hp => by
  obtain ⟨o', k, vs, q, c⟩ := hr.mem hp
  rw [e] at q; cases q

/-- the list heap goes on: what is foreign stays -/
structure Ext (H : Hp) (ms : List Addr) (H' : Hp) (ms' : List Addr) : Prop where
  pre : ∃ more, ms' = ms ++ more
  oth : ∀ b o, H b = some o → b ∉ ms → H' b = some o ∧ b ∉ ms'
  kd : ∀ p o k vs, p ∈ ms → H p = some o → cellOf o = some (k, vs) → ∃ o' vs', H' p = some o' ∧ cellOf o' = some (k, vs')
theorem Ext.refl : Ext H ms H ms := ⟨⟨[], by simp⟩, fun _ _ e n => ⟨e, n⟩, fun _ o _ vs _ e c => ⟨o, vs, e, c⟩⟩
theorem Ext.trans (a : Ext H ms H1 ms1) (b : Ext H1 ms1 H2 ms2) : Ext H ms H2 ms2 := by
  obtain ⟨m1, e1⟩ := a.pre
  obtain ⟨m2, e2⟩ := b.pre
  refine ⟨⟨m1 ++ m2, by rw [e2, e1, List.append_assoc]⟩, fun c o e n => ?_, fun p o k vs hp e c => ?_⟩
  · obtain ⟨q1, n1⟩ := a.oth c o e n
    exact b.oth c o q1 n1
  · obtain ⟨o', vs', q1, q2⟩ := a.kd p o k vs hp e c
    exact b.kd p o' k vs' (by rw [e1]; exact List.mem_append_left _ hp) q1 q2
theorem Ext.ix (a : Ext H ms H' ms') : ∀ (n : Nat) p, ms[n]? = some p → ms'[n]? = some p := fun n p e => by
  obtain ⟨m, rfl⟩ := a.pre
  rw [List.getElem?_append_left (List.getElem?_eq_some_iff.mp e).1]; exact e
theorem rd_up (hr : HRp K H ms h) (a : Ext H ms H' ms') {p : Addr} {o : HO} (ho : cellOf o = none) (e : Rd H p o) : Rd H' p o := by
  rcases e with e | ⟨ob, e⟩
  · exact .inl (a.oth p _ e (hr.nomem e ho)).1
  · exact .inr ⟨ob, (a.oth p _ e (hr.nomem e rfl)).1⟩
theorem Ext.up (hr : HRp K H ms h) (a : Ext H ms H' ms') : Up K H ms H' ms' := by
  refine ⟨fun p vs s => ?_, fun p vs s => ?_, a.ix, a.kd⟩
  · rcases s with s | s
    · exact .inl (rd_up hr a rfl s)
    · exact .inr s
  · rcases s with ⟨o, s⟩ | s
    · exact .inl ⟨o, (a.oth p _ s (hr.nomem s rfl)).1⟩
    · exact .inr s

/-- a tuple, or anything that is no list of ours, is laid at a fresh place -/
theorem Ext.laid {p : Addr} {o : HO} (hr : HRp K H ms h) (hp : H p = none) : Ext H ms (upd H p o) ms :=
  ⟨⟨[], by simp⟩, fun b ob e n => ⟨by rw [upd_ne (ne_of_none e hp)]; exact e, n⟩, fun q o' k vs _ e c => ⟨o', vs, by rw [upd_ne (ne_of_none e hp)]; exact e, c⟩⟩
theorem HRp.laid {p : Addr} {o : HO} (hr : HRp K H ms h) (hp : H p = none) : HRp K (upd H p o) ms h := by
  refine ⟨hr.len, hr.nd, fun n xs e => ?_⟩
  obtain ⟨q, o', k, vs, e1, e2, e3, r⟩ := hr.at_ n xs e
  exact ⟨q, o', k, vs, e1, by rw [upd_ne (ne_of_none e2 hp)]; exact e2, e3, Rps.up (Ext.up hr (Ext.laid hr hp)) _ _ r⟩
/-- a new list of ours -/
theorem Ext.new {p : Addr} {o : HO} (hr : HRp K H ms h) (hp : H p = none) : Ext H ms (upd H p o) (ms ++ [p]) := by
  refine ⟨⟨[p], rfl⟩, fun b ob e n => ⟨by rw [upd_ne (ne_of_none e hp)]; exact e, ?_⟩, fun q o' k vs _ e c => ⟨o', vs, by rw [upd_ne (ne_of_none e hp)]; exact e, c⟩⟩
  simp only [List.mem_append, List.mem_singleton, not_or]
  exact ⟨n, ne_of_none e hp⟩
theorem HRp.newC {p : Addr} {o : HO} {k : Kd} {vs : List V} {xs : List D} (hr : HRp K H ms h) (hp : H p = none) (hc : cellOf o = some (k, vs)) (r : Rps K H ms xs vs) : HRp K (upd H p o) (ms ++ [p]) (h ++ [xs]) := by
  have u := Ext.up hr (Ext.new (o := o) hr hp)
  refine ⟨by simp [hr.len], ?_, fun n ys e => ?_⟩
  · rw [List.nodup_append]
    refine ⟨hr.nd, by simp, fun a ha b hb z => ?_⟩
    simp at hb; subst hb; subst z
    exact hr.fresh hp ha
  · by_cases hn : n < h.length
    · rw [List.getElem?_append_left hn] at e
      obtain ⟨q, o', k', ws, e1, e2, e3, rr⟩ := hr.at_ n ys e
      exact ⟨q, o', k', ws, u.ix n q e1, by rw [upd_ne (ne_of_none e2 hp)]; exact e2, e3, Rps.up u _ _ rr⟩
    · rw [List.getElem?_append_right (by omega)] at e
      have hz : n - h.length = 0 := by
        cases hk : n - h.length with
        | zero => rfl
        | succ k => rw [hk] at e; simp at e
      rw [hz] at e
      simp at e; subst e
      have hn' : n = ms.length := by rw [hr.len]; omega
      refine ⟨p, o, k, vs, ?_, upd_same, hc, Rps.up u _ _ r⟩
      rw [hn', List.getElem?_append_right (Nat.le_refl _)]; simp
theorem HRp.new {p : Addr} {vs : List V} {xs : List D} (hr : HRp K H ms h) (hp : H p = none) (r : Rps K H ms xs vs) : HRp K (upd H p (.lst vs)) (ms ++ [p]) (h ++ [xs]) := hr.newC hp rfl r
theorem new_at {p : Addr} (hr : HRp K H ms h) : (ms ++ [p])[h.length]? = some p := by
  rw [← hr.len, List.getElem?_append_right (Nat.le_refl _)]; simp
/-- a foreign list becomes ours -/
theorem HRp.take_in {p : Addr} {vs : List V} {xs : List D} (hr : HRp K H ms h) (hp : H p = some (.lst vs)) (hn : p ∉ ms) (r : Rps K H ms xs vs) : HRp K H (ms ++ [p]) (h ++ [xs]) := by
  have u : Up K H ms H (ms ++ [p]) := ⟨fun _ _ s => s, fun _ _ s => s, fun n q e => by rw [List.getElem?_append_left (List.getElem?_eq_some_iff.mp e).1]; exact e, fun _ o _ vs _ e c => ⟨o, vs, e, c⟩⟩
  refine ⟨by simp [hr.len], ?_, fun n ys e => ?_⟩
  · rw [List.nodup_append]
    refine ⟨hr.nd, by simp, fun a ha b hb z => ?_⟩
    simp at hb; subst hb; subst z
    exact hn ha
  · by_cases hn' : n < h.length
    · rw [List.getElem?_append_left hn'] at e
      obtain ⟨q, o', k', ws, e1, e2, e3, rr⟩ := hr.at_ n ys e
      exact ⟨q, o', k', ws, u.ix n q e1, e2, e3, Rps.up u _ _ rr⟩
    · rw [List.getElem?_append_right (by omega)] at e
      have hz : n - h.length = 0 := by
        cases hk : n - h.length with
        | zero => rfl
        | succ k => rw [hk] at e; simp at e
      rw [hz] at e
      simp at e; subst e
      have hn2 : n = ms.length := by rw [hr.len]; omega
      refine ⟨p, _, _, vs, ?_, hp, rfl, Rps.up u _ _ r⟩
      rw [hn2, List.getElem?_append_right (Nat.le_refl _)]; simp
/-- a list of ours is changed -/
theorem Ext.updC {p : Addr} {n : Nat} {o o0 : HO} {k : Kd} {vs vs0 : List V} (hm : ms[n]? = some p) (h0 : H p = some o0) (c0 : cellOf o0 = some (k, vs0)) (c : cellOf o = some (k, vs)) : Ext H ms (L2.upd H p o) ms :=
  ⟨⟨[], by simp⟩, fun b ob e nb => ⟨by rw [upd_ne (fun z => nb (by subst z; exact List.mem_of_getElem? hm))]; exact e, nb⟩, fun q o' k' ws _ e c' => by
    by_cases hq : q = p
    · subst hq
      rw [h0] at e; cases e
      rw [c0] at c'; cases c'
      exact ⟨o, vs, upd_same, c⟩
    · exact ⟨o', ws, by rw [upd_ne hq]; exact e, c'⟩⟩
theorem Ext.upd {p : Addr} {n : Nat} {vs vs0 : List V} (hm : ms[n]? = some p) (h0 : H p = some (.lst vs0)) : Ext H ms (L2.upd H p (.lst vs)) ms := Ext.updC hm h0 rfl (vs := vs) rfl
theorem HRp.updC {p : Addr} {n : Nat} {o o0 : HO} {k : Kd} {vs vs0 : List V} {xs : List D} (hr : HRp K H ms h) (hm : ms[n]? = some p) (h0 : H p = some o0) (c0 : cellOf o0 = some (k, vs0)) (c : cellOf o = some (k, vs)) (r : Rps K H ms xs vs) : HRp K (L2.upd H p o) ms (h.set n xs) := by
  have u := Ext.up hr (Ext.updC hm h0 c0 c)
  refine ⟨by simp [hr.len], hr.nd, fun m ys e => ?_⟩
  by_cases hmn : n = m
  · subst hmn
    have hl : n < h.length := by rw [← hr.len]; exact (List.getElem?_eq_some_iff.mp hm).1
    rw [List.getElem?_set_self hl] at e
    cases e
    exact ⟨p, o, k, vs, hm, upd_same, c, Rps.up u _ _ r⟩
  · rw [List.getElem?_set_ne hmn] at e
    obtain ⟨q, o', k', ws, e1, e2, e3, rr⟩ := hr.at_ m ys e
    refine ⟨q, o', k', ws, e1, ?_, e3, Rps.up u _ _ rr⟩
    rw [upd_ne (fun z => hmn (nd_ix hr.nd hm (by rw [← z]; exact e1)))]; exact e2
theorem HRp.upd {p : Addr} {n : Nat} {vs vs0 : List V} {xs : List D} (hr : HRp K H ms h) (hm : ms[n]? = some p) (h0 : H p = some (.lst vs0)) (r : Rps K H ms xs vs) : HRp K (L2.upd H p (.lst vs)) ms (h.set n xs) := hr.updC hm h0 rfl rfl r
theorem HRp.at_l (hr : HRp K H ms h) {n : Nat} {xs : List D} {p : Addr} {vs0 : List V} (e : h[n]? = some xs) (hm : ms[n]? = some p) (h0 : H p = some (.lst vs0)) : Rps K H ms xs vs0 := by
  obtain ⟨q, o, k, vs, e1, e2, e3, r⟩ := hr.at_ n xs e
  rw [hm] at e1; cases e1
  rw [h0] at e2; cases e2
  cases e3
  exact r

/-- the names -/
structure SRp (K : PySem.W.Frag) (H : Hp) (ms : List Addr) (ρ : En) (σ : L2.St) : Prop where
  len : ρ.length = σ.length
  at_ : ∀ (i : Nat) d, ρ[i]? = some (some d) → ∃ v, σ[i]? = some (some v) ∧ Rp K H ms d v
theorem SRp.up {ρ : En} {σ : L2.St} (u : Up K H ms H' ms') (s : SRp K H ms ρ σ) : SRp K H' ms' ρ σ := ⟨s.len, fun i d e => by
  obtain ⟨v, e1, r⟩ := s.at_ i d e
  exact ⟨v, e1, Rp.up u _ _ r⟩⟩
theorem SRp.set {ρ : En} {σ : L2.St} {d : D} {v : V} (i : Nat) (s : SRp K H ms ρ σ) (r : Rp K H ms d v) : SRp K H ms (ρ.set i (some d)) (σ.set i (some v)) := by
  refine ⟨by simp [s.len], fun j c e => ?_⟩
  by_cases hj : i = j
  · subst hj
    have hl : i < ρ.length := by
      have := (List.getElem?_eq_some_iff.mp e).1
      simpa using this
    rw [List.getElem?_set_self hl] at e
    cases e
    exact ⟨v, by rw [List.getElem?_set_self (by rw [← s.len]; exact hl)], r⟩
  · rw [List.getElem?_set_ne hj] at e
    obtain ⟨w, e1, q⟩ := s.at_ j c e
    exact ⟨w, by rw [List.getElem?_set_ne hj]; exact e1, q⟩
end
end Hv

set_option Elab.async false
set_option linter.all false
set_option maxRecDepth 100000
set_option maxHeartbeats 4000000
namespace Hv
open PySem PySem.Spec PyProof.Rows L2

/-! ### readings by a plain function -/
def bnd {α β : Type} (m : Option (α × Hb)) (k : α → Hb → Option β) : Option β := match m with
  | some (a, h) => k a h
  | none => none
theorem bnd_some {α β : Type} {a : α} {h : Hb} {k : α → Hb → Option β} : bnd (some (a, h)) k = k a h := id rfl
theorem of_bnd {α β : Type} {m : Option (α × Hb)} {k : α → Hb → Option β} {b : β} (e : bnd m k = some b) : ∃ a h, m = some (a, h) ∧ k a h = some b := by
  cases m with
  | none => cases e
  | some p => exact ⟨p.1, p.2, rfl, e⟩

abbrev Dn := En → Hb → Option (D × Hb)
abbrev Tn := En → Hb → Option (Bool × Hb)
abbrev An := En → Hb → Option (List D × Hb)
inductive Fl where
  | nx (ρ : En) | rt (d : D) | bk (ρ : En) | ct (ρ : En)
abbrev Sn := En → Hb → Option (Fl × Hb)
abbrev Gn := D → En → Hb → Option (En × Hb)
abbrev Op := D → D → Hb → Option (D × Hb)
abbrev Cl := List D → Hb → Option (D × Hb)

section
variable (K : PySem.W.Frag)
/-- the state is held -/
structure Okk (σ : L2.St) (H : Hp) (ρ : En) (ms : List Addr) (h : Hb) : Prop where
  s : SRp K H ms ρ σ
  h : HRp K H ms h
/-- the end of an expression is held -/
def EndD (H : Hp) (ms : List Addr) (d : D) (h' : Hb) (Q : VK) : Prop := ∀ v H' ms', Ext H ms H' ms' → HRp K H' ms' h' → Rp K H' ms' d v → Q v H'
def tEv (f : Dn) : TE := fun σ H Q => ∃ ρ ms h d h', Okk K σ H ρ ms h ∧ f ρ h = some (d, h') ∧ EndD K H ms d h' Q
def tTv (f : Tn) : TT := fun σ H Q => ∃ ρ ms h b h', Okk K σ H ρ ms h ∧ f ρ h = some (b, h') ∧ ∀ H' ms', Ext H ms H' ms' → HRp K H' ms' h' → Q b H'
def tAv (f : An) : TA := fun σ H Q => ∃ ρ ms h ds h', Okk K σ H ρ ms h ∧ f ρ h = some (ds, h') ∧ ∀ vs H' ms', Ext H ms H' ms' → HRp K H' ms' h' → Rps K H' ms' ds vs → Q vs H'
def EndF (H : Hp) (ms : List Addr) (fl : Fl) (h' : Hb) (E : Ends) : Prop := match fl with
  | .nx ρ' => ∀ σ' H' ms', Ext H ms H' ms' → HRp K H' ms' h' → SRp K H' ms' ρ' σ' → E.nx σ' H'
  | .bk ρ' => ∀ σ' H' ms', Ext H ms H' ms' → HRp K H' ms' h' → SRp K H' ms' ρ' σ' → E.bk σ' H'
  | .ct ρ' => ∀ σ' H' ms', Ext H ms H' ms' → HRp K H' ms' h' → SRp K H' ms' ρ' σ' → E.ct σ' H'
  | .rt d => ∀ v H' ms', Ext H ms H' ms' → HRp K H' ms' h' → Rp K H' ms' d v → E.rt v H'
def tSv (f : Sn) : TS := fun E σ H => ∃ ρ ms h fl h', Okk K σ H ρ ms h ∧ f ρ h = some (fl, h') ∧ EndF K H ms fl h' E
def tGv (f : Gn) : TG := fun v σ H Q => ∃ ρ ms h d ρ' h', Okk K σ H ρ ms h ∧ Rp K H ms d v ∧ f d ρ h = some (ρ', h') ∧ ∀ σ' H' ms', Ext H ms H' ms' → HRp K H' ms' h' → SRp K H' ms' ρ' σ' → Q σ' H'
def rD (o : Op) : R2 := fun x y H Q => ∃ ms h a b d h', HRp K H ms h ∧ Rp K H ms a x ∧ Rp K H ms b y ∧ o a b h = some (d, h') ∧ EndD K H ms d h' Q
def rC (o : Cl) : List V → Hp → VK → Prop := fun xs H Q => ∃ ms h as d h', HRp K H ms h ∧ Rps K H ms as xs ∧ o as h = some (d, h') ∧ EndD K H ms d h' Q
end

structure JE (X : Cx) (e : Expr) (f : Dn) : Prop where
  pe : PE X e (tEv X.K f)
structure JT (X : Cx) (e : Expr) (f : Tn) : Prop where
  pt : PT X e (tTv X.K f)
structure JW (X : Cx) (e : Expr) (f : Tn) : Prop where
  pw : PW X e (tTv X.K f)
structure JA (X : Cx) (es : List Expr) (f : An) : Prop where
  pa : PA X es (tAv X.K f)
structure JS (X : Cx) (st : Stmt) (f : Sn) : Prop where
  ps : PS X st (tSv X.K f)
structure JSs (X : Cx) (st : List Stmt) (f : Sn) : Prop where
  pss : PSs X st (tSv X.K f)
structure JG (X : Cx) (e : Expr) (f : Gn) : Prop where
  pg : PG X e (tGv X.K f)

section
variable {X : Cx}
theorem JE.of {e : Expr} {f : Dn} {t : TE} (hp : PE X e t) (hr : ∀ σ H Q, tEv X.K f σ H Q → t σ H Q) : JE X e f := ⟨fun pins s σ H Q I h => hp pins s σ H Q I (hr σ H Q h)⟩
theorem JT.of {e : Expr} {f : Tn} {t : TT} (hp : PT X e t) (hr : ∀ σ H Q, tTv X.K f σ H Q → t σ H Q) : JT X e f := ⟨fun pins s σ H Q I h => hp pins s σ H Q I (hr σ H Q h)⟩
theorem JW.of {e : Expr} {f : Tn} {t : TT} (hp : PW X e t) (hr : ∀ σ H Q, tTv X.K f σ H Q → t σ H Q) : JW X e f := ⟨fun w pins s σ H Q I h => hp w pins s σ H Q I (hr σ H Q h)⟩
theorem JA.of {es : List Expr} {f : An} {t : TA} (hp : PA X es t) (hr : ∀ σ H Q, tAv X.K f σ H Q → t σ H Q) : JA X es f := ⟨fun pos pins s σ H Q I h => hp pos pins s σ H Q I (hr σ H Q h)⟩
theorem JS.of {st : Stmt} {f : Sn} {t : TS} (hp : PS X st t) (hr : ∀ E σ H, tSv X.K f E σ H → t E σ H) : JS X st f := ⟨fun pins s σ H E I h => hp pins s σ H E I (hr E σ H h)⟩
theorem JSs.of {st : List Stmt} {f : Sn} {t : TS} (hp : PSs X st t) (hr : ∀ E σ H, tSv X.K f E σ H → t E σ H) : JSs X st f := ⟨fun pins s σ H E I h => hp pins s σ H E I (hr E σ H h)⟩
theorem JG.of {e : Expr} {f : Gn} {t : TG} (hp : PG X e t) (hr : ∀ v σ H Q, tGv X.K f v σ H Q → t v σ H Q) : JG X e f := ⟨fun pins s σ H v u Q I r h => hp pins s σ H v u Q I r (hr v σ H Q h)⟩

theorem Okk.up {K : PySem.W.Frag} {σ : L2.St} {H H' : Hp} {ρ : En} {ms ms' : List Addr} {h h' : Hb} (o : Okk K σ H ρ ms h) (x : Ext H ms H' ms') (hr : HRp K H' ms' h') : Okk K σ H' ρ ms' h' := ⟨o.s.up (Ext.up o.h x), hr⟩
theorem Rp.ext {K : PySem.W.Frag} {H H' : Hp} {ms ms' : List Addr} {h : Hb} {d : D} {v : V} (r : Rp K H ms d v) (hr : HRp K H ms h) (x : Ext H ms H' ms') : Rp K H' ms' d v := Rp.up (Ext.up hr x) _ _ r
theorem Rps.ext {K : PySem.W.Frag} {H H' : Hp} {ms ms' : List Addr} {h : Hb} {d : List D} {v : List V} (r : Rps K H ms d v) (hr : HRp K H ms h) (x : Ext H ms H' ms') : Rps K H' ms' d v := Rps.up (Ext.up hr x) _ _ r

/-! ### names, constants -/
def dVar (i : Nat) : Dn := fun ρ h => match ρ[i]? with
  | some (some d) => some (d, h)
  | _ => none
def dC (d : D) : Dn := fun _ h => some (d, h)
theorem je_var {i : Nat} {x : Str} {pos : Pos} (hN : X.N[i]? = some x := by rfl) (hv : Vis X.env.scope x := by first | exact Or.inl rfl | exact Or.inr (Or.inl rfl) | exact Or.inr (Or.inr rfl)) (hd : (x == ("__debug__" : Str)) = false := by decide)
    (hcd : (x == ("__classdict__" : Str)) = false := by decide) : JE X (.Name x pos) (dVar i) := by
  refine .of (pe_var hN hv hd hcd) fun σ H Q h => ?_
  obtain ⟨ρ, ms, hb, d, h', o, e, q⟩ := h
  unfold dVar at e
  split at e
  · rename_i c hc
    cases e
    obtain ⟨v, e1, r⟩ := o.s.at_ i _ hc
    exact ⟨v, e1, q v H ms .refl o.h r⟩
  · cases e
theorem je_int {i : Int} {j : Nat} {pos : Pos} : JE X (.Constant (.int i) j pos) (dC (.int i)) := by
  refine .of pe_int fun σ H Q h => ?_
  obtain ⟨ρ, ms, hb, d, h', o, e, q⟩ := h
  cases e
  exact q _ H ms .refl o.h rfl
theorem je_bl {b : Bool} {j : Nat} {pos : Pos} : JE X (.Constant (.bool b) j pos) (dC (.bl b)) := by
  refine .of pe_bl fun σ H Q h => ?_
  obtain ⟨ρ, ms, hb, d, h', o, e, q⟩ := h
  cases e
  exact q _ H ms .refl o.h rfl
theorem je_str {x : Str} {j : Nat} {pos : Pos} : JE X (.Constant (.str x) j pos) (dC (.str x)) := by
  refine .of pe_str fun σ H Q h => ?_
  obtain ⟨ρ, ms, hb, d, h', o, e, q⟩ := h
  cases e
  exact q _ H ms .refl o.h rfl
/-- a constant of the module: how it is told is a fact of K -/
def KnownD (K : PySem.W.Frag) (d : D) (v : V) : Prop := ∀ H ms, Rp K H ms d v

/-! ### two-place operations -/
def dBin (o : Op) (a b : Dn) : Dn := fun ρ h => bnd (a ρ h) fun x h1 => bnd (b ρ h1) fun y h2 => o x y h2
abbrev OpD (X : Cx) (f : Value → Value → Sem Value) (o : Op) : Prop := OpR X f (rD X.K o)
theorem rd_bin {o : Op} {da db : Dn} {σ : L2.St} {H : Hp} {Q : VK} (h : tEv X.K (dBin o da db) σ H Q) : tOp (rD X.K o) (tEv X.K da) (tEv X.K db) σ H Q := by
  obtain ⟨ρ, ms, hb, d, h', ok, e, q⟩ := h
  obtain ⟨x, h1, e1, e⟩ := of_bnd e
  obtain ⟨y, h2, e2, e⟩ := of_bnd e
  refine ⟨ρ, ms, hb, x, h1, ok, e1, fun v1 H1 ms1 x1 r1 p1 => ?_⟩
  refine ⟨ρ, ms1, h1, y, h2, ok.up x1 r1, e2, fun v2 H2 ms2 x2 r2 p2 => ?_⟩
  exact ⟨ms2, h2, x, y, d, h', r2, p1.ext r1 x2, p2, e, fun v H' ms' x' r' p' => q v H' ms' (x1.trans (x2.trans x')) r' p'⟩
theorem je_bin {op : Operator} {o : Op} {a b : Expr} {da db : Dn} {pos : Pos} (ho : OpD X (binaryOp op) o) (ja : JE X a da) (jb : JE X b db) : JE X (.BinOp a op b pos) (dBin o da db) :=
  .of (pe_op ho ja.pe jb.pe) fun _ _ _ h => rd_bin h
theorem je_cmp {op : CmpOp} {o : Op} {a b : Expr} {da db : Dn} {pos : Pos} (ho : OpD X (compareOp op) o) (ja : JE X a da) (jb : JE X b db) (hm : behindInMarks op b = false := by first | exact nomark _ | rfl) : JE X (.Compare a [op] [b] pos) (dBin o da db) :=
  .of (pe_cmpR ho ja.pe jb.pe hm) fun _ _ _ h => rd_bin h
def dUn (o : D → Option D) (a : Dn) : Dn := fun ρ h => bnd (a ρ h) fun x h1 => (o x).map fun y => (y, h1)
def oNeg : D → Option D
  | .int i => some (.int (-i))
  | _ => none
theorem je_neg {a : Expr} {da : Dn} {pos : Pos} (ja : JE X a da) : JE X (.UnaryOp .USub a pos) (dUn oNeg da) := by
  refine .of (pe_un un_neg ja.pe) fun σ H Q h => ?_
  obtain ⟨ρ, ms, hb, d, h', ok, e, q⟩ := h
  obtain ⟨x, h1, e1, e⟩ := of_bnd e
  refine ⟨ρ, ms, hb, x, h1, ok, e1, fun v1 H1 ms1 x1 r1 p1 => ?_⟩
  cases x <;> first | (cases e; done) | skip
  simp only [Rp] at p1
  subst p1
  cases e
  exact ⟨_, rfl, q _ H1 ms1 x1 r1 rfl⟩

/-- a scalar result: nothing is laid -/
theorem EndD.here {K : PySem.W.Frag} {H : Hp} {ms : List Addr} {h : Hb} {d : D} {v : V} {Q : VK} (q : EndD K H ms d h Q) (hr : HRp K H ms h) (r : Rp K H ms d v) : Q v H := q v H ms .refl hr r
theorem EndD.tup {K : PySem.W.Frag} {H : Hp} {ms : List Addr} {h : Hb} {ds : List D} {vs : List V} {Q : VK} (q : EndD K H ms (.tup ds) h Q) (hr : HRp K H ms h) (r : Rps K H ms ds vs) : ∀ p, H p = none → Q (.ref p) (upd H p (.tup vs)) := fun p hp =>
  q _ _ ms (.laid hr hp) (hr.laid hp) (by simp only [Rp]; exact ⟨p, vs, rfl, SqT.of upd_same, r.ext hr (.laid hr hp)⟩)
theorem EndD.lst {K : PySem.W.Frag} {H : Hp} {ms : List Addr} {h : Hb} {ds : List D} {vs : List V} {Q : VK} (q : EndD K H ms (.lst h.length) (h ++ [ds]) Q) (hr : HRp K H ms h) (r : Rps K H ms ds vs) : ∀ p, H p = none → Q (.ref p) (upd H p (.lst vs)) := fun p hp =>
  q _ _ (ms ++ [p]) (.new hr hp) (hr.new hp r) (by simp only [Rp]; exact ⟨p, rfl, new_at hr, _, upd_same⟩)
theorem EndD.put {K : PySem.W.Frag} {H : Hp} {ms : List Addr} {h : Hb} {d : D} {v : V} {n : Nat} {p : Addr} {ds : List D} {vs : List V} {Q : VK} (q : EndD K H ms d (h.set n ds) Q) {vs0 : List V} (hr : HRp K H ms h) (hm : ms[n]? = some p) (h0 : H p = some (.lst vs0)) (r : Rps K H ms ds vs) (rv : Rp K H ms d v) : Q v (upd H p (.lst vs)) :=
  q _ _ ms (.upd hm h0) (hr.upd hm h0 r) (rv.ext hr (.upd hm h0))

/-- what may be read as a list: ours, or one that nobody writes -/
def seqL (h : Hb) : D → Option (List D)
  | .lst n => h[n]?
  | .rol ds => some ds
  | _ => none
theorem seqL_sq {K : PySem.W.Frag} {H : Hp} {ms : List Addr} {h : Hb} {d : D} {v : V} {xs : List D} (hr : HRp K H ms h) (r : Rp K H ms d v) (e : seqL h d = some xs) : ∃ p vs, v = .ref p ∧ SqL K H p vs ∧ Rps K H ms xs vs := by
  cases d <;> first | (cases e; done) | skip
  · rename_i n
    simp only [Rp] at r
    obtain ⟨p, rfl, hp, vs, hv⟩ := r
    exact ⟨p, vs, rfl, SqL.of hv, hr.at_l e hp hv⟩
  · simp only [Rp] at r
    obtain ⟨p, vs, rfl, s, q⟩ := r
    cases e
    exact ⟨p, vs, rfl, s.sq, q⟩
theorem lst_at {K : PySem.W.Frag} {H : Hp} {ms : List Addr} {h : Hb} {n : Nat} {v : V} {xs : List D} (hr : HRp K H ms h) (r : Rp K H ms (.lst n) v) (e : h[n]? = some xs) : ∃ p vs, v = .ref p ∧ ms[n]? = some p ∧ H p = some (.lst vs) ∧ Rps K H ms xs vs := by
  simp only [Rp] at r
  obtain ⟨p, rfl, hp, vs, hv⟩ := r
  exact ⟨p, vs, rfl, hp, hv, hr.at_l e hp hv⟩

def oInt (f : Int → Int → Option Int) : Op := fun x y h => match x, y with
  | .int i, .int j => (f i j).map fun k => (.int k, h)
  | _, _ => none
theorem of_oInt {f : Int → Int → Option Int} {x y d : D} {h h' : Hb} (e : oInt f x y h = some (d, h')) : ∃ i j k, x = .int i ∧ y = .int j ∧ f i j = some k ∧ d = .int k ∧ h' = h := by
  unfold oInt at e
  split at e
  · rename_i i j
    cases q : f i j with
    | none => rw [q] at e; cases e
    | some k => rw [q] at e; cases e; exact ⟨i, j, k, rfl, rfl, q, rfl, rfl⟩
  · cases e
/-- an operation on ints, by the layer's rule -/
theorem opD_int {f : Value → Value → Sem Value} {C : Int → Int → Prop} {g : Int → Int → Int} {o : Int → Int → Option Int} (hr : OpR X f (rI C fun i j => .int (g i j))) (ho : ∀ i j k, o i j = some k → C i j ∧ k = g i j) : OpD X f (oInt o) := by
  intro pins s σ H x y v u Q I rx ry h
  obtain ⟨ms, hb, a, b, d, h', r, pa, pb, e, q⟩ := h
  obtain ⟨i, j, k, rfl, rfl, e1, rfl, rfl⟩ := of_oInt e
  simp only [Rp] at pa pb
  subst pa pb
  obtain ⟨c, rfl⟩ := ho i j k e1
  exact hr pins s σ H _ _ v u Q I rx ry ⟨i, j, rfl, rfl, c, q.here r rfl⟩
theorem rI_of {f : Value → Value → Sem Value} {g : Int → Int → V} (hr : OpR X f (rI0 g)) : OpR X f (rI (fun _ _ => True) g) := fun pins s σ H x y v u Q I rx ry ⟨i, j, e1, e2, _, q⟩ => hr pins s σ H x y v u Q I rx ry ⟨i, j, e1, e2, q⟩
def oSub : Op := oInt fun i j => some (i - j)
theorem op_subD : OpD X (binaryOp .Sub) oSub := opD_int (rI_of op_sub) fun i j k e => ⟨trivial, (Option.some.inj e).symm⟩
def oDiv : Op := oInt fun i j => if 0 < j ∧ j.natAbs.log2 < 9000 then some (i / j) else none
theorem op_fdivB : OpR X (binaryOp .FloorDiv) (rI (fun _ j => 0 < j ∧ j.natAbs.log2 < 9000) fun i j => .int (i / j)) := opI fun i j _ _ _ _ _ hc q => by
  have h1 : 0 < j := hc.1
  exact floordiv_int (by omega) (by rw [Int.fdiv_eq_ediv_of_nonneg i (by omega)]; exact q) (.inl (PyProof.noPylong_of_log2 hc.2))
theorem op_divD : OpD X (binaryOp .FloorDiv) oDiv := opD_int op_fdivB fun i j k e => by
  split at e
  · rename_i c; cases e; exact ⟨c, rfl⟩
  · cases e
def oMod : Op := oInt fun i j => if 0 < j then some (i % j) else none
theorem op_modD : OpD X (binaryOp .Mod) oMod := opD_int op_mod fun i j k e => by
  split at e
  · rename_i c; cases e; exact ⟨c, rfl⟩
  · cases e
def oPow : Op := oInt fun i j => if 0 ≤ j ∧ j ≤ 1000000 ∧ i.natAbs < 2 ^ 64 then some (i ^ j.toNat) else none
theorem op_powD : OpD X (binaryOp .Pow) oPow := opD_int op_pow fun i j k e => by
  split at e
  · rename_i c; cases e; exact ⟨c, rfl⟩
  · cases e
/-- bits up to a million -/
def shlOk (i j : Int) : Prop := 0 ≤ j ∧ j ≤ 1000000 ∧ Builtin.Int.intBits i ≤ 1000000
instance (i j : Int) : Decidable (shlOk i j) := by unfold shlOk; infer_instance
def oShl : Op := oInt fun i j => if shlOk i j then some (i * 2 ^ j.toNat) else none
def oShr : Op := oInt fun i j => if 0 ≤ j then some (i / 2 ^ j.toNat) else none
def oAnd : Op := oInt fun i j => some (Builtin.bitAnd i j)

/-- +: ints, texts, lists -/
def oAdd : Op := fun x y h => match x, y with
  | .int i, .int j => some (.int (i + j), h)
  | .str i, .str j => if i.length + j.length ≤ sizeLine then some (.str (i ++ j), h) else none
  | .lst n, .lst m => match h[n]?, h[m]? with
    | some xs, some ys => if xs.length + ys.length ≤ sizeLine then some (.lst h.length, h ++ [xs ++ ys]) else none
    | _, _ => none
  | _, _ => none
theorem op_addD : OpD X (binaryOp .Add) oAdd := by
  intro pins s σ H x y v u Q I rx ry h
  obtain ⟨ms, hb, a, b, d, h', r, pa, pb, e, q⟩ := h
  unfold oAdd at e
  split at e
  · simp only [Rp] at pa pb
    subst pa pb
    cases e
    exact op_add pins s σ H _ _ v u Q I rx ry ⟨_, _, rfl, rfl, q.here r rfl⟩
  · simp only [Rp] at pa pb
    subst pa pb
    split at e
    · rename_i c
      cases e
      exact op_add_str pins s σ H _ _ v u Q I rx ry ⟨_, _, rfl, rfl, c, q.here r rfl⟩
    · cases e
  · split at e
    · rename_i xs ys e1 e2
      split at e
      · rename_i c
        cases e
        obtain ⟨p, vs, rfl, hp, hp2, rv⟩ := lst_at r pa e1
        obtain ⟨p', ws, rfl, hp', hp2', rw'⟩ := lst_at r pb e2
        refine op_cat pins s σ H _ _ v u Q I rx ry ⟨p, p', vs, ws, rfl, rfl, hp2, hp2', by rw [← rv.length, ← rw'.length]; exact c, q.lst r (rv.app rw')⟩
      · cases e
    · cases e
  · cases e
/-- *: ints, a list and a number -/
def oMul : Op := fun x y h => match x, y with
  | .int i, .int j => if i.natAbs < 2 ^ 64 ∨ j.natAbs < 2 ^ 64 then some (.int (i * j), h) else none
  | .lst n, .int k => match h[n]? with
    | some xs => if -(2 ^ 63) ≤ k ∧ k < 2 ^ 63 ∧ xs.length * k.toNat ≤ sizeLine then some (.lst h.length, h ++ [(List.replicate k.toNat xs).flatten]) else none
    | none => none
  | _, _ => none
theorem op_mulD : OpD X (binaryOp .Mult) oMul := by
  intro pins s σ H x y v u Q I rx ry h
  obtain ⟨ms, hb, a, b, d, h', r, pa, pb, e, q⟩ := h
  unfold oMul at e
  split at e
  · simp only [Rp] at pa pb
    subst pa pb
    split at e
    · rename_i c
      cases e
      refine op_mul pins s σ H _ _ v u Q I rx ry ⟨_, _, rfl, rfl, ?_, q.here r rfl⟩
      rcases c with c | c
      · exact .inl (by omega)
      · exact .inr (by omega)
    · cases e
  · simp only [Rp] at pb
    subst pb
    split at e
    · rename_i xs e1
      split at e
      · rename_i c
        cases e
        obtain ⟨p, vs, rfl, hp, hp2, rv⟩ := lst_at r pa e1
        refine op_rep pins s σ H _ _ v u Q I rx ry ⟨p, _, vs, rfl, rfl, hp2, c.1, c.2.1, by rw [← rv.length]; exact c.2.2, q.lst r (rv.rep _)⟩
      · cases e
    · cases e
  · cases e

/-! ### comparisons -/
def oB (f : Int → Int → Bool) : Op := fun x y h => match x, y with
  | .int i, .int j => some (.bl (f i j), h)
  | _, _ => none
theorem opD_b {f : Value → Value → Sem Value} {g : Int → Int → Bool} (hr : OpR X f (rI0 fun i j => .bl (g i j))) : OpD X f (oB g) := by
  intro pins s σ H x y v u Q I rx ry h
  obtain ⟨ms, hb, a, b, d, h', r, pa, pb, e, q⟩ := h
  unfold oB at e
  split at e
  · simp only [Rp] at pa pb
    subst pa pb
    cases e
    exact hr pins s σ H _ _ v u Q I rx ry ⟨_, _, rfl, rfl, q.here r rfl⟩
  · cases e
def oLt : Op := oB fun i j => decide (i < j)
def oLe : Op := oB fun i j => decide (i ≤ j)
def oGt : Op := oB fun i j => decide (j < i)
def oGe : Op := oB fun i j => decide (j ≤ i)
theorem op_ltD : OpD X (compareOp .Lt) oLt := opD_b op_lt
theorem op_leD : OpD X (compareOp .LtE) oLe := opD_b op_le
theorem op_gtD : OpD X (compareOp .Gt) oGt := opD_b op_gt
theorem op_geD : OpD X (compareOp .GtE) oGe := opD_b op_ge
end
end Hv

set_option Elab.async false
set_option linter.all false
set_option maxRecDepth 100000
set_option maxHeartbeats 4000000
namespace Hv
open PySem PySem.Spec PyProof.Rows L2

/-! ### data at any depth, for == -/
def mapO {α β : Type} (f : α → Option β) : List α → Option (List β)
  | [] => some []
  | a :: r => match f a with
    | some b => match mapO f r with
      | some bs => some (b :: bs)
      | none => none
    | none => none
def datF (h : Hb) : Nat → D → Option PyData
  | 0, _ => none
  | _ + 1, .non => some .none
  | _ + 1, .bl b => some (.bool b)
  | _ + 1, .int i => some (.int i)
  | _ + 1, .str x => if PyData.strOk x = true then some (.str x) else none
  | n + 1, .tup ds => (mapO (datF h n) ds).map .tuple
  | n + 1, .lst k => match h[k]? with
    | some ds => (mapO (datF h n) ds).map .list
    | none => none
  | n + 1, .rol ds => (mapO (datF h n) ds).map .list
  | _ + 1, .ty _ => none
  | _ + 1, .dct _ _ => none
section
variable {K : PySem.W.Frag} {H : Hp} {ms : List Addr} {h : Hb}
theorem mapO_dp {n : Nat} (hf : ∀ d v p, Rp K H ms d v → datF h n d = some p → Dp K H v p ∧ p.depth ≤ n ∧ p.canLay0 = true) : ∀ (ds : List D) (vs : List V) (ps : List PyData), Rps K H ms ds vs → mapO (datF h n) ds = some ps → DpAll K H vs ps ∧ PyData.depthAll ps ≤ n ∧ PyData.canLayAll0 ps = true
  | [], vs, ps, r, e => by
    simp only [Rps] at r
    subst r
    cases e
    exact ⟨.nil, Nat.zero_le _, rfl⟩
  | d :: ds, vs, ps, r, e => by
    simp only [Rps] at r
    obtain ⟨v, t, rfl, a, b⟩ := r
    unfold mapO at e
    split at e
    · rename_i p hp
      split at e
      · rename_i qs hq
        cases e
        obtain ⟨x1, x2, x3⟩ := hf d v p a hp
        obtain ⟨y1, y2, y3⟩ := mapO_dp hf ds t qs b hq
        refine ⟨.cons x1 y1, ?_, ?_⟩
        · simp only [PyData.depthAll]; omega
        · simp only [PyData.canLayAll0, x3, y3]; rfl
      · cases e
    · cases e
theorem datF_dp (hr : HRp K H ms h) : ∀ (n : Nat) (d : D) (v : V) (p : PyData), Rp K H ms d v → datF h n d = some p → Dp K H v p ∧ p.depth ≤ n ∧ p.canLay0 = true
  | 0, _, _, _, _, e => by cases e
  | n + 1, d, v, p, r, e => by
    have ih := datF_dp hr n
    cases d with
    | non => simp only [Rp] at r; subst r; cases e; exact ⟨.non, Nat.zero_le _, rfl⟩
    | bl b => simp only [Rp] at r; subst r; cases e; exact ⟨.bl b, Nat.zero_le _, rfl⟩
    | int i => simp only [Rp] at r; subst r; cases e; exact ⟨.int i, Nat.zero_le _, rfl⟩
    | str x =>
      simp only [Rp] at r; subst r
      simp only [datF] at e
      split at e
      · rename_i c; cases e; exact ⟨.str x, Nat.zero_le _, c⟩
      · cases e
    | tup ds =>
      simp only [Rp] at r
      obtain ⟨q, vs, rfl, s, rr⟩ := r
      simp only [datF] at e
      cases z : mapO (datF h n) ds with
      | none => rw [z] at e; cases e
      | some ps =>
        rw [z] at e; cases e
        obtain ⟨y1, y2, y3⟩ := mapO_dp ih ds vs ps rr z
        exact ⟨.tup s y1, by simp only [PyData.depth]; omega, y3⟩
    | lst k =>
      simp only [Rp] at r
      obtain ⟨q, rfl, hq, vs, e2⟩ := r
      simp only [datF] at e
      split at e
      · rename_i ds hd
        have rr := hr.at_l hd hq e2
        cases z : mapO (datF h n) ds with
        | none => rw [z] at e; cases e
        | some ps =>
          rw [z] at e; cases e
          obtain ⟨y1, y2, y3⟩ := mapO_dp ih ds vs ps rr z
          exact ⟨.lst (SqL.of e2) y1, by simp only [PyData.depth]; omega, y3⟩
      · cases e
    | ty n => cases e
    | dct ks n => cases e
    | rol ds =>
      simp only [Rp] at r
      obtain ⟨q, vs, rfl, s, rr⟩ := r
      simp only [datF] at e
      cases z : mapO (datF h n) ds with
      | none => rw [z] at e; cases e
      | some ps =>
        rw [z] at e; cases e
        obtain ⟨y1, y2, y3⟩ := mapO_dp ih ds vs ps rr z
        exact ⟨.lst s.sq y1, by simp only [PyData.depth]; omega, y3⟩
end

section
variable {X : Cx}
/-- the room that every body here has -/
abbrev Rm (X : Cx) : Prop := X.A.units + 1200 < cLine
def oEq : Op := fun x y h => match datF h 1000 x, datF h 1000 y with
  | some a, some b => some (.bl (PyData.eqv a b), h)
  | _, _ => none
def oNe : Op := fun x y h => match datF h 1000 x, datF h 1000 y with
  | some a, some b => some (.bl (!PyData.eqv a b), h)
  | _, _ => none
theorem op_eqDD (hu : Rm X) : OpD X (compareOp .Eq) oEq := by
  intro pins s σ H x y v u Q I rx ry h
  obtain ⟨ms, hb, a, b, d, h', r, pa, pb, e, q⟩ := h
  unfold oEq at e
  split at e
  · rename_i da db ha hb'
    cases e
    obtain ⟨d1, d2, d3⟩ := datF_dp r 1000 a x da pa ha
    obtain ⟨e1, e2, e3⟩ := datF_dp r 1000 b y db pb hb'
    obtain ⟨as, r1⟩ := Dp.reads I da x v d1 rx
    obtain ⟨bs, r2⟩ := Dp.reads I db y u e1 ry
    exact SeqAt.compareEq_reads r1 r2 d3 e3 (by have := hu; have : min da.depth db.depth ≤ da.depth := Nat.min_le_left _ _; omega) ⟨.bl _, H, I, rfl, q.here r rfl⟩
  · cases e
theorem op_neDD (hu : Rm X) : OpD X (compareOp .NotEq) oNe := by
  intro pins s σ H x y v u Q I rx ry h
  obtain ⟨ms, hb, a, b, d, h', r, pa, pb, e, q⟩ := h
  unfold oNe at e
  split at e
  · rename_i da db ha hb'
    cases e
    obtain ⟨d1, d2, d3⟩ := datF_dp r 1000 a x da pa ha
    obtain ⟨e1, e2, e3⟩ := datF_dp r 1000 b y db pb hb'
    obtain ⟨as, r1⟩ := Dp.reads I da x v d1 rx
    obtain ⟨bs, r2⟩ := Dp.reads I db y u e1 ry
    exact SeqAt.compareNe_reads r1 r2 d3 e3 (by have := hu; have : min da.depth db.depth ≤ da.depth := Nat.min_le_left _ _; omega) ⟨.bl _, H, I, rfl, q.here r rfl⟩
  · cases e
def isNon : D → Bool
  | .non => true
  | _ => false
def oIs : Op := fun x y h => match y with
  | .non => some (.bl (isNon x), h)
  | _ => none

/-! ### chains -/

/-! ### tests -/
def truD (h : Hb) : D → Option Bool
  | .non => some false
  | .bl b => some b
  | .int i => some (i != 0)
  | .str x => if x.length ≤ sizeLine then some ((x.length : Int) != 0) else none
  | .tup ds => some (!ds.isEmpty)
  | .lst n => (h[n]?).map fun xs => !xs.isEmpty
  | .rol ds => some (!ds.isEmpty)
  | .ty _ => none
  | .dct _ _ => none
def tT (a : Dn) : Tn := fun ρ h => bnd (a ρ h) fun x h1 => (truD h1 x).map fun b => (b, h1)
theorem isEmpty_rps {K : PySem.W.Frag} {H : Hp} {ms : List Addr} {ds : List D} {vs : List V} (r : Rps K H ms ds vs) : ds.isEmpty = vs.isEmpty := by
  have := r.length
  cases ds <;> cases vs <;> simp_all
theorem tru_ok {K : PySem.W.Frag} {H : Hp} {ms : List Addr} {h : Hb} {d : D} {v : V} {b : Bool} (hr : HRp K H ms h) (r : Rp K H ms d v) (e : truD h d = some b) : TruV K v H b := by
  cases d with
  | non => simp only [Rp] at r; subst r; cases e; rfl
  | bl c => simp only [Rp] at r; subst r; cases e; rfl
  | int i => simp only [Rp] at r; subst r; cases e; rfl
  | str x =>
    simp only [Rp] at r; subst r
    simp only [truD] at e
    split at e
    · rename_i c; cases e; exact ⟨c, rfl⟩
    · cases e
  | tup ds =>
    simp only [Rp] at r
    obtain ⟨p, vs, rfl, s, q⟩ := r
    cases e
    exact .inr (.inl ⟨vs, s, by rw [isEmpty_rps q]⟩)
  | lst n =>
    simp only [truD] at e
    cases z : h[n]? with
    | none => rw [z] at e; cases e
    | some xs =>
      rw [z] at e; cases e
      obtain ⟨p, vs, rfl, hp, hp2, q⟩ := lst_at hr r z
      exact .inl ⟨vs, SqL.of hp2, by show (!xs.isEmpty) = _; rw [isEmpty_rps q]⟩
  | rol ds =>
    simp only [Rp] at r
    obtain ⟨p, vs, rfl, s, q⟩ := r
    cases e
    exact .inl ⟨vs, s.sq, by rw [isEmpty_rps q]⟩
  | ty n => cases e
  | dct ks n => cases e
/-- any expression whose test is its value's truth -/
theorem jt_val {a : Expr} {da : Dn} (ja : JE X a da) (he : ∀ whole, isTrue a X.env whole = (do let v ← whole; standAt a.pos; holding [v] (truthy v)) := by intro _; rfl) : JT X a (tT da) := by
  refine .of (pt_truth ja.pe he) fun σ H Q h => ?_
  obtain ⟨ρ, ms, hb, b, h', ok, e, q⟩ := h
  obtain ⟨x, h1, e1, e⟩ := of_bnd e
  refine ⟨ρ, ms, hb, x, h1, ok, e1, fun v1 H1 ms1 x1 r1 p1 => ?_⟩
  cases z : truD h1 x with
  | none => rw [z] at e; cases e
  | some c =>
    rw [z] at e; cases e
    exact ⟨_, tru_ok r1 p1 z, q H1 ms1 x1 r1⟩
def toB : D → Option Bool
  | .bl b => some b
  | _ => none
def tCm (o : Op) (a b : Dn) : Tn := fun ρ h => bnd (dBin o a b ρ h) fun x h1 => (toB x).map fun b => (b, h1)
/-- a comparison as a test -/
theorem jt_cmp {op : CmpOp} {o : Op} {a b : Expr} {da db : Dn} {pos : Pos} (ho : OpD X (compareOp op) o) (ja : JE X a da) (jb : JE X b db) (hm : behindInMarks op b = false := by first | exact nomark _ | rfl) : JT X (.Compare a [op] [b] pos) (tCm o da db) := by
  refine .of (pt_cmpR ho ja.pe jb.pe hm) fun σ H Q h => ?_
  obtain ⟨ρ, ms, hb, b, h', ok, e, q⟩ := h
  obtain ⟨x, h1, e1, e⟩ := of_bnd e
  refine rd_bin ⟨ρ, ms, hb, x, h1, ok, e1, fun v1 H1 ms1 x1 r1 p1 => ?_⟩
  cases x with
  | bl c =>
    simp only [Rp] at p1
    subst p1
    cases e
    exact ⟨_, rfl, q H1 ms1 x1 r1⟩
  | _ => cases e
def tNt (a : Tn) : Tn := fun ρ h => bnd (a ρ h) fun b h1 => some (!b, h1)
theorem jt_not {a : Expr} {ta : Tn} {pos : Pos} (ja : JT X a ta) : JT X (.UnaryOp .Not a pos) (tNt ta) := by
  refine .of (pt_not ja.pt) fun σ H Q h => ?_
  obtain ⟨ρ, ms, hb, b, h', ok, e, q⟩ := h
  obtain ⟨c, h1, e1, e⟩ := of_bnd e
  cases e
  exact ⟨ρ, ms, hb, c, _, ok, e1, fun H1 ms1 x1 r1 => q H1 ms1 x1 r1⟩
def tAn (a b : Tn) : Tn := fun ρ h => bnd (a ρ h) fun c h1 => if c = true then b ρ h1 else some (false, h1)
def tOr' (a b : Tn) : Tn := fun ρ h => bnd (a ρ h) fun c h1 => if c = true then some (true, h1) else b ρ h1
theorem jw_and1 {a : Expr} {ta : Tn} {pos : Pos} (ja : JT X a ta) : JW X (.BoolOp .And [a] pos) ta := ⟨pw_and1 ja.pt⟩
theorem jw_or1 {a : Expr} {ta : Tn} {pos : Pos} (ja : JT X a ta) : JW X (.BoolOp .Or [a] pos) ta := ⟨pw_or1 ja.pt⟩
theorem jw_and {a b : Expr} {rest : List Expr} {ta tb : Tn} {pos : Pos} (ja : JT X a ta) (jb : JW X (.BoolOp .And (b :: rest) pos) tb) : JW X (.BoolOp .And (a :: b :: rest) pos) (tAn ta tb) := by
  refine .of (pw_and ja.pt jb.pw) fun σ H Q h => ?_
  obtain ⟨ρ, ms, hb, b, h', ok, e, q⟩ := h
  obtain ⟨c, h1, e1, e⟩ := of_bnd e
  refine ⟨ρ, ms, hb, c, h1, ok, e1, fun H1 ms1 x1 r1 => ?_⟩
  cases c with
  | true => exact iteT ⟨ρ, ms1, h1, b, h', ok.up x1 r1, by simpa using e, fun H2 ms2 x2 r2 => q H2 ms2 (x1.trans x2) r2⟩
  | false =>
    simp at e
    obtain ⟨rfl, rfl⟩ := e
    exact iteF (q H1 ms1 x1 r1)
theorem jw_or {a b : Expr} {rest : List Expr} {ta tb : Tn} {pos : Pos} (ja : JT X a ta) (jb : JW X (.BoolOp .Or (b :: rest) pos) tb) : JW X (.BoolOp .Or (a :: b :: rest) pos) (tOr' ta tb) := by
  refine .of (pw_or ja.pt jb.pw) fun σ H Q h => ?_
  obtain ⟨ρ, ms, hb, b, h', ok, e, q⟩ := h
  obtain ⟨c, h1, e1, e⟩ := of_bnd e
  refine ⟨ρ, ms, hb, c, h1, ok, e1, fun H1 ms1 x1 r1 => ?_⟩
  cases c with
  | false => exact iteF ⟨ρ, ms1, h1, b, h', ok.up x1 r1, by simpa using e, fun H2 ms2 x2 r2 => q H2 ms2 (x1.trans x2) r2⟩
  | true =>
    simp at e
    obtain ⟨rfl, rfl⟩ := e
    exact iteT (q H1 ms1 x1 r1)
theorem JW.jt {e : Expr} {t : Tn} (j : JW X e t) : JT X e t := ⟨j.pw.pt⟩

/-! ### and, or, not as values; a if t else b -/
theorem je_one {op : BoolOp} {a : Expr} {da : Dn} {pos : Pos} (ja : JE X a da) : JE X (.BoolOp op [a] pos) da := ⟨pe_one ja.pe⟩
def oNot : D → Option D
  | .bl b => some (.bl (!b))
  | _ => none
theorem je_not {a : Expr} {da : Dn} {pos : Pos} (ja : JE X a da) : JE X (.UnaryOp .Not a pos) (dUn oNot da) := by
  refine .of (pe_not ja.pe) fun σ H Q h => ?_
  obtain ⟨ρ, ms, hb, d, h', ok, e, q⟩ := h
  obtain ⟨x, h1, e1, e⟩ := of_bnd e
  refine ⟨ρ, ms, hb, x, h1, ok, e1, fun v1 H1 ms1 x1 r1 p1 => ?_⟩
  cases x with
  | bl c =>
    simp only [Rp] at p1
    subst p1
    cases e
    exact ⟨c, rfl, q _ H1 ms1 x1 r1 rfl⟩
  | _ => cases e
def dIf (t : Tn) (a b : Dn) : Dn := fun ρ h => bnd (t ρ h) fun c h1 => if c = true then a ρ h1 else b ρ h1

/-! ### argument lists, displays, calls -/
def aNil : An := fun _ h => some ([], h)
def aCons (a : Dn) (r : An) : An := fun ρ h => bnd (a ρ h) fun x h1 => bnd (r ρ h1) fun xs h2 => some (x :: xs, h2)
theorem ja_nil : JA X [] aNil := by
  refine .of pa_nil fun σ H Q h => ?_
  obtain ⟨ρ, ms, hb, ds, h', ok, e, q⟩ := h
  cases e
  exact q [] H ms .refl ok.h (by simp [Rps])
theorem ja_cons {e : Expr} {es : List Expr} {de : Dn} {ar : An} (je : JE X e de) (ja : JA X es ar) (hs : starEach (e :: es) X.env = (false, eval e X.env) :: starEach es X.env := by rfl) : JA X (e :: es) (aCons de ar) := by
  refine .of (pa_cons je.pe ja.pa hs) fun σ H Q h => ?_
  obtain ⟨ρ, ms, hb, ds, h', ok, e, q⟩ := h
  obtain ⟨x, h1, e1, e⟩ := of_bnd e
  obtain ⟨xs, h2, e2, e⟩ := of_bnd e
  cases e
  refine ⟨ρ, ms, hb, x, h1, ok, e1, fun v1 H1 ms1 x1 r1 p1 => ?_⟩
  refine ⟨ρ, ms1, h1, xs, _, ok.up x1 r1, e2, fun vs H2 ms2 x2 r2 p2 => ?_⟩
  exact q _ H2 ms2 (x1.trans x2) r2 (by simp only [Rps]; exact ⟨v1, vs, rfl, p1.ext r1 x2, p2⟩)
def dTup (a : An) : Dn := fun ρ h => bnd (a ρ h) fun xs h1 => if xs.length ≤ sizeLine then some (.tup xs, h1) else none
def dLst (a : An) : Dn := fun ρ h => bnd (a ρ h) fun xs h1 => if xs.length ≤ sizeLine then some (.lst h1.length, h1 ++ [xs]) else none
theorem je_tup {es : List Expr} {a : An} {k : Nat} {pos : Pos} (ja : JA X es a) : JE X (.Tuple es k pos) (dTup a) := by
  refine .of (pe_tup ja.pa) fun σ H Q h => ?_
  obtain ⟨ρ, ms, hb, d, h', ok, e, q⟩ := h
  obtain ⟨xs, h1, e1, e⟩ := of_bnd e
  split at e
  · rename_i c
    cases e
    refine ⟨ρ, ms, hb, xs, _, ok, e1, fun vs H1 ms1 x1 r1 p1 => ⟨by rw [← p1.length]; exact c, ?_⟩⟩
    exact EndD.tup (fun v H' ms' x' r' p' => q v H' ms' (x1.trans x') r' p') r1 p1
  · cases e
theorem je_lst {es : List Expr} {a : An} {pos : Pos} (ja : JA X es a) : JE X (.List es pos) (dLst a) := by
  refine .of (pe_lst ja.pa) fun σ H Q h => ?_
  obtain ⟨ρ, ms, hb, d, h', ok, e, q⟩ := h
  obtain ⟨xs, h1, e1, e⟩ := of_bnd e
  split at e
  · rename_i c
    cases e
    refine ⟨ρ, ms, hb, xs, h1, ok, e1, fun vs H1 ms1 x1 r1 p1 => ⟨by rw [← p1.length]; exact c, ?_⟩⟩
    exact EndD.lst (fun v H' ms' x' r' p' => q v H' ms' (x1.trans x') r' p') r1 p1
  · cases e
/-- what a def of the text promises: the plain function's value -/
def spD (K : PySem.W.Frag) (n : Nat) (f : Cl) : Sp := fun vs H Q _ => vs.length = n ∧ rC K f vs H Q
def dCall (f : Cl) (a : An) : Dn := fun ρ h => bnd (a ρ h) fun xs h1 => f xs h1
theorem rd_call {f : Cl} {a : An} {σ : L2.St} {H : Hp} {Q : VK} (h : tEv X.K (dCall f a) σ H Q) : tAv X.K a σ H fun vs H1 => rC X.K f vs H1 Q := by
  obtain ⟨ρ, ms, hb, d, h', ok, e, q⟩ := h
  obtain ⟨xs, h1, e1, e⟩ := of_bnd e
  refine ⟨ρ, ms, hb, xs, h1, ok, e1, fun vs H1 ms1 x1 r1 p1 => ?_⟩
  exact ⟨ms1, h1, xs, d, h', r1, p1, e, fun v H' ms' x' r' p' => q v H' ms' (x1.trans x') r' p'⟩
/-- a call of a built-in, by its values -/
abbrev ClD (X : Cx) (f : Value) (o : Cl) : Prop := CallR X f (rC X.K o)
theorem rd_cb {f : Cl} {a : An} {σ : L2.St} {H : Hp} {Q : VK} (h : tEv X.K (dCall f a) σ H Q) : tCB (rC X.K f) (tAv X.K a) σ H Q := rd_call h
end
end Hv

set_option Elab.async false
set_option linter.all false
set_option maxRecDepth 100000
set_option maxHeartbeats 4000000
namespace Hv
open PySem PySem.Spec PyProof.Rows L2

section
variable {X : Cx}
/-! ### calls of the text's defs, of built-ins -/
def Fixed (a : An) (n : Nat) : Prop := ∀ ρ h xs h', a ρ h = some (xs, h') → xs.length = n
theorem fx_nil : Fixed aNil 0 := fun ρ h xs h' e => by cases e; rfl
theorem fx_cons {d : Dn} {a : An} {n : Nat} (f : Fixed a n) : Fixed (aCons d a) (n + 1) := fun ρ h xs h' e => by
  obtain ⟨x, h1, e1, e⟩ := of_bnd e
  obtain ⟨ys, h2, e2, e⟩ := of_bnd e
  cases e
  simp only [List.length_cons, f _ _ _ _ e2]
/-- a def of the text with its promise -/
structure Fd (P : Program) (w : World) (K : PySem.W.Frag) (mg : Str → Option Value) (base : Heap) (k : Nat) (x : Str) (n : Nat) (f : Cl) : Prop where
  ex : ∃ (fa : Addr) (fd : FuncData) (ps : List Str), ps.length = n ∧ FnOk P w K mg base CX0 k fa fd ps (spD K n f) ∧ mg x = some (.ref fa) ∧ PySem.W.keepIn K (.ref fa) = true ∧ Binds K fd ps []
theorem je_cl {f : Cl} {a : An} {e : Expr} {es : List Expr} {x : Str} {p pos : Pos} {k n : Nat} (F : Fd X.prog X.w X.K X.mg X.base k x n f) (hr : Room k X.A) (ja : JA X (e :: es) a) (fx : Fixed a n) (hg : Gl X x := by rfl)
    (hdb : (x == ("__debug__" : Str)) = false := by decide) (he : starEach (e :: es) X.env = (false, eval e X.env) :: starEach es X.env := by rfl) (hpl : (backTo pos (starEach es X.env)).any (·.1) = false := by rfl) : JE X (.Call (.Name x p) (e :: es) [] pos) (dCall f a) := by
  obtain ⟨fa, fd, ps, hl, G, hm, hk, hb⟩ := F.ex
  refine .of (pe_call G hr hg hm hk hb .nil pass0 ja.pa hdb he hpl) fun σ H Q h => ?_
  obtain ⟨ρ, ms, hb, d, h', ok, e, q⟩ := h
  obtain ⟨xs, h1, e1, e⟩ := of_bnd e
  refine ⟨ρ, ms, hb, xs, h1, ok, e1, fun vs H1 ms1 x1 r1 p1 => ?_⟩
  refine ⟨by rw [List.append_nil, ← p1.length]; exact fx _ _ _ _ e1, ?_⟩
  rw [List.append_nil]
  exact ⟨ms1, h1, xs, d, h', r1, p1, e, fun v H' ms' x' r' p' => q v H' ms' (x1.trans x') r' p'⟩
theorem je_cb {f : Cl} {a : An} {e : Expr} {es : List Expr} {x : Str} {p pos : Pos} {id : String} (hc : ClD X (.builtin id) f) (hm : X.mg x = none) (ja : JA X (e :: es) a) (hg : Gl X x := by rfl) (hv : bootBuiltins x = some (.builtin id) := by decide +kernel) (hn : x ≠ "__name__" := by decide) (hdb : (x == ("__debug__" : Str)) = false := by decide)
    (he : starEach (e :: es) X.env = (false, eval e X.env) :: starEach es X.env := by rfl) (hpl : (backTo pos (starEach es X.env)).any (·.1) = false := by rfl) : JE X (.Call (.Name x p) (e :: es) [] pos) (dCall f a) :=
  .of (pe_callB hc hg hm hv ja.pa hn hdb he hpl) fun _ _ _ h => rd_cb h
theorem je_ct {f : Cl} {a : An} {e : Expr} {es : List Expr} {x : Str} {p pos : Pos} {T : String} (hc : ClD X (.type T) f) (hm : X.mg x = none) (ja : JA X (e :: es) a) (hg : Gl X x := by rfl) (hv : bootBuiltins x = some (.type T) := by decide +kernel) (hn : x ≠ "__name__" := by decide) (hdb : (x == ("__debug__" : Str)) = false := by decide)
    (he : starEach (e :: es) X.env = (false, eval e X.env) :: starEach es X.env := by rfl) (hpl : (backTo pos (starEach es X.env)).any (·.1) = false := by rfl) : JE X (.Call (.Name x p) (e :: es) [] pos) (dCall f a) :=
  .of (pe_callTy hc hg hm hv ja.pa hn hdb he hpl) fun _ _ _ h => rd_cb h
theorem rps1 {K : PySem.W.Frag} {H : Hp} {ms : List Addr} {a : D} {vs : List V} (r : Rps K H ms [a] vs) : ∃ v, vs = [v] ∧ Rp K H ms a v := by
  simp only [Rps] at r
  obtain ⟨v, t, rfl, p, rfl⟩ := r
  exact ⟨v, rfl, p⟩
theorem rps2 {K : PySem.W.Frag} {H : Hp} {ms : List Addr} {a b : D} {vs : List V} (r : Rps K H ms [a, b] vs) : ∃ v w, vs = [v, w] ∧ Rp K H ms a v ∧ Rp K H ms b w := by
  simp only [Rps] at r
  obtain ⟨v, t, rfl, p, w, t', rfl, q, rfl⟩ := r
  exact ⟨v, w, rfl, p, q⟩
/-- len -/
def lenD (h : Hb) : D → Option Nat
  | .str x => if x.length ≤ sizeLine then some x.length else none
  | .tup ds => some ds.length
  | .lst n => (h[n]?).map List.length
  | .rol ds => some ds.length
  | _ => none
def oLen : Cl := fun as h => match as with
  | [a] => (lenD h a).map fun n => (.int n, h)
  | _ => none
theorem cl_len : ClD X (.builtin "len") oLen := by
  intro pins s σ H xs us Q I rv h
  obtain ⟨ms, hb, as, d, h', r, pa, e, q⟩ := h
  unfold oLen at e
  split at e
  · rename_i a
    obtain ⟨v, rfl, p⟩ := rps1 pa
    cases z : lenD hb a with
    | none => rw [z] at e; cases e
    | some n =>
      rw [z] at e; cases e
      have qq := q.here r (v := .int n) rfl
      cases a with
      | str x =>
        simp only [Rp] at p; subst p
        simp only [lenD] at z
        split at z
        · rename_i c; cases z
          exact call_len pins s σ H _ us Q I rv ⟨_, _, rfl, ⟨c, rfl⟩, qq⟩
        · cases z
      | tup ds =>
        simp only [Rp] at p
        obtain ⟨p, vs, rfl, sq, rr⟩ := p
        cases z
        exact call_len_seq pins s σ H _ us Q I rv ⟨p, vs, rfl, .inr sq, by rw [← rr.length]; exact qq⟩
      | lst k =>
        obtain ⟨p', vs, rfl, sq, rr⟩ := seqL_sq (d := .lst k) (xs := (hb[k]?).getD []) r p (by
          simp only [lenD] at z
          cases y : hb[k]? with
          | none => rw [y] at z; cases z
          | some xs => simp only [seqL, y]; rfl)
        have hl : n = vs.length := by
          simp only [lenD] at z
          cases y : hb[k]? with
          | none => rw [y] at z; cases z
          | some xs => rw [y] at z rr; cases z; exact rr.length
        exact call_len_seq pins s σ H _ us Q I rv ⟨p', vs, rfl, .inl sq, by rw [← hl]; exact qq⟩
      | rol ds =>
        simp only [Rp] at p
        obtain ⟨p, vs, rfl, sq, rr⟩ := p
        cases z
        exact call_len_seq pins s σ H _ us Q I rv ⟨p, vs, rfl, .inl sq.sq, by rw [← rr.length]; exact qq⟩
      | _ => cases z
  · cases e
/-- the ints of a list -/
def intsD : List D → Option (List Int)
  | [] => some []
  | .int i :: r => (intsD r).map fun l => i :: l
  | _ :: _ => none
theorem intsD_rp {K : PySem.W.Frag} {H : Hp} {ms : List Addr} : ∀ {ds : List D} {vs : List V} {ns : List Int}, Rps K H ms ds vs → intsD ds = some ns → vs = ns.map V.int
  | [], vs, ns, r, e => by simp only [Rps] at r; subst r; cases e; rfl
  | d :: ds, vs, ns, r, e => by
    simp only [Rps] at r
    obtain ⟨v, t, rfl, p, q⟩ := r
    cases d with
    | int i =>
      simp only [intsD] at e
      cases z : intsD ds with
      | none => rw [z] at e; cases e
      | some l =>
        rw [z] at e; cases e
        simp only [Rp] at p; subst p
        rw [intsD_rp q z]; rfl
    | _ => cases e
def maxI : Int → List Int → Int
  | m, [] => m
  | m, x :: r => maxI (if m < x then x else m) r
def minI : Int → List Int → Int
  | m, [] => m
  | m, x :: r => minI (if x < m then x else m) r
theorem maxI_spec : ∀ (l : List Int) (m : Int), (maxI m l = m ∨ maxI m l ∈ l) ∧ m ≤ maxI m l ∧ ∀ y ∈ l, y ≤ maxI m l
  | [], m => ⟨.inl rfl, Int.le_refl _, by simp⟩
  | x :: r, m => by
    obtain ⟨a, b, c⟩ := maxI_spec r (if m < x then x else m)
    simp only [maxI]
    by_cases h : m < x
    · simp only [h, if_true] at a b c ⊢
      refine ⟨.inr ?_, by omega, fun y hy => ?_⟩
      · rcases a with a | a
        · rw [a]; exact List.mem_cons_self
        · exact List.mem_cons_of_mem _ a
      · rcases List.mem_cons.mp hy with rfl | hy
        · exact b
        · exact c y hy
    · simp only [h, if_false] at a b c ⊢
      refine ⟨a.imp id (List.mem_cons_of_mem _), b, fun y hy => ?_⟩
      rcases List.mem_cons.mp hy with rfl | hy
      · omega
      · exact c y hy
theorem minI_spec : ∀ (l : List Int) (m : Int), (minI m l = m ∨ minI m l ∈ l) ∧ minI m l ≤ m ∧ ∀ y ∈ l, minI m l ≤ y
  | [], m => ⟨.inl rfl, Int.le_refl _, by simp⟩
  | x :: r, m => by
    obtain ⟨a, b, c⟩ := minI_spec r (if x < m then x else m)
    simp only [minI]
    by_cases h : x < m
    · simp only [h, if_true] at a b c ⊢
      refine ⟨.inr ?_, by omega, fun y hy => ?_⟩
      · rcases a with a | a
        · rw [a]; exact List.mem_cons_self
        · exact List.mem_cons_of_mem _ a
      · rcases List.mem_cons.mp hy with rfl | hy
        · exact b
        · exact c y hy
    · simp only [h, if_false] at a b c ⊢
      refine ⟨a.imp id (List.mem_cons_of_mem _), b, fun y hy => ?_⟩
      rcases List.mem_cons.mp hy with rfl | hy
      · omega
      · exact c y hy
def oMax : Cl := fun as h => match as with
  | [.int i, .int j] => some (.int (if i < j then j else i), h)
  | [a] => match (seqL h a).bind intsD with
    | some (n :: ns) => some (.int (maxI n ns), h)
    | _ => none
  | _ => none
def oMin : Cl := fun as h => match as with
  | [.int i, .int j] => some (.int (if j < i then j else i), h)
  | [a] => match (seqL h a).bind intsD with
    | some (n :: ns) => some (.int (minI n ns), h)
    | _ => none
  | _ => none
theorem seq_ints {K : PySem.W.Frag} {H : Hp} {ms : List Addr} {h : Hb} {a : D} {v : V} {ns : List Int} (hr : HRp K H ms h) (p : Rp K H ms a v) (e : (seqL h a).bind intsD = some ns) : ∃ q, v = .ref q ∧ SqL K H q (ns.map V.int) := by
  cases z : seqL h a with
  | none => rw [z] at e; cases e
  | some xs =>
    rw [z] at e
    obtain ⟨q, vs, rfl, sq, rr⟩ := seqL_sq hr p z
    have := intsD_rp rr e
    subst this
    exact ⟨q, rfl, sq⟩
theorem cl_max (hc : X.calm = true) : ClD X (.builtin "max") oMax := by
  intro pins s σ H xs us Q I rv h
  obtain ⟨ms, hb, as, d, h', r, pa, e, q⟩ := h
  unfold oMax at e
  split at e
  · obtain ⟨v, w, rfl, p1, p2⟩ := rps2 pa
    simp only [Rp] at p1 p2
    subst p1 p2
    cases e
    exact call_max2 hc pins s σ H _ us Q I rv ⟨_, _, rfl, q.here r rfl⟩
  · split at e
    · rename_i n ns z
      obtain ⟨v, rfl, p⟩ := rps1 pa
      cases e
      obtain ⟨p', rfl, sq⟩ := seq_ints r p z
      refine cr_max hc pins s σ H _ us Q I rv ⟨p', n :: ns, rfl, sq, by simp, fun m hm hle => ?_⟩
      obtain ⟨a, b, c⟩ := maxI_spec ns n
      have e1 : m = maxI n ns := by
        have h1 : maxI n ns ≤ m := by
          rcases a with a | a
          · rw [a]; exact hle n List.mem_cons_self
          · exact hle _ (List.mem_cons_of_mem _ a)
        have h2 : m ≤ maxI n ns := by
          rcases List.mem_cons.mp hm with rfl | hm
          · exact b
          · exact c m hm
        omega
      subst e1
      exact q.here r rfl
    · cases e
  · cases e
theorem cl_min (hc : X.calm = true) : ClD X (.builtin "min") oMin := by
  intro pins s σ H xs us Q I rv h
  obtain ⟨ms, hb, as, d, h', r, pa, e, q⟩ := h
  unfold oMin at e
  split at e
  · obtain ⟨v, w, rfl, p1, p2⟩ := rps2 pa
    simp only [Rp] at p1 p2
    subst p1 p2
    cases e
    exact call_min2 hc pins s σ H _ us Q I rv ⟨_, _, rfl, q.here r rfl⟩
  · split at e
    · rename_i n ns z
      obtain ⟨v, rfl, p⟩ := rps1 pa
      cases e
      obtain ⟨p', rfl, sq⟩ := seq_ints r p z
      refine cr_min hc pins s σ H _ us Q I rv ⟨p', n :: ns, rfl, sq, by simp, fun m hm hle => ?_⟩
      obtain ⟨a, b, c⟩ := minI_spec ns n
      have e1 : m = minI n ns := by
        have h1 : m ≤ minI n ns := by
          rcases a with a | a
          · rw [a]; exact hle n List.mem_cons_self
          · exact hle _ (List.mem_cons_of_mem _ a)
        have h2 : minI n ns ≤ m := by
          rcases List.mem_cons.mp hm with rfl | hm
          · exact b
          · exact c m hm
        omega
      subst e1
      exact q.here r rfl
    · cases e
  · cases e
/-- list(x), tuple(x) -/
def seqAny (h : Hb) : D → Option (List D)
  | .tup ds => some ds
  | d => seqL h d
theorem seqAny_sq {K : PySem.W.Frag} {H : Hp} {ms : List Addr} {h : Hb} {d : D} {v : V} {xs : List D} (hr : HRp K H ms h) (r : Rp K H ms d v) (e : seqAny h d = some xs) : ∃ p vs, v = .ref p ∧ (SqL K H p vs ∨ SqT K H p vs) ∧ Rps K H ms xs vs := by
  cases d with
  | tup ds =>
    simp only [Rp] at r
    obtain ⟨p, vs, rfl, s, q⟩ := r
    cases e
    exact ⟨p, vs, rfl, .inr s, q⟩
  | lst n => obtain ⟨p, vs, a, b, c⟩ := seqL_sq hr r e; exact ⟨p, vs, a, .inl b, c⟩
  | rol n => obtain ⟨p, vs, a, b, c⟩ := seqL_sq hr r e; exact ⟨p, vs, a, .inl b, c⟩
  | _ => cases e
def oList : Cl := fun as h => match as with
  | [a] => (seqAny h a).map fun xs => (.lst h.length, h ++ [xs])
  | _ => none
theorem cl_list : ClD X (.type "list") oList := by
  intro pins s σ H xs us Q I rv h
  obtain ⟨ms, hb, as, d, h', r, pa, e, q⟩ := h
  unfold oList at e
  split at e
  · rename_i a
    obtain ⟨v, rfl, p⟩ := rps1 pa
    cases z : seqAny hb a with
    | none => rw [z] at e; cases e
    | some xs =>
      rw [z] at e; cases e
      obtain ⟨p', vs, rfl, sq, rr⟩ := seqAny_sq r p z
      exact call_list_of pins s σ H _ us Q I rv ⟨p', vs, rfl, sq, q.lst r rr⟩
  · cases e

/-! ### isinstance against a built-in class -/
/-- the name of a built-in class as a value -/
theorem je_ty {x : Str} {n : String} {pos : Pos} (hm : X.mg x = none) (hg : Gl X x := by rfl) (hv : bootBuiltins x = some (.type n) := by decide +kernel) (hn : x ≠ "__name__" := by decide) (hd : (x == ("__debug__" : Str)) = false := by decide) : JE X (.Name x pos) (dC (.ty n)) := by
  refine .of (pe_bltn (v := .ty n) hg hm hv rfl hn hd) fun σ H Q h => ?_
  obtain ⟨ρ, ms, hb, d, h', o, e, q⟩ := h
  cases e
  exact q _ H ms .refl o.h rfl
def tyD : D → String
  | .non => "NoneType"
  | .bl _ => "bool"
  | .int _ => "int"
  | .str _ => "str"
  | .tup _ => "tuple"
  | .lst _ => "list"
  | .rol _ => "list"
  | .ty _ => "type"
  | .dct _ _ => "dict"
def subT (t c : String) : Option Bool :=
  if c = "int" then some (decide (t = "int") || decide (t = "bool")) else
  if c = "bool" then some (decide (t = "bool")) else if c = "tuple" then some (decide (t = "tuple")) else if c = "list" then some (decide (t = "list")) else if c = "str" then some (decide (t = "str")) else none
theorem kit_int (K : PySem.W.Frag) (t : String) (ht : t = "NoneType" ∨ t = "bool" ∨ t = "int" ∨ t = "str" ∨ t = "tuple" ∨ t = "list") : PySem.W.kitOne K (.type t) (.type "int") = some (decide (t = "int") || decide (t = "bool")) := by
  rcases ht with rfl | rfl | rfl | rfl | rfl | rfl <;> rfl
theorem kit_bool (K : PySem.W.Frag) (t : String) (ht : t = "NoneType" ∨ t = "bool" ∨ t = "int" ∨ t = "str" ∨ t = "tuple" ∨ t = "list") : PySem.W.kitOne K (.type t) (.type "bool") = some (decide (t = "bool")) := by
  rcases ht with rfl | rfl | rfl | rfl | rfl | rfl <;> rfl
theorem kit_tuple (K : PySem.W.Frag) (t : String) (ht : t = "NoneType" ∨ t = "bool" ∨ t = "int" ∨ t = "str" ∨ t = "tuple" ∨ t = "list") : PySem.W.kitOne K (.type t) (.type "tuple") = some (decide (t = "tuple")) := by
  rcases ht with rfl | rfl | rfl | rfl | rfl | rfl <;> rfl
theorem kit_list (K : PySem.W.Frag) (t : String) (ht : t = "NoneType" ∨ t = "bool" ∨ t = "int" ∨ t = "str" ∨ t = "tuple" ∨ t = "list") : PySem.W.kitOne K (.type t) (.type "list") = some (decide (t = "list")) := by
  rcases ht with rfl | rfl | rfl | rfl | rfl | rfl <;> rfl
theorem kit_str (K : PySem.W.Frag) (t : String) (ht : t = "NoneType" ∨ t = "bool" ∨ t = "int" ∨ t = "str" ∨ t = "tuple" ∨ t = "list") : PySem.W.kitOne K (.type t) (.type "str") = some (decide (t = "str")) := by
  rcases ht with rfl | rfl | rfl | rfl | rfl | rfl <;> rfl
theorem kit_sub (K : PySem.W.Frag) (t c : String) (b : Bool) (ht : t = "NoneType" ∨ t = "bool" ∨ t = "int" ∨ t = "str" ∨ t = "tuple" ∨ t = "list") (e : subT t c = some b) : PySem.W.kitOne K (.type t) (.type c) = some b := by
  unfold subT at e
  split at e
  · rename_i h; subst h; rw [kit_int K t ht]; exact e
  · split at e
    · rename_i h; subst h; rw [kit_bool K t ht]; exact e
    · split at e
      · rename_i h; subst h; rw [kit_tuple K t ht]; exact e
      · split at e
        · rename_i h; subst h; rw [kit_list K t ht]; exact e
        · split at e
          · rename_i h; subst h; rw [kit_str K t ht]; exact e
          · cases e
/-- the object's own class, at the model's level -/
theorem isi_ok {pins : List (Addr × Obj)} {s : Shared} {σ : L2.St} {H : Hp} {ms : List Addr} {hb : Hb} {d : D} {v : V} {u : Value} {c : String} {b : Bool} {Q : Value → Shared → Prop} {A : Around} {E : Value → Shared → Prop} (I : Inv X pins σ H s) (hr : HRp X.K H ms hb) (r : Rp X.K H ms d v) (rx : RelV v u) (hd : ∀ n, d ≠ .ty n) (hd2 : ∀ ks n, d ≠ .dct ks n)
    (e : subT (tyD d) c = some b) (h : ∀ tk, Q (.bool b) { s with toks := tk }) : wpAny (model X.prog X.w) A (call (.builtin "isinstance") [u, .type c]) Q E s := by
  cases d with
  | non => simp only [Rp] at r; subst r; exact isinst_ok I rx .non (kit_sub _ _ _ _ (by simp) e) h
  | bl x => simp only [Rp] at r; subst r; exact isinst_ok I rx (.bl x) (kit_sub _ _ _ _ (by simp) e) h
  | int x => simp only [Rp] at r; subst r; exact isinst_ok I rx (.int x) (kit_sub _ _ _ _ (by simp) e) h
  | str x => simp only [Rp] at r; subst r; exact isinst_ok I rx (.str x) (kit_sub _ _ _ _ (by simp) e) h
  | tup ds =>
    simp only [Rp] at r
    obtain ⟨p, vs, rfl, sq, rr⟩ := r
    cases rx
    obtain ⟨its, rv, ⟨o, ho, hc, n, hdat⟩, hz⟩ := I.tuple sq
    exact PySem.W.kia_one PySem.W.kitx_tuple I.kIn ⟨o, ho, hc⟩ (kit_sub _ _ _ _ (by simp) e) (fun z => nomatch z) h
  | lst n =>
    simp only [Rp] at r
    obtain ⟨p, rfl, hp, vs, e2⟩ := r
    exact isinst_ok I rx (.lst e2) (kit_sub _ _ _ _ (by simp) e) h
  | rol ds =>
    simp only [Rp] at r
    obtain ⟨p, vs, rfl, sq, rr⟩ := r
    cases rx
    obtain ⟨its, rv, ⟨o, n, ho, hc, hdi, hdat⟩, hz⟩ := I.list sq.sq
    exact PySem.W.kia_one PySem.W.kitx_list I.kIn ⟨o, ho, hc⟩ (kit_sub _ _ _ _ (by simp) e) (fun z => nomatch z) h
  | ty n => exact absurd rfl (hd n)
  | dct ks n => exact absurd rfl (hd2 ks n)
def oIsi : Cl := fun as h => match as with
  | [.ty _, _] => none
  | [.dct _ _, _] => none
  | [a, .ty c] => (subT (tyD a) c).map fun b => (.bl b, h)
  | _ => none
theorem cl_isi : ClD X (.builtin "isinstance") oIsi := by
  intro pins s σ H xs us Q I rv h
  obtain ⟨ms, hb, as, d, h', r, pa, e, q⟩ := h
  unfold oIsi at e
  split at e
  · cases e
  · cases e
  · rename_i a c hne hne2
    obtain ⟨v, w, rfl, p1, p2⟩ := rps2 pa
    simp only [Rp] at p2
    subst p2
    obtain ⟨u, u', rfl, r1, r2⟩ := vals2 rv
    cases r2
    cases z : subT (tyD a) c with
    | none => rw [z] at e; cases e
    | some b =>
      rw [z] at e; cases e
      refine isi_ok I r p1 r1 (fun n hn => ?_) (fun ks n hn => ?_) z fun tk => ⟨.bl b, H, I.tok _, rfl, q.here r rfl⟩
      · subst hn
        exact hne n rfl
      · subst hn
        exact hne2 ks n rfl
  · cases e
end
end Hv

set_option Elab.async false
set_option linter.all false
set_option maxRecDepth 100000
set_option maxHeartbeats 4000000
namespace Hv
open PySem PySem.Spec PyProof.Rows L2

section
variable {X : Cx}
/-! ### xs[i] -/
theorem ixN_rps {K : PySem.W.Frag} {H : Hp} {ms : List Addr} {ds : List D} {vs : List V} {i : Int} {d : D} (r : Rps K H ms ds vs) (e : atI ds i = some d) : ∃ v, atI vs i = some v ∧ Rp K H ms d v := by
  unfold atI at e ⊢
  rw [r.length] at e
  cases z : ixN vs.length i with
  | none => rw [z] at e; cases e
  | some j =>
    rw [z] at e
    obtain ⟨v, e1, q⟩ := r.get e
    exact ⟨v, e1, q⟩
def oIx : Op := fun x y h => match x, y with
  | .str z, .int i => if z.length ≤ sizeLine then (atI z.cps.toList i).map fun c => (.str ⟨#[c]⟩, h) else none
  | a, .int i => ((seqAny h a).bind fun xs => atI xs i).map fun d => (d, h)
  | _, _ => none
theorem ix_D : IxR X (rD X.K oIx) := by
  intro value slice pins s σ H x y v u Q I rx ry h hs
  obtain ⟨ms, hb, a, b, d, h', r, pa, pb, e, q⟩ := h
  unfold oIx at e
  split at e
  · simp only [Rp] at pa pb
    subst pa pb
    split at e
    · rename_i z i c
      cases w : atI z.cps.toList i with
      | none => rw [w] at e; cases e
      | some k =>
        rw [w] at e; cases e
        exact ix_str value slice pins s σ H _ _ v u Q I rx ry ⟨_, _, _, rfl, rfl, c, w, q.here r rfl⟩ hs
    · cases e
  · rename_i i _
    simp only [Rp] at pb
    subst pb
    cases w : seqAny hb a with
    | none => rw [w] at e; cases e
    | some xs =>
      rw [w] at e
      obtain ⟨p, vs, rfl, sq, rr⟩ := seqAny_sq r pa w
      cases w2 : atI xs i with
      | none =>
        have e' : (atI xs i).map (fun d => (d, hb)) = some (d, h') := e
        rw [w2] at e'; cases e'
      | some c =>
        have e' : (atI xs i).map (fun d => (d, hb)) = some (d, h') := e
        rw [w2] at e'; cases e'
        obtain ⟨z, e1, q1⟩ := ixN_rps rr w2
        rcases sq with sq | sq
        · exact ix_list value slice pins s σ H _ _ v u Q I rx ry ⟨p, vs, i, z, rfl, rfl, sq, e1, q.here r q1⟩ hs
        · exact ix_tup value slice pins s σ H _ _ v u Q I rx ry ⟨p, vs, i, z, rfl, rfl, sq, e1, q.here r q1⟩ hs
  · cases e
theorem je_ix {a b : Expr} {da db : Dn} {pos : Pos} (ja : JE X a da) (jb : JE X b db) (hs : PlainIx b := by exact fun _ _ => rfl) : JE X (.Subscript a b pos) (dBin oIx da db) :=
  .of (pe_ix ix_D ja.pe jb.pe hs) fun _ _ _ h => rd_bin h

/-! ### slices -/
abbrev On := En → Hb → Option (Option Int × Hb)
def tOv (K : PySem.W.Frag) (f : On) : TO := fun σ H Q => ∃ ρ ms h o h', Okk K σ H ρ ms h ∧ f ρ h = some (o, h') ∧ ∀ H' ms', Ext H ms H' ms' → HRp K H' ms' h' → Q o H'
structure JO (X : Cx) (e : Option Expr) (f : On) : Prop where
  po : PO X e (tOv X.K f)
def oNo : On := fun _ h => some (none, h)
def oSo (a : Dn) : On := fun ρ h => bnd (a ρ h) fun x h1 => match x with
  | .int i => some (some i, h1)
  | _ => none
theorem jo_none : JO X none oNo := ⟨fun pins s σ H Q I h => po_none pins s σ H Q I (by
  obtain ⟨ρ, ms, hb, o, h', ok, e, q⟩ := h
  cases e
  exact q H ms .refl ok.h)⟩
theorem jo_some {e : Expr} {de : Dn} (je : JE X e de) : JO X (some e) (oSo de) := ⟨fun pins s σ H Q I h => po_some je.pe pins s σ H Q I (by
  obtain ⟨ρ, ms, hb, o, h', ok, e, q⟩ := h
  obtain ⟨x, h1, e1, e⟩ := of_bnd e
  refine ⟨ρ, ms, hb, x, h1, ok, e1, fun v1 H1 ms1 x1 r1 p1 => ?_⟩
  cases x with
  | int i =>
    simp only [Rp] at p1
    subst p1
    cases e
    exact ⟨i, rfl, q H1 ms1 x1 r1⟩
  | _ => cases e)⟩
def cutD (xs : List D) (lo hi : Option Int) : List D := (xs.drop (HT.sIx xs.length 0 lo)).take (HT.sIx xs.length xs.length hi - HT.sIx xs.length 0 lo)
theorem cut_rps {K : PySem.W.Frag} {H : Hp} {ms : List Addr} {ds : List D} {vs : List V} (r : Rps K H ms ds vs) (lo hi : Option Int) : Rps K H ms (cutD ds lo hi) (cutV vs lo hi) := by
  unfold cutD cutV
  rw [r.length]
  exact (r.drop _).take _
def oSlL : D → Option Int → Option Int → Hb → Option (D × Hb) := fun x lo hi h => match x with
  | .str z => if z.length ≤ sizeLine then some (.str (cutS z lo hi), h) else none
  | .tup ds => if HT.sIx ds.length 0 lo = 0 ∧ HT.sIx ds.length ds.length hi = ds.length then none else some (.tup (cutD ds lo hi), h)
  | a => (seqL h a).map fun xs => (.lst h.length, h ++ [cutD xs lo hi])
def rSL (K : PySem.W.Frag) : V → Option Int → Option Int → Hp → VK → Prop := fun x lo hi H Q => ∃ ms h a d h', HRp K H ms h ∧ Rp K H ms a x ∧ oSlL a lo hi h = some (d, h') ∧ EndD K H ms d h' Q
theorem sl_D : SlR X (rSL X.K) := by
  intro pins s σ H x v vl vu lo hi sl Q I rx hs pl pu h
  obtain ⟨ms, hb, a, d, h', r, pa, e, q⟩ := h
  unfold oSlL at e
  split at e
  · simp only [Rp] at pa
    subst pa
    split at e
    · rename_i c
      cases e
      exact sl_str pins s σ H _ v vl vu lo hi sl Q I rx hs pl pu ⟨_, rfl, c, q.here r rfl⟩
    · cases e
  · rename_i ds
    simp only [Rp] at pa
    obtain ⟨p, vs, rfl, sq, rr⟩ := pa
    split at e
    · cases e
    · rename_i c
      cases e
      exact sl_tup pins s σ H _ v vl vu lo hi sl Q I rx hs pl pu ⟨p, vs, rfl, sq, by rw [← rr.length]; exact c, q.tup r (cut_rps rr lo hi)⟩
  · cases w : seqL hb a with
    | none => rw [w] at e; cases e
    | some xs =>
      rw [w] at e; cases e
      obtain ⟨p, vs, rfl, sq, rr⟩ := seqL_sq r pa w
      exact sl_list pins s σ H _ v vl vu lo hi sl Q I rx hs pl pu ⟨p, vs, rfl, sq, q.lst r (cut_rps rr lo hi)⟩
def dSlL (a : Dn) (lo hi : On) : Dn := fun ρ h => bnd (a ρ h) fun x h1 => bnd (lo ρ h1) fun l h2 => bnd (hi ρ h2) fun u h3 => oSlL x l u h3
theorem je_sl {e : Expr} {lo hi : Option Expr} {de : Dn} {dl dh : On} {pos p2 : Pos} (je : JE X e de) (jl : JO X lo dl) (jh : JO X hi dh) : JE X (.Subscript e (.Slice lo hi none p2) pos) (dSlL de dl dh) := by
  refine .of (pe_slice sl_D je.pe jl.po jh.po) fun σ H Q h => ?_
  obtain ⟨ρ, ms, hb, d, h', ok, e, q⟩ := h
  obtain ⟨x, h1, e1, e⟩ := of_bnd e
  obtain ⟨l, h2, e2, e⟩ := of_bnd e
  obtain ⟨u, h3, e3, e⟩ := of_bnd e
  refine ⟨ρ, ms, hb, x, h1, ok, e1, fun v1 H1 ms1 x1 r1 p1 => ?_⟩
  refine ⟨ρ, ms1, h1, l, h2, ok.up x1 r1, e2, fun H2 ms2 x2 r2 => ?_⟩
  refine ⟨ρ, ms2, h2, u, h3, (ok.up x1 r1).up x2 r2, e3, fun H3 ms3 x3 r3 => ?_⟩
  exact ⟨ms3, h3, x, d, h', r3, p1.ext r1 (x2.trans x3), e, fun v H' ms' x' r' p' => q v H' ms' (x1.trans (x2.trans (x3.trans x'))) r' p'⟩

/-! ### methods -/
def dM (f : D → Cl) (a : Dn) (as : An) : Dn := fun ρ h => bnd (a ρ h) fun x h1 => bnd (as ρ h1) fun xs h2 => f x xs h2
/-- the receiver is a list of ours -/
def mL (f : Nat → Cl) : D → Cl := fun x as h => match x with
  | .lst n => f n as h
  | _ => none
def rM (K : PySem.W.Frag) (f : D → Cl) : V → List V → Hp → VK → Prop := fun x xs H Q => ∃ ms h a as d h', HRp K H ms h ∧ Rp K H ms a x ∧ Rps K H ms as xs ∧ f a as h = some (d, h') ∧ EndD K H ms d h' Q
theorem je_m {f : Nat → Cl} {o e : Expr} {es : List Expr} {do_ : Dn} {as : An} {name : Str} {apos cpos : Pos} {id : String} (slot : Slot "list" name id) (hty : typeOf (.builtin id) = pure (.type "method_descriptor")) (hm : MtR X id (rM X.K (mL f))) (jo : JE X o do_) (ja : JA X (e :: es) as)
    (hbase : attributeBase o name X.env (eval o X.env) = eval o X.env := by rfl)
    (hfew : ((backTo cpos (starEach (e :: es) X.env)).all (fun x => !x.1) && (backToKw cpos (keywordEach [] X.env)).all (fun x => x.1.isSome)
      && decide ((e :: es).length + ([] : List Keyword).length + (if ([] : List Keyword).isEmpty then 0 else 1) < 30)) = true := by rfl)
    (hline : (apos.endLine == cpos.line) = true := by rfl) (hs : starEach (e :: es) X.env = (false, eval e X.env) :: starEach es X.env := by rfl) (hplain : (backTo cpos (starEach es X.env)).any (·.1) = false := by rfl) : JE X (.Call (.Attribute o name apos) (e :: es) [] cpos) (dM (mL f) do_ as) := by
  refine .of (pe_bm PySem.F.plainAttrs_list slot hty hm jo.pe ja.pa hbase hfew hline hs hplain) fun σ H Q h => ?_
  obtain ⟨ρ, ms, hb, d, h', ok, e, q⟩ := h
  obtain ⟨x, h1, e1, e⟩ := of_bnd e
  obtain ⟨xs, h2, e2, e⟩ := of_bnd e
  refine ⟨ρ, ms, hb, x, h1, ok, e1, fun v1 H1 ms1 x1 r1 p1 => ?_⟩
  cases x with
  | lst n =>
    have p0 := p1
    simp only [Rp] at p1
    obtain ⟨p, rfl, hp, vs, f2⟩ := p1
    refine ⟨.inl ⟨rfl, _, SqL.of f2⟩, ρ, ms1, h1, xs, h2, ok.up x1 r1, e2, fun vs2 H2 ms2 x2 r2 p2 => ?_⟩
    exact ⟨ms2, h2, .lst n, xs, d, h', r2, p0.ext r1 x2, p2, e, fun v H' ms' x' r' p' => q v H' ms' (x1.trans (x2.trans x')) r' p'⟩
  | _ => cases e
theorem je_m0 {f : Nat → Cl} {o : Expr} {do_ : Dn} {name : Str} {apos cpos : Pos} {id : String} (slot : Slot "list" name id) (hty : typeOf (.builtin id) = pure (.type "method_descriptor")) (hm : MtR X id (rM X.K (mL f))) (jo : JE X o do_)
    (hbase : attributeBase o name X.env (eval o X.env) = eval o X.env := by rfl) (hline : (apos.endLine == cpos.line) = true := by rfl) : JE X (.Call (.Attribute o name apos) [] [] cpos) (dM (mL f) do_ aNil) := by
  refine .of (pe_bm0 PySem.F.plainAttrs_list slot hty hm jo.pe hbase hline) fun σ H Q h => ?_
  obtain ⟨ρ, ms, hb, d, h', ok, e, q⟩ := h
  obtain ⟨x, h1, e1, e⟩ := of_bnd e
  obtain ⟨xs, h2, e2, e⟩ := of_bnd e
  cases e2
  refine ⟨ρ, ms, hb, x, _, ok, e1, fun v1 H1 ms1 x1 r1 p1 => ?_⟩
  cases x with
  | lst n =>
    have p0 := p1
    simp only [Rp] at p1
    obtain ⟨p, rfl, hp, vs, f2⟩ := p1
    refine ⟨.inl ⟨rfl, _, SqL.of f2⟩, ?_⟩
    exact ⟨ms1, h1, .lst n, [], d, h', r1, p0, by simp [Rps], e, fun v H' ms' x' r' p' => q v H' ms' (x1.trans x') r' p'⟩
  | _ => cases e
def mAppend (n : Nat) : Cl := fun as h => match as, h[n]? with
  | [a], some xs => if xs.length < sizeLine then some (.non, h.set n (xs ++ [a])) else none
  | _, _ => none
theorem mt_appendD : MtR X "list.append" (rM X.K (mL mAppend)) := by
  intro pins s σ H x xs v us Q I rx rs h
  obtain ⟨ms, hb, a, as, d, h', r, pa, ps, e, q⟩ := h
  cases a with
  | lst n =>
    simp only [mL, mAppend] at e
    split at e
    · rename_i a ys z
      split at e
      · rename_i c
        cases e
        obtain ⟨w, rfl, pw⟩ := rps1 ps
        obtain ⟨p, vs, rfl, hp, hp2, rr⟩ := lst_at r pa z
        exact mt_append pins s σ H _ _ v us Q I rx rs ⟨p, vs, w, rfl, rfl, hp2, by rw [← rr.length]; exact c, q.put r hp hp2 (rr.app (Rps.one pw)) rfl⟩
      · cases e
    · cases e
  | _ => cases e
def mPop (n : Nat) : Cl := fun as h => match as, h[n]? with
  | [], some xs => match xs[xs.length - 1]? with
    | some y => some (y, h.set n xs.dropLast)
    | none => none
  | _, _ => none
theorem Rps.dropLast {K : PySem.W.Frag} {H : Hp} {ms : List Addr} {ds : List D} {vs : List V} (r : Rps K H ms ds vs) : Rps K H ms ds.dropLast vs.dropLast := by
  rw [List.dropLast_eq_take, List.dropLast_eq_take, r.length]
  exact r.take _
theorem mt_popD : MtR X "list.pop" (rM X.K (mL mPop)) := by
  intro pins s σ H x xs v us Q I rx rs h
  obtain ⟨ms, hb, a, as, d, h', r, pa, ps, e, q⟩ := h
  cases a with
  | lst n =>
    simp only [mL, mPop] at e
    split at e
    · rename_i ys z
      split at e
      · rename_i y hy
        cases e
        simp only [Rps] at ps
        subst ps
        obtain ⟨p, vs, rfl, hp, hp2, rr⟩ := lst_at r pa z
        obtain ⟨w, e1, pw⟩ := rr.get hy
        exact mt_pop pins s σ H _ _ v us Q I rx rs ⟨p, vs, w, rfl, rfl, hp2, by rw [← rr.length]; exact e1, q.put r hp hp2 rr.dropLast pw⟩
      · cases e
    · cases e
  | _ => cases e
def mClear (n : Nat) : Cl := fun as h => match as, h[n]? with
  | [], some _ => some (.non, h.set n [])
  | _, _ => none
def mExtend (n : Nat) : Cl := fun as h => match as, h[n]? with
  | [.lst m], some xs => match h[m]? with
    | some ys => if xs.length + ys.length ≤ sizeLine then some (.non, h.set n (xs ++ ys)) else none
    | none => none
  | _, _ => none
end
end Hv

set_option Elab.async false
set_option linter.all false
set_option maxRecDepth 100000
set_option maxHeartbeats 4000000
namespace Hv
open PySem PySem.Spec PyProof.Rows L2

section
variable {X : Cx}
/-! ### statements -/
theorem EndF.ext {K : PySem.W.Frag} {H H1 : Hp} {ms ms1 : List Addr} {fl : Fl} {h' : Hb} {E : Ends} (q : EndF K H ms fl h' E) (x : Ext H ms H1 ms1) : EndF K H1 ms1 fl h' E := by
  cases fl <;> (simp only [EndF] at q ⊢; intro a b c x2 r p; exact q a b c (x.trans x2) r p)
def sNx : Sn := fun ρ h => some (.nx ρ, h)
def sSeq (a b : Sn) : Sn := fun ρ h => bnd (a ρ h) fun fl h1 => match fl with
  | .nx ρ1 => b ρ1 h1
  | f => some (f, h1)
theorem js_nil : JSs X [] sNx := by
  refine .of pss_nil fun E σ H h => ?_
  obtain ⟨ρ, ms, hb, fl, h', ok, e, q⟩ := h
  cases e
  exact q σ H ms .refl ok.h ok.s
theorem js_cons {st : Stmt} {rest : List Stmt} {a b : Sn} (ja : JS X st a) (jb : JSs X rest b) : JSs X (st :: rest) (sSeq a b) := by
  refine .of (pss_cons ja.ps jb.pss) fun E σ H h => ?_
  obtain ⟨ρ, ms, hb, fl, h', ok, e, q⟩ := h
  obtain ⟨f1, h1, e1, e⟩ := of_bnd e
  refine ⟨ρ, ms, hb, f1, h1, ok, e1, ?_⟩
  cases f1 with
  | nx ρ1 =>
    intro σ1 H1 ms1 x1 r1 p1
    exact ⟨ρ1, ms1, h1, fl, h', ⟨p1, r1⟩, e, q.ext x1⟩
  | rt d => cases e; exact q
  | bk ρ1 => cases e; exact q
  | ct ρ1 => cases e; exact q
theorem js_one {st : Stmt} {a : Sn} (ja : JS X st a) : JSs X [st] a := ⟨pss_one ja.ps⟩
def sRet (a : Dn) : Sn := fun ρ h => bnd (a ρ h) fun d h1 => some (.rt d, h1)
theorem js_ret {e : Expr} {a : Dn} {pos : Pos} (ja : JE X e a) : JS X (.Return (some e) pos) (sRet a) := by
  refine .of (ps_ret ja.pe) fun E σ H h => ?_
  obtain ⟨ρ, ms, hb, fl, h', ok, e, q⟩ := h
  obtain ⟨d, h1, e1, e⟩ := of_bnd e
  cases e
  exact ⟨ρ, ms, hb, d, _, ok, e1, q⟩
def sEx (a : Dn) : Sn := fun ρ h => bnd (a ρ h) fun _ h1 => some (.nx ρ, h1)
theorem js_expr {e : Expr} {a : Dn} {pos : Pos} (ja : JE X e a) (hs : swapsWith e none pos.line X.env = pure false := by rfl) : JS X (.Expr e pos) (sEx a) := by
  refine .of (ps_expr ja.pe hs) fun E σ H h => ?_
  obtain ⟨ρ, ms, hb, fl, h', ok, e, q⟩ := h
  obtain ⟨d, h1, e1, e⟩ := of_bnd e
  cases e
  exact ⟨ρ, ms, hb, d, _, ok, e1, fun v H1 ms1 x1 r1 p1 => q σ H1 ms1 x1 r1 (ok.up x1 r1).s⟩
def sIf (t : Tn) (a b : Sn) : Sn := fun ρ h => bnd (t ρ h) fun c h1 => if c = true then a ρ h1 else b ρ h1
theorem js_if {c : Expr} {a b : List Stmt} {tc : Tn} {sa sb : Sn} {pos : Pos} (jc : JT X c tc) (ja : JSs X a sa) (jb : JSs X b sb) : JS X (.If c a b pos) (sIf tc sa sb) := by
  refine .of (ps_if jc.pt ja.pss jb.pss) fun E σ H h => ?_
  obtain ⟨ρ, ms, hb, fl, h', ok, e, q⟩ := h
  obtain ⟨c, h1, e1, e⟩ := of_bnd e
  refine ⟨ρ, ms, hb, c, h1, ok, e1, fun H1 ms1 x1 r1 => ?_⟩
  cases c with
  | true => exact iteT ⟨ρ, ms1, h1, fl, h', ok.up x1 r1, by simpa using e, q.ext x1⟩
  | false => exact iteF ⟨ρ, ms1, h1, fl, h', ok.up x1 r1, by simpa using e, q.ext x1⟩

/-! ### targets -/
def gNm (i : Nat) : Gn := fun d ρ h => some (ρ.set i (some d), h)
abbrev GsN := List D → En → Hb → Option (En × Hb)
def gsNil : GsN := fun ds ρ h => match ds with
  | [] => some (ρ, h)
  | _ => none
def gsCons (g : Gn) (r : GsN) : GsN := fun ds ρ h => match ds with
  | d :: ds => bnd (g d ρ h) fun ρ1 h1 => r ds ρ1 h1
  | [] => none
def gTp (g : GsN) : Gn := fun d ρ h => match d with
  | .tup ds => g ds ρ h
  | _ => none
/-- a target whose stores touch the slots vs alone -/
def tGw (K : PySem.W.Frag) (f : Gn) (vs : List Nat) : TG := fun v σ H Q => ∃ ρ ms h d ρ' h', Okk K σ H ρ ms h ∧ Rp K H ms d v ∧ f d ρ h = some (ρ', h') ∧ ∀ σ' H' ms', Ext H ms H' ms' → HRp K H' ms' h' → SRp K H' ms' ρ' σ' → wipe σ' vs = wipe σ vs → Q σ' H'
def tGws (K : PySem.W.Frag) (f : GsN) (vs : List Nat) : TGs := fun us σ H Q => ∃ ρ ms h ds ρ' h', Okk K σ H ρ ms h ∧ Rps K H ms ds us ∧ f ds ρ h = some (ρ', h') ∧ ∀ σ' H' ms', Ext H ms H' ms' → HRp K H' ms' h' → SRp K H' ms' ρ' σ' → wipe σ' vs = wipe σ vs → Q σ' H'
structure JGw (X : Cx) (e : Expr) (f : Gn) (vs : List Nat) : Prop where
  pg : PG X e (tGw X.K f vs)
structure JGs (X : Cx) (es : List Expr) (f : GsN) (vs : List Nat) (n : Nat) : Prop where
  pgs : PGs X es (tGws X.K f vs)
  len : (assignEach es X.env).length = n
  idx : (assignEach es X.env).findIdx? (·.1) = none
  fx : ∀ ds ρ h r, f ds ρ h = some r → ds.length = n
theorem JGw.jg {e : Expr} {f : Gn} {vs : List Nat} (j : JGw X e f vs) : JG X e f := ⟨fun pins s σ H v u Q I r h => j.pg pins s σ H v u Q I r (by
  obtain ⟨ρ, ms, hb, d, ρ', h', ok, p, e, q⟩ := h
  exact ⟨ρ, ms, hb, d, ρ', h', ok, p, e, fun σ' H' ms' x r s _ => q σ' H' ms' x r s⟩)⟩
theorem wipe_set {σ : L2.St} {i : Nat} {v : Option V} : ∀ {vs : List Nat}, i ∈ vs → wipe (σ.set i v) vs = wipe σ vs
  | w :: vs, h => by
    unfold wipe
    by_cases hi : i ∈ vs
    · rw [wipe_set hi]
    · have e : i = w := by
        rcases List.mem_cons.mp h with e | e
        · exact e
        · exact absurd e hi
      subst e
      have key : ∀ (l : List Nat), i ∉ l → wipe (σ.set i v) l = (wipe σ l).set i v := by
        intro l
        induction l with
        | nil => intro _; rfl
        | cons a l ih =>
          intro hn
          unfold wipe
          rw [ih fun z => hn (List.mem_cons_of_mem _ z), List.set_comm _ _ (fun z => hn (by rw [z]; exact List.mem_cons_self))]
      rw [key vs hi, List.set_set]
theorem jg_name {i : Nat} {x : Str} {pos : Pos} {vs : List Nat} (hN : X.N.Nodup) (hv : i ∈ vs) (hi : X.N[i]? = some x := by rfl) (hx : Loc X.env.scope x := by first | exact Or.inl rfl | exact Or.inr rfl) (hf : X.fn x = true ∨ X.env.scope.names.lookup x = some .local := by first | exact .inl rfl | exact .inr rfl) : JGw X (.Name x pos) (gNm i) vs := by
  refine ⟨fun pins s σ H v u Q I r h => pg_name hN hi hx hf pins s σ H v u Q I r ?_⟩
  obtain ⟨ρ, ms, hb, d, ρ', h', ok, p, e, q⟩ := h
  cases e
  exact q _ H ms .refl ok.h (ok.s.set i p) (wipe_set hv)
theorem jgs_nil {vs : List Nat} : JGs X [] gsNil vs 0 := by
  refine ⟨fun pins s σ H us u Q I r h => pgs_nil pins s σ H us u Q I r ?_, rfl, rfl, fun ds ρ h r e => ?_⟩
  · obtain ⟨ρ, ms, hb, ds, ρ', h', ok, p, e, q⟩ := h
    cases ds with
    | nil =>
      simp only [Rps] at p
      subst p
      cases e
      exact ⟨rfl, q σ H ms .refl ok.h ok.s rfl⟩
    | cons d ds => cases e
  · cases ds with
    | nil => rfl
    | cons d ds => cases e
theorem jgs_cons {e : Expr} {es : List Expr} {g : Gn} {gs : GsN} {vs : List Nat} {n : Nat} (jg : JGw X e g vs) (js : JGs X es gs vs n)
    (hs : assignEach (e :: es) X.env = (false, assign e X.env) :: assignEach es X.env := by rfl) : JGs X (e :: es) (gsCons g gs) vs (n + 1) := by
  refine ⟨fun pins s σ H us u Q I r h => pgs_cons jg.pg js.pgs (by rw [hs]; rfl) pins s σ H us u Q I r ?_, ?_, ?_, fun ds ρ h r e => ?_⟩
  · obtain ⟨ρ, ms, hb, ds, ρ', h', ok, p, e, q⟩ := h
    cases ds with
    | nil => cases e
    | cons d ds =>
      simp only [Rps] at p
      obtain ⟨v, t, rfl, p1, p2⟩ := p
      obtain ⟨ρ1, h1, e1, e⟩ := of_bnd e
      refine ⟨v, t, rfl, ρ, ms, hb, d, ρ1, h1, ok, p1, e1, fun σ1 H1 ms1 x1 r1 s1 w1 => ?_⟩
      exact ⟨ρ1, ms1, h1, ds, ρ', h', ⟨s1, r1⟩, p2.ext ok.h x1, e, fun σ2 H2 ms2 x2 r2 s2 w2 => q σ2 H2 ms2 (x1.trans x2) r2 s2 (w2.trans w1)⟩
  · rw [hs, List.length_cons, js.len]
  · rw [hs, List.findIdx?_cons, js.idx]; rfl
  · cases ds with
    | nil => cases e
    | cons d ds =>
      obtain ⟨ρ1, h1, e1, e⟩ := of_bnd e
      rw [List.length_cons, js.fx _ _ _ _ e]
theorem jg_tup {es : List Expr} {k : Nat} {gs : GsN} {vs : List Nat} {n : Nat} {pos : Pos} (hc : X.calm = true) (js : JGs X es gs vs n) : JGw X (.Tuple es k pos) (gTp gs) vs := by
  refine ⟨fun pins s σ H v u Q I r h => pg_tup hc js.pgs js.len js.idx pins s σ H v u Q I r ?_⟩
  obtain ⟨ρ, ms, hb, d, ρ', h', ok, p, e, q⟩ := h
  cases d with
  | tup ds =>
    simp only [Rp] at p
    obtain ⟨a, us, rfl, sq, rr⟩ := p
    refine ⟨a, us, rfl, sq, ?_, ρ, ms, hb, ds, ρ', h', ok, rr, e, q⟩
    rw [← rr.length]
    exact js.fx _ _ _ _ e
  | _ => cases e
/-- o[i] = v of a list of ours -/
def gIx (o i : Dn) : Gn := fun d ρ h => bnd (o ρ h) fun x h1 => bnd (i ρ h1) fun y h2 => match x, y with
  | .lst n, .int k => match h2[n]? with
    | some xs => match ixN xs.length k with
      | some j => some (ρ, h2.set n (xs.set j d))
      | none => none
    | none => none
  | _, _ => none
theorem jg_ix {o i : Expr} {do_ di : Dn} {pos : Pos} (jo : JE X o do_) (ji : JE X i di) (ha : ∀ v, assign (.Subscript o i pos) X.env v = (do
      let ov ← holding [v] (eval o X.env)
      let iv ← holding [v, ov] (eval i X.env)
      standAt pos
      holding [v, ov, iv] (setItem ov iv v)
      release [v, ov, iv] []) := by intro _; rfl) : JG X (.Subscript o i pos) (gIx do_ di) := by
  refine .of (pg_sub jo.pe ji.pe set_list ha) fun v σ H Q h => ?_
  obtain ⟨ρ, ms, hb, d, ρ', h', ok, p, e, q⟩ := h
  obtain ⟨x, h1, e1, e⟩ := of_bnd e
  obtain ⟨y, h2, e2, e⟩ := of_bnd e
  refine ⟨ρ, ms, hb, x, h1, ok, e1, fun v1 H1 ms1 x1 r1 p1 => ?_⟩
  refine ⟨ρ, ms1, h1, y, h2, ok.up x1 r1, e2, fun v2 H2 ms2 x2 r2 p2 => ?_⟩
  split at e
  · rename_i n k
    simp only [Rp] at p2
    subst p2
    split at e
    · rename_i xs hx
      split at e
      · rename_i j hj
        cases e
        have p1' := p1.ext r1 x2
        obtain ⟨a, vs, rfl, hm, hl, rr⟩ := lst_at r2 p1' hx
        refine ⟨a, vs, _, j, rfl, rfl, hl, by rw [← rr.length]; exact hj, ?_⟩
        have pv := (p.ext ok.h (x1.trans x2))
        exact q σ _ ms2 (x1.trans (x2.trans (.upd hm hl))) (r2.upd hm hl (rr.set j pv)) (((ok.up x1 r1).up x2 r2).s.up (Ext.up r2 (.upd hm hl)))
      · cases e
    · cases e
  · cases e
def sAsg (a : Dn) (g : Gn) : Sn := fun ρ h => bnd (a ρ h) fun d h1 => bnd (g d ρ h1) fun ρ1 h2 => some (.nx ρ1, h2)
theorem rd_asg {a : Dn} {g : Gn} {E : Ends} {σ : L2.St} {H : Hp} (h : tSv X.K (sAsg a g) E σ H) : tAsg (tEv X.K a) (tGv X.K g) E σ H := by
  obtain ⟨ρ, ms, hb, fl, h', ok, e, q⟩ := h
  obtain ⟨d, h1, e1, e⟩ := of_bnd e
  obtain ⟨ρ1, h2, e2, e⟩ := of_bnd e
  cases e
  refine ⟨ρ, ms, hb, d, h1, ok, e1, fun v1 H1 ms1 x1 r1 p1 => ?_⟩
  exact ⟨ρ, ms1, h1, d, ρ1, _, ok.up x1 r1, p1, e2, fun σ2 H2 ms2 x2 r2 s2 => q σ2 H2 ms2 (x1.trans x2) r2 s2⟩
theorem js_asg {tg e : Expr} {a : Dn} {g : Gn} {pos : Pos} (ja : JE X e a) (jg : JG X tg g) (hs : swapsWithSole [tg] e pos.line X.env = pure false := by rfl) (hw : swappedStores [tg] e X.env = pure none := by rfl)
    (h1 : (assignEach [tg] X.env).map (·.2) = [assign tg X.env] := by rfl) : JS X (.Assign [tg] e pos) (sAsg a g) :=
  .of (ps_asg ja.pe jg.pg hs hw h1) fun _ _ _ h => rd_asg h
theorem js_set {i : Nat} {x : Str} {e : Expr} {a : Dn} {pos' pos : Pos} (hN : X.N.Nodup) (ja : JE X e a) (hi : X.N[i]? = some x := by rfl) (hx : Loc X.env.scope x := by first | exact Or.inl rfl | exact Or.inr rfl) (hs : swapsWith e (some (.Name x pos')) pos.line X.env = pure false := by rfl) (hf : X.fn x = true ∨ X.env.scope.names.lookup x = some .local := by first | exact .inl rfl | exact .inr rfl) :
    JS X (.Assign [.Name x pos'] e pos) (sAsg a (gNm i)) := by
  refine .of (ps_set hN hi hx ja.pe hs hf) fun E σ H h => ?_
  obtain ⟨ρ, ms, hb, fl, h', ok, e, q⟩ := h
  obtain ⟨d, h1, e1, e⟩ := of_bnd e
  obtain ⟨ρ1, h2, e2, e⟩ := of_bnd e
  cases e
  cases e2
  exact ⟨ρ, ms, hb, d, _, ok, e1, fun v1 H1 ms1 x1 r1 p1 => q _ H1 ms1 x1 r1 ((ok.up x1 r1).s.set i p1)⟩
/-- a, b = e1, e2 -/
def sPar (i j : Nat) (a : An) : Sn := fun ρ h => bnd (a ρ h) fun ds h1 => match ds with
  | [x, y] => some (.nx ((ρ.set i (some x)).set j (some y)), h1)
  | _ => none
def sAug (i : Nat) (o : Op) (a : Dn) : Sn := fun ρ h => match ρ[i]? with
  | some (some x) => bnd (a ρ h) fun y h1 => bnd (o x y h1) fun z h2 => some (.nx (ρ.set i (some z)), h2)
  | _ => none

/-! ### while -/
def whD (c : Tn) (b : Sn) (ρ : En) (h : Hb) : Option (Fl × Hb) :=
  match c ρ h with
  | none => none
  | some (false, h1) => some (.nx ρ, h1)
  | some (true, h1) => match b ρ h1 with
    | none => none
    | some (.nx ρ', h2) => whD c b ρ' h2
    | some (.ct ρ', h2) => whD c b ρ' h2
    | some (.bk ρ', h2) => some (.nx ρ', h2)
    | some (.rt d, h2) => some (.rt d, h2) partial_fixpoint
/-- the run of a while, with its turns counted -/
inductive WhR (c : Tn) (b : Sn) : Nat → En → Hb → Fl × Hb → Prop
  | stop {n ρ h h1} : c ρ h = some (false, h1) → WhR c b n ρ h (.nx ρ, h1)
  | next {n ρ h h1 ρ' h2 r} : c ρ h = some (true, h1) → b ρ h1 = some (.nx ρ', h2) → WhR c b n ρ' h2 r → WhR c b (n + 1) ρ h r
  | cont {n ρ h h1 ρ' h2 r} : c ρ h = some (true, h1) → b ρ h1 = some (.ct ρ', h2) → WhR c b n ρ' h2 r → WhR c b (n + 1) ρ h r
  | brk {n ρ h h1 ρ' h2} : c ρ h = some (true, h1) → b ρ h1 = some (.bk ρ', h2) → WhR c b n ρ h (.nx ρ', h2)
  | ret {n ρ h h1 d h2} : c ρ h = some (true, h1) → b ρ h1 = some (.rt d, h2) → WhR c b n ρ h (.rt d, h2)
theorem whD_run (c : Tn) (b : Sn) : ∀ ρ h r, whD c b ρ h = some r → ∃ n, WhR c b n ρ h r := by
  apply whD.partial_correctness c b (fun ρ h r => ∃ n, WhR c b n ρ h r)
  intro f ih ρ h r e
  split at e
  · cases e
  · rename_i h1 e1; cases e; exact ⟨0, .stop e1⟩
  · rename_i h1 e1
    split at e
    · cases e
    · rename_i ρ' h2 e2
      obtain ⟨n, w⟩ := ih _ _ _ e
      exact ⟨n + 1, .next e1 e2 w⟩
    · rename_i ρ' h2 e2
      obtain ⟨n, w⟩ := ih _ _ _ e
      exact ⟨n + 1, .cont e1 e2 w⟩
    · rename_i ρ' h2 e2; cases e; exact ⟨0, .brk e1 e2⟩
    · rename_i d h2 e2; cases e; exact ⟨0, .ret e1 e2⟩
theorem js_while {c : Expr} {body : List Stmt} {tc : Tn} {sb : Sn} {pos : Pos} (hp : PassesOwn (model X.prog X.w) X.A X.env X.xe) (jc : JT X c tc) (jb : JSs X body sb) : JS X (.While c body [] pos) (whD tc sb) := by
  refine .of (ps_while hp jc.pt jb.pss) fun E σ H h => ?_
  obtain ⟨ρ, ms, hb, fl, h', ok, e, q⟩ := h
  obtain ⟨n, run⟩ := whD_run tc sb ρ hb _ e
  refine ⟨fun m σ H => ∃ ρ ms h fl h', Okk X.K σ H ρ ms h ∧ WhR tc sb m ρ h (fl, h') ∧ EndF X.K H ms fl h' E, ⟨n, ρ, ms, hb, fl, h', ok, run, q⟩, ?_⟩
  clear ok e q run
  rintro m σ H ⟨ρ, ms, h, fl, h', ok, run, q⟩
  cases run with
  | stop e1 => exact ⟨ρ, ms, h, false, _, ok, e1, fun H1 ms1 x1 r1 => iteF (q σ H1 ms1 x1 r1 (ok.up x1 r1).s)⟩
  | @next n _ _ h1 ρ' h2 _ e1 e2 run =>
    refine ⟨ρ, ms, h, true, h1, ok, e1, fun H1 ms1 x1 r1 => iteT ?_⟩
    refine ⟨fun σ' H' => ∃ ρ ms h fl h', Okk X.K σ' H' ρ ms h ∧ WhR tc sb n ρ h (fl, h') ∧ EndF X.K H' ms fl h' E, fun σ' H' z => ⟨n, Nat.lt_succ_self _, z⟩, ρ, ms1, h1, .nx ρ', h2, ok.up x1 r1, e2, ?_⟩
    intro σ2 H2 ms2 x2 r2 s2
    exact ⟨ρ', ms2, h2, fl, h', ⟨s2, r2⟩, run, q.ext (x1.trans x2)⟩
  | @cont n _ _ h1 ρ' h2 _ e1 e2 run =>
    refine ⟨ρ, ms, h, true, h1, ok, e1, fun H1 ms1 x1 r1 => iteT ?_⟩
    refine ⟨fun σ' H' => ∃ ρ ms h fl h', Okk X.K σ' H' ρ ms h ∧ WhR tc sb n ρ h (fl, h') ∧ EndF X.K H' ms fl h' E, fun σ' H' z => ⟨n, Nat.lt_succ_self _, z⟩, ρ, ms1, h1, .ct ρ', h2, ok.up x1 r1, e2, ?_⟩
    intro σ2 H2 ms2 x2 r2 s2
    exact ⟨ρ', ms2, h2, fl, h', ⟨s2, r2⟩, run, q.ext (x1.trans x2)⟩
  | @brk _ _ _ h1 ρ' h2 e1 e2 =>
    refine ⟨ρ, ms, h, true, h1, ok, e1, fun H1 ms1 x1 r1 => iteT ?_⟩
    refine ⟨fun _ _ => False, fun σ' H' z => z.elim, ρ, ms1, h1, .bk ρ', _, ok.up x1 r1, e2, ?_⟩
    intro σ2 H2 ms2 x2 r2 s2
    exact q σ2 H2 ms2 (x1.trans x2) r2 s2
  | @ret _ _ _ h1 d h2 e1 e2 =>
    refine ⟨ρ, ms, h, true, h1, ok, e1, fun H1 ms1 x1 r1 => iteT ?_⟩
    refine ⟨fun _ _ => False, fun σ' H' z => z.elim, ρ, ms1, h1, .rt d, _, ok.up x1 r1, e2, ?_⟩
    intro v2 H2 ms2 x2 r2 p2
    exact q v2 H2 ms2 (x1.trans x2) r2 p2
end
end Hv

set_option Elab.async false
set_option linter.all false
set_option maxRecDepth 100000
set_option maxHeartbeats 4000000
namespace Hv
open PySem PySem.Spec PyProof.Rows L2

/-! ### what is walked -/
structure Serves (K : PySem.W.Frag) (J : It) (items : List D) (ok : Hb → Prop) (H0 : Hp) (ms0 : List Addr) : Prop where
  go : ∀ i H ms h, Ext H0 ms0 H ms → HRp K H ms h → ok h → i < items.length → J.go i H
  yld : ∀ i H ms h x H' d, Ext H0 ms0 H ms → HRp K H ms h → ok h → items[i]? = some d → J.yld i H x H' → Ext H ms H' ms ∧ HRp K H' ms h ∧ Rp K H' ms d x
  stop : ∀ i H ms h, Ext H0 ms0 H ms → HRp K H ms h → ok h → items.length ≤ i → J.stop i H
abbrev Itm := List D × (Hb → Prop)
abbrev In := En → Hb → Option (Itm × Hb)
def tIv (K : PySem.W.Frag) (f : In) : TI := fun σ H R => ∃ ρ ms h it h', Okk K σ H ρ ms h ∧ f ρ h = some (it, h') ∧ ∀ J H' ms', Ext H ms H' ms' → HRp K H' ms' h' → Serves K J it.1 it.2 H' ms' → R J H'
structure JI (X : Cx) (tg e : Expr) (f : In) : Prop where
  pi : PI X tg e (tIv X.K f)
section
variable {X : Cx} {tg : Expr}
theorem PI.or {e : Expr} {w1 w2 : TI} (a : PI X tg e w1) (b : PI X tg e w2) : PI X tg e (fun σ H R => w1 σ H R ∨ w2 σ H R) := fun pins s σ H R I h => h.elim (a pins s σ H R I) (b pins s σ H R I)
theorem JI.of {e : Expr} {f : In} {t : TI} (hp : PI X tg e t) (hr : ∀ σ H R, tIv X.K f σ H R → t σ H R) : JI X tg e f := ⟨fun pins s σ H R I h => hp pins s σ H R I (hr σ H R h)⟩

theorem sv_lst {K : PySem.W.Frag} {H0 : Hp} {ms0 : List Addr} {n : Nat} {a : Addr} {xs : List D} {vs0 : List V} (hm : ms0[n]? = some a) (h0 : H0 a = some (.lst vs0)) : Serves K (Itl K a) xs (fun h => h[n]? = some xs) H0 ms0 := by
  have at_ : ∀ {H ms h}, Ext H0 ms0 H ms → HRp K H ms h → h[n]? = some xs → ∃ vs, H a = some (.lst vs) ∧ Rps K H ms xs vs := fun {H ms h} x r e => by
    obtain ⟨o', vs', q1, q2⟩ := x.kd a _ _ _ (List.mem_of_getElem? hm) h0 rfl
    have q3 : H a = some (HO.lst vs') := by rw [q1, cell_l q2]
    exact ⟨vs', q3, r.at_l e (x.ix n a hm) q3⟩
  refine ⟨fun i H ms h x r e hi => ?_, fun i H ms h v H' d x r e hd y => ?_, fun i H ms h x r e hi => ?_⟩
  · obtain ⟨vs, e2, rr⟩ := at_ x r e
    have hi' : i < vs.length := by rw [← rr.length]; exact hi
    exact ⟨vs, vs[i], SqL.of e2, by simp [hi']⟩
  · obtain ⟨vs, e2, rr⟩ := at_ x r e
    obtain ⟨e3, y⟩ := y
    subst e3
    obtain ⟨w, e4, p⟩ := rr.get hd
    have := y vs (SqL.of e2)
    rw [e4] at this; cases this
    exact ⟨.refl, r, p⟩
  · obtain ⟨vs, e2, rr⟩ := at_ x r e
    exact ⟨vs, SqL.of e2, by rw [← rr.length]; exact hi⟩
theorem sv_tup' {K : PySem.W.Frag} {H0 : Hp} {ms0 : List Addr} {h0 : Hb} {a : Addr} {vs : List V} {ds : List D} (hr : HRp K H0 ms0 h0) (sq : SqT K H0 a vs) (rr : Rps K H0 ms0 ds vs) : Serves K (Itt K a) ds (fun _ => True) H0 ms0 := by
  refine ⟨fun i H ms h x r _ hi => ?_, fun i H ms h v H' d x r _ hd y => ?_, fun i H ms h x r _ hi => ?_⟩
  · have hi' : i < vs.length := by rw [← rr.length]; exact hi
    exact ⟨vs, vs[i], (Ext.up hr x).tup a vs sq, by simp [hi']⟩
  · obtain ⟨e3, y⟩ := y
    subst e3
    obtain ⟨w, e4, p⟩ := rr.get hd
    have := y vs ((Ext.up hr x).tup a vs sq)
    rw [e4] at this; cases this
    exact ⟨.refl, r, p.ext hr x⟩
  · exact ⟨vs, (Ext.up hr x).tup a vs sq, by rw [← rr.length]; exact hi⟩
theorem sv_rol {K : PySem.W.Frag} {H0 : Hp} {ms0 : List Addr} {h0 : Hb} {a : Addr} {vs : List V} {ds : List D} (hr : HRp K H0 ms0 h0) (sq : RoL K H0 a vs) (rr : Rps K H0 ms0 ds vs) : Serves K (Itl K a) ds (fun _ => True) H0 ms0 := by
  refine ⟨fun i H ms h x r _ hi => ?_, fun i H ms h v H' d x r _ hd y => ?_, fun i H ms h x r _ hi => ?_⟩
  · have hi' : i < vs.length := by rw [← rr.length]; exact hi
    exact ⟨vs, vs[i], ((Ext.up hr x).rol a vs sq).sq, by simp [hi']⟩
  · obtain ⟨e3, y⟩ := y
    subst e3
    obtain ⟨w, e4, p⟩ := rr.get hd
    have := y vs ((Ext.up hr x).rol a vs sq).sq
    rw [e4] at this; cases this
    exact ⟨.refl, r, p.ext hr x⟩
  · exact ⟨vs, ((Ext.up hr x).rol a vs sq).sq, by rw [← rr.length]; exact hi⟩
/-- the items of an int range -/
def rangeD (lo : Int) (n : Nat) : List D := (List.range n).map fun i => .int (lo + (i : Nat))
theorem rangeD_length (lo : Int) (n : Nat) : (rangeD lo n).length = n := by simp [rangeD]
theorem sv_rng {K : PySem.W.Frag} {H0 : Hp} {ms0 : List Addr} {lo : Int} {n : Nat} : Serves K (Itr lo n) (rangeD lo n) (fun _ => True) H0 ms0 := by
  refine ⟨fun i H ms h x r _ hi => ?_, fun i H ms h v H' d x r _ hd y => ?_, fun i H ms h x r _ hi => ?_⟩
  · rw [rangeD_length] at hi; exact hi
  · obtain ⟨e1, e2⟩ := y
    subst e1
    have : d = .int (lo + (i : Nat)) := by
      unfold rangeD at hd
      rw [List.getElem?_map] at hd
      cases z : (List.range n)[i]? with
      | none => rw [z] at hd; cases hd
      | some j =>
        rw [z] at hd
        have hj := (List.getElem?_eq_some_iff.mp z).2
        rw [List.getElem_range] at hj
        subst hj
        exact (Option.some.inj hd).symm
    subst this
    subst e2
    exact ⟨.refl, r, by simp only [Rp]⟩
  · rw [rangeD_length] at hi; exact hi
/-- the signs of a text -/
def signsD (x : Str) : List D := x.cps.toList.map fun c => .str ⟨#[c]⟩
theorem sv_str {K : PySem.W.Frag} {H0 : Hp} {ms0 : List Addr} {x : Str} : Serves K (Its x) (signsD x) (fun _ => True) H0 ms0 := by
  have hl : (signsD x).length = x.cps.size := by simp [signsD]
  refine ⟨fun i H ms h _ r _ hi => ?_, fun i H ms h v H' d _ r _ hd y => ?_, fun i H ms h _ r _ hi => ?_⟩
  · rw [hl] at hi; exact hi
  · obtain ⟨e1, c, e2, e3⟩ := y
    subst e1 e3
    have : d = .str ⟨#[c]⟩ := by
      unfold signsD at hd
      rw [List.getElem?_map, Array.getElem?_toList, e2] at hd
      exact (Option.some.inj hd).symm
    subst this
    exact ⟨.refl, r, by simp only [Rp]⟩
  · rw [hl] at hi; exact hi
/-- what a for walks: a list of ours (as long as it stays), one that nobody writes, a tuple, a text -/
def iAny (a : Dn) : In := fun ρ h => bnd (a ρ h) fun x h1 => match x with
  | .lst n => match h1[n]? with
    | some xs => some ((xs, fun h => h[n]? = some xs), h1)
    | none => none
  | .rol ds => some ((ds, fun _ => True), h1)
  | .tup ds => some ((ds, fun _ => True), h1)
  | .str z => some ((signsD z, fun _ => True), h1)
  | _ => none
def tAny (K : PySem.W.Frag) (tl : TE) : TI := fun σ H R => tl σ H fun x H1 => (∃ a, x = .ref a ∧ (∃ xs, SqL K H1 a xs) ∧ R (Itl K a) H1) ∨ (∃ a, x = .ref a ∧ (∃ xs, SqT K H1 a xs) ∧ R (Itt K a) H1) ∨ ∃ z, x = .str z ∧ R (Its z) H1
theorem pi_any {l : Expr} {tl : TE} (hl : PE X l tl) : PI X tg l (tAny X.K tl) := by
  intro pins s σ H R I h
  refine thn (hl pins s σ H _ I h) fun v s1 ⟨x, H1, I1, r1, q1⟩ => ?_
  rcases q1 with ⟨a, e, ⟨xs, hq⟩, q⟩ | ⟨a, e, ⟨xs, hq⟩, q⟩ | ⟨z, e, q⟩
  · subst e
    cases r1
    obtain ⟨its, rv, p, hz⟩ := I1.list hq
    refine wpAny_pyIter_list p.isList ?_
    refine ⟨s1.heap.objs.size, [s1.heap.objs.size], _, _, H1, rfl, I1.kept (t' := s1.toks) fun b o e => Heap.get?_push_of_some _ e, turn_list a _, ⟨_, Heap.get?_push_size _ rfl, rfl, rfl⟩, fun b hb => ?_, q⟩
    have e : b = s1.heap.objs.size := by simpa using hb
    subst e
    exact I1.fpOk (Nat.le_refl _) (I1.hok.fresh (Nat.le_refl _))
  · subst e
    cases r1
    obtain ⟨its, rv, p, hz⟩ := I1.tuple hq
    refine wpAny_pyIter_tuple (show s1.heap.IsTuple a its.toArray from p) ?_
    refine ⟨s1.heap.objs.size, [s1.heap.objs.size], _, _, H1, rfl, I1.kept (t' := s1.toks) fun b o e => Heap.get?_push_of_some _ e, turn_tuple a _, ⟨_, Heap.get?_push_size _ rfl, rfl, rfl⟩, fun b hb => ?_, q⟩
    have e : b = s1.heap.objs.size := by simpa using hb
    subst e
    exact I1.fpOk (Nat.le_refl _) (I1.hok.fresh (Nat.le_refl _))
  · subst e
    obtain ⟨t, rfl⟩ := r1
    cases ha : z.cps.all (· < 128)
    · exact wpAny_pyIter_wide ha (pi_one (tk := s1.toks) I1 _ (turn_str _ z t "str_iterator" (.inr rfl)) ⟨_, Heap.get?_push_size _ rfl, rfl, rfl⟩ q)
    · exact wpAny_pyIter_ascii ha (pi_one (tk := s1.toks) I1 _ (turn_str _ z t "str_ascii_iterator" (.inl rfl)) ⟨_, Heap.get?_push_size _ rfl, rfl, rfl⟩ q)
theorem ji_any {e : Expr} {a : Dn} (ja : JE X e a) : JI X tg e (iAny a) := by
  refine .of (pi_any ja.pe) fun σ H R h => ?_
  obtain ⟨ρ, ms, hb, it, h', ok, e, q⟩ := h
  obtain ⟨x, h1, e1, e⟩ := of_bnd e
  refine ⟨ρ, ms, hb, x, h1, ok, e1, fun v1 H1 ms1 x1 r1 p1 => ?_⟩
  split at e
  · split at e
    · rename_i n xs hx
      cases e
      obtain ⟨p, vs, rfl, hm, hl, rr⟩ := lst_at r1 p1 hx
      exact .inl ⟨p, rfl, ⟨vs, SqL.of hl⟩, q _ H1 ms1 x1 r1 (sv_lst hm hl)⟩
    · cases e
  · cases e
    simp only [Rp] at p1
    obtain ⟨p, vs, rfl, sq, rr⟩ := p1
    exact .inl ⟨p, rfl, ⟨vs, sq.sq⟩, q _ H1 ms1 x1 r1 (sv_rol r1 sq rr)⟩
  · cases e
    simp only [Rp] at p1
    obtain ⟨p, vs, rfl, sq, rr⟩ := p1
    exact .inr (.inl ⟨p, rfl, ⟨vs, sq⟩, q _ H1 ms1 x1 r1 (sv_tup' r1 sq rr)⟩)
  · cases e
    simp only [Rp] at p1
    subst p1
    exact .inr (.inr ⟨_, rfl, q _ H1 ms1 x1 r1 sv_str⟩)
  · cases e

def rgOk (i : Int) : Bool := decide (-(2 ^ 62) ≤ i ∧ i < 2 ^ 62)
theorem rgOk_of {i : Int} (h : rgOk i = true) : -(2 ^ 62) ≤ i ∧ i < 2 ^ 62 := of_decide_eq_true h
/-- range(n), range(a, b) -/
def iRg (as : An) : In := fun ρ h => bnd (as ρ h) fun xs h1 => match xs with
  | [.int j] => if rgOk j = true then some ((rangeD 0 j.toNat, fun _ => True), h1) else none
  | [.int i, .int j] => if rgOk i = true ∧ rgOk j = true then some ((rangeD i (j - i).toNat, fun _ => True), h1) else none
  | _ => none
theorem ji_rg1 {a : Expr} {as : An} {p pos : Pos} (hm : X.mg "range" = none) (ja : JA X [a] as) (fx : Fixed as 1) (hg : Gl X "range" := by rfl) (hs : starEach [a] X.env = [(false, eval a X.env)] := by rfl) : JI X tg (.Call (.Name "range" p) [a] [] pos) (iRg as) := by
  refine .of (pi_range1 hg hm ja.pa hs) fun σ H R h => ?_
  obtain ⟨ρ, ms, hb, it, h', ok, e, q⟩ := h
  obtain ⟨xs, h1, e1, e⟩ := of_bnd e
  have hl := fx _ _ _ _ e1
  refine ⟨ρ, ms, hb, xs, h1, ok, e1, fun vs H1 ms1 x1 r1 p1 => ?_⟩
  split at e
  · split at e
    · rename_i c
      cases e
      obtain ⟨v, rfl, pv⟩ := rps1 p1
      simp only [Rp] at pv
      subst pv
      exact ⟨_, rfl, (rgOk_of c).1, (rgOk_of c).2, q _ H1 ms1 x1 r1 sv_rng⟩
    · cases e
  · simp at hl
  · cases e
end

/-! ### for -/
section
variable {X : Cx} {tg : Expr}
open Classical in
noncomputable def forD (ok : Hb → Prop) (g : Gn) (b : Sn) : List D → En → Hb → Option (Fl × Hb)
  | [], ρ, h => if ok h then some (.nx ρ, h) else none
  | x :: r, ρ, h => if ok h then bnd (g x ρ h) fun ρ1 h1 => bnd (b ρ1 h1) fun fl h2 => match fl with
      | .nx ρ2 => forD ok g b r ρ2 h2
      | .ct ρ2 => forD ok g b r ρ2 h2
      | .bk ρ2 => some (.nx ρ2, h2)
      | .rt d => some (.rt d, h2)
    else none
noncomputable def sFor (f : In) (g : Gn) (b : Sn) : Sn := fun ρ h => bnd (f ρ h) fun it h1 => forD it.2 g b it.1 ρ h1
theorem js_for {iter : Expr} {body : List Stmt} {f : In} {g : Gn} {b : Sn} {pos : Pos} (hp : PassesOwn (model X.prog X.w) X.A X.env X.xe) (hc : X.calm = true) (ji : JI X tg iter f) (jg : JG X tg g) (jb : JSs X body b)
    (hs : ∀ x, foldedSetIterable iter X.env x = pure x := by intro _; rfl) : JS X (.For tg iter body [] pos) (sFor f g b) := by
  refine .of (ps_for hp hc ji.pi jg.pg jb.pss hs) fun E σ H h => ?_
  obtain ⟨ρ, ms, hb, fl, h', ok, e, q⟩ := h
  obtain ⟨it, h1, e1, e⟩ := of_bnd e
  refine ⟨ρ, ms, hb, it, h1, ok, e1, fun J H1 ms1 x1 r1 S => ?_⟩
  refine ⟨fun i m σ H => m = it.1.length - i ∧ i ≤ it.1.length ∧ ∃ ρ ms h fl h', Ext H1 ms1 H ms ∧ Okk X.K σ H ρ ms h ∧ forD it.2 g b (it.1.drop i) ρ h = some (fl, h') ∧ EndF X.K H ms fl h' E,
    ⟨it.1.length, by simp, Nat.zero_le _, ρ, ms1, h1, fl, h', .refl, ok.up x1 r1, by simpa using e, q.ext x1⟩, ?_⟩
  clear e q ok
  rintro i m σ H ⟨rfl, hi, ρ, ms, h, fl, h', x, ok, e, q⟩
  by_cases hlt : i < it.1.length
  · refine .inr ?_
    rw [List.drop_eq_getElem_cons hlt] at e
    unfold forD at e
    split at e
    · rename_i hok
      obtain ⟨ρ1, h2, e2, e⟩ := of_bnd e
      obtain ⟨fl1, h3, e3, e⟩ := of_bnd e
      refine ⟨S.go i H ms h x ok.h hok hlt, fun σ' H' => i + 1 ≤ it.1.length ∧ ∃ ρ ms h fl h', Ext H1 ms1 H' ms ∧ Okk X.K σ' H' ρ ms h ∧ forD it.2 g b (it.1.drop (i + 1)) ρ h = some (fl, h') ∧ EndF X.K H' ms fl h' E,
        fun σ' H' ⟨a, z⟩ => ⟨it.1.length - (i + 1), by omega, rfl, a, z⟩, fun v H' y => ?_⟩
      obtain ⟨x2, r2, p2⟩ := S.yld i H ms h v H' it.1[i] x ok.h hok (by simp [hlt]) y
      refine ⟨ρ, ms, h, it.1[i], ρ1, h2, ok.up x2 r2, p2, e2, fun σ3 H3 ms3 x3 r3 s3 => ?_⟩
      refine ⟨ρ1, ms3, h2, fl1, h3, ⟨s3, r3⟩, e3, ?_⟩
      cases fl1 with
      | nx ρ2 => intro σ4 H4 ms4 x4 r4 s4; exact ⟨hlt, ρ2, ms4, h3, fl, h', x.trans (x2.trans (x3.trans x4)), ⟨s4, r4⟩, e, q.ext (x2.trans (x3.trans x4))⟩
      | ct ρ2 => intro σ4 H4 ms4 x4 r4 s4; exact ⟨hlt, ρ2, ms4, h3, fl, h', x.trans (x2.trans (x3.trans x4)), ⟨s4, r4⟩, e, q.ext (x2.trans (x3.trans x4))⟩
      | bk ρ2 => cases e; intro σ4 H4 ms4 x4 r4 s4; exact q σ4 H4 ms4 (x2.trans (x3.trans x4)) r4 s4
      | rt d => cases e; intro v4 H4 ms4 x4 r4 p4; exact q v4 H4 ms4 (x2.trans (x3.trans x4)) r4 p4
    · cases e
  · refine .inl ?_
    have hi' : i = it.1.length := by omega
    rw [List.drop_eq_nil_of_le (by omega)] at e
    unfold forD at e
    split at e
    · rename_i hok
      cases e
      exact ⟨S.stop i H ms h x ok.h hok (by omega), q σ H ms .refl ok.h ok.s⟩
    · cases e

/-! ### comprehensions -/
structure JTs (X : Cx) (ifs : List Expr) (t : Tn) : Prop where
  pts : PTs X ifs (tTv X.K t)
def tYs : Tn := fun _ h => some (true, h)
theorem jts_nil : JTs X [] tYs := ⟨fun pins s σ H Q I h => pts_nil pins s σ H Q I (by
  obtain ⟨ρ, ms, hb, b, h', ok, e, q⟩ := h
  cases e
  exact q H ms .refl ok.h)⟩
theorem jts_one {c : Expr} {t : Tn} (j : JT X c t) : JTs X [c] t := ⟨pts_one j.pt⟩
def wipeE (ρ : En) : List Nat → En
  | [] => ρ
  | v :: vs => (wipeE ρ vs).set v none
theorem SRp.wipe {K : PySem.W.Frag} {H : Hp} {ms : List Addr} {ρ : En} {σ : L2.St} (s : SRp K H ms ρ σ) : ∀ vs : List Nat, SRp K H ms (wipeE ρ vs) (L2.wipe σ vs)
  | [] => s
  | v :: vs => by
    have ih := SRp.wipe s vs
    refine ⟨by simp [wipeE, L2.wipe, ih.len], fun i d e => ?_⟩
    unfold wipeE at e
    by_cases hi : v = i
    · subst hi
      have hl : v < (wipeE ρ vs).length := by
        have := (List.getElem?_eq_some_iff.mp e).1
        simpa using this
      rw [List.getElem?_set_self hl] at e
      cases e
    · rw [List.getElem?_set_ne hi] at e
      obtain ⟨w, e1, r⟩ := ih.at_ i d e
      exact ⟨w, by unfold L2.wipe; rw [List.getElem?_set_ne hi]; exact e1, r⟩
theorem wipe_wipe (σ : L2.St) : ∀ vs : List Nat, wipe (wipe σ vs) vs = wipe σ vs := by
  have key : ∀ (τ : L2.St) (ws us : List Nat), (∀ i ∈ ws, i ∈ us) → wipe (wipe τ ws) us = wipe τ us := by
    intro τ ws
    induction ws with
    | nil => intro us _; rfl
    | cons a l ih =>
      intro us h
      show wipe ((wipe τ l).set a none) us = _
      rw [wipe_set (h a List.mem_cons_self)]
      exact ih us fun i hi => h i (List.mem_cons_of_mem _ hi)
  exact fun vs => key σ vs vs fun _ h => h
open Classical in
noncomputable def lcGo (ok : Hb → Prop) (g : Gn) (t : Tn) (e : Dn) (ρ : En) : List D → Hb → Option (List D × Hb)
  | [], h => if ok h then some ([], h) else none
  | x :: r, h => if ok h then bnd (g x ρ h) fun ρ1 h1 => bnd (t ρ1 h1) fun c h2 =>
      if c = true then bnd (e ρ1 h2) fun y h3 => bnd (lcGo ok g t e ρ r h3) fun ys h4 => some (y :: ys, h4) else lcGo ok g t e ρ r h2
    else none
noncomputable def dLc (f : In) (g : Gn) (t : Tn) (e : Dn) (vs : List Nat) : Dn := fun ρ h => bnd (f ρ h) fun it h1 => bnd (lcGo it.2 g t e (wipeE ρ vs) it.1 h1) fun zs h2 => if zs.length ≤ sizeLine then some (.lst h2.length, h2 ++ [zs]) else none
theorem HRp.other {K : PySem.W.Frag} {H : Hp} {ms : List Addr} {h : Hb} {p : Addr} {vs ws : List V} (hr : HRp K H ms h) (hp : H p = some (.lst vs)) (hn : p ∉ ms) : HRp K (L2.upd H p (.lst ws)) ms h := by
  have u : Up K H ms (L2.upd H p (.lst ws)) ms := by
    refine ⟨fun q us s => ?_, fun q us s => ?_, fun _ _ e => e, fun q o k vs hq e c => ⟨o, vs, by rw [upd_ne (fun z => hn (by rw [← z]; exact hq))]; exact e, c⟩⟩
    · rcases s with (s | ⟨o, s⟩) | s
      · exact .inl (.inl (by rw [upd_ne (ne_of s hp (by intro z; cases z))]; exact s))
      · exact .inl (.inr ⟨o, by rw [upd_ne (ne_of s hp (by intro z; cases z))]; exact s⟩)
      · exact .inr s
    · rcases s with ⟨o, s⟩ | s
      · exact .inl ⟨o, by rw [upd_ne (ne_of s hp (by intro z; cases z))]; exact s⟩
      · exact .inr s
  refine ⟨hr.len, hr.nd, fun n xs e => ?_⟩
  obtain ⟨q, o, k, us, e1, e2, e3, r⟩ := hr.at_ n xs e
  exact ⟨q, o, k, us, e1, by rw [upd_ne (fun z => hn (by rw [← z]; exact List.mem_of_getElem? e1))]; exact e2, e3, Rps.up u _ _ r⟩
theorem Up.other {K : PySem.W.Frag} {H : Hp} {ms : List Addr} {p : Addr} {vs ws : List V} (hp : H p = some (.lst vs)) : Up K H ms (upd H p (.lst ws)) ms := by
  refine ⟨fun q us s => ?_, fun q us s => ?_, fun _ _ e => e, fun q o k us _ e c => ?_⟩
  · rcases s with (s | ⟨o, s⟩) | s
    · exact .inl (.inl (by rw [upd_ne (ne_of s hp (by intro z; cases z))]; exact s))
    · exact .inl (.inr ⟨o, by rw [upd_ne (ne_of s hp (by intro z; cases z))]; exact s⟩)
    · exact .inr s
  · rcases s with ⟨o, s⟩ | s
    · exact .inl ⟨o, by rw [upd_ne (ne_of s hp (by intro z; cases z))]; exact s⟩
    · exact .inr s
  · by_cases hq : q = p
    · subst hq
      rw [hp] at e; cases e
      cases c
      exact ⟨_, ws, upd_same, rfl⟩
    · exact ⟨o, us, by rw [upd_ne hq]; exact e, c⟩
theorem Ext.other {H0 H : Hp} {ms0 ms : List Addr} {p : Addr} {o : HO} (x : Ext H0 ms0 H ms) (hp : H0 p = none) : Ext H0 ms0 (L2.upd H p o) ms :=
  ⟨x.pre, fun b ob e n => ⟨by rw [upd_ne (ne_of_none e hp)]; exact (x.oth b ob e n).1, (x.oth b ob e n).2⟩, fun q o' k vs hq e c => by
    obtain ⟨o2, vs2, q1, q2⟩ := x.kd q o' k vs hq e c
    exact ⟨o2, vs2, by rw [upd_ne (ne_of_none e hp)]; exact q1, q2⟩⟩
theorem rd_lc {f : In} {g : Gn} {t : Tn} {e : Dn} {vs : List Nat} {σ : L2.St} {H : Hp} {Q : VK} (h : tEv X.K (dLc f g t e vs) σ H Q) : tLc (tIv X.K f) (tGw X.K g vs) (tTv X.K t) (tEv X.K e) vs σ H Q := by
  obtain ⟨ρ, ms, hb, d, h', ok, e0, q⟩ := h
  obtain ⟨it, h1, e1, e0⟩ := of_bnd e0
  obtain ⟨zs, h2, e2, e0⟩ := of_bnd e0
  split at e0
  · rename_i hz
    cases e0
    refine ⟨ρ, ms, hb, it, h1, ok, e1, fun J H1 ms1 x1 r1 S => ?_⟩
    intro p hp
    have ok1 := ok.up x1 r1
    refine ⟨fun i m H => m = it.1.length - i ∧ i ≤ it.1.length ∧ ∃ ms h acc ys ws, Ext H1 ms1 H ms ∧ HRp X.K H ms h ∧ H p = some (.lst acc) ∧ p ∉ ms ∧ Rps X.K H ms ys acc ∧ lcGo it.2 g t e (wipeE ρ vs) (it.1.drop i) h = some (ws, h2) ∧ ys ++ ws = zs,
      ⟨it.1.length, by simp, Nat.zero_le _, ms1, h1, [], [], zs, (Ext.refl).other hp, r1.laid hp, upd_same, r1.fresh hp, by simp [Rps], by simpa using e2, rfl⟩, ?_⟩
    rintro i m H ⟨rfl, hi, ms2, h, acc, ys, ws, x, r, hacc, hpn, rys, eg, ez⟩
    by_cases hlt : i < it.1.length
    · refine .inr ?_
      rw [List.drop_eq_getElem_cons hlt] at eg
      unfold lcGo at eg
      split at eg
      · rename_i hok
        obtain ⟨ρ1, h3, e3, eg⟩ := of_bnd eg
        obtain ⟨c, h4, e4, eg⟩ := of_bnd eg
        refine ⟨S.go i H ms2 h x r hok hlt, fun H' => i + 1 ≤ it.1.length ∧ ∃ ms h acc ys ws, Ext H1 ms1 H' ms ∧ HRp X.K H' ms h ∧ H' p = some (.lst acc) ∧ p ∉ ms ∧ Rps X.K H' ms ys acc ∧ lcGo it.2 g t e (wipeE ρ vs) (it.1.drop (i + 1)) h = some (ws, h2) ∧ ys ++ ws = zs,
          fun H' ⟨a, z⟩ => ⟨it.1.length - (i + 1), by omega, rfl, a, z⟩, fun v H' y => ?_⟩
        obtain ⟨xa, ra, pa⟩ := S.yld i H ms2 h v H' it.1[i] x r hok (by simp [hlt]) y
        have oka : Okk X.K (wipe σ vs) H' (wipeE ρ vs) ms2 h := ⟨((ok1.s.wipe vs).up (Ext.up r1 x)).up (Ext.up r xa), ra⟩
        refine ⟨wipeE ρ vs, ms2, h, it.1[i], ρ1, h3, oka, pa, e3, fun σ3 H3 ms3 x3 r3 s3 w3 => ⟨w3.trans (wipe_wipe σ vs), ?_⟩⟩
        refine ⟨ρ1, ms3, h3, c, h4, ⟨s3, r3⟩, e4, fun H4 ms4 x4 r4 => ?_⟩
        have xx := xa.trans (x3.trans x4)
        cases c with
        | false =>
          refine iteF ⟨hlt, ms4, h4, acc, ys, ws, x.trans xx, r4, (xx.oth p _ hacc hpn).1, (xx.oth p _ hacc hpn).2, rys.ext r xx, by simpa using eg, ez⟩
        | true =>
          refine iteT ?_
          rw [if_pos rfl] at eg
          obtain ⟨yd, h5, e5, eg⟩ := of_bnd eg
          obtain ⟨wr, h6, e6, eg⟩ := of_bnd eg
          cases eg
          refine ⟨ρ1, ms4, h4, yd, h5, ⟨s3.up (Ext.up r3 x4), r4⟩, e5, fun v5 H5 ms5 x5 r5 p5 => ?_⟩
          have xy := xx.trans x5
          have hacc5 := xy.oth p _ hacc hpn
          refine ⟨acc, hacc5.1, ?_, hlt, ms5, h5, acc ++ [v5], ys ++ [yd], wr, (x.trans xy).other hp, r5.other hacc5.1 hacc5.2, upd_same, hacc5.2, ?_, e6, by rw [← ez, List.append_assoc]; rfl⟩
          · have l1 := rys.length
            have l2 : (ys ++ yd :: wr).length = zs.length := by rw [ez]
            rw [List.length_append, List.length_cons] at l2
            omega
          · exact Rps.up (Up.other hacc5.1) _ _ ((rys.ext r xy).app (Rps.one p5))
      · cases eg
    · refine .inl ?_
      rw [List.drop_eq_nil_of_le (by omega)] at eg
      unfold lcGo at eg
      split at eg
      · rename_i hok
        cases eg
        rw [List.append_nil] at ez
        subst ez
        refine ⟨S.stop i H ms2 _ x r hok (by omega), ?_⟩
        refine q _ H (ms2 ++ [p]) (x1.trans ⟨?_, fun b ob eb nb => ?_, x.kd⟩) (r.take_in hacc hpn rys) (by simp only [Rp]; exact ⟨p, rfl, new_at r, _, hacc⟩)
        · obtain ⟨m1, em⟩ := x.pre
          exact ⟨m1 ++ [p], by rw [em, List.append_assoc]⟩
        · refine ⟨(x.oth b ob eb nb).1, ?_⟩
          simp only [List.mem_append, List.mem_singleton, not_or]
          exact ⟨(x.oth b ob eb nb).2, ne_of_none eb hp⟩
      · cases eg
  · cases e0
theorem je_lc {elt iter : Expr} {ifs : List Expr} {scope : Scope} {own : List (Str × Nat)} {pos : Pos} {f : In} {g : Gn} {t : Tn} {e : Dn} {vs : List Nat} (hc : X.calm = true) (hN : X.N.Nodup) (ji : JI X tg iter f) (ok : BlkOk X.N X.env.scope scope own) (hv : own.map (·.2) = vs)
    (jg : ∀ (s : Shared) (H : Hp) (C : Addr) (cl : List (Str × Addr)) (fp : List Addr), JGw (X.blk s H scope (compEnvC scope cl C X.env) fp) tg g vs) (jt : ∀ (s : Shared) (H : Hp) (C : Addr) (cl : List (Str × Addr)) (fp : List Addr), JTs (X.blk s H scope (compEnvC scope cl C X.env) fp) ifs t)
    (je : ∀ (s : Shared) (H : Hp) (C : Addr) (cl : List (Str × Addr)) (fp : List Addr), JE (X.blk s H scope (compEnvC scope cl C X.env) fp) elt e) (hs : ∀ x, foldedSetIterable iter X.env x = pure x := by intro _; rfl) :
    JE X (.ListComp elt [⟨tg, iter, ifs, 0⟩] scope pos) (dLc f g t e vs) := by
  subst hv
  exact .of (pe_lc hc hN ji.pi ok (fun s H C cl fp => (jg s H C cl fp).pg) (fun s H C cl fp => (jt s H C cl fp).pts) (fun s H C cl fp => (je s H C cl fp).pe) hs) fun _ _ _ h => rd_lc h
theorem js_setLc {i : Nat} {y : Str} {py : Pos} {elt iter : Expr} {ifs : List Expr} {scope : Scope} {own : List (Str × Nat)} {pos spos : Pos} {f : In} {g : Gn} {t : Tn} {e : Dn} {vs : List Nat} (hc : X.calm = true) (hN : X.N.Nodup) (ji : JI X tg iter f) (ok : BlkOk X.N X.env.scope scope own) (hv : own.map (·.2) = vs)
    (jg : ∀ (s : Shared) (H : Hp) (C : Addr) (cl : List (Str × Addr)) (fp : List Addr), JGw (X.blk s H scope (compEnvC scope cl C X.env) fp) tg g vs) (jt : ∀ (s : Shared) (H : Hp) (C : Addr) (cl : List (Str × Addr)) (fp : List Addr), JTs (X.blk s H scope (compEnvC scope cl C X.env) fp) ifs t)
    (je : ∀ (s : Shared) (H : Hp) (C : Addr) (cl : List (Str × Addr)) (fp : List Addr), JE (X.blk s H scope (compEnvC scope cl C X.env) fp) elt e)
    (hy : X.N[i]? = some y := by rfl) (hyl : X.env.scope.names.lookup y = some .local := by rfl) (hsw : swapsWith (.ListComp elt [⟨tg, iter, ifs, 0⟩] scope pos) (some (.Name y py)) spos.line X.env = pure true := by exact sw_true rfl rfl rfl (by decide +kernel)) (hs : ∀ x, foldedSetIterable iter X.env x = pure x := by intro _; rfl) :
    JS X (.Assign [.Name y py] (.ListComp elt [⟨tg, iter, ifs, 0⟩] scope pos) spos) (sAsg (dLc f g t e vs) (gNm i)) := by
  subst hv
  refine .of (ps_setLc (te := tEv X.K e) (tt := tTv X.K t) (g := tGw X.K g (own.map (·.2))) hc hN hy hyl hsw ji.pi ok (fun s H C cl fp => (jg s H C cl fp).pg) (fun s H C cl fp => (jt s H C cl fp).pts) (fun s H C cl fp => (je s H C cl fp).pe) hs) fun E σ H h => ?_
  obtain ⟨ρ, ms, hb, fl, h', ok, e, q⟩ := h
  obtain ⟨d, h1, e1, e⟩ := of_bnd e
  obtain ⟨ρ1, h2, e2, e⟩ := of_bnd e
  cases e
  cases e2
  exact rd_lc ⟨ρ, ms, hb, d, _, ok, e1, fun v1 H1 ms1 x1 r1 p1 => q _ H1 ms1 x1 r1 ((ok.up x1 r1).s.set i p1)⟩

/-! ### a def -/
def runD (n : Nat) (b : Sn) : Cl := fun as h => match b (as.map some ++ List.replicate (n - as.length) none) h with
  | some (.rt d, h') => some (d, h')
  | some (.nx _, h') => some (.non, h')
  | _ => none
theorem start_ok {K : PySem.W.Frag} {H : Hp} {ms : List Addr} {N : List Str} {as : List D} {vs : List V} (r : Rps K H ms as vs) : SRp K H ms (as.map some ++ List.replicate (N.length - as.length) none) (L2.start N vs) := by
  have hl := r.length
  refine ⟨by simp [L2.start, hl], fun i d e => ?_⟩
  by_cases hi : i < as.length
  · rw [List.getElem?_append_left (by simpa using hi), List.getElem?_map] at e
    cases z : as[i]? with
    | none => rw [z] at e; cases e
    | some a =>
      rw [z] at e; cases e
      obtain ⟨v, e1, p⟩ := r.get z
      refine ⟨v, ?_, p⟩
      unfold L2.start
      rw [List.getElem?_append_left (by simpa [← hl] using hi), List.getElem?_map, e1]; rfl
  · rw [List.getElem?_append_right (by simpa using hi), List.getElem?_replicate] at e
    split at e <;> cases e
theorem fn_ok {P : Program} {w : World} {K : PySem.W.Frag} {mg : Str → Option Value} {base : Heap} {x qual : Str} {st : Stmt} {f : Addr} {fd : FuncData} {N ps : List Str} {k n m : Nat} {b : Sn} (F : Fun K x qual st f fd) (S : FnScope N ps (defScope st)) (hn : N.length = n) (hm : ps.length = m)
    (hb : ∀ (cdv : Value) (A : Around) (outer : List Env) (s : Shared) (H : Hp) (E : XK), Room k (A.deeper (envOfC qual (defScope st) s.heap.objs.size f cdv)) → JSs (cxOf CX0 P w K mg base N qual (defScope st) f cdv A outer s H E).nox (defBody st) b) :
    FnOk P w K mg base CX0 (k + 1) f fd ps (spD K m (runD n b)) := by
  subst hn hm
  refine F.ok S (fun vs H Q E h => h.1) (fun cdv A outer s H vs Q E hr h => ?_)
  refine ⟨_, (hb cdv A outer s H E hr).pss, ?_⟩
  obtain ⟨hl, ms, h, as, d, h', r, p, e, q⟩ := h
  unfold runD at e
  split at e
  · rename_i d' h'' e1
    cases e
    exact ⟨_, ms, h, _, _, ⟨start_ok p, r⟩, e1, q⟩
  · rename_i ρ' h'' e1
    cases e
    exact ⟨_, ms, h, _, _, ⟨start_ok p, r⟩, e1, fun σ' H' ms' x' r' s' => q _ H' ms' x' r' rfl⟩
  · cases e

/-! ### the law -/
theorem law_sp {K : PySem.W.Frag} {f : Cl} {ns : List Int} {H : Hp} {a : Addr} {h' : Hb} (hO : Only H) (hS : SqL K H a (ns.map V.int)) (e : f [.rol (ns.map D.int)] [] = some (.bl true, h')) : spD K 1 f [.ref a] H (fun v _ => v = .bl true) fun _ _ _ => False := by
  refine ⟨rfl, [], [], [.rol (ns.map D.int)], _, h', ⟨rfl, List.nodup_nil, fun n xs e => by simp at e⟩, ?_, e, fun v H' ms' x r p => by simpa only [Rp] using p⟩
  refine Rps.one ?_
  have rr : ∀ l : List Int, Rps K H [] (l.map D.int) (l.map V.int) := by
    intro l
    induction l with
    | nil => simp [Rps]
    | cons x l ih => simp only [List.map_cons, Rps]; exact ⟨_, _, rfl, by simp only [Rp], ih⟩
  simp only [Rp]
  refine ⟨a, ns.map V.int, rfl, ?_, rr ns⟩
  rcases hS with (hS | hS) | hS
  · rcases hO a with z | ⟨o, xs, z⟩
    · rw [hS] at z; cases z
    · rw [hS] at z; cases z
  · exact .inl hS
  · exact .inr hS
end
end Hv

set_option Elab.async false
set_option linter.all false
set_option maxRecDepth 100000
set_option maxHeartbeats 4000000
namespace Hv
open PySem PySem.Spec PyProof.Rows L2

section
variable {X : Cx} {tg : Expr}
theorem rm_of {A : Around} {k : Nat} (hr : Room k A) (hk : 63 ≤ k := by decide) : A.units + 1200 < cLine := by have := hr.un; omega

/-! ### a or b, a and b as values, by truth -/
def dAndT (a b : Dn) : Dn := fun ρ h => bnd (a ρ h) fun x h1 => match truD h1 x with
  | some false => some (x, h1)
  | some true => b ρ h1
  | none => none
theorem je_andT {a b : Expr} {rest : List Expr} {da db : Dn} {pos : Pos} (ja : JE X a da) (jb : JE X (.BoolOp .And (b :: rest) pos) db) : JE X (.BoolOp .And (a :: b :: rest) pos) (dAndT da db) := by
  refine ⟨fun pins s σ H Q I h => ?_⟩
  obtain ⟨ρ, ms, hb, d, h', ok, e, q⟩ := h
  obtain ⟨x, h1, e1, e⟩ := of_bnd e
  refine BoolOp_and (thn (ja.pe pins s σ H (fun v H1 => ∃ ms1, Ext H ms H1 ms1 ∧ HRp X.K H1 ms1 h1 ∧ Rp X.K H1 ms1 x v) I ⟨ρ, ms, hb, x, h1, ok, e1, fun v1 H1 ms1 x1 r1 p1 => ⟨ms1, x1, r1, p1⟩⟩) fun v s1 ⟨y, H1, I1, r1, ms1, x1, hr1, p1⟩ => ?_)
  cases z : truD h1 x with
  | none => rw [z] at e; cases e
  | some c =>
    rw [z] at e
    refine thn (L2.tru_ok pins s1 σ H1 y v (fun b H2 => b = c ∧ H2 = H1) I1 r1 ⟨c, Hv.tru_ok hr1 p1 z, rfl, rfl⟩) fun b s2 ⟨H2, I2, e2, e3⟩ => ?_
    subst e2 e3
    cases b with
    | false =>
      cases e
      exact ⟨y, H2, I2, r1, q y H2 ms1 x1 hr1 p1⟩
    | true => exact jb.pe pins s2 σ H2 Q I2 ⟨ρ, ms1, h1, d, h', ok.up x1 hr1, e, fun v2 H3 ms2 x2 r2 p2 => q v2 H3 ms2 (x1.trans x2) r2 p2⟩

/-! ### zip, enumerate, reversed over lists -/
def zipD : List D → List D → List D
  | x :: xs, y :: ys => .tup [x, y] :: zipD xs ys
  | _, _ => []
theorem zipD_length : ∀ (xs ys : List D), (zipD xs ys).length = min xs.length ys.length
  | [], _ => by simp [zipD]
  | _ :: _, [] => by simp [zipD]
  | x :: xs, y :: ys => by simp only [zipD, List.length_cons, zipD_length xs ys]; omega
theorem zipD_get : ∀ {xs ys : List D} {i : Nat} {d : D}, (zipD xs ys)[i]? = some d → ∃ x y, xs[i]? = some x ∧ ys[i]? = some y ∧ d = .tup [x, y]
  | [], _, _, _, h => by simp [zipD] at h
  | _ :: _, [], _, _, h => by simp [zipD] at h
  | x :: xs, y :: ys, 0, d, h => by simp [zipD] at h; exact ⟨x, y, by simp, by simp, h.symm⟩
  | x :: xs, y :: ys, i + 1, d, h => by
    simp only [zipD, List.getElem?_cons_succ] at h
    obtain ⟨a, b, e1, e2, e3⟩ := zipD_get h
    exact ⟨a, b, by simpa using e1, by simpa using e2, e3⟩
def iZp (as : An) : In := fun ρ h => bnd (as ρ h) fun xs h1 => match xs with
  | [a, b] => match seqL h1 a, seqL h1 b with
    | some us, some vs => some ((zipD us vs, fun h => seqL h a = some us ∧ seqL h b = some vs), h1)
    | _, _ => none
  | _ => none
def iRv (as : An) : In := fun ρ h => bnd (as ρ h) fun xs h1 => match xs with
  | [a] => match seqL h1 a with
    | some us => some ((us.reverse, fun h => seqL h a = some us), h1)
    | none => none
  | _ => none

/-! ### xs[a:c] = ys -/
def gSl (o a c : Dn) : Gn := fun d ρ h => bnd (o ρ h) fun x h1 => bnd (a ρ h1) fun i h2 => bnd (c ρ h2) fun j h3 => match x, i, j, d with
  | .lst n, .int i, .int j, .lst m => match h3[n]?, h3[m]? with
    | some xs, some ys => if n ≠ m ∧ 0 ≤ i ∧ i ≤ j ∧ j ≤ xs.length ∧ xs.length + ys.length ≤ sizeLine then some (ρ, h3.set n (xs.take i.toNat ++ ys ++ xs.drop j.toNat)) else none
    | _, _ => none
  | _, _, _, _ => none
theorem jg_sl {o a c : Expr} {do_ da dc : Dn} {pos p2 : Pos} (jo : JE X o do_) (ja : JE X a da) (jc : JE X c dc) (ha : ∀ v, assign (.Subscript o (.Slice (some a) (some c) none p2) pos) X.env v = (do
      let ov ← holding [v] (eval o X.env)
      let iv ← holding [v, ov] (eval (.Slice (some a) (some c) none p2) X.env)
      standAt pos
      holding [v, ov, iv] (setItem ov iv v)
      release [iv, v, ov] []) := by intro _; rfl) : JG X (.Subscript o (.Slice (some a) (some c) none p2) pos) (gSl do_ da dc) := by
  refine ⟨fun pins s σ H v u Q I r h => ?_⟩
  obtain ⟨ρ, ms, hb, d, ρ', h', ok, p, e, q⟩ := h
  obtain ⟨x, h1, e1, e⟩ := of_bnd e
  obtain ⟨i, h2, e2, e⟩ := of_bnd e
  obtain ⟨j, h3, e3, e⟩ := of_bnd e
  rw [ha]
  refine wpAny_bind (wpAny_holding (thn (jo.pe pins s σ H (fun v H1 => ∃ ms1, Ext H ms H1 ms1 ∧ HRp X.K H1 ms1 h1 ∧ Rp X.K H1 ms1 x v) I ⟨ρ, ms, hb, x, h1, ok, e1, fun v1 H1 ms1 x1 r1 p1 => ⟨ms1, x1, r1, p1⟩⟩) fun ov s1 ⟨vo, H1, I1, ro, ms1, x1, r1, po⟩ => ?_))
  refine wpAny_bind (wpAny_holding ?_)
  have ok1 := ok.up x1 r1
  refine wpAny_Slice (thn (ja.pe pins s1 σ H1 (fun v H2 => ∃ ms2, Ext H1 ms1 H2 ms2 ∧ HRp X.K H2 ms2 h2 ∧ Rp X.K H2 ms2 i v) I1 ⟨ρ, ms1, h1, i, h2, ok1, e2, fun v1 H1 ms1 x1 r1 p1 => ⟨ms1, x1, r1, p1⟩⟩) fun vl s2 ⟨va, H2, I2, ra, ms2, x2, r2, pa⟩ => ?_)
  have ok2 := ok1.up x2 r2
  refine thn (jc.pe pins s2 σ H2 (fun v H3 => ∃ ms3, Ext H2 ms2 H3 ms3 ∧ HRp X.K H3 ms3 h3 ∧ Rp X.K H3 ms3 j v) I2 ⟨ρ, ms2, h2, j, h3, ok2, e3, fun v1 H1 ms1 x1 r1 p1 => ⟨ms1, x1, r1, p1⟩⟩) fun vu s3 ⟨vc, H3, I3, rc, ms3, x3, r3, pc⟩ => ?_
  have ok3 := ok2.up x3 r3
  rw [evalPart_none]
  refine wpAny_pure ?_
  have I4 : Inv X pins σ H3 { s3 with heap := s3.heap.push { cls := .type "slice", data := .fields #[vl, vu, .none] } } := I3.kept (t' := s3.toks) fun b ob q => Heap.get?_push_of_some _ q
  split at e
  · rename_i n i' j' m
    simp only [Rp] at pa pc
    subst pa pc
    split at e
    · rename_i xs ys ex ey
      split at e
      · rename_i c
        cases e
        have po3 := (po.ext r1 x2).ext r2 x3
        have pd3 := ((p.ext ok.h x1).ext r1 x2).ext r2 x3
        obtain ⟨l, vx, rfl, hm, hl, rx⟩ := lst_at r3 po3 ex
        obtain ⟨b, vy, rfl, hm', hl', ry⟩ := lst_at r3 pd3 ey
        cases ro
        cases r
        have hne : l ≠ b := fun z => c.1 (nd_ix r3.nd hm (by rw [z]; exact hm'))
        refine wpAny_bind (wpAny_standAt (wpAny_bind (wpAny_holding (set_slice (X := X) I4 hl hl' hne (Heap.IsSliceOf.new ..) ra rc c.2.1 c.2.2.1 (by rw [← rx.length]; exact c.2.2.2.1) (by rw [← rx.length, ← ry.length]; exact c.2.2.2.2) fun s5 I5 => ?_))))
        refine wpAny_release ⟨σ, _, I5, q σ _ ms3 (x1.trans (x2.trans (x3.trans (.upd hm hl)))) (r3.upd hm hl ?_) (ok3.s.up (Ext.up r3 (.upd hm hl)))⟩
        exact ((rx.take _).app ry).app (rx.drop _)
      · cases e
    · cases e
  · cases e
end
end Hv

set_option Elab.async false
set_option linter.all false
set_option maxRecDepth 100000
set_option maxHeartbeats 4000000
namespace Hv
open PySem PySem.Spec PyProof.Rows L2
section
variable {prog : Program} {w : World} {A : Around} {E : Value → Shared → Prop} {s : Shared}
theorem alive_ {M : Model} {c : Addr} {Q : Option Obj → Shared → Prop} (q : Q (s.heap.get? c) s) : wpAny M A (loadIfAlive c) Q E s := fun Γ p _ => by
  show Sem.wp M Γ (.loadIfAlive c .pure) _ _ p s
  rw [Sem.wp_loadIfAlive, Sem.wp_pure]
  exact q
/-- a zip that has handed out a pair that lives -/
abbrev ZipM (h : Heap) (z TI TO T : Addr) (b : Bool) : Prop := h.get? z = some ⟨.type "zip", none, .fields #[rawInt T, .bool b, .bool false, .ref TI, .ref TO], #[]⟩
theorem zip_held {z TI TO T : Addr} {b : Bool} {o : Obj} {Q : Bool → Shared → Prop} (hz : ZipM s.heap z TI TO T b) (ho : s.heap.get? T = some o) (q : ∀ g, ZipM g z TI TO T true → Heap.SameBut z s.heap g → Q false { s with heap := g }) :
    wpAny (model prog w) A (Builtin.SmallTypes.ownedTupleIsFree (.ref z)) Q E s := by
  unfold Builtin.SmallTypes.ownedTupleIsFree
  refine wpAny_bind (wpAny_field hz rfl (x := rawInt T) rfl ?_)
  show wpAny _ _ (loadIfAlive ((T : Int).toNat) >>= _) _ _ _
  refine wpAny_bind (alive_ ?_)
  rw [Int.toNat_natCast, ho]
  show wpAny _ _ (field (.ref z) 1 >>= _) _ _ _
  refine wpAny_bind (wpAny_field hz rfl (x := .bool b) rfl ?_)
  cases b with
  | true => exact wpAny_pure (q s.heap hz ⟨rfl, fun _ _ => rfl⟩)
  | false =>
    show wpAny _ _ (setField (.ref z) 1 (.bool true) >>= _) _ _ _
    exact wpAny_bind (wpAny_setField_rec hz (by simp) fun g g1 g2 => wpAny_pure (q g g1 g2))
theorem zip_more {z TI TO T i1 i2 l1 l2 : Addr} {b : Bool} {o : Obj} {k1 k2 : Nat} {xs ys : Array Value} {x y : Value} {Q : Value → Shared → Prop} (D : ZipApart z TI TO i1 i2 l1 l2) (hz : ZipM s.heap z TI TO T b) (ho : s.heap.get? T = some o)
    (hp : IsPair s.heap TI (.ref i1) (.ref i2)) (a1 : s.heap.IsListIter i1 l1 k1) (a2 : s.heap.IsListIter i2 l2 k2) (b1 : s.heap.IsList l1 xs) (b2 : s.heap.IsList l2 ys) (c1 : xs[k1]? = some x) (c2 : ys[k2]? = some y)
    (q : ∀ g, ZipM g z TI TO T true → g.IsListIter i1 l1 (k1 + 1) → g.IsListIter i2 l2 (k2 + 1) → IsPair g s.heap.objs.size x y → g.objs.size = s.heap.objs.size + 1 → (∀ c u, c ≠ z → c ≠ i1 → c ≠ i2 → s.heap.get? c = some u → g.get? c = some u) → Q (.ref s.heap.objs.size) { s with heap := g }) :
    wpAny (model prog w) A (Builtin.«zip.__next__» ⟨[.ref z], []⟩) (fun fin s' => ∃ v, fin = .done (.ret v) ∧ Q v s') E s := by
  show wpAny _ _ (field (.ref z) 2 >>= _) _ _ _
  refine wpAny_bind (wpAny_field hz rfl (x := .bool false) rfl ?_)
  show wpAny _ _ (field (.ref z) 3 >>= _) _ _ _
  refine wpAny_bind (wpAny_field hz rfl (x := .ref TI) rfl ?_)
  refine wpAny_bind (wpAny_seqItems hp rfl ?_)
  show wpAny _ _ (Builtin.SmallTypes.ownedTupleIsFree (.ref z) >>= _) _ _ _
  refine wpAny_bind (zip_held hz ho fun g1 d1 e1 => ?_)
  simp only [Bool.false_eq_true, if_false]
  refine wpAny_bind ?_
  rw [← Array.forIn_toList]
  simp only [List.forIn_cons, List.forIn_nil]
  refine wpAny_bind (wpAny_bind (wpAny_holding ?_))
  show wpAny _ _ (Builtin.SmallTypes.nextOf (.ref i1) >>= _) _ _ _
  refine wpAny_bind (wpAny_nextOf_list_item (a1.extBut e1.extBut D.i1z) (b1.extBut e1.extBut D.l1z) c1 fun g2 d2 e2 => wpAny_pure (wpAny_pure ?_))
  refine wpAny_bind (wpAny_bind (wpAny_holding ?_))
  show wpAny _ _ (Builtin.SmallTypes.nextOf (.ref i2) >>= _) _ _ _
  refine wpAny_bind (wpAny_nextOf_list_item ((a2.extBut e1.extBut D.i2z).extBut e2.extBut D.i12.symm) ((b2.extBut e1.extBut D.l2z).extBut e2.extBut D.l2i1) c2 fun g3 d3 e3 => wpAny_pure (wpAny_pure ?_))
  refine wpAny_pure ?_
  refine wpAny_bind (wpAny_newTuple ?_ (show 2 ≤ sizeLine by decide))
  have sz : g3.objs.size = s.heap.objs.size := by rw [e3.1, e2.1, e1.1]
  have zz : ZipM g3 z TI TO T true := e3.extBut _ _ D.i2z.symm (e2.extBut _ _ D.i1z.symm d1)
  refine wpAny_pure ⟨_, rfl, ?_⟩
  show Q (.ref g3.objs.size) _
  have up : ∀ c u, g3.get? c = some u → (g3.push { cls := .type "tuple", data := .seq #[x, y] }).get? c = some u := fun c u e => Heap.get?_push_of_some _ e
  have r := q (g3.push { cls := .type "tuple", data := .seq #[x, y] }) (up _ _ zz) ((d2.extBut e3.extBut D.i12).at fun u e => up _ u e) (d3.at fun u e => up _ u e) (by rw [← sz]; exact Heap.get?_push_size _ rfl) (by rw [Heap.size_push, sz])
    fun c u n1 n2 n3 e => up c u (e3.extBut _ _ n3 (e2.extBut _ _ n2 (e1.extBut _ _ n1 e)))
  rw [← sz] at r
  exact r
theorem zip_over {z TI TO T i1 i2 l1 l2 : Addr} {b : Bool} {o : Obj} {k1 k2 : Nat} {xs ys : Array Value} {Q : Fin → Shared → Prop} (hh : A.handled = none) (D : ZipApart z TI TO i1 i2 l1 l2) (hz : ZipM s.heap z TI TO T b) (ho : s.heap.get? T = some o)
    (hp : IsPair s.heap TI (.ref i1) (.ref i2)) (a1 : s.heap.IsListIter i1 l1 k1) (a2 : s.heap.IsListIter i2 l2 k2) (b1 : s.heap.IsList l1 xs) (b2 : s.heap.IsList l2 ys) (c1 : xs[k1]? = none ∨ ys[k2]? = none)
    (q : ∀ g e, (∀ c u, c ≠ z → c ≠ i1 → c ≠ i2 → s.heap.get? c = some u → g.get? c = some u) → (∃ u, g.get? e = some u ∧ u.cls = .type "StopIteration") → E (.ref e) { s with heap := g }) :
    wpAny (model prog w) A (Builtin.«zip.__next__» ⟨[.ref z], []⟩) Q E s := by
  show wpAny _ _ (field (.ref z) 2 >>= _) _ _ _
  refine wpAny_bind (wpAny_field hz rfl (x := .bool false) rfl ?_)
  show wpAny _ _ (field (.ref z) 3 >>= _) _ _ _
  refine wpAny_bind (wpAny_field hz rfl (x := .ref TI) rfl ?_)
  refine wpAny_bind (wpAny_seqItems hp rfl ?_)
  show wpAny _ _ (Builtin.SmallTypes.ownedTupleIsFree (.ref z) >>= _) _ _ _
  refine wpAny_bind (zip_held hz ho fun g1 d1 e1 => ?_)
  simp only [Bool.false_eq_true, if_false]
  refine wpAny_bind ?_
  rw [← Array.forIn_toList]
  simp only [List.forIn_cons, List.forIn_nil]
  refine wpAny_bind (wpAny_bind (wpAny_holding ?_))
  show wpAny _ _ (Builtin.SmallTypes.nextOf (.ref i1) >>= _) _ _ _
  cases c0 : xs[k1]? with
  | none => exact wpAny_bind (wpAny_nextOf_list_end hh (a1.extBut e1.extBut D.i1z) (b1.extBut e1.extBut D.l1z) c0 fun g2 e e2 he => q g2 e (fun c u n1 n2 _ x => e2 _ _ n2 (e1.extBut _ _ n1 x)) he)
  | some x =>
    refine wpAny_bind (wpAny_nextOf_list_item (a1.extBut e1.extBut D.i1z) (b1.extBut e1.extBut D.l1z) c0 fun g2 d2 e2 => wpAny_pure (wpAny_pure ?_))
    refine wpAny_bind (wpAny_bind (wpAny_holding ?_))
    show wpAny _ _ (Builtin.SmallTypes.nextOf (.ref i2) >>= _) _ _ _
    have c2 : ys[k2]? = none := by rcases c1 with n | n
                                   · rw [c0] at n; cases n
                                   · exact n
    exact wpAny_bind (wpAny_nextOf_list_end hh ((a2.extBut e1.extBut D.i2z).extBut e2.extBut D.i12.symm) ((b2.extBut e1.extBut D.l2z).extBut e2.extBut D.l2i1) c2 fun g3 e e3 he => q g3 e (fun c u n1 n2 n3 x => e3 _ _ n3 (e2.extBut _ _ n2 (e1.extBut _ _ n1 x))) he)
theorem next_more {z TI TO T i1 i2 l1 l2 : Addr} {b : Bool} {o : Obj} {k1 k2 : Nat} {xs ys : Array Value} {x y : Value} {Q : Option Value → Shared → Prop} (D : ZipApart z TI TO i1 i2 l1 l2) (hz : ZipM s.heap z TI TO T b) (ho : s.heap.get? T = some o)
    (hp : IsPair s.heap TI (.ref i1) (.ref i2)) (a1 : s.heap.IsListIter i1 l1 k1) (a2 : s.heap.IsListIter i2 l2 k2) (b1 : s.heap.IsList l1 xs) (b2 : s.heap.IsList l2 ys) (c1 : xs[k1]? = some x) (c2 : ys[k2]? = some y)
    (q : ∀ g, ZipM g z TI TO T true → g.IsListIter i1 l1 (k1 + 1) → g.IsListIter i2 l2 (k2 + 1) → IsPair g s.heap.objs.size x y → g.objs.size = s.heap.objs.size + 1 → (∀ c u, c ≠ z → c ≠ i1 → c ≠ i2 → s.heap.get? c = some u → g.get? c = some u) → Q (some (.ref s.heap.objs.size)) { s with heap := g }) :
    wpAny (model prog w) A (pyNext (.ref z)) Q E s := by
  have ty : s.TypeIs (.ref z) "zip" := ⟨_, hz, rfl⟩
  unfold pyNext
  exact wpAny_bind (wpAny_attempt (wpAny_callSpecial?_slot (name := Str.ofString "__next__") ty F.slot_zip_next
    (wpAny_call_entry F.slot_zip_next ty F.entry_zip_next (zip_more D hz ho hp a1 a2 b1 b2 c1 c2 fun g q1 q2 q3 q4 q5 q6 => wpAny_pure (q g q1 q2 q3 q4 q5 q6)) (F.args_zip_next_1 _))))
theorem next_over {z TI TO T i1 i2 l1 l2 : Addr} {b : Bool} {o : Obj} {k1 k2 : Nat} {xs ys : Array Value} {Q : Option Value → Shared → Prop} (hh : A.handled = none) (D : ZipApart z TI TO i1 i2 l1 l2) (hz : ZipM s.heap z TI TO T b) (ho : s.heap.get? T = some o)
    (hp : IsPair s.heap TI (.ref i1) (.ref i2)) (a1 : s.heap.IsListIter i1 l1 k1) (a2 : s.heap.IsListIter i2 l2 k2) (b1 : s.heap.IsList l1 xs) (b2 : s.heap.IsList l2 ys) (c1 : xs[k1]? = none ∨ ys[k2]? = none)
    (q : ∀ g, (∀ c u, c ≠ z → c ≠ i1 → c ≠ i2 → s.heap.get? c = some u → g.get? c = some u) → Q none { s with heap := g }) :
    wpAny (model prog w) A (pyNext (.ref z)) Q E s := by
  have ty : s.TypeIs (.ref z) "zip" := ⟨_, hz, rfl⟩
  unfold pyNext
  refine wpAny_bind (wpAny_attempt (wpAny_callSpecial?_slot (name := Str.ofString "__next__") ty F.slot_zip_next
    (wpAny_call_entry F.slot_zip_next ty F.entry_zip_next (zip_over hh D hz ho hp a1 a2 b1 b2 c1 fun g e k he => ?_) (F.args_zip_next_1 _))))
  obtain ⟨u, hu, hc⟩ := he
  exact wpAny_bind (wpAny_isInstance (T := "StopIteration") (b := true) ⟨u, hu, hc⟩ isSubtype_stop (wpAny_pure (q _ k)))
end
end Hv

set_option Elab.async false
set_option linter.all false
set_option maxRecDepth 100000
set_option maxHeartbeats 4000000
namespace Hv
open PySem PySem.Spec PyProof.Rows L2
/-- a zip on its way: nothing handed out, or a pair that lives -/
def ZipS (h : Heap) (z TI TO i1 i2 : Addr) : Prop := (IsZip h z TI TO .none ∧ ∃ p q, IsPair h TO p q) ∨ ∃ T b o, ZipM h z TI TO T b ∧ h.get? T = some o ∧ T ≠ z ∧ T ≠ i1 ∧ T ≠ i2 ∧ T ≠ TO ∧ T ≠ TI ∧ TO < h.objs.size
theorem ZipS.lt {h : Heap} {z TI TO i1 i2 : Addr} (S : ZipS h z TI TO i1 i2) : z < h.objs.size := by
  rcases S with ⟨a, _⟩ | ⟨T, b, o, a, _⟩ <;> exact Heap.lt_size a
theorem ZipS.ltO {h : Heap} {z TI TO i1 i2 : Addr} (S : ZipS h z TI TO i1 i2) : TO < h.objs.size := by
  rcases S with ⟨_, p, q, a⟩ | ⟨T, b, o, _, _, _, _, _, _, _, a⟩
  · exact Heap.lt_size a
  · exact a
theorem ZipS.ty {s : Shared} {z TI TO i1 i2 : Addr} (S : ZipS s.heap z TI TO i1 i2) : s.TypeIs (.ref z) "zip" := by
  rcases S with ⟨a, _⟩ | ⟨T, b, o, a, _⟩ <;> exact ⟨_, a, rfl⟩
section
variable {prog : Program} {w : World} {A : Around} {E : Value → Shared → Prop} {s : Shared}
theorem zs_item {z TI TO i1 i2 l1 l2 : Addr} {k1 k2 : Nat} {xs ys : Array Value} {x y : Value} {Q : Option Value → Shared → Prop} (D : ZipApart z TI TO i1 i2 l1 l2) (hz : ZipS s.heap z TI TO i1 i2)
    (hp : IsPair s.heap TI (.ref i1) (.ref i2)) (a1 : s.heap.IsListIter i1 l1 k1) (a2 : s.heap.IsListIter i2 l2 k2) (b1 : s.heap.IsList l1 xs) (b2 : s.heap.IsList l2 ys) (c1 : xs[k1]? = some x) (c2 : ys[k2]? = some y)
    (q : ∀ g, ZipS g z TI TO i1 i2 → IsPair g TI (.ref i1) (.ref i2) → g.IsListIter i1 l1 (k1 + 1) → g.IsListIter i2 l2 (k2 + 1) → IsPair g s.heap.objs.size x y → g.objs.size = s.heap.objs.size + 1 → (∀ c u, c ∉ [z, TI, TO, i1, i2] → s.heap.get? c = some u → g.get? c = some u) → Q (some (.ref s.heap.objs.size)) { s with heap := g }) :
    wpAny (model prog w) A (pyNext (.ref z)) Q E s := by
  have lz : z < s.heap.objs.size := hz.lt
  have lTI : TI < s.heap.objs.size := Heap.lt_size hp
  have li1 : i1 < s.heap.objs.size := by obtain ⟨_, e, _⟩ := a1; exact Heap.lt_size e
  have li2 : i2 < s.heap.objs.size := by obtain ⟨_, e, _⟩ := a2; exact Heap.lt_size e
  rcases hz with ⟨hz, p, r, hTO⟩ | ⟨T, b, o, hz, ho, n1, n2, n3, n4, n5, n6⟩
  · have lTO : TO < s.heap.objs.size := Heap.lt_size hTO
    refine wpAny_pyNext_zip_item D hz hp hTO a1 a2 b1 b2 c1 c2 fun g q1 q2 q3 q4 q5 q6 q7 => ?_
    exact q g (.inr ⟨_, false, _, q1, q5, Nat.ne_of_gt lz, Nat.ne_of_gt li1, Nat.ne_of_gt li2, Nat.ne_of_gt lTO, Nat.ne_of_gt lTI, by rw [q6]; exact Nat.lt_succ_of_lt lTO⟩) (q7 _ _ D.TIz D.TITO D.TIi1 D.TIi2 hp) q3 q4 q5 q6 fun c u hc => q7 c u (fun e => hc (by simp [e])) (fun e => hc (by simp [e])) (fun e => hc (by simp [e])) (fun e => hc (by simp [e]))
  · refine next_more D hz ho hp a1 a2 b1 b2 c1 c2 fun g q1 q2 q3 q4 q5 q6 => ?_
    exact q g (.inr ⟨T, true, o, q1, q6 _ _ n1 n2 n3 ho, n1, n2, n3, n4, n5, by rw [q5]; exact Nat.lt_succ_of_lt n6⟩) (q6 _ _ D.TIz D.TIi1 D.TIi2 hp) q2 q3 q4 q5 fun c u hc => q6 c u (fun e => hc (by simp [e])) (fun e => hc (by simp [e])) (fun e => hc (by simp [e]))
theorem zs_over {z TI TO i1 i2 l1 l2 : Addr} {k1 k2 : Nat} {xs ys : Array Value} {Q : Option Value → Shared → Prop} (hh : A.handled = none) (D : ZipApart z TI TO i1 i2 l1 l2) (hz : ZipS s.heap z TI TO i1 i2)
    (hp : IsPair s.heap TI (.ref i1) (.ref i2)) (a1 : s.heap.IsListIter i1 l1 k1) (a2 : s.heap.IsListIter i2 l2 k2) (b1 : s.heap.IsList l1 xs) (b2 : s.heap.IsList l2 ys) (c1 : xs[k1]? = none ∨ ys[k2]? = none)
    (q : ∀ g, (∀ c u, c ∉ [z, TI, TO, i1, i2] → s.heap.get? c = some u → g.get? c = some u) → Q none { s with heap := g }) : wpAny (model prog w) A (pyNext (.ref z)) Q E s := by
  rcases hz with ⟨hz, p, r, hTO⟩ | ⟨T, b, o, hz, ho, n1, n2, n3, n4, n5, n6⟩
  · exact wpAny_pyNext_zip_end hh D hz hp hTO a1 a2 b1 b2 c1 fun g q7 => q g fun c u hc => q7 c u (fun e => hc (by simp [e])) (fun e => hc (by simp [e])) (fun e => hc (by simp [e])) (fun e => hc (by simp [e]))
  · exact next_over hh D hz ho hp a1 a2 b1 b2 c1 fun g q6 => q g fun c u hc => q6 c u (fun e => hc (by simp [e])) (fun e => hc (by simp [e])) (fun e => hc (by simp [e]))
theorem ZipS.keep {h g : Heap} {z TI TO i1 i2 S : Addr} (hz : ZipS h z TI TO i1 i2) (hS : S ≠ z ∧ S ≠ TO) (k : ∀ c u, c ≠ S → h.get? c = some u → g.get? c = some u) (kS : ∃ u, g.get? S = some u) (sz : h.objs.size ≤ g.objs.size) : ZipS g z TI TO i1 i2 := by
  rcases hz with ⟨hz, p, r, hTO⟩ | ⟨T, b, o, hz, ho, n1, n2, n3, n4, n5, n6⟩
  · exact .inl ⟨k _ _ hS.1.symm hz, p, r, k _ _ hS.2.symm hTO⟩
  · by_cases e : T = S
    · obtain ⟨u, hu⟩ := kS
      exact .inr ⟨T, b, u, k _ _ hS.1.symm hz, by rw [e]; exact hu, n1, n2, n3, n4, n5, Nat.lt_of_lt_of_le n6 sz⟩
    · exact .inr ⟨T, b, o, k _ _ hS.1.symm hz, k _ _ e ho, n1, n2, n3, n4, n5, Nat.lt_of_lt_of_le n6 sz⟩
end
theorem SqL.grow {K : PySem.W.Frag} {H H' : Hp} {a : Addr} {xs : List V} (k : ∀ b o, H b = some o → H' b = some o) (q : SqL K H a xs) : SqL K H' a xs := by
  rcases q with (q | ⟨o, q⟩) | q
  · exact .inl (.inl (k _ _ q))
  · exact .inl (.inr ⟨o, k _ _ q⟩)
  · exact .inr q
/-- the pairs laid so far -/
structure Prs (H0 H : Hp) (S : Addr) (ts : List Addr) (xs ys : List V) : Prop where
  kp : ∀ b o, H0 b = some o → H b = some o
  s0 : H0 S = none
  at_ : H S = some (.lst (ts.map V.ref))
  tp : ∀ (j : Nat) (t : Addr), ts[j]? = some t → ∃ x y, xs[j]? = some x ∧ ys[j]? = some y ∧ H t = some (.tup [x, y])
theorem zip_loop {X : Cx} {pins : List (Addr × Obj)} {σ : L2.St} {A : Around} {R : Result → Shared → Prop} {z TI TO i1 i2 a b S : Addr} {res : Value} {H0 : Hp} {xs ys : List V} (hh : A.in1.handled = none) (D : ZipApart z TI TO i1 i2 a b) (ha : SqL X.K H0 a xs) (hb : SqL X.K H0 b ys) (hln : min xs.length ys.length ≤ sizeLine)
    (fin : ∀ ts H s, Inv X pins σ H s → Prs H0 H S ts xs ys → ts.length = min xs.length ys.length → R (.ok (.ret res)) s) :
    ∀ (k i : Nat) (s : Shared) (H : Hp) (ts : List Addr), min xs.length ys.length - i = k → i ≤ min xs.length ys.length → ts.length = i → Inv X pins σ H s → Prs H0 H S ts xs ys → (∀ c ∈ [z, TI, TO, i1, i2], FpOk X pins H c) →
      ZipS s.heap z TI TO i1 i2 → IsPair s.heap TI (.ref i1) (.ref i2) → s.heap.IsListIter i1 a i → s.heap.IsListIter i2 b i → codeAny (model X.prog X.w) A (.builtin "list.extend.loop" ⟨[.ref S, .ref z, res], []⟩) R s := by
  intro k
  induction k with
  | zero =>
    intro i s H ts hk hi ht I P Fp hz hp a1 a2
    obtain ⟨us, ru, pa, _⟩ := I.list (SqL.grow P.kp ha)
    obtain ⟨vs, rv, pb, _⟩ := I.list (SqL.grow P.kp hb)
    have l1 := ru.length
    have l2 := rv.length
    refine codeAny_builtin F.entry_extend_loop ?_
    rw [Around.under_plainId F.plain_extend_loop _]
    show wpAny _ A.in1 (pyNext (.ref z) >>= _) _ _ s
    refine wpAny_bind (zs_over hh D hz hp a1 a2 pa.isList pb.isList ?_ fun g kg => ?_)
    · by_cases q : xs.length ≤ i
      · exact .inl (by simp; omega)
      · exact .inr (by simp; omega)
    · exact wpAny_pure (fin ts H _ (I.turnedL (t' := s.toks) (ch := [z, TI, TO, i1, i2]) kg Fp) P (by omega))
  | succ k ih =>
    intro i s H ts hk hi ht I P Fp hz hp a1 a2
    obtain ⟨us, ru, pa, _⟩ := I.list (SqL.grow P.kp ha)
    obtain ⟨vs, rv, pb, _⟩ := I.list (SqL.grow P.kp hb)
    have l1 := ru.length
    have l2 := rv.length
    have e1 : xs[i]? = some xs[i] := List.getElem?_eq_getElem (by omega)
    have e2 : ys[i]? = some ys[i] := List.getElem?_eq_getElem (by omega)
    obtain ⟨u, hu, ru'⟩ := ru.get e1
    obtain ⟨v, hv, rv'⟩ := rv.get e2
    have lz := hz.lt
    have lTI : TI < s.heap.objs.size := Heap.lt_size hp
    have li1 : i1 < s.heap.objs.size := by obtain ⟨_, e, _⟩ := a1; exact Heap.lt_size e
    have li2 : i2 < s.heap.objs.size := by obtain ⟨_, e, _⟩ := a2; exact Heap.lt_size e
    have nS : ∀ c ∈ [z, TI, TO, i1, i2], c ≠ S := fun c hc e => by have := (Fp c hc).1; rw [e, P.at_] at this; cases this
    refine codeAny_builtin F.entry_extend_loop ?_
    rw [Around.under_plainId F.plain_extend_loop _]
    show wpAny _ A.in1 (pyNext (.ref z) >>= _) _ _ s
    refine wpAny_bind (zs_item D hz hp a1 a2 pa.isList pb.isList (x := u) (y := v) (by simpa using hu) (by simpa using hv) fun g q1 q2 q3 q4 q5 q6 q7 => ?_)
    have nw : ObjOk X.prog X.w (upd H s.heap.objs.size (.tup [xs[i], ys[i]])) g s.heap.objs.size (.tup [xs[i], ys[i]]) := ⟨by show 2 ≤ sizeLine; decide, [u, v], .cons ru' (.cons rv' .nil), ⟨_, q5, rfl, _, rfl⟩⟩
    have I1 : Inv X pins σ (upd H s.heap.objs.size (.tup [xs[i], ys[i]])) { s with heap := g } := I.turnedNew (t' := s.toks) (ch := [z, TI, TO, i1, i2]) q7 Fp (Nat.le_refl _) nw
    have fr : H s.heap.objs.size = none := I.hok.fresh (Nat.le_refl _)
    have nT : s.heap.objs.size ≠ S := fun e => by rw [e, P.at_] at fr; cases fr
    have hS1 : upd H s.heap.objs.size (.tup [xs[i], ys[i]]) S = some (.lst (ts.map V.ref)) := by rw [upd_ne (Ne.symm nT)]; exact P.at_
    obtain ⟨zl, its, n, r, hl, e⟩ := I1.lstM hS1
    show wpAny _ A.in1 (updateSeq S (·.push (.ref s.heap.objs.size)) >>= _) _ _ _
    have hsz : its.toArray.size = i := by rw [List.size_toArray, ← hl, List.length_map, ht]
    refine wpAny_bind (wpAny_updateSeq e rfl (wpAny_pure ⟨plainId_quiet F.plain_extend_loop _, ?_⟩) (by rw [hsz]; omega) (by show (its.toArray.push _).size ≤ sizeLine + 1; rw [Array.size_push, hsz]; omega))
    have I2 := I1.lset (t' := s.toks) (its' := its ++ [.ref s.heap.objs.size]) (f := (·.push (.ref s.heap.objs.size))) hS1 e (by simp) (r.append (.cons (show RelV (V.ref s.heap.objs.size) (Value.ref s.heap.objs.size) from rfl) .nil)) (by rw [List.length_append, List.length_singleton, List.length_map]; omega)
    have oth : ∀ c u, c ≠ S → g.get? c = some u → (g.update S (Obj.mapSeq (·.push (.ref s.heap.objs.size)))).get? c = some u := fun c u hc q => (Heap.get?_update_other _ _ (Ne.symm hc)).trans q
    have gS : ∃ u, (g.update S (Obj.mapSeq (·.push (.ref s.heap.objs.size)))).get? S = some u := ⟨_, Heap.get?_update_self _ e rfl⟩
    refine ih (i + 1) _ _ (ts ++ [s.heap.objs.size]) (by omega) (by omega) (by simp [ht]) I2 ⟨fun c o q => ?_, P.s0, ?_, fun j t q => ?_⟩ (fun c hc => ?_) (q1.keep ⟨(nS z (by simp)).symm, (nS TO (by simp)).symm⟩ oth gS (by show g.objs.size ≤ (g.update S _).objs.size; rw [Heap.size_update]; exact Nat.le_refl _)) (oth _ _ (nS TI (by simp)) q2) (q3.at fun o q => oth _ _ (nS i1 (by simp)) q) (q4.at fun o q => oth _ _ (nS i2 (by simp)) q)
    · have h1 := P.kp c o q
      rw [upd_ne (fun z => by rw [z] at q; rw [P.s0] at q; cases q), upd_ne (fun z => by rw [z, fr] at h1; cases h1)]
      exact h1
    · rw [upd_same, List.map_append]; rfl
    · by_cases hj : j < ts.length
      · rw [List.getElem?_append_left hj] at q
        obtain ⟨x, y, h1, h2, h3⟩ := P.tp j t q
        refine ⟨x, y, h1, h2, ?_⟩
        rw [upd_ne (fun z => by rw [z, P.at_] at h3; cases h3), upd_ne (fun z => by rw [z, fr] at h3; cases h3)]
        exact h3
      · rw [List.getElem?_append_right (by omega)] at q
        have hj0 : j - ts.length = 0 := by
          cases hq : j - ts.length with
          | zero => rfl
          | succ m => rw [hq] at q; simp at q
        rw [hj0] at q
        simp at q
        have hji : j = i := by omega
        subst hji
        subst q
        exact ⟨_, _, e1, e2, by rw [upd_ne nT]; exact upd_same⟩
    · have h1 := Fp c hc
      refine ⟨?_, h1.2⟩
      have hcl : c ≠ s.heap.objs.size := fun z => by
        have := (List.mem_cons.mp hc)
        rcases this with e' | hc
        · rw [e'] at z; exact absurd lz (by rw [z]; exact Nat.lt_irrefl _)
        · rcases List.mem_cons.mp hc with e' | hc
          · rw [e'] at z; exact absurd lTI (by rw [z]; exact Nat.lt_irrefl _)
          · rcases List.mem_cons.mp hc with e' | hc
            · rw [e'] at z; exact absurd (hz.ltO) (by rw [z]; exact Nat.lt_irrefl _)
            · rcases List.mem_cons.mp hc with e' | hc
              · rw [e'] at z; exact absurd li1 (by rw [z]; exact Nat.lt_irrefl _)
              · rcases List.mem_cons.mp hc with e' | hc
                · rw [e'] at z; exact absurd li2 (by rw [z]; exact Nat.lt_irrefl _)
                · cases hc
      rw [upd_ne (nS c hc), upd_ne hcl]
      exact h1.1

theorem zip_nolen : typeLookup (.type "zip") "__len__" = pure none := by rw [typeLookup_type, builtinLookup_eq_fast]; kernel_rfl
theorem zip_nohint : typeLookup (.type "zip") "__length_hint__" = pure none := by rw [typeLookup_type, builtinLookup_eq_fast]; kernel_rfl
/-- list(zip(a, b)), both lists -/
def tLz (K : PySem.W.Frag) (ta : TA) : TE := fun σ H Q => ta σ H fun vs H1 => ∃ a b xs ys, vs = [.ref a, .ref b] ∧ SqL K H1 a xs ∧ SqL K H1 b ys ∧ ∀ S ts H2, Prs H1 H2 S ts xs ys → ts.length = min xs.length ys.length → Q (.ref S) H2
theorem pe_listzip {X : Cx} {e e2 : Expr} {ta : TA} {p p2 pos pos2 : Pos} (hc : X.calm = true) (hg : Gl X "list") (hm : X.mg "list" = none) (hg2 : Gl X "zip") (hm2 : X.mg "zip" = none) (ha : PA X [e, e2] ta)
    (hs : starEach [e, e2] X.env = (false, eval e X.env) :: starEach [e2] X.env := by rfl) (hpl : (backTo pos2 (starEach [e2] X.env)).any (·.1) = false := by rfl)
    (hs1 : starEach [.Call (.Name "zip" p2) [e, e2] [] pos2] X.env = [(false, eval (.Call (.Name "zip" p2) [e, e2] [] pos2) X.env)] := by rfl) :
    PE X (.Call (.Name "list" p) [.Call (.Name "zip" p2) [e, e2] [] pos2] [] pos) (tLz X.K ta) := by
  intro pins s σ H Q I h
  have I0 := I
  refine Call_ (ld_blt I hg hm (u := .type "list") (by decide +kernel) (PyProof.Rows.callWith_type1 ?_ hs1 rfl))
  rw [hs1]
  refine Calls.spliced_cons ?_
  refine Call_ (ld_blt I hg2 hm2 boot_zip5 (PyProof.Rows.callWith_type1 (thn (ha pos2 pins s σ H _ I h) fun us s1 ⟨vs, H1, I1, r1, q1⟩ => ?_) hs hpl))
  obtain ⟨a, b, xs, ys, ex, hqx, hqy, q⟩ := q1
  subst ex
  cases r1 with
  | cons r rr =>
    cases rr with
    | cons r' rr =>
      cases rr
      cases r
      cases r'
      obtain ⟨its, rv, p1, l1⟩ := I1.list hqx
      obtain ⟨its2, rv2, p2', l2⟩ := I1.list hqy
      have la : a < s1.heap.objs.size := p1.lt
      have lb : b < s1.heap.objs.size := p2'.lt
      refine call_zip_2 p1.isList p2'.isList fun g hz hTI hTO h1 h2 hsz hk => ?_
      refine Calls.spliced_nil ?_
      generalize hzz : s1.heap.objs.size + 4 = z at *
      generalize hTI' : s1.heap.objs.size + 2 = TI at *
      generalize hTO' : s1.heap.objs.size + 3 = TO at *
      have D : ZipApart z TI TO s1.heap.objs.size (s1.heap.objs.size + 1) a b := by rw [← hzz, ← hTI', ← hTO']; exact PySem.W.ktu_apart s1.heap.objs.size a b la lb
      have I2 : Inv X pins σ H1 { s1 with heap := g } := I1.kept (t' := s1.toks) hk
      have fp : ∀ c ∈ [z, TI, TO, s1.heap.objs.size, s1.heap.objs.size + 1], s1.heap.objs.size ≤ c ∧ c < g.objs.size := fun c hcm => by
        have e' : c = z ∨ c = TI ∨ c = TO ∨ c = s1.heap.objs.size ∨ c = s1.heap.objs.size + 1 := by simpa using hcm
        rw [hsz]
        rcases e' with e' | e' | e' | e' | e' <;> subst e'
        · rw [← hzz]; exact ⟨Nat.le_add_right _ _, Nat.add_lt_add_left (by decide) _⟩
        · rw [← hTI']; exact ⟨Nat.le_add_right _ _, Nat.add_lt_add_left (by decide) _⟩
        · rw [← hTO']; exact ⟨Nat.le_add_right _ _, Nat.add_lt_add_left (by decide) _⟩
        · exact ⟨Nat.le_refl _, Nat.lt_add_of_pos_right (by decide)⟩
        · exact ⟨Nat.le_add_right _ _, Nat.add_lt_add_left (by decide) _⟩
      have hSz : g.objs.size ≠ z := fun e => absurd (fp z (by simp)).2 (by rw [← e]; exact Nat.lt_irrefl _)
      refine callType_codes (Q₁ := fun ob t => ob = .ref g.objs.size ∧ t = { s1 with heap := g.push ⟨.type "list", none, .seq #[] 0, #[]⟩ }) F.called_list (F.typeCall_list_1 _) F.entry_list_init (code_list_new _ ⟨rfl, rfl⟩) ?_
      rintro _ _ ⟨rfl, rfl⟩
      have hS : (g.push ⟨.type "list", none, .seq #[] 0, #[]⟩).get? g.objs.size = some ⟨.type "list", none, .seq #[] 0, #[]⟩ := Heap.get?_push_size _ rfl
      refine ⟨⟨_, hS, rfl⟩, F.args_list_init_2 _ _, ?_⟩
      show wpAny _ _ (do let old ← Builtin.List.listItems (.ref g.objs.size); Builtin.List.listUpdate (.ref g.objs.size) (fun _ => #[]); letGo old.toList.reverse; Builtin.List.listExtendWith (.ref g.objs.size) (.ref z) .none) _ _ _
      refine wpAny_bind ?_
      unfold Builtin.List.listItems
      refine wpAny_bind (wpAny_seqItems hS rfl (wpAny_pure ?_))
      show wpAny _ _ (updateSeq g.objs.size (fun _ => #[]) >>= _) _ _ _
      refine wpAny_bind (wpAny_updateSeq hS rfl ?_)
      have hS2 := Heap.get?_update_self (Obj.mapSeq (fun _ => (#[] : Array Value))) hS rfl
      refine wpAny_bind (wpAny_letGo ?_)
      generalize hg3 : (g.push ⟨.type "list", none, .seq #[] 0, #[]⟩).update g.objs.size (Obj.mapSeq (fun _ => (#[] : Array Value))) = g3 at hS2
      have k3 : ∀ c u, g.get? c = some u → g3.get? c = some u := fun c u e => by
        rw [← hg3]
        exact (Heap.get?_update_other _ _ (Nat.ne_of_gt (Heap.lt_size e))).trans (Heap.get?_push_of_some _ e)
      have zs : ZipS g3 z TI TO s1.heap.objs.size (s1.heap.objs.size + 1) := .inl ⟨k3 _ _ hz, _, _, k3 _ _ hTO⟩
      unfold Builtin.List.listExtendWith
      refine wpAny_bind (wpAny_typeOf (T := "zip") ⟨_, k3 _ _ hz, rfl⟩ ?_)
      have n1 : Builtin.List.listSameRef (.ref g.objs.size) (.ref z) = false := by simp [Builtin.List.listSameRef, hSz]
      have n2 : (Value.type "zip" == Value.type "list") = false := by decide
      have n3 : (Value.type "zip" == Value.type "tuple") = false := by decide
      simp only [n1, n2, n3, Bool.or_false, Bool.false_eq_true, if_false]
      refine wpAny_bind (wpAny_pyIter_zip (k3 _ _ hz) ?_)
      refine wpAny_bind (wpAny_holding ?_)
      unfold Builtin.List.listLengthHint
      refine wpAny_bind (wpAny_specialOf (T := "zip") ⟨_, k3 _ _ hz, rfl⟩ zip_nolen ?_)
      show wpAny _ _ (specialOf (Value.ref z) (Str.ofString "__length_hint__") >>= _) _ _ _
      refine wpAny_bind (wpAny_specialOf (T := "zip") ⟨_, k3 _ _ hz, rfl⟩ zip_nohint ?_)
      refine wpAny_pure ?_
      show wpAny _ _ (rule "list.extend.makes-room" >>= fun _ => Builtin.List.listTouch (.ref g.objs.size) >>= fun _ => again (.builtin "list.extend.loop" ⟨[.ref g.objs.size, .ref z, .none], []⟩)) _ _ _
      refine wpAny_bind (wpAny_rule (wpAny_bind ?_))
      show wpAny _ _ (updateSeq g.objs.size (·.push .none) >>= fun _ => updateSeq g.objs.size (·.pop)) _ _ _
      refine wpAny_bind (wpAny_updateSeq hS2 rfl ?_)
      have hS3 := Heap.get?_update_self (Obj.mapSeq (·.push Value.none)) hS2 rfl
      refine wpAny_updateSeq (hz := by seq_fits) hS3 rfl ?_
      have hS4 := Heap.get?_update_self (Obj.mapSeq (·.pop)) hS3 rfl
      generalize hg5 : (g3.update g.objs.size (Obj.mapSeq (·.push Value.none))).update g.objs.size (Obj.mapSeq (·.pop)) = g5 at hS4
      have k5 : ∀ c u, g.get? c = some u → g5.get? c = some u := fun c u e => by
        rw [← hg5]
        exact (Heap.get?_update_other _ _ (Nat.ne_of_gt (Heap.lt_size e))).trans ((Heap.get?_update_other _ _ (Nat.ne_of_gt (Heap.lt_size e))).trans (k3 _ _ e))
      have I3 : Inv X pins σ (upd H1 g.objs.size (.lst [])) { s1 with heap := g5 } := I2.laid (t' := s1.toks) k5 (Nat.le_refl _) ⟨Nat.zero_le _, [], _, .nil, hS4⟩
      have f0 : H1 g.objs.size = none := I2.hok.fresh (Nat.le_refl _)
      refine wpAny_pure ⟨plainId_quiet F.plain_extend_loop _, ?_⟩
      show codeAny (model X.prog X.w) X.A.in1 _ _ { s1 with heap := g5 }
      refine zip_loop (A := X.A.in1) (H0 := H1) (xs := xs) (ys := ys) (I.ok.hd hc) D hqx hqy (Nat.le_trans (Nat.min_le_left _ _) l1) ?_ _ 0 _ _ [] rfl (Nat.zero_le _) rfl I3 ⟨fun c o e => ?_, f0, upd_same, fun j t e => by simp at e⟩ (fun c hcm => ?_) (.inl ⟨k5 _ _ hz, _, _, k5 _ _ hTO⟩) (k5 _ _ hTI) (h1.at fun o e => k5 _ _ e) (h2.at fun o e => k5 _ _ e)
      · intro ts H2 s2 J P hl
        exact ⟨rfl, .ref g.objs.size, H2, J, rfl, q _ ts H2 P hl⟩
      · rw [upd_ne (fun z => by rw [z, f0] at e; cases e)]; exact e
      · have hcl := fp c hcm
        have ok : FpOk X pins H1 c := I1.fpOk hcl.1 (I1.hok.fresh hcl.1)
        exact ⟨by rw [upd_ne (Nat.ne_of_lt hcl.2)]; exact ok.1, ok.2⟩
section
variable {X : Cx}
def dLz (as : An) : Dn := fun ρ h => bnd (as ρ h) fun xs h1 => match xs with
  | [a, b] => match seqL h1 a, seqL h1 b with
    | some us, some vs => some (.lst h1.length, h1 ++ [zipD us vs])
    | _, _ => none
  | _ => none
theorem zip_rps {K : PySem.W.Frag} {H H' : Hp} {ms ms' : List Addr} (u : Up K H ms H' ms') : ∀ (us vs : List D) (xs ys : List V) (ts : List Addr), Rps K H ms us xs → Rps K H ms vs ys → ts.length = min xs.length ys.length →
    (∀ (j : Nat) (t : Addr), ts[j]? = some t → ∃ x y, xs[j]? = some x ∧ ys[j]? = some y ∧ H' t = some (.tup [x, y])) → Rps K H' ms' (zipD us vs) (ts.map V.ref)
  | [], vs, xs, ys, ts, r1, r2, hl, ht => by
    simp only [Rps] at r1
    subst r1
    have : ts = [] := by cases ts with
      | nil => rfl
      | cons t ts => simp at hl
    subst this
    simp [zipD, Rps]
  | u1 :: us, [], xs, ys, ts, r1, r2, hl, ht => by
    simp only [Rps] at r2
    subst r2
    have : ts = [] := by cases ts with
      | nil => rfl
      | cons t ts => simp at hl
    subst this
    simp [zipD, Rps]
  | u1 :: us, v1 :: vs, xs, ys, ts, r1, r2, hl, ht => by
    simp only [Rps] at r1 r2
    obtain ⟨x, xr, rfl, rx, rxs⟩ := r1
    obtain ⟨y, yr, rfl, ry, rys⟩ := r2
    cases ts with
    | nil => simp at hl
    | cons t ts =>
      obtain ⟨x', y', e1, e2, e3⟩ := ht 0 t rfl
      simp at e1 e2
      subst e1 e2
      simp only [zipD, List.map_cons, Rps]
      refine ⟨_, _, rfl, ?_, zip_rps u us vs xr yr ts rxs rys (by simp at hl; omega) fun j t' q => ?_⟩
      · simp only [Rp]
        refine ⟨t, _, rfl, SqT.of e3, ?_⟩
        simp only [Rps]
        exact ⟨_, _, rfl, Rp.up u _ _ rx, _, _, rfl, Rp.up u _ _ ry, rfl⟩
      · obtain ⟨a, b, h1, h2, h3⟩ := ht (j + 1) t' (by simpa using q)
        exact ⟨a, b, by simpa using h1, by simpa using h2, h3⟩
theorem HRp.grown {K : PySem.W.Frag} {H H' : Hp} {ms : List Addr} {h : Hb} {S : Addr} {vs : List V} {xs : List D} (hr : HRp K H ms h) (kp : ∀ b o, H b = some o → H' b = some o) (s0 : H S = none) (hS : H' S = some (.lst vs)) (r : Rps K H' (ms ++ [S]) xs vs) : Ext H ms H' (ms ++ [S]) ∧ HRp K H' (ms ++ [S]) (h ++ [xs]) := by
  have nS : S ∉ ms := hr.fresh s0
  have x : Ext H ms H' (ms ++ [S]) := ⟨⟨[S], rfl⟩, fun b o e n => ⟨kp b o e, by
    simp only [List.mem_append, List.mem_singleton, not_or]
    exact ⟨n, ne_of_none e s0⟩⟩, fun _ o _ vs _ e c => ⟨o, vs, kp _ _ e, c⟩⟩
  have u := Ext.up hr x
  refine ⟨x, by simp [hr.len], ?_, fun n ys e => ?_⟩
  · rw [List.nodup_append]
    refine ⟨hr.nd, by simp, fun a ha b hb z => ?_⟩
    simp at hb; subst hb; subst z
    exact nS ha
  · by_cases hn : n < h.length
    · rw [List.getElem?_append_left hn] at e
      obtain ⟨q, o, k, ws, e1, e2, e3, rr⟩ := hr.at_ n ys e
      exact ⟨q, o, k, ws, u.ix n q e1, kp _ _ e2, e3, Rps.up u _ _ rr⟩
    · rw [List.getElem?_append_right (by omega)] at e
      have hz : n - h.length = 0 := by
        cases hk : n - h.length with
        | zero => rfl
        | succ k => rw [hk] at e; simp at e
      rw [hz] at e
      simp at e; subst e
      have hn' : n = ms.length := by rw [hr.len]; omega
      refine ⟨S, _, _, vs, ?_, hS, rfl, r⟩
      rw [hn', List.getElem?_append_right (Nat.le_refl _)]; simp
theorem je_listzip {e e2 : Expr} {as : An} {p p2 pos pos2 : Pos} (hc : X.calm = true) (hm : X.mg "list" = none) (hm2 : X.mg "zip" = none) (ja : JA X [e, e2] as) (hg : Gl X "list" := by rfl) (hg2 : Gl X "zip" := by rfl)
    (hs : starEach [e, e2] X.env = (false, eval e X.env) :: starEach [e2] X.env := by rfl) (hpl : (backTo pos2 (starEach [e2] X.env)).any (·.1) = false := by rfl)
    (hs1 : starEach [.Call (.Name "zip" p2) [e, e2] [] pos2] X.env = [(false, eval (.Call (.Name "zip" p2) [e, e2] [] pos2) X.env)] := by rfl) :
    JE X (.Call (.Name "list" p) [.Call (.Name "zip" p2) [e, e2] [] pos2] [] pos) (dLz as) := by
  refine .of (pe_listzip hc hg hm hg2 hm2 ja.pa hs hpl hs1) fun σ H Q h => ?_
  obtain ⟨ρ, ms, hb, d, h', ok, e, q⟩ := h
  obtain ⟨xs, h1, e1, e⟩ := of_bnd e
  refine ⟨ρ, ms, hb, xs, h1, ok, e1, fun vs H1 ms1 x1 r1 p1 => ?_⟩
  split at e
  · rename_i a b
    split at e
    · rename_i us ws z1 z2
      cases e
      obtain ⟨va, vb, rfl, pa, pb⟩ := rps2 p1
      obtain ⟨pa', xa, rfl, sa, ra⟩ := seqL_sq r1 pa z1
      obtain ⟨pb', xb, rfl, sb, rb⟩ := seqL_sq r1 pb z2
      refine ⟨pa', pb', xa, xb, rfl, sa, sb, fun S ts H2 P hl => ?_⟩
      have x0 : Ext H1 ms1 H2 (ms1 ++ [S]) := ⟨⟨[S], rfl⟩, fun b o e n => ⟨P.kp b o e, by
        simp only [List.mem_append, List.mem_singleton, not_or]
        exact ⟨n, ne_of_none e P.s0⟩⟩, fun _ o _ vs _ e c => ⟨o, vs, P.kp _ _ e, c⟩⟩
      have rz := zip_rps (Ext.up r1 x0) us ws xa xb ts ra rb hl P.tp
      obtain ⟨x2, r2⟩ := r1.grown P.kp P.s0 P.at_ rz
      exact q _ H2 (ms1 ++ [S]) (x1.trans x2) r2 (by simp only [Rp]; exact ⟨S, rfl, new_at r1, _, P.at_⟩)
    · cases e
  · cases e
end
end Hv

set_option Elab.async false
set_option linter.all false
set_option maxRecDepth 100000
set_option maxHeartbeats 4000000
namespace Hv
open PySem PySem.Spec PyProof.Rows L2
/-! ### constants of a module -/
structure KC (K : PySem.W.Frag) (d : D) (u : Value) : Prop where
  ex : ∃ v, RelV v u ∧ KnownD K d v
section
variable {K : PySem.W.Frag}
end
end Hv

set_option Elab.async false
set_option linter.all false
set_option maxRecDepth 100000
set_option maxHeartbeats 4000000
namespace Hv
open PySem PySem.Spec PyProof.Rows L2
/-! ### dicts by their keys -/
def posK : List Key → Key → Option Nat
  | [], _ => none
  | a :: r, k => if a = k then some 0 else (posK r k).map (· + 1)
theorem valV_pos' : ∀ {kvs : List (Key × V)} {k : Key} {j : Nat} {v : V}, posK (kvs.map (·.1)) k = some j → (kvs.map (·.2))[j]? = some v → valV kvs k = some v
  | [], _, _, _, e, _ => by cases e
  | p :: r, k, j, v, e, f => by
    simp only [List.map_cons, posK] at e
    split at e
    · rename_i c
      cases e
      simp at f; subst f
      exact valV_pos c
    · rename_i c
      cases z : posK (r.map (·.1)) k with
      | none => rw [z] at e; cases e
      | some i =>
        rw [z] at e; cases e
        rw [valV_neg c]
        exact valV_pos' z (by simpa using f)
theorem posK_any : ∀ {ks : List Key} {k : Key} {j : Nat}, posK ks k = some j → k ∈ ks ∧ j < ks.length
  | [], _, _, e => by cases e
  | a :: r, k, j, e => by
    simp only [posK] at e
    split at e
    · rename_i c; cases e; exact ⟨by simp [c], by simp⟩
    · cases z : posK r k with
      | none => rw [z] at e; cases e
      | some i =>
        rw [z] at e; cases e
        obtain ⟨a1, a2⟩ := posK_any z
        exact ⟨List.mem_cons_of_mem _ a1, by simp; omega⟩
theorem put_map : ∀ {kvs : List (Key × V)} {k : Key} {j : Nat} (v : V), (kvs.map (·.1)).Nodup → posK (kvs.map (·.1)) k = some j → (kvs.map fun kv => if kv.1 = k then (kv.1, v) else kv).map (·.1) = kvs.map (·.1) ∧ (kvs.map fun kv => if kv.1 = k then (kv.1, v) else kv).map (·.2) = (kvs.map (·.2)).set j v
  | [], _, _, _, _, e => by cases e
  | p :: r, k, j, v, nd, e => by
    simp only [List.map_cons, List.nodup_cons] at nd
    simp only [List.map_cons, posK] at e
    split at e
    · rename_i c
      cases e
      have same : ∀ q ∈ r, (if q.1 = k then (q.1, v) else q) = q := fun q hq => if_neg (fun z => nd.1 (by rw [c, ← z]; exact List.mem_map_of_mem hq))
      have e2 : (r.map fun kv => if kv.1 = k then (kv.1, v) else kv) = r := by
        conv => rhs; rw [← List.map_id r]
        exact List.map_congr_left same
      simp only [List.map_cons, if_pos c, e2, List.set_cons_zero, and_self]
    · rename_i c
      cases z : posK (r.map (·.1)) k with
      | none => rw [z] at e; cases e
      | some i =>
        rw [z] at e; cases e
        obtain ⟨a1, a2⟩ := put_map v nd.2 z
        simp only [List.map_cons, if_neg c, a1, a2, List.set_cons_succ, and_self]
theorem putK_at {kvs : List (Key × V)} {k : Key} {j : Nat} (v : V) (nd : (kvs.map (·.1)).Nodup) (e : posK (kvs.map (·.1)) k = some j) : (putK kvs k v).map (·.1) = kvs.map (·.1) ∧ (putK kvs k v).map (·.2) = (kvs.map (·.2)).set j v := by
  unfold putK
  rw [if_pos ?_]
  · exact put_map v nd e
  · obtain ⟨a, _⟩ := posK_any e
    obtain ⟨q, hq, hk⟩ := List.mem_map.mp a
    exact List.any_eq_true.mpr ⟨q, hq, by simp [hk]⟩
section
variable {X : Cx}
theorem dct_at {K : PySem.W.Frag} {H : Hp} {ms : List Addr} {h : Hb} {ks : List Key} {n : Nat} {v : V} {xs : List D} (hr : HRp K H ms h) (r : Rp K H ms (.dct ks n) v) (e : h[n]? = some xs) : ∃ p kvs, v = .ref p ∧ ms[n]? = some p ∧ H p = some (.dK kvs) ∧ kvs.map (·.1) = ks ∧ Rps K H ms xs (kvs.map (·.2)) := by
  simp only [Rp] at r
  obtain ⟨p, rfl, hp, kvs, hv, hk⟩ := r
  obtain ⟨q, o, k, vs, e1, e2, e3, rr⟩ := hr.at_ n xs e
  rw [hp] at e1; cases e1
  rw [hv] at e2; cases e2
  cases e3
  exact ⟨p, kvs, rfl, hp, hv, hk, rr⟩
/-- d["k"] -/
def dKx (a : Dn) (k : Str) : Dn := fun ρ h => bnd (a ρ h) fun x h1 => match x with
  | .dct ks n => match h1[n]?, posK ks (.inr k) with
    | some xs, some j => (xs[j]?).map fun d => (d, h1)
    | _, _ => none
  | _ => none
theorem je_kx {o : Expr} {do_ : Dn} {x : Str} {j : Nat} {pos p2 : Pos} (hu : Rm X) (jo : JE X o do_) (hs : NoSl (.Constant (.str x) j p2) := by exact fun _ _ => rfl) : JE X (.Subscript o (.Constant (.str x) j p2) pos) (dKx do_ x) := by
  refine .of (pe_dget (by have := hu; omega) jo.pe je_str.pe hs) fun σ H Q h => ?_
  obtain ⟨ρ, ms, hb, d, h', ok, e, q⟩ := h
  obtain ⟨y, h1, e1, e⟩ := of_bnd e
  refine ⟨ρ, ms, hb, y, h1, ok, e1, fun v1 H1 ms1 x1 r1 p1 => ?_⟩
  refine ⟨ρ, ms1, h1, .str x, h1, ok.up x1 r1, rfl, fun v2 H2 ms2 x2 r2 p2 => ?_⟩
  simp only [Rp] at p2
  subst p2
  split at e
  · rename_i ks n
    split at e
    · rename_i xs i ex ei
      cases z : xs[i]? with
      | none => rw [z] at e; cases e
      | some d' =>
        rw [z] at e; cases e
        obtain ⟨p, kvs, rfl, hm, hv, hk, rr⟩ := dct_at r2 (p1.ext r1 x2) ex
        subst hk
        obtain ⟨w, ew, pw⟩ := rr.get z
        exact ⟨p, w, rfl, .inl ⟨kvs, .inr x, .inl hv, rfl, (valV_pos' ei ew).symm⟩, q w H2 ms2 (x1.trans x2) r2 pw⟩
    · cases e
  · cases e
/-- d["k"] = v -/
def sKp (o : Dn) (k : Str) (a : Dn) : Sn := fun ρ h => bnd (a ρ h) fun d h1 => bnd (o ρ h1) fun x h2 => match x with
  | .dct ks n => match h2[n]?, posK ks (.inr k) with
    | some xs, some j => if ks.Nodup ∧ ks.length < 1000 then some (.nx ρ, h2.set n (xs.set j d)) else none
    | _, _ => none
  | _ => none
theorem js_kput {o value : Expr} {do_ dv : Dn} {x : Str} {j : Nat} {pos pos' p2 : Pos} (hu : Rm X) (jo : JE X o do_) (jv : JE X value dv) (hs : swapsWith value (some (.Subscript o (.Constant (.str x) j p2) pos')) pos.line X.env = pure false := by rfl) :
    JS X (.Assign [.Subscript o (.Constant (.str x) j p2) pos'] value pos) (sKp do_ x dv) := by
  refine .of (ps_dput (by have := hu; omega) jo.pe je_str.pe jv.pe hs) fun E σ H h => ?_
  obtain ⟨ρ, ms, hb, fl, h', ok, e, q⟩ := h
  obtain ⟨d, h1, e1, e⟩ := of_bnd e
  obtain ⟨y, h2, e2, e⟩ := of_bnd e
  refine ⟨ρ, ms, hb, d, h1, ok, e1, fun v1 H1 ms1 x1 r1 p1 => ?_⟩
  have ok1 := ok.up x1 r1
  refine ⟨ρ, ms1, h1, y, h2, ok1, e2, fun v2 H2 ms2 x2 r2 p2 => ?_⟩
  have ok2 := ok1.up x2 r2
  refine ⟨ρ, ms2, h2, .str x, h2, ok2, rfl, fun v3 H3 ms3 x3 r3 p3 => ?_⟩
  simp only [Rp] at p3
  subst p3
  split at e
  · rename_i ks n
    split at e
    · rename_i xs i ex ei
      split at e
      · rename_i c
        cases e
        obtain ⟨p, kvs, rfl, hm, hv, hk, rr⟩ := dct_at r3 (p2.ext r2 x3) ex
        subst hk
        have pd := (p1.ext r1 x2).ext r2 x3
        obtain ⟨k1, k2⟩ := putK_at v1 c.1 ei
        have hlen : kvs.length < sizeLine := by have := c.2; rw [List.length_map] at this; exact Nat.lt_trans this (by decide)
        have cc : cellOf (.dK (putK kvs (.inr x) v1)) = some (.d (kvs.map (·.1)), (kvs.map (·.2)).set i v1) := by simp only [cellOf, k1, k2]
        have x4 : Ext H3 ms3 (upd H3 p (.dK (putK kvs (.inr x) v1))) ms3 := Ext.updC hm hv (o0 := .dK kvs) rfl cc
        have r4 := r3.updC hm hv (o0 := .dK kvs) rfl cc (rr.set i pd)
        refine ⟨p, _, rfl, .inl ⟨kvs, .inr x, hv, rfl, hlen, rfl⟩, ?_⟩
        exact q σ _ ms3 (x1.trans (x2.trans (x3.trans x4))) r4 ((ok2.up x3 r3).s.up (Ext.up r3 x4))
      · cases e
    · cases e
  · cases e
/-! ### {"a": x, ..} -/
def anOf : List (Str × Dn) → An
  | [] => aNil
  | p :: r => aCons p.2 (anOf r)
def trOf (K : PySem.W.Frag) (l : List (Str × Dn)) : List (TE × TE) := l.map fun p => (tEv K (dC (.str p.1)), tEv K p.2)
theorem tPairs_of {K : PySem.W.Frag} : ∀ (l : List (Str × Dn)) {σ : L2.St} {H : Hp} {ρ : En} {ms : List Addr} {h h' : Hb} {xs : List D} {Q : List (V × V) → Hp → Prop}, Okk K σ H ρ ms h → anOf l ρ h = some (xs, h') →
    (∀ vs H' ms', Ext H ms H' ms' → HRp K H' ms' h' → Rps K H' ms' xs vs → Q ((l.map (·.1)).zipWith (fun k v => (V.str k, v)) vs) H') → tPairs (trOf K l) σ H Q
  | [], σ, H, ρ, ms, h, h', xs, Q, ok, e, q => by
    cases e
    exact q [] H ms .refl ok.h (by simp [Rps])
  | p :: l, σ, H, ρ, ms, h, h', xs, Q, ok, e, q => by
    obtain ⟨d, h1, e1, e⟩ := of_bnd e
    obtain ⟨ds, h2, e2, e⟩ := of_bnd e
    cases e
    refine ⟨ρ, ms, h, .str p.1, h, ok, rfl, fun v1 H1 ms1 x1 r1 p1 => ?_⟩
    simp only [Rp] at p1
    subst p1
    have ok1 := ok.up x1 r1
    refine ⟨ρ, ms1, h, d, h1, ok1, e1, fun v2 H2 ms2 x2 r2 p2 => ?_⟩
    refine tPairs_of l (ok1.up x2 r2) e2 fun vs H3 ms3 x3 r3 p3 => ?_
    have := q (v2 :: vs) H3 ms3 (x1.trans (x2.trans x3)) r3 (by simp only [Rps]; exact ⟨_, _, rfl, p2.ext r2 x3, p3⟩)
    simpa using this
def dDsp (l : List (Str × Dn)) : Dn := fun ρ h => bnd (anOf l ρ h) fun xs h1 => if (l.map (·.1)).Nodup ∧ l.length ≤ 15 then some (.dct (l.map fun p => .inr p.1) h1.length, h1 ++ [xs]) else none
theorem anOf_length : ∀ (l : List (Str × Dn)) {ρ : En} {h h' : Hb} {xs : List D}, anOf l ρ h = some (xs, h') → xs.length = l.length
  | [], _, _, _, _, e => by cases e; rfl
  | p :: l, _, _, _, _, e => by
    obtain ⟨d, h1, e1, e⟩ := of_bnd e
    obtain ⟨ds, h2, e2, e⟩ := of_bnd e
    cases e
    simp [anOf_length l e2]
theorem merge_nodup : ∀ (more kvs : List (Key × V)), ((kvs ++ more).map (·.1)).Nodup → mergeK kvs more = kvs ++ more
  | [], kvs, _ => by simp [mergeK]
  | p :: r, kvs, nd => by
    have hn : valV kvs p.1 = none := by
      cases z : valV kvs p.1 with
      | none => rfl
      | some v =>
        have : (valV kvs p.1).isSome = true := by rw [z]; rfl
        rw [← valV_any] at this
        obtain ⟨q, hq, hk⟩ := List.any_eq_true.mp this
        rw [List.map_append, List.nodup_append] at nd
        exact absurd (of_decide_eq_true hk) (nd.2.2 q.1 (List.mem_map_of_mem hq) p.1 (by simp))
    show mergeK (putK kvs p.1 p.2) r = _
    rw [putK_new p.2 hn, merge_nodup r (kvs ++ [(p.1, p.2)]) (by simpa using nd)]
    simp
/-- a foreign object is written -/
theorem HRp.foreign {K : PySem.W.Frag} {H : Hp} {ms : List Addr} {h : Hb} {p : Addr} {o o' : HO} (hr : HRp K H ms h) (hp : H p = some o) (ht : ∀ vs, o ≠ .tup vs) (hf : ∀ x u, o ≠ .frz x u) (hn : p ∉ ms) : HRp K (L2.upd H p o') ms h ∧ Up K H ms (L2.upd H p o') ms := by
  have u : Up K H ms (L2.upd H p o') ms := by
    refine ⟨fun q us s => ?_, fun q us s => ?_, fun _ _ e => e, fun q ob k vs hq e c => ⟨ob, vs, by rw [upd_ne (fun z => hn (by rw [← z]; exact hq))]; exact e, c⟩⟩
    · rcases s with (s | ⟨x, s⟩) | s
      · exact .inl (.inl (by rw [upd_ne (fun z => by rw [z, hp] at s; exact ht _ (Option.some.inj s))]; exact s))
      · exact .inl (.inr ⟨x, by rw [upd_ne (fun z => by rw [z, hp] at s; exact hf _ _ (Option.some.inj s))]; exact s⟩)
      · exact .inr s
    · rcases s with ⟨x, s⟩ | s
      · exact .inl ⟨x, by rw [upd_ne (fun z => by rw [z, hp] at s; exact hf _ _ (Option.some.inj s))]; exact s⟩
      · exact .inr s
  refine ⟨⟨hr.len, hr.nd, fun n xs e => ?_⟩, u⟩
  obtain ⟨q, ob, k, us, e1, e2, e3, r⟩ := hr.at_ n xs e
  exact ⟨q, ob, k, us, e1, by rw [upd_ne (fun z => hn (by rw [← z]; exact List.mem_of_getElem? e1))]; exact e2, e3, Rps.up u _ _ r⟩
/-- a foreign cell becomes ours -/
theorem HRp.take_cell {K : PySem.W.Frag} {H : Hp} {ms : List Addr} {h : Hb} {p : Addr} {o : HO} {k : Kd} {vs : List V} {xs : List D} (hr : HRp K H ms h) (hp : H p = some o) (hc : cellOf o = some (k, vs)) (hn : p ∉ ms) (r : Rps K H ms xs vs) : HRp K H (ms ++ [p]) (h ++ [xs]) := by
  have u : Up K H ms H (ms ++ [p]) := ⟨fun _ _ s => s, fun _ _ s => s, fun n q e => by rw [List.getElem?_append_left (List.getElem?_eq_some_iff.mp e).1]; exact e, fun _ o _ vs _ e c => ⟨o, vs, e, c⟩⟩
  refine ⟨by simp [hr.len], ?_, fun n ys e => ?_⟩
  · rw [List.nodup_append]
    refine ⟨hr.nd, by simp, fun a ha b hb z => ?_⟩
    simp at hb; subst hb; subst z
    exact hn ha
  · by_cases hn' : n < h.length
    · rw [List.getElem?_append_left hn'] at e
      obtain ⟨q, o', k', ws, e1, e2, e3, rr⟩ := hr.at_ n ys e
      exact ⟨q, o', k', ws, u.ix n q e1, e2, e3, Rps.up u _ _ rr⟩
    · rw [List.getElem?_append_right (by omega)] at e
      have hz : n - h.length = 0 := by
        cases hk : n - h.length with
        | zero => rfl
        | succ k => rw [hk] at e; simp at e
      rw [hz] at e
      simp at e; subst e
      have hn2 : n = ms.length := by rw [hr.len]; omega
      refine ⟨p, o, k, vs, ?_, hp, hc, Rps.up u _ _ r⟩
      rw [hn2, List.getElem?_append_right (Nat.le_refl _)]; simp
theorem je_dsp {keys : List (Option Expr)} {values : List Expr} {l : List (Str × Dn)} {pos : Pos} (h : PPs X pos keys values (trOf X.K l)) (hall : keys.all (·.isSome) = true := by rfl) (hl : keys.length = values.length := by rfl) (h0 : keys ≠ [] := by exact List.cons_ne_nil _ _) (h15 : keys.length ≤ 15 := by decide) : JE X (.Dict keys values pos) (dDsp l) := by
  refine .of (pe_disp h hall hl h0 h15) fun σ H Q hh => ?_
  obtain ⟨ρ, ms, hb, d, h', ok, e, q⟩ := hh
  obtain ⟨xs, h1, e1, e⟩ := of_bnd e
  split at e
  · rename_i c
    cases e
    intro p hp
    have okp : Okk X.K σ (upd H p (.dK [])) ρ ms hb := ok.up (.laid ok.h hp) (ok.h.laid hp)
    refine tPairs_of l okp e1 fun vs H2 ms2 x2 r2 p2 => ?_
    have np : p ∉ ms := ok.h.fresh hp
    obtain ⟨e3, n3⟩ := x2.oth p _ upd_same np
    have lx := anOf_length l e1
    have lv : vs.length = l.length := by rw [← p2.length, lx]
    let kvs : List (Key × V) := (l.map (·.1)).zipWith (fun k v => (Sum.inr k, v)) vs
    have zz : ∀ (ks : List Str) (ws : List V), ws.length = ks.length → (ks.zipWith (fun k v => (Sum.inr k, v)) ws : List (Key × V)).map (·.1) = ks.map Sum.inr ∧ (ks.zipWith (fun k v => (Sum.inr k, v)) ws : List (Key × V)).map (·.2) = ws ∧ ks.zipWith (fun k v => (V.str k, v)) ws = (ks.zipWith (fun k v => (Sum.inr k, v)) ws : List (Key × V)).map fun kv => (kV kv.1, kv.2) := by
      intro ks
      induction ks with
      | nil => intro ws hw; cases ws with
        | nil => exact ⟨rfl, rfl, rfl⟩
        | cons a b => simp at hw
      | cons k ks ih => intro ws hw; cases ws with
        | nil => simp at hw
        | cons a b =>
          obtain ⟨a1, a2, a3⟩ := ih b (by simpa using hw)
          refine ⟨by simp only [List.zipWith_cons_cons, List.map_cons, a1], by simp only [List.zipWith_cons_cons, List.map_cons, a2], ?_⟩
          simp only [List.zipWith_cons_cons, List.map_cons, a3]
          rfl
    obtain ⟨z1, z2, z3⟩ := zz (l.map (·.1)) vs (by simp [lv])
    have nd : (kvs.map (·.1)).Nodup := by
      show ((l.map (·.1)).zipWith (fun k v => (Sum.inr k, v)) vs : List (Key × V)) |>.map (·.1) |>.Nodup
      rw [z1]
      refine List.Pairwise.map _ (fun a b hab => ?_) c.1
      simpa using hab
    refine ⟨e3, kvs, z3, ?_, ?_⟩
    · show ((l.map (·.1)).zipWith (fun k v => (Sum.inr k, v)) vs : List (Key × V)).length ≤ 15
      rw [List.length_zipWith]; simp; omega
    rw [merge_nodup kvs [] (by simpa using nd), List.nil_append]
    have cc : cellOf (.dK kvs) = some (.d ((l.map (·.1)).map Sum.inr), vs) := by
      show some (Kd.d (kvs.map (·.1)), kvs.map (·.2)) = _
      rw [show kvs.map (·.1) = (l.map (·.1)).map Sum.inr from z1, show kvs.map (·.2) = vs from z2]
    obtain ⟨r4, u4⟩ := r2.foreign (o' := .dK kvs) e3 (fun _ z => by cases z) (fun _ _ z => by cases z) n3
    have r5 := r4.take_cell upd_same cc n3 (Rps.up u4 _ _ p2)
    refine q _ _ (ms2 ++ [p]) ?_ r5 ?_
    · refine ⟨?_, fun b ob eb nb => ?_, fun a oa k ws ha ea ca => ?_⟩
      · obtain ⟨m1, em⟩ := x2.pre
        exact ⟨m1 ++ [p], by rw [em, List.append_assoc]⟩
      · have eb' : upd H p (.dK []) b = some ob := by rw [upd_ne (ne_of_none eb hp)]; exact eb
        obtain ⟨y1, y2⟩ := x2.oth b ob eb' nb
        refine ⟨by rw [upd_ne (ne_of_none eb hp)]; exact y1, ?_⟩
        simp only [List.mem_append, List.mem_singleton, not_or]
        exact ⟨y2, ne_of_none eb hp⟩
      · have ea' : upd H p (.dK []) a = some oa := by rw [upd_ne (ne_of_none ea hp)]; exact ea
        obtain ⟨o2, v2, y1, y2⟩ := x2.kd a oa k ws ha ea' ca
        exact ⟨o2, v2, by rw [upd_ne (ne_of_none ea hp)]; exact y1, y2⟩
    · simp only [Rp]
      exact ⟨p, rfl, new_at r4, kvs, upd_same, by rw [show kvs.map (·.1) = (l.map (·.1)).map Sum.inr from z1, List.map_map]; rfl⟩
  · cases e
theorem pps_c {keys : List (Option Expr)} {values : List Expr} {l : List (Str × Dn)} {pos p2 : Pos} {k : Str} {j : Nat} {v : Expr} {dv : Dn} (jv : JE X v dv) (h : PPs X pos keys values (trOf X.K l)) : PPs X pos (some (.Constant (.str k) j p2) :: keys) (v :: values) (trOf X.K ((k, dv) :: l)) := pps_cons je_str.pe jv.pe h
theorem pps_n {pos : Pos} : PPs X pos [] [] (trOf X.K []) := pps_nil
end
/-! ### a def that calls itself -/
def recN : Nat → (Cl → Cl) → Cl
  | 0, _ => fun _ _ => none
  | k + 1, F => F (recN k F)
theorem rec_ok {P : Program} {w : World} {K : PySem.W.Frag} {mg : Str → Option Value} {base : Heap} {f : Addr} {fd : FuncData} {ps : List Str} {k n : Nat} {F : Cl → Cl} (hl : ps.length = n)
    (step : ∀ (j : Nat) (d : Cl), FnOk P w K mg base CX0 (k + j) f fd ps (spD K n d) → FnOk P w K mg base CX0 (k + j + 1) f fd ps (spD K n (F d))) : ∀ j, FnOk P w K mg base CX0 (k + j) f fd ps (spD K n (recN j F))
  | 0 => by
    refine ⟨fun vs H Q E h => by rw [h.1, hl], fun A outer s H args us vs Q E _ _ _ _ h => ?_⟩
    obtain ⟨_, ms, h, as, d, h', r, p, e, q⟩ := h
    cases e
  | j + 1 => step j _ (rec_ok hl step j)
end Hv

set_option Elab.async false
set_option linter.all false
set_option maxRecDepth 100000
set_option maxHeartbeats 4000000
namespace Hv
open PySem PySem.Spec PyProof.Rows L2
theorem lri_nolen : typeLookup (.type "list_reverseiterator") "__len__" = pure none := by rw [typeLookup_type, builtinLookup_eq_fast]; kernel_rfl
theorem lri_hint : typeLookup (.type "list_reverseiterator") "__length_hint__" = pure (some (.builtin "list_reverseiterator.__length_hint__")) := by rw [typeLookup_type, builtinLookup_eq_fast]; kernel_rfl
theorem sub_lri : isSubtype (.type "list_reverseiterator") (.type "list_reverseiterator") = pure true := by rw [isSubtype_type]; kernel_rfl
theorem hint_rev {prog : Program} {w : World} {A : Around} {E : Value → Shared → Prop} {s : Shared} {I : Addr} {Q : Bool → Shared → Prop} (ty : s.TypeIs (.ref I) "list_reverseiterator") (q : Q false s) : wpAny (model prog w) A (Builtin.List.listLengthHint (.ref I)) Q E s := by
  unfold Builtin.List.listLengthHint
  refine wpAny_bind (wpAny_specialOf ty lri_nolen ?_)
  show wpAny _ _ (specialOf (Value.ref I) (Str.ofString "__length_hint__") >>= _) _ _ _
  refine wpAny_bind (wpAny_specialOf ty lri_hint ?_)
  generalize hid : ("list_reverseiterator.__length_hint__" : String) = id0
  wp_delta
  rw [show splitId id0 = some ("list_reverseiterator", "__length_hint__") from by subst hid; decide +kernel]
  subst hid
  refine wpAny_bind (wpAny_isInstance (T := "list_reverseiterator") (b := true) ty sub_lri ?_)
  refine wpAny_ite_split (fun hab => absurd hab (by decide)) (fun _ => ?_)
  refine wpAny_ite_split (fun _ => ?_) (fun hab => absurd (by decide +kernel) hab)
  refine wpAny_ite_split (fun hab => absurd hab (by decide +kernel)) (fun _ => ?_)
  exact wpAny_pure q
/-- list(reversed(a)) of a list -/
def tLr (K : PySem.W.Frag) (ta : TA) : TE := fun σ H Q => ta σ H fun vs H1 => ∃ a xs, vs = [.ref a] ∧ SqL K H1 a xs ∧ ∀ l, H1 l = none → Q (.ref l) (upd H1 l (.lst xs.reverse))
theorem vals_rev {xs : List V} {its : List Value} (r : Vals xs its) {acc : Array Value} (h : ItemsOf (fun i v => its.toArray[its.toArray.size - 1 - i]? = some v) acc its.toArray.size) : Vals xs.reverse acc.toList := by
  have e : acc.toList = its.reverse := by
    apply List.ext_getElem?
    intro i
    have hs : acc.size = its.length := by have := h.1; rw [List.size_toArray] at this; exact this
    by_cases hi : i < its.length
    · have hi' : i < acc.size := by omega
      have e1 : acc[i]? = some acc[i] := Array.getElem?_eq_getElem hi'
      have e2 := h.2 i _ e1
      rw [List.getElem?_reverse hi]
      rw [show acc.toList[i]? = acc[i]? by simp, e1]
      simp only [List.size_toArray, List.getElem?_toArray] at e2
      exact e2.symm
    · rw [List.getElem?_eq_none (by simp; omega), List.getElem?_eq_none (by simp; omega)]
  rw [e]
  have key : ∀ {as : List V} {bs : List Value}, Vals as bs → Vals as.reverse bs.reverse := by
    intro as bs q
    induction q with
    | nil => exact .nil
    | cons a b ih => simp only [List.reverse_cons]; exact Vals.append ih (.cons a .nil)
  exact key r
theorem pe_listrev {X : Cx} {e : Expr} {ta : TA} {p p2 pos pos2 : Pos} (hc : X.calm = true) (hg : Gl X "list") (hm : X.mg "list" = none) (hg2 : Gl X "reversed") (hm2 : X.mg "reversed" = none) (ha : PA X [e] ta)
    (hs : starEach [e] X.env = [(false, eval e X.env)] := by rfl) (hs1 : starEach [.Call (.Name "reversed" p2) [e] [] pos2] X.env = [(false, eval (.Call (.Name "reversed" p2) [e] [] pos2) X.env)] := by rfl) :
    PE X (.Call (.Name "list" p) [.Call (.Name "reversed" p2) [e] [] pos2] [] pos) (tLr X.K ta) := by
  intro pins s σ H Q I h
  refine Call_ (ld_blt I hg hm (u := .type "list") (by decide +kernel) (PyProof.Rows.callWith_type1 ?_ hs1 rfl))
  rw [hs1]
  refine Calls.spliced_cons ?_
  refine Call_ (ld_blt I hg2 hm2 boot_reversed5 (PyProof.Rows.callWith_type1 (thn (ha pos2 pins s σ H _ I h) fun us s1 ⟨vs, H1, I1, r1, q1⟩ => ?_) hs rfl))
  obtain ⟨a, xs, ex, hq, q⟩ := q1
  subst ex
  cases r1 with
  | cons r rr =>
    cases rr
    cases r
    obtain ⟨its, rv, pl, hz⟩ := I1.list hq
    have la : a < s1.heap.objs.size := pl.lt
    have hl := rv.length
    refine call_reversed_list pl.isList ?_
    refine Calls.spliced_nil ?_
    have d0 : (s1.heap.push (revObj a ((its.toArray.size : Int) - 1))).get? s1.heap.objs.size = some (revObj a ((its.toArray.size : Int) - 1)) := Heap.get?_push_size _ rfl
    have k0 : ∀ c u, s1.heap.get? c = some u → (s1.heap.push (revObj a ((its.toArray.size : Int) - 1))).get? c = some u := fun c u e => Heap.get?_push_of_some _ e
    have z0 : (s1.heap.push (revObj a ((its.toArray.size : Int) - 1))).objs.size = s1.heap.objs.size + 1 := Heap.size_push ..
    generalize s1.heap.push (revObj a ((its.toArray.size : Int) - 1)) = g at *
    have hSz : g.objs.size ≠ s1.heap.objs.size := by rw [z0]; exact Nat.succ_ne_self _
    refine callType_codes (Q₁ := fun ob t => ob = .ref g.objs.size ∧ t = { s1 with heap := g.push ⟨.type "list", none, .seq #[] 0, #[]⟩ }) F.called_list (F.typeCall_list_1 _) F.entry_list_init (code_list_new _ ⟨rfl, rfl⟩) ?_
    rintro _ _ ⟨rfl, rfl⟩
    have hS : (g.push ⟨.type "list", none, .seq #[] 0, #[]⟩).get? g.objs.size = some ⟨.type "list", none, .seq #[] 0, #[]⟩ := Heap.get?_push_size _ rfl
    refine ⟨⟨_, hS, rfl⟩, F.args_list_init_2 _ _, ?_⟩
    show wpAny _ _ (do let old ← Builtin.List.listItems (.ref g.objs.size); Builtin.List.listUpdate (.ref g.objs.size) (fun _ => #[]); letGo old.toList.reverse; Builtin.List.listExtendWith (.ref g.objs.size) (.ref s1.heap.objs.size) .none) _ _ _
    refine wpAny_bind ?_
    unfold Builtin.List.listItems
    refine wpAny_bind (wpAny_seqItems hS rfl (wpAny_pure ?_))
    show wpAny _ _ (updateSeq g.objs.size (fun _ => #[]) >>= _) _ _ _
    refine wpAny_bind (wpAny_updateSeq hS rfl ?_)
    have hS2 := Heap.get?_update_self (Obj.mapSeq (fun _ => (#[] : Array Value))) hS rfl
    refine wpAny_bind (wpAny_letGo ?_)
    generalize hg3 : (g.push ⟨.type "list", none, .seq #[] 0, #[]⟩).update g.objs.size (Obj.mapSeq (fun _ => (#[] : Array Value))) = g3 at hS2
    have k3 : ∀ c u, g.get? c = some u → g3.get? c = some u := fun c u e => by
      rw [← hg3]
      exact (Heap.get?_update_other _ _ (Nat.ne_of_gt (Heap.lt_size e))).trans (Heap.get?_push_of_some _ e)
    unfold Builtin.List.listExtendWith
    refine wpAny_bind (wpAny_typeOf (T := "list_reverseiterator") ⟨_, k3 _ _ d0, rfl⟩ ?_)
    have n1 : Builtin.List.listSameRef (.ref g.objs.size) (.ref s1.heap.objs.size) = false := by simp [Builtin.List.listSameRef, hSz]
    have n2 : (Value.type "list_reverseiterator" == Value.type "list") = false := by decide
    have n3 : (Value.type "list_reverseiterator" == Value.type "tuple") = false := by decide
    simp only [n1, n2, n3, Bool.or_false, Bool.false_eq_true, if_false]
    have rit : g3.IsRevIter s1.heap.objs.size a ((its.toArray.size : Int) - 1) := ⟨_, k3 _ _ d0, rfl, rfl⟩
    refine wpAny_bind (wpAny_pyIter_revIter rit ?_)
    refine wpAny_bind (wpAny_holding (hint_rev ⟨_, k3 _ _ d0, rfl⟩ ?_))
    refine wpAny_ite_split (fun hab => absurd hab (by decide +kernel)) (fun _ => ?_)
    refine wpAny_pure ⟨plainId_quiet F.plain_extend_loop _, ?_⟩
    show codeAny (model X.prog X.w) X.A.in1 _ _ { s1 with heap := g3 }
    have W := (Walks.listRev (prog := X.prog) (w := X.w) (A := X.A.in1.in1) (I.ok.hd hc) s1.heap.objs.size a (Nat.ne_of_lt la) its.toArray).toS
    have hSf : g.objs.size ∉ [s1.heap.objs.size, a] := fun hm => by
      rcases List.mem_cons.mp hm with e | hm
      · exact hSz e
      · have e' := List.mem_singleton.mp hm
        rw [z0] at e'
        rw [← e'] at la
        exact absurd la (Nat.not_lt_of_le (Nat.le_succ _))
    refine codeAny_extend_loopS W (by rw [List.size_toArray, ← hl]; exact hz) g.objs.size hSf .none its.toArray.size 0 _ #[] _ rfl (Nat.zero_le _) ⟨Nat.zero_le _, ?_, pl.isList.at fun o e => k3 _ _ (k0 _ _ e)⟩ hS2 (ItemsOf.nil _) fun s' acc c hm hS' hacc => ?_
    · simpa using rit
    · refine ⟨rfl, .ref g.objs.size, upd H1 g.objs.size (.lst xs.reverse), ?_, rfl, q _ (I1.hok.fresh (by rw [z0]; exact Nat.le_succ _))⟩
      rw [Moved.eq_with hm]
      refine I1.laid (t' := s'.toks) (fun c u e => ?_) (by rw [z0]; exact Nat.le_succ _) ⟨by rw [List.length_reverse]; exact hz, acc.toList, c, vals_rev rv hacc, by simpa using hS'⟩
      refine hm.heap c u (fun hcm => ?_) (k3 _ _ (k0 _ _ e))
      have lc := Heap.lt_size e
      rcases List.mem_cons.mp hcm with e' | hcm
      · rw [e', z0] at lc; exact absurd lc (Nat.not_lt_of_le (Nat.le_succ _))
      · rw [List.mem_singleton.mp hcm] at lc; exact absurd lc (Nat.lt_irrefl _)
section
variable {X : Cx}
def dLr (as : An) : Dn := fun ρ h => bnd (as ρ h) fun xs h1 => match xs with
  | [a] => (seqL h1 a).map fun us => (.lst h1.length, h1 ++ [us.reverse])
  | _ => none
theorem je_listrev {e : Expr} {as : An} {p p2 pos pos2 : Pos} (hc : X.calm = true) (hm : X.mg "list" = none) (hm2 : X.mg "reversed" = none) (ja : JA X [e] as) (hg : Gl X "list" := by rfl) (hg2 : Gl X "reversed" := by rfl)
    (hs : starEach [e] X.env = [(false, eval e X.env)] := by rfl) (hs1 : starEach [.Call (.Name "reversed" p2) [e] [] pos2] X.env = [(false, eval (.Call (.Name "reversed" p2) [e] [] pos2) X.env)] := by rfl) :
    JE X (.Call (.Name "list" p) [.Call (.Name "reversed" p2) [e] [] pos2] [] pos) (dLr as) := by
  refine .of (pe_listrev hc hg hm hg2 hm2 ja.pa hs hs1) fun σ H Q h => ?_
  obtain ⟨ρ, ms, hb, d, h', ok, e, q⟩ := h
  obtain ⟨xs, h1, e1, e⟩ := of_bnd e
  refine ⟨ρ, ms, hb, xs, h1, ok, e1, fun vs H1 ms1 x1 r1 p1 => ?_⟩
  split at e
  · rename_i a
    cases z : seqL h1 a with
    | none => rw [z] at e; cases e
    | some us =>
      rw [z] at e; cases e
      obtain ⟨va, rfl, pa⟩ := rps1 p1
      obtain ⟨pa', xa, rfl, sa, ra⟩ := seqL_sq r1 pa z
      refine ⟨pa', xa, rfl, sa, ?_⟩
      exact EndD.lst (fun v H' ms' x' r' p' => q v H' ms' (x1.trans x') r' p') r1 ra.rev
  · cases e
end
end Hv

set_option Elab.async false
set_option linter.all false
set_option maxRecDepth 100000
set_option maxHeartbeats 4000000
namespace Hv
open PySem PySem.Spec PyProof.Rows L2
section
variable {X : Cx}
/-- x in y: a list or a tuple of plain things; a text in a text -/
def inD (x y : D) (h : Hb) : Option Bool := match x, y with
  | .str i, .str j => some (!(Builtin.Str.occurrences j i 0 j.length 1).isEmpty)
  | x, y => match datF h 1000 x, datF h 1000 y with
    | some a, some (.list ys) => some (ys.any fun z => PyData.eqv z a)
    | some a, some (.tuple ys) => some (ys.any fun z => PyData.eqv z a)
    | _, _ => none
def oNotIn : Op := fun x y h => (inD x y h).map fun b => (.bl (!b), h)
theorem op_notinD (hu : Rm X) : OpD X (compareOp .NotIn) oNotIn := by
  intro pins s σ H x y v u Q I rx ry h
  obtain ⟨ms, hb, a, b, d, h', r, pa, pb, e, q⟩ := h
  unfold oNotIn inD at e
  split at e
  · simp only [Rp] at pa pb
    subst pa pb
    cases e
    exact op_notIn_str pins s σ H _ _ v u Q I rx ry ⟨_, _, rfl, rfl, q.here r rfl⟩
  · split at e
    · rename_i da ys ha hb'
      cases e
      obtain ⟨d1, d2, d3⟩ := datF_dp r 1000 _ x da pa ha
      obtain ⟨e1, e2, e3⟩ := datF_dp r 1000 _ y _ pb hb'
      obtain ⟨as, r1⟩ := Dp.reads I da x v d1 rx
      obtain ⟨bs, r2⟩ := Dp.reads I _ y u e1 ry
      exact SeqAt.notIn_list_reads r2 r1 e3 d3 (by have := hu; have : min (PyData.depthAll ys) da.depth ≤ da.depth := Nat.min_le_right _ _; omega) ⟨.bl _, H, I, rfl, q.here r rfl⟩
    · rename_i da ys ha hb'
      cases e
      obtain ⟨d1, d2, d3⟩ := datF_dp r 1000 _ x da pa ha
      obtain ⟨e1, e2, e3⟩ := datF_dp r 1000 _ y _ pb hb'
      obtain ⟨as, r1⟩ := Dp.reads I da x v d1 rx
      obtain ⟨bs, r2⟩ := Dp.reads I _ y u e1 ry
      exact SeqAt.notIn_tuple_reads r2 r1 e3 d3 (by have := hu; have : min (PyData.depthAll ys) da.depth ≤ da.depth := Nat.min_le_right _ _; omega) ⟨.bl _, H, I, rfl, q.here r rfl⟩
    · cases e
end
end Hv

set_option Elab.async false
set_option linter.all false
set_option maxRecDepth 100000
set_option maxHeartbeats 4000000
namespace Hv
open PySem L2
section
variable {X : Cx}
/-- int(x) of a number or a truth -/
def oInt1 : Cl := fun as h => match as with
  | [.int i] => some (.int i, h)
  | [.bl b] => some (.int (if b then 1 else 0), h)
  | _ => none
theorem cl_int : ClD X (.type "int") oInt1 := by
  intro pins s σ H xs us Q I rv h
  obtain ⟨ms, hb, as, d, h', r, pa, e, q⟩ := h
  unfold oInt1 at e
  split at e
  · obtain ⟨v, rfl, p⟩ := rps1 pa
    simp only [Rp] at p
    subst p
    cases e
    exact call_int1 pins s σ H _ us Q I rv (.inl ⟨_, rfl, q.here r rfl⟩)
  · obtain ⟨v, rfl, p⟩ := rps1 pa
    simp only [Rp] at p
    subst p
    cases e
    exact call_int1 pins s σ H _ us Q I rv (.inr ⟨_, rfl, q.here r rfl⟩)
  · cases e
end
end Hv

/-! zip(tuple, tuple) -/
namespace PySem
open Sem (wp)
section
variable {prog : Program} {w : World} {A : Around} {E : Value → Shared → Prop} {s : Shared}
theorem zt_give {p a : Addr} {k : Nat} {us : Array Value} {u : Value} {Q : Value → Shared → Prop} (c : s.heap.IsTupleIter p a k) (t : s.heap.IsTuple a us) (e : us[k]? = some u) (q : ∀ g, g.IsTupleIter p a (k + 1) → Heap.SameBut p s.heap g → Q u { s with heap := g }) :
    wpAny (model prog w) A (Builtin.SmallTypes.nextOf (.ref p)) Q E s := by
  obtain ⟨oc, c1, c2, c3⟩ := id c
  obtain ⟨ot, t1, _, nt, t2⟩ := t
  unfold Builtin.SmallTypes.nextOf
  refine wpAny_bind (wpAny_callSpecial?_slot (name := Str.ofString "__next__") c.typeIs F.slot_tuple_iterator_next (wpAny_call_entry F.slot_tuple_iterator_next c.typeIs F.entry_tuple_iterator_next ?_ (F.args_tuple_iterator_next_1 _)))
  show wpAny _ _ (field (.ref p) 0 >>= _) _ _ s
  refine wpAny_bind (wpAny_field c1 c3 (x := .ref a) rfl ?_)
  show wpAny _ _ (if (Value.ref a == Value.none) = true then _ else _) _ _ s
  rw [if_neg (show ¬ ((Value.ref a == Value.none) = true) from Bool.false_ne_true)]
  show wpAny _ _ (field (.ref p) 1 >>= _) _ _ s
  refine wpAny_bind (wpAny_field c1 c3 (x := .int k 0) rfl ?_)
  show wpAny _ _ (seqItems? (.ref a) >>= _) _ _ s
  refine wpAny_bind (wpAny_seqItems t1 t2 ?_)
  simp only [Int.toNat_natCast, e]
  refine wpAny_bind (wpAny_setField c1 c3 (by simp) (wpAny_pure ⟨u, rfl, wpAny_pure (q _ ?_ (Heap.SameBut.update ..))⟩))
  exact ⟨_, Heap.get?_update_self _ c1 (Obj.isFreed_of_fields (Obj.data_mapFields c3 _)), (Obj.cls_mapFields ..).trans c2, by rw [Obj.data_mapFields c3]; simp [rawInt]⟩
theorem zt_stop {p a : Addr} {k : Nat} {us : Array Value} {Q : Value → Shared → Prop} (hn : A.handled = none) (c : s.heap.IsTupleIter p a k) (t : s.heap.IsTuple a us) (e : us[k]? = none) (q : ∀ g x, Heap.ExtBut p s.heap g → (∃ o, g.get? x = some o ∧ o.cls = .type "StopIteration") → E (.ref x) { s with heap := g }) :
    wpAny (model prog w) A (Builtin.SmallTypes.nextOf (.ref p)) Q E s := by
  obtain ⟨oc, c1, c2, c3⟩ := id c
  obtain ⟨ot, t1, _, nt, t2⟩ := t
  unfold Builtin.SmallTypes.nextOf
  refine wpAny_bind (wpAny_callSpecial?_slot (name := Str.ofString "__next__") c.typeIs F.slot_tuple_iterator_next (wpAny_call_entry F.slot_tuple_iterator_next c.typeIs F.entry_tuple_iterator_next ?_ (F.args_tuple_iterator_next_1 _)))
  show wpAny _ _ (field (.ref p) 0 >>= _) _ _ s
  refine wpAny_bind (wpAny_field c1 c3 (x := .ref a) rfl ?_)
  show wpAny _ _ (if (Value.ref a == Value.none) = true then _ else _) _ _ s
  rw [if_neg (show ¬ ((Value.ref a == Value.none) = true) from Bool.false_ne_true)]
  show wpAny _ _ (field (.ref p) 1 >>= _) _ _ s
  refine wpAny_bind (wpAny_field c1 c3 (x := .int k 0) rfl ?_)
  show wpAny _ _ (seqItems? (.ref a) >>= _) _ _ s
  refine wpAny_bind (wpAny_seqItems t1 t2 ?_)
  simp only [Int.toNat_natCast, e]
  refine wpAny_bind (wpAny_rule (wpAny_bind (wpAny_setField c1 c3 (by simp) ?_)))
  refine wpAny_bind (m := newExc (.type "StopIteration") []) ?_
  simp only [newTuple, newExc]
  refine wpAny_bind (wpAny_newObj_type ?_ (by size_fits)); refine wpAny_bind (m := firstArgMember _ _) (wpAny_of_eq (a := Value.none) (by first | rfl | (simp only [firstArgMember]; rfl)) ?_)
  refine wpAny_newObj_type ?_ (by size_fits); simp only [raiseNew]; refine wpAny_bind (wpAny_handled ?_)
  first | rw [hn] | rw [show A.in1.handled = none from hn]
  refine wpAny_bind (wpAny_pure (wpAny_throw (q _ _ (((Heap.SameBut.update ..).extBut.push _).push _) ⟨_, Heap.get?_push_size _ rfl, rfl⟩)))

theorem zt_next {Z U W p q a b : Addr} {i j : Nat} {us vs : Array Value} {u v c d : Value} {Q : Value → Shared → Prop} (D : ZipApart Z U W p q a b)
    (z : IsZip s.heap Z U W .none) (hu : IsPair s.heap U (.ref p) (.ref q)) (hw : IsPair s.heap W c d) (x1 : s.heap.IsTupleIter p a i) (x2 : s.heap.IsTupleIter q b j) (y1 : s.heap.IsTuple a us) (y2 : s.heap.IsTuple b vs) (e1 : us[i]? = some u) (e2 : vs[j]? = some v)
    (k : ∀ g, IsZip g Z U W (rawInt s.heap.objs.size) → IsPair g W u v → g.IsTupleIter p a (i + 1) → g.IsTupleIter q b (j + 1) → IsPair g s.heap.objs.size u v → g.objs.size = s.heap.objs.size + 1 →
      (∀ x o, x ≠ Z → x ≠ W → x ≠ p → x ≠ q → s.heap.get? x = some o → g.get? x = some o) → Q (.ref s.heap.objs.size) { s with heap := g }) :
    wpAny (model prog w) A (Builtin.«zip.__next__» ⟨[.ref Z], []⟩) (fun fin s' => ∃ v, fin = .done (.ret v) ∧ Q v s') E s := by
  refine wpAny_bind (m := field (.ref Z) 2) (wpAny_field z rfl (x := .bool false) rfl ?_)
  refine wpAny_bind (m := field (.ref Z) 3) (wpAny_field z rfl (x := .ref U) rfl ?_)
  refine wpAny_bind (wpAny_seqItems hu rfl ?_)
  refine wpAny_bind (m := Builtin.SmallTypes.ownedTupleIsFree (.ref Z)) ?_
  unfold Builtin.SmallTypes.ownedTupleIsFree; refine wpAny_bind (wpAny_field z rfl (x := .none) rfl (wpAny_pure ?_))
  simp only [if_true]
  refine wpAny_bind (wpAny_rule ?_)
  refine wpAny_bind (wpAny_field z rfl (x := .ref W) rfl ?_)
  refine wpAny_bind (wpAny_setField_rec z (by simp) fun g1 z1 f1 => ?_)
  replace z1 : IsZip g1 Z U W .ellipsis := z1
  refine wpAny_bind ?_
  simp only [List.forIn_cons, List.forIn_nil, List.zipIdx_cons, List.zipIdx_nil]
  refine wpAny_bind (wpAny_bind (wpAny_onRaise ?_))
  refine wpAny_bind (m := Builtin.SmallTypes.nextOf (.ref p)) (zt_give (x1.extBut f1.extBut D.i1z) (y1.extBut f1.extBut D.l1z) e1 fun g2 x3 f2 => wpAny_pure ?_)
  have w2 : IsPair g2 W c d := f2.extBut _ _ D.TOi1 (f1.extBut _ _ D.TOz hw)
  refine wpAny_bind (wpAny_seqItems w2 rfl ?_)
  refine wpAny_bind (wpAny_updateSeq_pair w2 fun g3 w3 f3 => ?_)
  replace w3 : IsPair g3 W u d := w3
  refine wpAny_bind (wpAny_letGo (wpAny_pure ?_)); refine wpAny_bind (wpAny_bind (wpAny_onRaise ?_))
  refine wpAny_bind (m := Builtin.SmallTypes.nextOf (.ref q)) (zt_give (((x2.extBut f1.extBut D.i2z).extBut f2.extBut D.i12.symm).extBut f3.extBut D.TOi2.symm) (((y2.extBut f1.extBut D.l2z).extBut f2.extBut D.l2i1).extBut f3.extBut D.l2TO) e2 fun g4 x4 f4 => wpAny_pure ?_)
  have w4 : IsPair g4 W u d := f4.extBut _ _ D.TOi2 w3
  refine wpAny_bind (wpAny_seqItems w4 rfl ?_)
  refine wpAny_bind (wpAny_updateSeq_pair w4 fun g5 w5 f5 => ?_)
  replace w5 : IsPair g5 W u v := w5
  refine wpAny_bind (wpAny_letGo (wpAny_pure (wpAny_pure ?_))); refine wpAny_bind (wpAny_seqItems w5 rfl ?_); refine wpAny_bind (wpAny_newTuple ?_)
  have sz : g5.objs.size = s.heap.objs.size := by rw [f5.1, f4.1, f3.1, f2.1, f1.1]
  have z5 : IsZip g5 Z U W .ellipsis := f5.extBut _ _ D.TOz.symm (f4.extBut _ _ D.i2z.symm (f3.extBut _ _ D.TOz.symm (f2.extBut _ _ D.i1z.symm z1)))
  have k5 : ∀ x o, x ≠ Z → x ≠ W → x ≠ p → x ≠ q → s.heap.get? x = some o → g5.get? x = some o := fun x o n1 n2 n3 n4 y => f5.extBut _ _ n2 (f4.extBut _ _ n4 (f3.extBut _ _ n2 (f2.extBut _ _ n3 (f1.extBut _ _ n1 y))))
  have x5 : g5.IsTupleIter p a (i + 1) := ((x3.extBut f3.extBut D.TOi1.symm).extBut f4.extBut D.i12).extBut f5.extBut D.TOi1.symm
  have x6 : g5.IsTupleIter q b (j + 1) := x4.extBut f5.extBut D.TOi2.symm
  refine wpAny_bind (m := Builtin.SmallTypes.ownedTupleHandOut (.ref Z) (.ref g5.objs.size)) ?_
  unfold Builtin.SmallTypes.ownedTupleHandOut; refine wpAny_bind (wpAny_setField_rec (Heap.get?_push_of_some _ z5 : IsZip (g5.push { cls := .type "tuple", data := .seq #[u, v] }) Z U W .ellipsis) (by simp) fun g7 z7 f7 => ?_)
  replace z7 : IsZip g7 Z U W (rawInt g5.objs.size) := z7
  refine wpAny_setField_rec z7 (by simp) fun g8 z8 f8 => ?_
  replace z8 : IsZip g8 Z U W (rawInt g5.objs.size) := z8
  have up : ∀ x o, x ≠ Z → g5.get? x = some o → g8.get? x = some o := fun x o n y => f8.extBut _ _ n (f7.extBut _ _ n (Heap.get?_push_of_some _ y))
  have zl : Z < g5.objs.size := Heap.lt_size z5
  have t8 : IsPair g8 g5.objs.size u v := f8.extBut _ _ (Nat.ne_of_gt zl) (f7.extBut _ _ (Nat.ne_of_gt zl) (Heap.get?_push_size _ rfl))
  have s8 : g8.objs.size = g5.objs.size + 1 := by rw [f8.1, f7.1, Heap.size_push]
  rw [sz] at z8 t8 s8
  refine wpAny_pure ⟨_, rfl, ?_⟩
  show Q (.ref g5.objs.size) _
  rw [sz]
  obtain ⟨o5, p5, r5⟩ := x5
  obtain ⟨o6, p6, r6⟩ := x6
  exact k g8 z8 (up _ _ D.TOz w5) ⟨o5, up _ _ D.i1z p5, r5⟩ ⟨o6, up _ _ D.i2z p6, r6⟩ t8 s8 fun x o n1 n2 n3 n4 y => up x o n1 (k5 x o n1 n2 n3 n4 y)
theorem zt_end {Z U W p q a b : Addr} {i j : Nat} {us vs : Array Value} {c d : Value} {Q : Fin → Shared → Prop} (hn : A.handled = none) (D : ZipApart Z U W p q a b)
    (z : IsZip s.heap Z U W .none) (hu : IsPair s.heap U (.ref p) (.ref q)) (hw : IsPair s.heap W c d) (x1 : s.heap.IsTupleIter p a i) (x2 : s.heap.IsTupleIter q b j) (y1 : s.heap.IsTuple a us) (y2 : s.heap.IsTuple b vs) (e : us[i]? = none ∨ vs[j]? = none)
    (k : ∀ g x, (∀ x o, x ≠ Z → x ≠ W → x ≠ p → x ≠ q → s.heap.get? x = some o → g.get? x = some o) → (∃ o, g.get? x = some o ∧ o.cls = .type "StopIteration") → E (.ref x) { s with heap := g }) :
    wpAny (model prog w) A (Builtin.«zip.__next__» ⟨[.ref Z], []⟩) Q E s := by
  refine wpAny_bind (m := field (.ref Z) 2) (wpAny_field z rfl (x := .bool false) rfl ?_)
  refine wpAny_bind (m := field (.ref Z) 3) (wpAny_field z rfl (x := .ref U) rfl ?_)
  refine wpAny_bind (wpAny_seqItems hu rfl ?_)
  refine wpAny_bind (m := Builtin.SmallTypes.ownedTupleIsFree (.ref Z)) ?_
  unfold Builtin.SmallTypes.ownedTupleIsFree; refine wpAny_bind (wpAny_field z rfl (x := .none) rfl (wpAny_pure ?_))
  simp only [if_true]
  refine wpAny_bind (wpAny_rule ?_)
  refine wpAny_bind (wpAny_field z rfl (x := .ref W) rfl ?_)
  refine wpAny_bind (wpAny_setField_rec z (by simp) fun g1 z1 f1 => ?_)
  replace z1 : IsZip g1 Z U W .ellipsis := z1
  refine wpAny_bind ?_
  simp only [List.forIn_cons, List.forIn_nil, List.zipIdx_cons, List.zipIdx_nil]
  refine wpAny_bind (wpAny_bind (wpAny_onRaise ?_))
  cases e1 : us[i]? with
  | none =>
    refine wpAny_bind (m := Builtin.SmallTypes.nextOf (.ref p)) (zt_stop hn (x1.extBut f1.extBut D.i1z) (y1.extBut f1.extBut D.l1z) e1 fun g2 x f2 ⟨o, o1, o2⟩ => ?_)
    have z2 : IsZip g2 Z U W .ellipsis := f2 _ _ D.i1z.symm z1
    have n : x ≠ Z := fun y => by subst y; rw [z2] at o1; cases o1; simp at o2
    exact wpAny_setField_rec z2 (by simp) fun g3 _ f3 => k g3 x (fun y o n1 _ n3 _ r => f3.extBut _ _ n1 (f2 _ _ n3 (f1.extBut _ _ n1 r))) ⟨o, f3.extBut _ _ n o1, o2⟩
  | some u =>
    have e2 : vs[j]? = none := e.resolve_left (by rw [e1]; simp)
    refine wpAny_bind (m := Builtin.SmallTypes.nextOf (.ref p)) (zt_give (x1.extBut f1.extBut D.i1z) (y1.extBut f1.extBut D.l1z) e1 fun g2 x3 f2 => wpAny_pure ?_)
    have w2 : IsPair g2 W c d := f2.extBut _ _ D.TOi1 (f1.extBut _ _ D.TOz hw)
    refine wpAny_bind (wpAny_seqItems w2 rfl ?_)
    refine wpAny_bind (wpAny_updateSeq_pair w2 fun g3 w3 f3 => ?_)
    refine wpAny_bind (wpAny_letGo (wpAny_pure ?_)); refine wpAny_bind (wpAny_bind (wpAny_onRaise ?_))
    refine wpAny_bind (m := Builtin.SmallTypes.nextOf (.ref q)) (zt_stop hn (((x2.extBut f1.extBut D.i2z).extBut f2.extBut D.i12.symm).extBut f3.extBut D.TOi2.symm) (((y2.extBut f1.extBut D.l2z).extBut f2.extBut D.l2i1).extBut f3.extBut D.l2TO) e2 fun g4 x f4 ⟨o, o1, o2⟩ => ?_)
    have z4 : IsZip g4 Z U W .ellipsis := f4 _ _ D.i2z.symm (f3.extBut _ _ D.TOz.symm (f2.extBut _ _ D.i1z.symm z1))
    have n : x ≠ Z := fun y => by subst y; rw [z4] at o1; cases o1; simp at o2
    exact wpAny_setField_rec z4 (by simp) fun g5 _ f5 => k g5 x (fun y o n1 n2 n3 n4 r => f5.extBut _ _ n1 (f4 _ _ n4 (f3.extBut _ _ n2 (f2.extBut _ _ n3 (f1.extBut _ _ n1 r))))) ⟨o, f5.extBut _ _ n o1, o2⟩
theorem zt_pyNext {Z U W p q a b : Addr} {i j : Nat} {us vs : Array Value} {u v c d : Value} {Q : Option Value → Shared → Prop} (D : ZipApart Z U W p q a b)
    (z : IsZip s.heap Z U W .none) (hu : IsPair s.heap U (.ref p) (.ref q)) (hw : IsPair s.heap W c d) (x1 : s.heap.IsTupleIter p a i) (x2 : s.heap.IsTupleIter q b j) (y1 : s.heap.IsTuple a us) (y2 : s.heap.IsTuple b vs) (e1 : us[i]? = some u) (e2 : vs[j]? = some v)
    (k : ∀ g, IsZip g Z U W (rawInt s.heap.objs.size) → IsPair g W u v → g.IsTupleIter p a (i + 1) → g.IsTupleIter q b (j + 1) → IsPair g s.heap.objs.size u v → g.objs.size = s.heap.objs.size + 1 →
      (∀ x o, x ≠ Z → x ≠ W → x ≠ p → x ≠ q → s.heap.get? x = some o → g.get? x = some o) → Q (some (.ref s.heap.objs.size)) { s with heap := g }) :
    wpAny (model prog w) A (pyNext (.ref Z)) Q E s := by
  have t : s.TypeIs (.ref Z) "zip" := ⟨_, z, rfl⟩
  unfold pyNext
  exact wpAny_bind (wpAny_attempt (wpAny_callSpecial?_slot (name := Str.ofString "__next__") t F.slot_zip_next (wpAny_call_entry F.slot_zip_next t F.entry_zip_next (zt_next D z hu hw x1 x2 y1 y2 e1 e2 fun g r1 r2 r3 r4 r5 r6 r7 => wpAny_pure (k g r1 r2 r3 r4 r5 r6 r7)) (F.args_zip_next_1 _))))
theorem zt_pyEnd {Z U W p q a b : Addr} {i j : Nat} {us vs : Array Value} {c d : Value} {Q : Option Value → Shared → Prop} (hn : A.handled = none) (D : ZipApart Z U W p q a b)
    (z : IsZip s.heap Z U W .none) (hu : IsPair s.heap U (.ref p) (.ref q)) (hw : IsPair s.heap W c d) (x1 : s.heap.IsTupleIter p a i) (x2 : s.heap.IsTupleIter q b j) (y1 : s.heap.IsTuple a us) (y2 : s.heap.IsTuple b vs) (e : us[i]? = none ∨ vs[j]? = none)
    (k : ∀ g, (∀ x o, x ≠ Z → x ≠ W → x ≠ p → x ≠ q → s.heap.get? x = some o → g.get? x = some o) → Q none { s with heap := g }) : wpAny (model prog w) A (pyNext (.ref Z)) Q E s := by
  have t : s.TypeIs (.ref Z) "zip" := ⟨_, z, rfl⟩
  unfold pyNext
  refine wpAny_bind (wpAny_attempt (wpAny_callSpecial?_slot (name := Str.ofString "__next__") t F.slot_zip_next (wpAny_call_entry F.slot_zip_next t F.entry_zip_next (zt_end hn D z hu hw x1 x2 y1 y2 e fun g x r1 ⟨o, r2, r3⟩ => ?_) (F.args_zip_next_1 _))))
  exact wpAny_bind (wpAny_isInstance (T := "StopIteration") (b := true) ⟨o, r2, r3⟩ isSubtype_stop (wpAny_pure (k _ r1)))
abbrev ztI (x : Addr) : Obj := { cls := .type "tuple_iterator", data := .fields #[.ref x, .int 0 0] }
abbrev ztG2 (h : Heap) (a b : Addr) : Heap := (h.push (ztI a)).push (ztI b)
abbrev ztG3 (h : Heap) (a b : Addr) : Heap := (ztG2 h a b).push { cls := .type "tuple", data := .seq #[.ref h.objs.size, .ref (h.push (ztI a)).objs.size] }
abbrev ztG4 (h : Heap) (a b : Addr) : Heap := (ztG3 h a b).push { cls := .type "tuple", data := .seq #[.none, .none] }
abbrev ztG5 (h : Heap) (a b : Addr) : Heap := (ztG4 h a b).push { cls := .type "zip", data := .fields #[.none, .bool false, .bool false, .ref (ztG2 h a b).objs.size, .ref (ztG3 h a b).objs.size] }
theorem zt_new (a b : Addr) (us vs : Array Value) :
    Meets (Builtin.«zip.__new__» ⟨[.type "zip", .ref a, .ref b], []⟩) (fun _ R s => s.heap.IsTuple a us ∧ s.heap.IsTuple b vs ∧ R (.ok (.ret (.ref (ztG4 s.heap a b).objs.size))) { s with heap := ztG5 s.heap a b }) :=
  .of_wp fun prog w A R s k => by
    obtain ⟨hp, g, d, tk, os⟩ := s
    obtain ⟨y1, y2, k⟩ := k
    have hsub := sub_zip
    have r1 : Heap.IsTuple (Shared.heap ⟨hp, g, d, tk, os⟩) a us := y1
    have r2 : Heap.IsTuple (Shared.heap ⟨hp.push (ztI a), g, d, tk, os⟩) b vs := Heap.IsTuple.push y2 _
    wp_walk using wpAny_pyIter_tuple r1, wpAny_pyIter_tuple r2
    exact ⟨_, rfl, k⟩
theorem zt_call {a b : Addr} {us vs : Array Value} {Q : Value → Shared → Prop} (y1 : s.heap.IsTuple a us) (y2 : s.heap.IsTuple b vs)
    (k : ∀ g, IsZip g (s.heap.objs.size + 4) (s.heap.objs.size + 2) (s.heap.objs.size + 3) .none → IsPair g (s.heap.objs.size + 2) (.ref s.heap.objs.size) (.ref (s.heap.objs.size + 1)) →
      IsPair g (s.heap.objs.size + 3) .none .none → g.IsTupleIter s.heap.objs.size a 0 → g.IsTupleIter (s.heap.objs.size + 1) b 0 → g.objs.size = s.heap.objs.size + 5 →
      (∀ x o, s.heap.get? x = some o → g.get? x = some o) → Q (.ref (s.heap.objs.size + 4)) { s with heap := g }) :
    wpAny (model prog w) A (call (.type "zip") [.ref a, .ref b]) Q E s := by
  refine callType_new F.called_zip (by decide) (F.typeCall_zip_2 _ _) (F.newCall_zip_2 _ _) (fun obj => F.args_object_init_3 obj _ _) F.entry_zip_new (zt_new a b us vs) ⟨y1, y2, ?_⟩
  have n1 : (s.heap.push (ztI a)).objs.size = s.heap.objs.size + 1 := Heap.size_push ..
  have n2 : (ztG2 s.heap a b).objs.size = s.heap.objs.size + 2 := by rw [Heap.size_push, n1]
  have n3 : (ztG3 s.heap a b).objs.size = s.heap.objs.size + 3 := by rw [Heap.size_push, n2]
  have n4 : (ztG4 s.heap a b).objs.size = s.heap.objs.size + 4 := by rw [Heap.size_push, n3]
  have n5 : (ztG5 s.heap a b).objs.size = s.heap.objs.size + 5 := by rw [Heap.size_push, n4]
  have m5 : (ztG5 s.heap a b).get? (ztG4 s.heap a b).objs.size = some _ := Heap.get?_push_size _ rfl
  have m4 : (ztG5 s.heap a b).get? (ztG3 s.heap a b).objs.size = some _ := Heap.get?_push_of_some _ (Heap.get?_push_size _ rfl)
  have m3 : (ztG5 s.heap a b).get? (ztG2 s.heap a b).objs.size = some _ := Heap.get?_push_of_some _ (Heap.get?_push_of_some _ (Heap.get?_push_size _ rfl))
  have m2 : (ztG5 s.heap a b).get? (s.heap.push (ztI a)).objs.size = some _ := Heap.get?_push_of_some _ (Heap.get?_push_of_some _ (Heap.get?_push_of_some _ (Heap.get?_push_size _ rfl)))
  have m1 : (ztG5 s.heap a b).get? s.heap.objs.size = some _ := Heap.get?_push_of_some _ (Heap.get?_push_of_some _ (Heap.get?_push_of_some _ (Heap.get?_push_of_some _ (Heap.get?_push_size _ rfl))))
  show _ ∧ _
  rw [n2, n3, n4] at m5
  rw [n1, n2] at m3
  rw [n3] at m4
  rw [n1] at m2
  rw [n4]
  exact ⟨⟨_, m5, rfl⟩, k _ m5 m3 m4 ⟨_, m1, rfl, rfl⟩ ⟨_, m2, rfl, rfl⟩ n5 fun x o y => Heap.get?_push_of_some _ (Heap.get?_push_of_some _ (Heap.get?_push_of_some _ (Heap.get?_push_of_some _ (Heap.get?_push_of_some _ y))))⟩
end
end PySem

set_option Elab.async false
set_option linter.all false
set_option maxRecDepth 100000
set_option maxHeartbeats 4000000
namespace Hv
open PySem PySem.Spec PyProof.Rows L2
/-- the tuples at a and b, their items in new pairs -/
def Jzt (K : PySem.W.Frag) (a b : Addr) : It :=
  ⟨fun i H => ∃ (us vs : List V) (u v : V), SqT K H a us ∧ SqT K H b vs ∧ us[i]? = some u ∧ vs[i]? = some v,
    fun i H r H' => ∃ p u v, r = .ref p ∧ H p = none ∧ H' = upd H p (.tup [u, v]) ∧ (∀ us, SqT K H a us → us[i]? = some u) ∧ ∀ vs, SqT K H b vs → vs[i]? = some v,
    fun i H => ∃ us vs : List V, SqT K H a us ∧ SqT K H b vs ∧ (us.length ≤ i ∨ vs.length ≤ i)⟩
theorem turn_zt {P : Program} {w : World} {K : PySem.W.Frag} {elts : List Expr} {kk : Nat} {tpos : Pos} {a b Z U W p q : Addr} (D : ZipApart Z U W p q a b) :
    Turn P w K (.Tuple elts kk tpos) (Jzt K a b) [Z, U, W, p, q] Z (fun i h => IsZip h Z U W .none ∧ IsPair h U (.ref p) (.ref q) ∧ (∃ c d, IsPair h W c d) ∧ h.IsTupleIter p a i ∧ h.IsTupleIter q b i) where
  mem := by simp
  obj := fun i h st c hc => by
    obtain ⟨z, u, ⟨x, y, v⟩, ⟨o1, e1, _, d1⟩, ⟨o2, e2, _, d2⟩⟩ := st
    simp only [List.mem_cons, List.not_mem_nil, or_false] at hc
    rcases hc with rfl | rfl | rfl | rfl | rfl
    · exact ⟨_, z, fun v q => nomatch q⟩
    · exact ⟨_, u, fun v q => nomatch q⟩
    · exact ⟨_, v, fun v q => nomatch q⟩
    · exact ⟨o1, e1, fun v q => by rw [d1] at q; cases q⟩
    · exact ⟨o2, e2, fun v q => by rw [d2] at q; cases q⟩
  keep := fun i h h' st k => by
    obtain ⟨z, u, ⟨x, y, v⟩, ⟨o1, e1, r1⟩, ⟨o2, e2, r2⟩⟩ := st
    exact ⟨k Z (by simp) _ z, k U (by simp) _ u, ⟨x, y, k W (by simp) _ v⟩, ⟨o1, k p (by simp) _ e1, r1⟩, ⟨o2, k q (by simp) _ e2, r2⟩⟩
  item := by
    intro X hP hw hK hc i pins s σ H E I hf st hg
    subst hP hw hK
    obtain ⟨z, u, ⟨x0, y0, v⟩, x1, x2⟩ := st
    obtain ⟨us, vs, x, y, qx, qy, ex, ey⟩ := hg
    obtain ⟨i1, r1, t1, _⟩ := I.tuple qx
    obtain ⟨i2, r2, t2, _⟩ := I.tuple qy
    obtain ⟨m1, f1, w1⟩ := r1.get ex
    obtain ⟨m2, f2, w2⟩ := r2.get ey
    have zl : Z < s.heap.objs.size := Heap.lt_size z
    refine zt_pyNext D z u v x1 x2 t1 t2 (u := m1) (v := m2) (by simpa using f1) (by simpa using f2) fun g z' v' c1 c2 hT _ hk => ?_
    refine ⟨_, rfl, wpAny_letOwnedTupleGo_zip (s := { s with heap := g }) z' fun g2 z2 sb => ?_⟩
    have hT2 : g2.get? s.heap.objs.size = some { cls := .type "tuple", data := .seq #[m1, m2] } := (sb.2 _ (Nat.ne_of_gt zl)).trans hT
    have new : ObjOk X.prog X.w (upd H s.heap.objs.size (.tup [x, y])) g2 s.heap.objs.size (.tup [x, y]) := ⟨by show 2 ≤ sizeLine; decide, [m1, m2], .cons w1 (.cons w2 .nil), ⟨_, hT2, rfl, _, rfl⟩⟩
    have I1 : Inv X pins σ (upd H s.heap.objs.size (.tup [x, y])) { s with heap := g2 } :=
      I.turnedNew (t' := s.toks) (ch := [Z, U, W, p, q]) (fun c o hb e => by
        simp only [List.mem_cons, List.not_mem_nil, or_false, not_or] at hb
        exact (sb.2 c hb.1).trans (hk c o hb.1 hb.2.2.1 hb.2.2.2.1 hb.2.2.2.2 e)) hf (Nat.le_refl _) new
    obtain ⟨o1, e1, g1⟩ := c1
    obtain ⟨o2, e2, g3⟩ := c2
    refine ⟨.ref s.heap.objs.size, _, I1, rfl, ⟨_, x, y, rfl, I.hok.fresh (Nat.le_refl _), rfl, fun l hl => by rw [I.tuple_inj hl qx]; exact ex, fun l hl => by rw [I.tuple_inj hl qy]; exact ey⟩, ⟨z2, (sb.2 _ D.TIz).trans (hk _ _ D.TIz D.TITO D.TIi1 D.TIi2 u), ⟨m1, m2, (sb.2 _ D.TOz).trans v'⟩, ⟨o1, (sb.2 _ D.i1z).trans e1, g1⟩, ⟨o2, (sb.2 _ D.i2z).trans e2, g3⟩⟩, fun c hm => ?_⟩
    have lt : c < s.heap.objs.size := by
      obtain ⟨_, j1, _⟩ := x1
      obtain ⟨_, j2, _⟩ := x2
      have hm2 := hm
      simp only [List.mem_cons, List.not_mem_nil, or_false] at hm2
      rcases hm2 with rfl | rfl | rfl | rfl | rfl
      · exact zl
      · exact Heap.lt_size u
      · exact Heap.lt_size v
      · exact Heap.lt_size j1
      · exact Heap.lt_size j2
    rw [upd_ne (Nat.ne_of_lt lt)]
    exact (hf c hm).1
  done := by
    intro X hP hw hK hc i pins s σ H E I hf st hg
    subst hP hw hK
    obtain ⟨z, u, ⟨x0, y0, v⟩, x1, x2⟩ := st
    obtain ⟨us, vs, qx, qy, he⟩ := hg
    obtain ⟨i1, r1, t1, _⟩ := I.tuple qx
    obtain ⟨i2, r2, t2, _⟩ := I.tuple qy
    have l1 := r1.length
    have l2 := r2.length
    refine zt_pyEnd (I.ok.hd hc) D z u v x1 x2 t1 t2 ?_ fun g hk => ⟨rfl, I.turnedL (t' := s.toks) (ch := [Z, U, W, p, q]) (fun c o hb e => by
        simp only [List.mem_cons, List.not_mem_nil, or_false, not_or] at hb
        exact hk c o hb.1 hb.2.2.1 hb.2.2.2.1 hb.2.2.2.2 e) hf⟩
    rcases he with r | r
    · exact .inl (by simp; omega)
    · exact .inr (by simp; omega)
  self := fun A i s Q E st h => wpAny_pyIter_zip st.1 h
def iZT (K : PySem.W.Frag) (ta : TA) : TI := fun σ H R => ta σ H fun vs H1 => ∃ a b xs ys, vs = [.ref a, .ref b] ∧ SqT K H1 a xs ∧ SqT K H1 b ys ∧ R (Jzt K a b) H1
theorem pi_zt {X : Cx} {e e2 : Expr} {ta : TA} {p pos tpos : Pos} {elts : List Expr} {kk : Nat} (hg : Gl X "zip") (hm : X.mg "zip" = none) (ha : PA X [e, e2] ta) (hs : starEach [e, e2] X.env = (false, eval e X.env) :: starEach [e2] X.env := by rfl) (hpl : (backTo pos (starEach [e2] X.env)).any (·.1) = false := by rfl) :
    PI X (.Tuple elts kk tpos) (.Call (.Name "zip" p) [e, e2] [] pos) (iZT X.K ta) := by
  intro pins s σ H R I h
  refine Call_ (ld_blt I hg hm boot_zip5 (PyProof.Rows.callWith_type1 (thn (ha pos pins s σ H _ I h) fun us s1 ⟨vs, H1, I1, r1, a, b, xs, ys, ex, hx, hy, k⟩ => ?_) hs hpl))
  subst ex
  cases r1 with
  | cons r rr =>
    cases rr with
    | cons r' rr =>
      cases rr
      cases r
      cases r'
      obtain ⟨i1, w1, t1, _⟩ := I1.tuple hx
      obtain ⟨i2, w2, t2, _⟩ := I1.tuple hy
      refine zt_call t1 t2 fun g z u v c1 c2 _ hk => wpAny_pyIter_zip z ?_
      refine ⟨s1.heap.objs.size + 4, [s1.heap.objs.size + 4, s1.heap.objs.size + 2, s1.heap.objs.size + 3, s1.heap.objs.size, s1.heap.objs.size + 1], _, _, H1, rfl, I1.kept (t' := s1.toks) hk, turn_zt (PySem.W.ktu_apart s1.heap.objs.size a b t1.lt t2.lt), ⟨z, u, ⟨_, _, v⟩, c1, c2⟩, fun c hc => ?_, k⟩
      have le : s1.heap.objs.size ≤ c := by
        simp only [List.mem_cons, List.not_mem_nil, or_false] at hc
        rcases hc with rfl | rfl | rfl | rfl | rfl <;> first | exact Nat.le_add_right _ _ | exact Nat.le_refl _
      exact I1.fpOk le (I1.hok.fresh le)
def iZpT (as : An) : In := fun ρ h => bnd (as ρ h) fun xs h1 => match xs with
  | [.tup us, .tup vs] => some ((zipD us vs, fun _ => True), h1)
  | _ => none
theorem tups_at {K : PySem.W.Frag} {H0 : Hp} {ms0 : List Addr} {h0 : Hb} {v : V} {xs : List D} (hr : HRp K H0 ms0 h0) (p : Rp K H0 ms0 (.tup xs) v) :
    ∃ a, v = .ref a ∧ (∃ us, SqT K H0 a us) ∧ ∀ H ms h, Ext H0 ms0 H ms → HRp K H ms h → ∃ vs, SqT K H a vs ∧ Rps K H ms xs vs := by
  have p0 := p
  simp only [Rp] at p
  obtain ⟨a, vs, rfl, sq, rr⟩ := p
  refine ⟨a, rfl, ⟨vs, sq⟩, fun H ms h x r => ?_⟩
  have p1 := p0.ext hr x
  simp only [Rp] at p1
  obtain ⟨a', vs', ea, sq', rr'⟩ := p1
  cases ea
  exact ⟨vs', sq', rr'⟩
section
variable {X : Cx}
theorem ji_zipT {e e2 : Expr} {as : An} {p pos tpos : Pos} {elts : List Expr} {kk : Nat} (hm : X.mg "zip" = none) (ja : JA X [e, e2] as) (hg : Gl X "zip" := by rfl) (hs : starEach [e, e2] X.env = (false, eval e X.env) :: starEach [e2] X.env := by rfl) (hpl : (backTo pos (starEach [e2] X.env)).any (·.1) = false := by rfl) :
    JI X (.Tuple elts kk tpos) (.Call (.Name "zip" p) [e, e2] [] pos) (iZpT as) := by
  refine .of (pi_zt hg hm ja.pa hs hpl) fun σ H R h => ?_
  obtain ⟨ρ, ms, hb, it, h', ok, e, q⟩ := h
  obtain ⟨xs, h1, e1, e⟩ := of_bnd e
  refine ⟨ρ, ms, hb, xs, h1, ok, e1, fun vs H1 ms1 x1 r1 p1 => ?_⟩
  split at e
  · rename_i us ws
    cases e
    obtain ⟨v, w, rfl, pv, pw⟩ := rps2 p1
    obtain ⟨pa, rfl, ⟨ua, sa⟩, fa⟩ := tups_at r1 pv
    obtain ⟨pb, rfl, ⟨ub, sb⟩, fb⟩ := tups_at r1 pw
    refine ⟨pa, pb, ua, ub, rfl, sa, sb, q _ H1 ms1 x1 r1 ⟨?_, ?_, ?_⟩⟩
    · intro i H ms h x r hok hi
      obtain ⟨va, s1, t1⟩ := fa H ms h x r
      obtain ⟨vb, s2, t2⟩ := fb H ms h x r
      rw [zipD_length] at hi
      have l1 := t1.length
      have l2 := t2.length
      exact ⟨va, vb, va[i]'(by omega), vb[i]'(by omega), s1, s2, by simp, by simp⟩
    · intro i H ms h v H' d x r hok hd y
      obtain ⟨va, s1, t1⟩ := fa H ms h x r
      obtain ⟨vb, s2, t2⟩ := fb H ms h x r
      obtain ⟨xa, xb, g1, g2, rfl⟩ := zipD_get hd
      obtain ⟨T, y1, y2, rfl, hT, rfl, k1, k2⟩ := y
      obtain ⟨z1, g3, p3⟩ := t1.get g1
      obtain ⟨z2, g4, p4⟩ := t2.get g2
      have f1' := Option.some.inj (g3.symm.trans (k1 va s1))
      have f2' := Option.some.inj (g4.symm.trans (k2 vb s2))
      subst f1' f2'
      refine ⟨.laid r hT, r.laid hT, ?_⟩
      simp only [Rp]
      refine ⟨T, [z1, z2], rfl, SqT.of upd_same, ?_⟩
      simp only [Rps]
      exact ⟨z1, [z2], rfl, p3.ext r (.laid r hT), z2, [], rfl, p4.ext r (.laid r hT), rfl⟩
    · intro i H ms h x r hok hi
      obtain ⟨va, s1, t1⟩ := fa H ms h x r
      obtain ⟨vb, s2, t2⟩ := fb H ms h x r
      rw [zipD_length] at hi
      refine ⟨va, vb, s1, s2, ?_⟩
      rw [← t1.length, ← t2.length]
      omega
  · cases e
end
end Hv

set_option Elab.async false
set_option linter.all false
set_option maxRecDepth 100000
set_option maxHeartbeats 4000000
namespace Hv
open PySem PySem.Spec PyProof.Rows L2
/-! [f, g][k](..): a function out of a list of two -/
theorem HRp.no {K : PySem.W.Frag} {H : Hp} {ms : List Addr} {h : Hb} {l : Addr} (r : HRp K H ms h) (n : H l = none) : l ∉ ms := fun hm => by
  obtain ⟨i, hi, e⟩ := List.getElem_of_mem hm
  have hl := r.len
  have hh : i < h.length := by omega
  obtain ⟨q, o, k, vs, e1, e2, _⟩ := r.at_ i h[i] (List.getElem?_eq_getElem hh)
  rw [List.getElem?_eq_getElem hi, e] at e1
  cases e1
  rw [n] at e2
  cases e2
section
variable {X : Cx}
end
end Hv

set_option Elab.async false
set_option linter.all false
set_option maxRecDepth 100000
set_option maxHeartbeats 4000000
namespace C
open PySem L2 Hv
noncomputable def b_point : Sn :=
  (sSeq (whD (tAn (tCm oGt (dVar 1) (dC (.int 0))) (tCm oEq (dBin oAnd (dVar 0) (dC (.int 1))) (dC (.int 0)))) (sSeq (sAug 0 oShr (dC (.int 1)))
  (sAug 1 oSub (dC (.int 1)))))
  (sRet (dTup (aCons (dVar 0) (aCons (dVar 1) aNil)))))
noncomputable def d_point : Cl := runD 2 b_point
noncomputable def b_before : Sn :=
  (sRet (dBin oLt (dBin oShl (dBin oIx (dVar 0) (dC (.int 0))) (dBin oIx (dVar 1) (dC (.int 1)))) (dBin oShl (dBin oIx (dVar 1) (dC (.int 0))) (dBin oIx (dVar 0) (dC (.int 1))))))
noncomputable def d_before : Cl := runD 2 b_before
noncomputable def b_between : Sn :=
  (sRet (dCall d_point (aCons (dBin oAdd (dBin oShl (dBin oIx (dVar 0) (dC (.int 0))) (dBin oIx (dVar 1) (dC (.int 1)))) (dBin oShl (dBin oIx (dVar 1) (dC (.int 0))) (dBin oIx (dVar 0) (dC (.int 1))))) (aCons (dBin oAdd (dBin oAdd (dBin oIx (dVar 0) (dC (.int 1))) (dBin oIx (dVar 1) (dC (.int 1)))) (dC (.int 1))) aNil))))
noncomputable def d_between : Cl := runD 2 b_between
noncomputable def b_law_cell_at : Sn :=
  (sSeq (sIf (tCm oLt (dVar 1) (dCall oLen (aCons (dVar 0) aNil))) (sRet (dBin oIx (dVar 0) (dVar 1))) sNx)
  (sRet (dC (.int 0))))
noncomputable def d_law_cell_at : Cl := runD 2 b_law_cell_at
noncomputable def b_law_mixed : Sn :=
  (sSeq (sAsg (dBin oMod (dBin oAdd (dBin oAdd (dBin oMul (dBin oMod (dVar 0) (dC (.int 2147483647))) (dC (.int 48271))) (dBin oMul (dC (.int 7919)) (dVar 1))) (dC (.int 5))) (dC (.int 2147483647))) (gNm 2))
  (sSeq (sAsg (dBin oAdd (dBin oMul (dBin oMod (dBin oMul (dVar 2) (dVar 2)) (dC (.int 2147483629))) (dC (.int 31481))) (dC (.int 16807))) (gNm 2))
  (sRet (dBin oMod (dBin oMul (dVar 2) (dVar 2)) (dC (.int 2147483587))))))
noncomputable def d_law_mixed : Cl := runD 3 b_law_mixed
noncomputable def b_law_numbers : Sn :=
  (sSeq (sAsg (dCall d_law_cell_at (aCons (dVar 0) (aCons (dVar 1) aNil))) (gNm 3))
  (sSeq (sAsg (dC (.int 0)) (gNm 4))
  (sSeq (sIf (tCm oGe (dVar 3) (dBin oPow (dC (.int 10)) (dC (.int 18)))) (sAsg (dVar 3) (gNm 4)) sNx)
  (sSeq (sAsg (dLst aNil) (gNm 5))
  (sSeq (whD (tAn (tCm oGt (dVar 4) (dC (.int 0))) (tCm oLt (dCall oLen (aCons (dVar 5) aNil)) (dVar 2))) (sSeq (sEx (dM (mL mAppend) (dVar 5) (aCons (dBin oMod (dVar 4) (dC (.int 1000))) aNil)))
  (sAsg (dBin oDiv (dVar 4) (dC (.int 1000))) (gNm 4))))
  (sSeq (sFor (iRg (aCons (dCall oLen (aCons (dVar 5) aNil)) (aCons (dVar 2) aNil))) (gNm 6) (sSeq (sAsg (dCall d_law_cell_at (aCons (dVar 0) (aCons (dBin oMod (dBin oAdd (dBin oAdd (dVar 1) (dC (.int 1))) (dVar 6)) (dCall oMax (aCons (dC (.int 1)) (aCons (dCall oLen (aCons (dVar 0) aNil)) aNil)))) aNil))) (gNm 7))
  (sEx (dM (mL mAppend) (dVar 5) (aCons (dCall d_law_mixed (aCons (dBin oAdd (dBin oAdd (dVar 3) (dBin oMul (dC (.int 31)) (dVar 7))) (dBin oMul (dC (.int 1009)) (dVar 1))) (aCons (dVar 6) aNil))) aNil)))))
  (sRet (dVar 5))))))))
noncomputable def d_law_numbers : Cl := runD 8 b_law_numbers
noncomputable def b_law_whole : Sn :=
  (sRet (dAndT (dCall oIsi (aCons (dVar 0) (aCons (dC (.ty "int")) aNil))) (dUn oNot (dCall oIsi (aCons (dVar 0) (aCons (dC (.ty "bool")) aNil))))))
noncomputable def d_law_whole : Cl := runD 1 b_law_whole
noncomputable def b_law_lowest : Sn :=
  (sSeq (whD (tAn (tCm oGt (dVar 1) (dC (.int 0))) (tCm oEq (dBin oMod (dVar 0) (dC (.int 2))) (dC (.int 0)))) (sSeq (sAsg (dBin oDiv (dVar 0) (dC (.int 2))) (gNm 0))
  (sAsg (dBin oSub (dVar 1) (dC (.int 1))) (gNm 1))))
  (sRet (dTup (aCons (dVar 0) (aCons (dVar 1) aNil)))))
noncomputable def d_law_lowest : Cl := runD 2 b_law_lowest
noncomputable def b_law_is_point : Sn :=
  (sRet (dAndT (dCall oIsi (aCons (dVar 0) (aCons (dC (.ty "tuple")) aNil))) (dAndT (dBin oEq (dCall oLen (aCons (dVar 0) aNil)) (dC (.int 2))) (dAndT (dCall d_law_whole (aCons (dBin oIx (dVar 0) (dC (.int 0))) aNil)) (dCall d_law_whole (aCons (dBin oIx (dVar 0) (dC (.int 1))) aNil))))))
noncomputable def d_law_is_point : Cl := runD 1 b_law_is_point
noncomputable def b_law_pair : Sn :=
  (sSeq (sAsg (dBin oMod (dBin oIx (dVar 0) (dC (.int 0))) (dBin oAdd (dVar 1) (dC (.int 1)))) (gNm 2))
  (sSeq (sAsg (dC (.int 0)) (gNm 3))
  (sSeq (sFor (iAny (dSlL (dVar 0) (oSo (dC (.int 2))) oNo)) (gNm 4) (sAsg (dBin oAdd (dBin oMul (dVar 3) (dC (.int 1000))) (dVar 4)) (gNm 3)))
  (sSeq (sAsg (dBin oMod (dVar 3) (dBin oAdd (dBin oShl (dC (.int 1)) (dVar 2)) (dC (.int 1)))) (gNm 3))
  (sSeq (sIf (tCm oEq (dBin oMod (dBin oIx (dVar 0) (dC (.int 1))) (dC (.int 2))) (dC (.int 1))) (sSeq (sAsg (dBin oMod (dBin oDiv (dBin oIx (dVar 0) (dC (.int 1))) (dC (.int 2))) (dBin oAdd (dVar 2) (dC (.int 1)))) (gNm 5))
  (sAsg (dBin oShl (dBin oShr (dVar 3) (dVar 5)) (dVar 5)) (gNm 3))) sNx)
  (sRet (dTup (aCons (dVar 3) (aCons (dVar 2) aNil)))))))))
noncomputable def d_law_pair : Cl := runD 6 b_law_pair
noncomputable def b_law_other : Sn :=
  (sSeq (sAsg (dVar 0) (gTp (gsCons (gNm 3) (gsCons (gNm 4) gsNil))))
  (sSeq (sIf (tCm oEq (dBin oMod (dVar 2) (dC (.int 4))) (dC (.int 0))) (sRet (dVar 0)) sNx)
  (sSeq (sIf (tAn (tCm oEq (dBin oMod (dVar 2) (dC (.int 4))) (dC (.int 1))) (tCm oLe (dBin oAdd (dVar 3) (dC (.int 1))) (dBin oShl (dC (.int 1)) (dVar 4)))) (sRet (dTup (aCons (dBin oAdd (dVar 3) (dC (.int 1))) (aCons (dVar 4) aNil)))) sNx)
  (sSeq (sIf (tCm oEq (dBin oMod (dVar 2) (dC (.int 4))) (dC (.int 1))) (sRet (dTup (aCons (dBin oSub (dVar 3) (dC (.int 1))) (aCons (dVar 4) aNil)))) sNx)
  (sRet (dVar 1))))))
noncomputable def d_law_other : Cl := runD 5 b_law_other
noncomputable def b_law_told : Sn :=
  (sSeq (sAsg (dCall d_point (aCons (dVar 0) (aCons (dVar 1) aNil))) (gNm 2))
  (sRet (dAndT (dCall d_law_is_point (aCons (dVar 2) aNil)) (dBin oEq (dVar 2) (dCall d_law_lowest (aCons (dVar 0) (aCons (dVar 1) aNil)))))))
noncomputable def d_law_told : Cl := runD 3 b_law_told
noncomputable def b_law_halfway : Sn :=
  (sSeq (sAsg (dCall d_between (aCons (dVar 0) (aCons (dVar 1) aNil))) (gNm 2))
  (sSeq (sAsg (dCall d_law_lowest (aCons (dBin oAdd (dBin oShl (dBin oIx (dVar 0) (dC (.int 0))) (dBin oIx (dVar 1) (dC (.int 1)))) (dBin oShl (dBin oIx (dVar 1) (dC (.int 0))) (dBin oIx (dVar 0) (dC (.int 1))))) (aCons (dBin oAdd (dBin oAdd (dBin oIx (dVar 0) (dC (.int 1))) (dBin oIx (dVar 1) (dC (.int 1)))) (dC (.int 1))) aNil))) (gNm 3))
  (sRet (dAndT (dCall d_law_is_point (aCons (dVar 2) aNil)) (dBin oEq (dVar 2) (dVar 3))))))
noncomputable def d_law_halfway : Cl := runD 4 b_law_halfway
noncomputable def b_law_order : Sn :=
  (sSeq (sAsg (dCall d_before (aCons (dVar 0) (aCons (dVar 1) aNil))) (gNm 2))
  (sRet (dAndT (dCall oIsi (aCons (dVar 2) (aCons (dC (.ty "bool")) aNil))) (dBin oEq (dVar 2) (dBin oLt (dBin oShl (dBin oIx (dVar 0) (dC (.int 0))) (dBin oIx (dVar 1) (dC (.int 1)))) (dBin oShl (dBin oIx (dVar 1) (dC (.int 0))) (dBin oIx (dVar 0) (dC (.int 1)))))))))
noncomputable def d_law_order : Cl := runD 3 b_law_order
noncomputable def b_law : Sn :=
  (sSeq (sAsg (dCall d_law_numbers (aCons (dVar 0) (aCons (dC (.int 0)) (aCons (dC (.int 3)) aNil)))) (gNm 1))
  (sSeq (sAsg (dCall d_law_pair (aCons (dCall d_law_numbers (aCons (dVar 0) (aCons (dC (.int 1)) (aCons (dC (.int 14)) aNil)))) (aCons (dC (.int 100)) aNil))) (gNm 2))
  (sSeq (sAsg (dCall d_law_other (aCons (dVar 2) (aCons (dCall d_law_pair (aCons (dCall d_law_numbers (aCons (dVar 0) (aCons (dC (.int 2)) (aCons (dC (.int 14)) aNil)))) (aCons (dC (.int 100)) aNil))) (aCons (dBin oIx (dVar 1) (dC (.int 0))) aNil)))) (gNm 3))
  (sSeq (sAsg (dCall d_law_pair (aCons (dCall d_law_numbers (aCons (dVar 0) (aCons (dC (.int 3)) (aCons (dC (.int 36)) aNil)))) (aCons (dC (.int 300)) aNil))) (gTp (gsCons (gNm 4) (gsCons (gNm 5) gsNil))))
  (sSeq (sIf (tOr' (tNt (tT (dCall d_law_told (aCons (dVar 4) (aCons (dVar 5) aNil))))) (tOr' (tNt (tT (dCall d_law_told (aCons (dBin oIx (dVar 2) (dC (.int 0))) (aCons (dBin oIx (dVar 2) (dC (.int 1))) aNil))))) (tNt (tT (dCall d_law_told (aCons (dBin oIx (dVar 3) (dC (.int 0))) (aCons (dBin oIx (dVar 3) (dC (.int 1))) aNil))))))) (sRet (dC (.bl false))) sNx)
  (sSeq (sAsg (dBin oMod (dBin oIx (dVar 1) (dC (.int 1))) (dC (.int 201))) (gNm 6))
  (sSeq (sIf (tOr' (tNt (tT (dCall d_law_told (aCons (dBin oShl (dBin oIx (dVar 2) (dC (.int 0))) (dVar 6)) (aCons (dBin oAdd (dBin oIx (dVar 2) (dC (.int 1))) (dVar 6)) aNil))))) (tNt (tT (dCall d_law_told (aCons (dBin oShl (dBin oIx (dVar 3) (dC (.int 0))) (dVar 6)) (aCons (dBin oAdd (dBin oIx (dVar 3) (dC (.int 1))) (dVar 6)) aNil)))))) (sRet (dC (.bl false))) sNx)
  (sSeq (sAsg (dCall d_law_lowest (aCons (dBin oIx (dVar 2) (dC (.int 0))) (aCons (dBin oIx (dVar 2) (dC (.int 1))) aNil))) (gNm 7))
  (sSeq (sAsg (dCall d_law_lowest (aCons (dBin oIx (dVar 3) (dC (.int 0))) (aCons (dBin oIx (dVar 3) (dC (.int 1))) aNil))) (gNm 8))
  (sSeq (sFor (iAny (dLst (aCons (dTup (aCons (dVar 7) (aCons (dVar 8) aNil))) (aCons (dTup (aCons (dVar 8) (aCons (dVar 7) aNil))) (aCons (dTup (aCons (dVar 7) (aCons (dVar 7) aNil))) (aCons (dTup (aCons (dVar 8) (aCons (dVar 8) aNil))) (aCons (dTup (aCons (dVar 7) (aCons (dVar 8) aNil))) aNil))))))) (gTp (gsCons (gNm 9) (gsCons (gNm 10) gsNil))) (sIf (tOr' (tNt (tT (dCall d_law_halfway (aCons (dVar 9) (aCons (dVar 10) aNil))))) (tNt (tT (dCall d_law_order (aCons (dVar 9) (aCons (dVar 10) aNil)))))) (sRet (dC (.bl false))) sNx))
  (sRet (dAndT (dCall d_law_told (aCons (dVar 4) (aCons (dVar 5) aNil))) (dCall d_law_told (aCons (dBin oIx (dVar 2) (dC (.int 0))) (aCons (dBin oIx (dVar 2) (dC (.int 1))) aNil)))))))))))))))
noncomputable def d_law : Cl := runD 11 b_law
noncomputable def b_stretches : Sn :=
  (sSeq (sAsg (dLst aNil) (gNm 1))
  (sSeq (sAsg (dLst (aCons (dTup (aCons (dVar 0) (aCons (dC (.int 0)) (aCons (dC (.int 0)) aNil)))) aNil)) (gNm 2))
  (sSeq (whD (tT (dVar 2)) (sSeq (sAsg (dM (mL mPop) (dVar 2) aNil) (gTp (gsCons (gNm 3) (gsCons (gNm 4) (gsCons (gNm 5) gsNil)))))
  (sIf (tCm oEq (dVar 3) (dTup aNil)) (sEx (dM (mL mAppend) (dVar 1) (aCons (dTup (aCons (dVar 4) (aCons (dVar 5) aNil))) aNil))) (sSeq (sAsg (dVar 3) (gTp (gsCons (gNm 6) (gsCons (gNm 7) gsNil))))
  (sSeq (sEx (dM (mL mAppend) (dVar 2) (aCons (dTup (aCons (dVar 7) (aCons (dBin oAdd (dBin oMul (dC (.int 2)) (dVar 4)) (dC (.int 1))) (aCons (dBin oAdd (dVar 5) (dC (.int 1))) aNil)))) aNil)))
  (sEx (dM (mL mAppend) (dVar 2) (aCons (dTup (aCons (dVar 6) (aCons (dBin oMul (dC (.int 2)) (dVar 4)) (aCons (dBin oAdd (dVar 5) (dC (.int 1))) aNil)))) aNil))))))))
  (sRet (dVar 1)))))
noncomputable def d_stretches : Cl := runD 8 b_stretches
end C

set_option Elab.async false
set_option linter.all false
set_option maxRecDepth 100000
set_option maxHeartbeats 4000000
namespace Hv
open PySem L2
/-! ### rules for loops -/
theorem forD_nil {ok : Hb → Prop} {g : Gn} {b : Sn} {ρ : En} {h : Hb} (k : ok h) : forD ok g b [] ρ h = some (.nx ρ, h) := by unfold forD; rw [if_pos k]
theorem forD_step {ok : Hb → Prop} {g : Gn} {b : Sn} {x : D} {r : List D} {ρ ρ1 ρ2 : En} {h h1 h2 : Hb} (k : ok h) (e1 : g x ρ h = some (ρ1, h1)) (e2 : b ρ1 h1 = some (.nx ρ2, h2)) : forD ok g b (x :: r) ρ h = forD ok g b r ρ2 h2 := by
  rw [forD, if_pos k, e1, bnd_some, e2, bnd_some]
theorem whD_stop {c : Tn} {b : Sn} {ρ : En} {h h1 : Hb} (e : c ρ h = some (false, h1)) : whD c b ρ h = some (.nx ρ, h1) := by rw [whD]; simp only [e]
theorem whD_step {c : Tn} {b : Sn} {ρ ρ2 : En} {h h1 h2 : Hb} (e : c ρ h = some (true, h1)) (e2 : b ρ h1 = some (.nx ρ2, h2)) : whD c b ρ h = whD c b ρ2 h2 := by
  rw [whD]; simp only [e, e2]
theorem rgOk_nat {n : Nat} (hn : n ≤ 1000000) : rgOk ((n : Nat) : Int) = true :=
  decide_eq_true ⟨Int.le_trans (by decide) (Int.natCast_nonneg n), Int.lt_of_le_of_lt (Int.ofNat_le.mpr hn) (by decide)⟩
theorem iRg_one {as : An} {ρ : En} {h h1 : Hb} {j : Nat} (e : as ρ h = some ([.int (j : Nat)], h1)) (hj : j ≤ 1000000) : iRg as ρ h = some ((rangeD 0 j, fun _ => True), h1) := by
  unfold iRg; rw [e, bnd_some]
  show (if rgOk ((j : Nat) : Int) = true then _ else _) = _
  rw [if_pos (rgOk_nat hj), Int.toNat_natCast]
theorem iRg_two {as : An} {ρ : En} {h h1 : Hb} {i j : Nat} (e : as ρ h = some ([.int (i : Nat), .int (j : Nat)], h1)) (hi : i ≤ 1000000) (hj : j ≤ 1000000) : iRg as ρ h = some ((rangeD (i : Nat) (j - i), fun _ => True), h1) := by
  unfold iRg; rw [e, bnd_some]
  show (if rgOk ((i : Nat) : Int) = true ∧ rgOk ((j : Nat) : Int) = true then _ else _) = _
  rw [if_pos ⟨rgOk_nat hi, rgOk_nat hj⟩, show (((j : Nat) : Int) - ((i : Nat) : Int)).toNat = j - i by omega]
/-! ### ints -/
theorem oEq_int (i j : Int) (h : Hb) : oEq (.int i) (.int j) h = some (.bl (i == j), h) := id rfl
theorem oNe_int (i j : Int) (h : Hb) : oNe (.int i) (.int j) h = some (.bl (!(i == j)), h) := id rfl
theorem oEq_bl (i j : Bool) (h : Hb) : oEq (.bl i) (.bl j) h = some (.bl (i == j), h) := id rfl
theorem oAdd_int (i j : Int) (h : Hb) : oAdd (.int i) (.int j) h = some (.int (i + j), h) := id rfl
theorem oSub_int (i j : Int) (h : Hb) : oSub (.int i) (.int j) h = some (.int (i - j), h) := id rfl
theorem oMul_int {i j : Int} (c : i.natAbs < 2 ^ 64 ∨ j.natAbs < 2 ^ 64) (h : Hb) : oMul (.int i) (.int j) h = some (.int (i * j), h) := by
  show (if _ then _ else _) = _; rw [if_pos c]
theorem oMod_int {i j : Int} (c : 0 < j) (h : Hb) : oMod (.int i) (.int j) h = some (.int (i % j), h) := by
  show ((if _ then _ else _ : Option Int).map _) = _; rw [if_pos c]; rfl
theorem oDiv_big {i j : Int} (c : 0 < j ∧ j.natAbs.log2 < 9000) (h : Hb) : oDiv (.int i) (.int j) h = some (.int (i / j), h) := by
  show ((if _ then _ else _ : Option Int).map _) = _; rw [if_pos c]; rfl
theorem oDiv_int {i j : Int} (c : 0 < j ∧ j < 1073741824) (h : Hb) : oDiv (.int i) (.int j) h = some (.int (i / j), h) :=
  oDiv_big ⟨c.1, Nat.lt_trans ((Nat.log2_lt (k := 30) (by omega)).mpr (by omega)) (by decide)⟩ h
theorem oShl_int {i j : Int} (c : shlOk i j) (h : Hb) : oShl (.int i) (.int j) h = some (.int (i * 2 ^ j.toNat), h) := by
  show ((if _ then _ else _ : Option Int).map _) = _; rw [if_pos c]; rfl
theorem oShr_int {i j : Int} (c : 0 ≤ j) (h : Hb) : oShr (.int i) (.int j) h = some (.int (i / 2 ^ j.toNat), h) := by
  show ((if _ then _ else _ : Option Int).map _) = _; rw [if_pos c]; rfl
theorem oPow_int {i j : Int} (c : 0 ≤ j ∧ j ≤ 1000000 ∧ i.natAbs < 2 ^ 64) (h : Hb) : oPow (.int i) (.int j) h = some (.int (i ^ j.toNat), h) := by
  show ((if _ then _ else _ : Option Int).map _) = _; rw [if_pos c]; rfl
theorem oAnd_int (i j : Int) (h : Hb) : oAnd (.int i) (.int j) h = some (.int (Builtin.bitAnd i j), h) := id rfl
theorem oLt_int (i j : Int) (h : Hb) : oLt (.int i) (.int j) h = some (.bl (decide (i < j)), h) := id rfl
theorem oLe_int (i j : Int) (h : Hb) : oLe (.int i) (.int j) h = some (.bl (decide (i ≤ j)), h) := id rfl
theorem oGt_int (i j : Int) (h : Hb) : oGt (.int i) (.int j) h = some (.bl (decide (j < i)), h) := id rfl
theorem oGe_int (i j : Int) (h : Hb) : oGe (.int i) (.int j) h = some (.bl (decide (j ≤ i)), h) := id rfl
theorem oIx_tup {ds : List D} {i : Int} {d : D} (e : atI ds i = some d) (h : Hb) : oIx (.tup ds) (.int i) h = some (d, h) := by
  show ((some ds).bind _).map _ = _
  simp only [Option.bind_some, e]; rfl
theorem oIx_rol {ds : List D} {i : Int} {d : D} (e : atI ds i = some d) (h : Hb) : oIx (.rol ds) (.int i) h = some (d, h) := by
  show ((some ds).bind _).map _ = _
  simp only [Option.bind_some, e]; rfl
theorem oIx_lst {n : Nat} {ds : List D} {i : Int} {d : D} {h : Hb} (e0 : h[n]? = some ds) (e : atI ds i = some d) : oIx (.lst n) (.int i) h = some (d, h) := by
  show ((h[n]?).bind _).map _ = _
  simp only [e0, Option.bind_some, e]; rfl
theorem intBits_le {i : Int} {k : Nat} (h : i.natAbs < 2 ^ k) : Builtin.Int.intBits i ≤ k := by
  unfold Builtin.Int.intBits
  split
  · exact Nat.zero_le _
  · rename_i hz
    have h0 : i.natAbs ≠ 0 := by
      intro z
      exact hz (by simpa using Int.natAbs_eq_zero.mp z)
    have := (Nat.log2_lt h0).mpr h
    omega
theorem shlOk_of {i j : Int} {k : Nat} (h0 : 0 ≤ j) (h1 : j ≤ 1000000) (h : i.natAbs < 2 ^ k) (hk : k ≤ 1000000) : shlOk i j := ⟨h0, h1, Nat.le_trans (intBits_le h) hk⟩
end Hv
namespace C
open PySem L2 Hv
/-! ### points with the least depth -/
def low : Int → Nat → Int × Nat
  | n, 0 => (n, 0)
  | n, d + 1 => if n % 2 = 0 then low (n / 2) d else (n, d + 1)
def ptD (p : Int × Nat) : D := .tup [.int p.1, .int (p.2 : Nat)]
theorem two_toNat : (2 : Int) ^ (1 : Int).toNat = 2 := by decide
theorem point_run (h : Hb) : ∀ (d : Nat) (n : Int), whD (tAn (tCm oGt (dVar 1) (dC (.int 0))) (tCm oEq (dBin oAnd (dVar 0) (dC (.int 1))) (dC (.int 0)))) (sSeq (sAug 0 oShr (dC (.int 1)))
  (sAug 1 oSub (dC (.int 1)))) [some (.int n), some (.int (d : Nat))] h = some (.nx [some (.int (low n d).1), some (.int ((low n d).2 : Nat))], h)
  | 0, n => by
    rw [whD_stop (h1 := h)]
    · rfl
    · simp [tAn, tCm, dBin, dVar, dC, bnd, oGt_int, toB]
  | d + 1, n => by
    have hp : (0 : Int) < ((d + 1 : Nat) : Int) := by omega
    have hd : ((d + 1 : Nat) : Int) - 1 = (d : Nat) := by omega
    by_cases e : n % 2 = 0
    · rw [whD_step (h1 := h) (ρ2 := [some (.int (n / 2)), some (.int (d : Nat))]) (h2 := h)]
      · rw [point_run h d (n / 2)]
        simp only [low, e, if_true]
      · simp only [tAn, tCm, dBin, dVar, dC, bnd, oGt_int, toB, List.getElem?_cons_succ, List.getElem?_cons_zero, Option.map_some, hp, decide_true, if_true, oAnd_int, PyProof.Rows.bitAnd_m1, e, oEq_int]
        rfl
      · simp only [sSeq, sAug, dC, bnd, List.getElem?_cons_succ, List.getElem?_cons_zero, oShr_int (show (0 : Int) ≤ 1 by decide), two_toNat, List.set_cons_zero, List.set_cons_succ, oSub_int, hd]
    · rw [whD_stop (h1 := h)]
      · simp only [low, e, if_false]
      · simp only [tAn, tCm, dBin, dVar, dC, bnd, oGt_int, toB, List.getElem?_cons_succ, List.getElem?_cons_zero, Option.map_some, hp, decide_true, if_true, oAnd_int, PyProof.Rows.bitAnd_m1, oEq_int]
        simp [e]
theorem d_point_eq (n : Int) (d : Nat) (h : Hb) : d_point [.int n, .int (d : Nat)] h = some (ptD (low n d), h) := by
  show runD 2 b_point _ h = _
  unfold runD b_point
  simp only [List.map_cons, List.map_nil, List.length_cons, List.length_nil, List.cons_append, List.nil_append, Nat.sub_self, List.replicate_zero, sSeq]
  rw [point_run h d n]
  rfl
theorem lowest_run (h : Hb) : ∀ (d : Nat) (n : Int), whD (tAn (tCm oGt (dVar 1) (dC (.int 0))) (tCm oEq (dBin oMod (dVar 0) (dC (.int 2))) (dC (.int 0)))) (sSeq (sAsg (dBin oDiv (dVar 0) (dC (.int 2))) (gNm 0))
  (sAsg (dBin oSub (dVar 1) (dC (.int 1))) (gNm 1))) [some (.int n), some (.int (d : Nat))] h = some (.nx [some (.int (low n d).1), some (.int ((low n d).2 : Nat))], h)
  | 0, n => by
    rw [whD_stop (h1 := h)]
    · rfl
    · simp [tAn, tCm, dBin, dVar, dC, bnd, oGt_int, toB]
  | d + 1, n => by
    have hp : (0 : Int) < ((d + 1 : Nat) : Int) := by omega
    have hd : ((d + 1 : Nat) : Int) - 1 = (d : Nat) := by omega
    by_cases e : n % 2 = 0
    · rw [whD_step (h1 := h) (ρ2 := [some (.int (n / 2)), some (.int (d : Nat))]) (h2 := h)]
      · rw [lowest_run h d (n / 2)]
        simp only [low, e, if_true]
      · simp only [tAn, tCm, dBin, dVar, dC, bnd, oGt_int, toB, List.getElem?_cons_succ, List.getElem?_cons_zero, Option.map_some, hp, decide_true, if_true, oMod_int (show (0 : Int) < 2 by decide), e, oEq_int]
        rfl
      · simp only [sSeq, sAsg, gNm, dBin, dVar, dC, bnd, List.getElem?_cons_succ, List.getElem?_cons_zero, oDiv_int (show (0 : Int) < 2 ∧ (2 : Int) < 1073741824 by decide), List.set_cons_zero, List.set_cons_succ, oSub_int, hd]
    · rw [whD_stop (h1 := h)]
      · simp only [low, e, if_false]
      · simp only [tAn, tCm, dBin, dVar, dC, bnd, oGt_int, toB, List.getElem?_cons_succ, List.getElem?_cons_zero, Option.map_some, hp, decide_true, if_true, oMod_int (show (0 : Int) < 2 by decide), oEq_int]
        simp [e]
theorem d_lowest_eq (n : Int) (d : Nat) (h : Hb) : d_law_lowest [.int n, .int (d : Nat)] h = some (ptD (low n d), h) := by
  show runD 2 b_law_lowest _ h = _
  unfold runD b_law_lowest
  simp only [List.map_cons, List.map_nil, List.length_cons, List.length_nil, List.cons_append, List.nil_append, Nat.sub_self, List.replicate_zero, sSeq]
  rw [lowest_run h d n]
  rfl
end C

set_option Elab.async false
set_option linter.all false
set_option maxRecDepth 100000
set_option maxHeartbeats 4000000
namespace Hv
open PySem L2
def finD (r : Option (Fl × Hb)) : Option (D × Hb) := match r with
  | some (.rt d, h') => some (d, h')
  | some (.nx _, h') => some (.non, h')
  | _ => none
theorem runD_fin {n : Nat} {b : Sn} {as : List D} {h : Hb} {ρ : En} (e : as.map some ++ List.replicate (n - as.length) none = ρ) : runD n b as h = finD (b ρ h) := by subst e; rfl
theorem mL_lst {f : Nat → Cl} {n : Nat} {as : List D} {h : Hb} : mL f (.lst n) as h = f n as h := id rfl
theorem finD_rt {d : D} {h : Hb} : finD (some (.rt d, h)) = some (d, h) := id rfl
theorem finD_nx {ρ : En} {h : Hb} : finD (some (.nx ρ, h)) = some (.non, h) := id rfl
theorem sSeq_nx {a b : Sn} {ρ ρ1 : En} {h h1 : Hb} (e : a ρ h = some (.nx ρ1, h1)) : sSeq a b ρ h = b ρ1 h1 := by unfold sSeq; rw [e, bnd_some]
theorem sLine : (1 : Nat) ≤ sizeLine := by decide
theorem sLine2 : (2 : Nat) ≤ sizeLine := by decide
theorem sLine3 : (3 : Nat) ≤ sizeLine := by decide
theorem sLine0 : (0 : Nat) ≤ sizeLine := by decide
theorem size_val : sizeLine = 16777216 := by decide
theorem isi_int_int (i : Int) (h : Hb) : oIsi [.int i, .ty "int"] h = some (.bl true, h) := id rfl
theorem isi_int_bool (i : Int) (h : Hb) : oIsi [.int i, .ty "bool"] h = some (.bl false, h) := id rfl
theorem isi_tup (ds : List D) (h : Hb) : oIsi [.tup ds, .ty "tuple"] h = some (.bl true, h) := id rfl
theorem isi_bl (b : Bool) (h : Hb) : oIsi [.bl b, .ty "bool"] h = some (.bl true, h) := id rfl
theorem isi_lst (n : Nat) (h : Hb) : oIsi [.lst n, .ty "list"] h = some (.bl true, h) := id rfl
theorem len_tup (ds : List D) (h : Hb) : oLen [.tup ds] h = some (.int (ds.length : Nat), h) := id rfl
theorem len_rol (ds : List D) (h : Hb) : oLen [.rol ds] h = some (.int (ds.length : Nat), h) := id rfl
theorem len_lst {n : Nat} {xs : List D} {h : Hb} (e : h[n]? = some xs) : oLen [.lst n] h = some (.int (xs.length : Nat), h) := by
  unfold oLen; simp only [lenD, e]; rfl
theorem app_lst {n : Nat} {xs : List D} {h : Hb} {a : D} (e : h[n]? = some xs) (hl : xs.length < sizeLine) : mAppend n [a] h = some (.non, h.set n (xs ++ [a])) := by
  unfold mAppend; rw [e]; simp only [hl, if_true]
theorem at_last {h : Hb} {xs : List D} : (h ++ [xs])[h.length]? = some xs := by simp
theorem set_last {h : Hb} {xs ys : List D} : (h ++ [xs]).set h.length ys = h ++ [ys] := by
  rw [List.set_append_right _ _ (Nat.le_refl _), Nat.sub_self]; rfl
end Hv
namespace C
open PySem L2 Hv
local macro_rules | `(tactic| walk_at "ev") => `(tactic| (try simp only [sSeq, sAsg, sRet, sIf, sEx, sNx, sAug, gNm, tAn, tOr', tNt, tCm, tT, dBin, dVar, dC, dCall, dTup, dIf, dUn, dM, mL_lst, aCons, aNil, bnd_some, toB, List.getElem?_cons_succ, List.getElem?_cons_zero, List.set_cons_zero, List.set_cons_succ, Option.map_some, finD_rt, finD_nx, oAdd_int, oSub_int, oEq_int, oNe_int, oEq_bl, oLt_int, oLe_int, oGt_int, oGe_int, oAnd_int, isi_int_int, isi_int_bool, isi_tup, isi_bl, isi_lst, len_tup, len_rol, List.length_cons, List.length_nil, Nat.zero_add, Nat.reduceAdd, if_true, if_false, Bool.true_eq_false, Bool.false_eq_true]))
/-! ### the script's cells -/
def cell (ns : List Int) (k : Nat) : Int := ns.getD k 0
theorem atI_ints {ns : List Int} {k : Nat} (hk : k < ns.length) : atI (ns.map D.int) ((k : Nat) : Int) = some (.int (cell ns k)) := by
  refine atI_nat ?_
  rw [List.getElem?_map, List.getElem?_eq_getElem hk]
  simp [cell, hk]
theorem d_cell_eq (ns : List Int) (k : Nat) (h : Hb) : d_law_cell_at [.rol (ns.map D.int), .int (k : Nat)] h = some (.int (cell ns k), h) := by
  unfold d_law_cell_at
  rw [runD_fin (ρ := [some (.rol (ns.map D.int)), some (.int (k : Nat))]) rfl]
  unfold b_law_cell_at
  walk_at "ev"
  by_cases hk : k < ns.length
  · have h1 : decide (((k : Nat) : Int) < (((ns.map D.int).length : Nat) : Int)) = true := by simp; exact hk
    simp only [h1, if_true, oIx_rol (atI_ints hk), bnd_some, finD_rt]
  · have h1 : decide (((k : Nat) : Int) < (((ns.map D.int).length : Nat) : Int)) = false := by simp; omega
    simp only [h1, if_false, Bool.false_eq_true, bnd_some, finD_rt]
    simp [cell, hk]
def mixI (c k : Int) : Int :=
  let n1 := (c % 2147483647 * 48271 + 7919 * k + 5) % 2147483647
  let n2 := n1 * n1 % 2147483629 * 31481 + 16807
  n2 * n2 % 2147483587
theorem mixI_range (c k : Int) : 0 ≤ mixI c k ∧ mixI c k < 2147483587 := by
  unfold mixI
  exact ⟨Int.emod_nonneg _ (by decide), Int.emod_lt_of_pos _ (by decide)⟩
theorem d_mixed_eq (c k : Int) (h : Hb) : d_law_mixed [.int c, .int k] h = some (.int (mixI c k), h) := by
  unfold d_law_mixed
  rw [runD_fin (ρ := [some (.int c), some (.int k), none]) rfl]
  unfold b_law_mixed
  generalize hn1 : (c % 2147483647 * 48271 + 7919 * k + 5) % 2147483647 = n1
  have r1 : 0 ≤ n1 ∧ n1 < 2147483647 := by rw [← hn1]; exact ⟨Int.emod_nonneg _ (by decide), Int.emod_lt_of_pos _ (by decide)⟩
  generalize hn2 : n1 * n1 % 2147483629 * 31481 + 16807 = n2
  have r2 : 0 ≤ n2 ∧ n2 < 67604999999999 := by
    have a1 := Int.emod_nonneg (n1 * n1) (show (2147483629 : Int) ≠ 0 by decide)
    have a2 := Int.emod_lt_of_pos (n1 * n1) (show (0 : Int) < 2147483629 by decide)
    omega
  walk_at "ev"
  simp only [oMod_int (show (0 : Int) < 2147483647 by decide), bnd_some, oMul_int (i := c % 2147483647) (j := 48271) (.inr (by decide)), oMul_int (i := 7919) (j := k) (.inl (by decide)), oAdd_int, hn1]
  walk_at "ev"
  simp only [oMod_int (show (0 : Int) < 2147483629 by decide), bnd_some, oAdd_int, oMul_int (i := n1) (j := n1) (.inl (by omega)), oMul_int (i := n1 * n1 % 2147483629) (j := 31481) (.inr (by decide)), hn2]
  walk_at "ev"
  simp only [oMod_int (show (0 : Int) < 2147483587 by decide), bnd_some, oMul_int (i := n2) (j := n2) (.inl (by omega)), finD_rt]
  simp only [mixI, hn1, hn2]

/-! ### the numbers drawn -/
theorem digits_run (ns : List Int) (a m c : D) (many : Nat) (hm : many ≤ 1000) (p q : Option D) (h : Hb) : ∀ (k : Nat) (rest : Int) (xs : List Int), xs.length + k = many → (∀ x ∈ xs, 0 ≤ x) →
    ∃ (rest' : Int) (ys : List Int), ys.length ≤ many ∧ (∀ x ∈ ys, 0 ≤ x) ∧
    whD (tAn (tCm oGt (dVar 4) (dC (.int 0))) (tCm oLt (dCall oLen (aCons (dVar 5) aNil)) (dVar 2))) (sSeq (sEx (dM (mL mAppend) (dVar 5) (aCons (dBin oMod (dVar 4) (dC (.int 1000))) aNil)))
  (sAsg (dBin oDiv (dVar 4) (dC (.int 1000))) (gNm 4))) [some a, some m, some (.int (many : Nat)), some c, some (.int rest), some (.lst h.length), p, q] (h ++ [xs.map D.int]) =
      some (.nx [some a, some m, some (.int (many : Nat)), some c, some (.int rest'), some (.lst h.length), p, q], h ++ [ys.map D.int])
  | 0, rest, xs, hl, hx => by
    refine ⟨rest, xs, by omega, hx, whD_stop ?_⟩
    walk_at "ev"
    by_cases hr : 0 < rest
    · simp only [hr, decide_true, if_true, len_lst (at_last (h := h)), bnd_some, List.length_map]
      walk_at "ev"
      have : ¬ ((xs.length : Int) < (many : Int)) := by omega
      simp only [this, decide_false]
    · simp only [hr, decide_false, if_false, Bool.false_eq_true]
  | k + 1, rest, xs, hl, hx => by
    by_cases hr : 0 < rest
    · obtain ⟨rest', ys, h1, h2, h3⟩ := digits_run ns a m c many hm p q h k (rest / 1000) (xs ++ [rest % 1000]) (by simp; omega) (by
        intro x hx'
        rcases List.mem_append.mp hx' with z | z
        · exact hx x z
        · simp at z; subst z; exact Int.emod_nonneg _ (by decide))
      refine ⟨rest', ys, h1, h2, ?_⟩
      rw [← h3]
      refine whD_step (h1 := h ++ [xs.map D.int]) ?_ ?_
      · walk_at "ev"
        simp only [hr, decide_true, if_true, len_lst (at_last (h := h)), bnd_some, List.length_map]
        walk_at "ev"
        have : ((xs.length : Int) < (many : Int)) := by omega
        simp only [this, decide_true]
      · walk_at "ev"
        simp only [oMod_int (show (0 : Int) < 1000 by decide), oDiv_int (show (0 : Int) < 1000 ∧ (1000 : Int) < 1073741824 by decide), bnd_some, app_lst (at_last (h := h) (xs := xs.map D.int)) (by rw [List.length_map, size_val]; omega), set_last]
        walk_at "ev"
        simp only [oDiv_int (show (0 : Int) < 1000 ∧ (1000 : Int) < 1073741824 by decide), bnd_some]
        walk_at "ev"
        simp only [List.map_append, List.map_cons, List.map_nil]
    · refine ⟨rest, xs, by omega, hx, whD_stop ?_⟩
      walk_at "ev"
      simp only [hr, decide_false, if_false, Bool.false_eq_true]
theorem rangeD_succ (lo : Int) (n : Nat) : rangeD lo (n + 1) = .int lo :: rangeD (lo + 1) n := by
  unfold rangeD
  rw [List.range_succ_eq_map, List.map_cons, List.map_map]
  congr 1
  · simp
  · apply List.map_congr_left
    intro a _
    show D.int _ = D.int _
    congr 1
    have hs : ((Nat.succ a : Nat) : Int) = (a : Int) + 1 := by omega
    omega
theorem max1 (n : Nat) : ∃ mx : Nat, 0 < mx ∧ ∀ h, oMax [.int 1, .int (n : Nat)] h = some (.int (mx : Nat), h) := by
  refine ⟨if 1 < n then n else 1, by split <;> omega, fun h' => ?_⟩
  show some (D.int (if (1 : Int) < ((n : Nat) : Int) then _ else _), h') = _
  by_cases hc : 1 < n
  · have : (1 : Int) < (n : Int) := by omega
    simp only [this, hc, if_true]
  · have : ¬ (1 : Int) < (n : Int) := by omega
    simp only [this, hc, if_false]; rfl
theorem num_turn (ns : List Int) (at_ many mx : Nat) (hmx0 : 0 < mx) (hmx : ∀ h, oMax [.int 1, .int ((ns.map D.int).length : Nat)] h = some (.int (mx : Nat), h)) (rest : Int) (h : Hb) (ys : List Int) (hl : ys.length < 1000) (r : Option D) :
    (sSeq (sAsg (dCall d_law_cell_at (aCons (dVar 0) (aCons (dBin oMod (dBin oAdd (dBin oAdd (dVar 1) (dC (.int 1))) (dVar 6)) (dCall oMax (aCons (dC (.int 1)) (aCons (dCall oLen (aCons (dVar 0) aNil)) aNil)))) aNil))) (gNm 7))
  (sEx (dM (mL mAppend) (dVar 5) (aCons (dCall d_law_mixed (aCons (dBin oAdd (dBin oAdd (dVar 3) (dBin oMul (dC (.int 31)) (dVar 7))) (dBin oMul (dC (.int 1009)) (dVar 1))) (aCons (dVar 6) aNil))) aNil)))) [some (.rol (ns.map D.int)), some (.int (at_ : Nat)), some (.int (many : Nat)), some (.int (cell ns at_)), some (.int rest), some (.lst h.length), some (.int (ys.length : Nat)), r] (h ++ [ys.map D.int]) =
      some (.nx [some (.rol (ns.map D.int)), some (.int (at_ : Nat)), some (.int (many : Nat)), some (.int (cell ns at_)), some (.int rest), some (.lst h.length), some (.int (ys.length : Nat)), some (.int (cell ns ((at_ + 1 + ys.length) % mx)))], h ++ [(ys ++ [mixI (cell ns at_ + 31 * cell ns ((at_ + 1 + ys.length) % mx) + 1009 * (at_ : Nat)) (ys.length : Nat)]).map D.int]) := by
  have em : ((at_ : Nat) : Int) + 1 + ((ys.length : Nat) : Int) = ((at_ + 1 + ys.length : Nat) : Int) := by omega
  have em2 : ((at_ + 1 + ys.length : Nat) : Int) % ((mx : Nat) : Int) = (((at_ + 1 + ys.length) % mx : Nat) : Int) := by omega
  walk_at "ev"
  simp only [hmx, bnd_some, em, oMod_int (show (0 : Int) < ((mx : Nat) : Int) by omega), em2, d_cell_eq]
  walk_at "ev"
  simp only [oMul_int (i := 31) (j := cell ns ((at_ + 1 + ys.length) % mx)) (.inl (by decide)), oMul_int (i := 1009) (j := ((at_ : Nat) : Int)) (.inl (by decide)), bnd_some, oAdd_int, d_mixed_eq, app_lst (at_last (h := h) (xs := ys.map D.int)) (by rw [List.length_map, size_val]; omega), set_last]
  simp only [List.map_append, List.map_cons, List.map_nil]
theorem num_loop (ns : List Int) (at_ many : Nat) (hm : many ≤ 1000) (rest : Int) (h : Hb) : ∀ (k : Nat) (ys : List Int) (q r : Option D), ys.length + k = many → (∀ x ∈ ys, 0 ≤ x) → ∃ (xs : List Int) (q' r' : Option D), xs.length = many ∧ (∀ x ∈ xs, 0 ≤ x) ∧
    forD (fun _ => True) (gNm 6) (sSeq (sAsg (dCall d_law_cell_at (aCons (dVar 0) (aCons (dBin oMod (dBin oAdd (dBin oAdd (dVar 1) (dC (.int 1))) (dVar 6)) (dCall oMax (aCons (dC (.int 1)) (aCons (dCall oLen (aCons (dVar 0) aNil)) aNil)))) aNil))) (gNm 7))
  (sEx (dM (mL mAppend) (dVar 5) (aCons (dCall d_law_mixed (aCons (dBin oAdd (dBin oAdd (dVar 3) (dBin oMul (dC (.int 31)) (dVar 7))) (dBin oMul (dC (.int 1009)) (dVar 1))) (aCons (dVar 6) aNil))) aNil)))) (rangeD (ys.length : Nat) k) [some (.rol (ns.map D.int)), some (.int (at_ : Nat)), some (.int (many : Nat)), some (.int (cell ns at_)), some (.int rest), some (.lst h.length), q, r] (h ++ [ys.map D.int]) =
      some (.nx [some (.rol (ns.map D.int)), some (.int (at_ : Nat)), some (.int (many : Nat)), some (.int (cell ns at_)), some (.int rest), some (.lst h.length), q', r'], h ++ [xs.map D.int])
  | 0, ys, q, r, hl, hp => ⟨ys, q, r, by omega, hp, forD_nil trivial⟩
  | k + 1, ys, q, r, hl, hp => by
    obtain ⟨mx, hmx0, hmx⟩ := max1 (ns.map D.int).length
    obtain ⟨xs, q', r', a1, a2, a3⟩ := num_loop ns at_ many hm rest h k (ys ++ [mixI (cell ns at_ + 31 * cell ns ((at_ + 1 + ys.length) % mx) + 1009 * (at_ : Nat)) (ys.length : Nat)]) (some (.int (ys.length : Nat))) (some (.int (cell ns ((at_ + 1 + ys.length) % mx)))) (by simp; omega) (by
      intro x hx
      rcases List.mem_append.mp hx with z | z
      · exact hp x z
      · simp only [List.mem_singleton] at z; subst z; exact (mixI_range _ _).1)
    refine ⟨xs, q', r', a1, a2, ?_⟩
    rw [← a3, rangeD_succ]
    have e0 : ((ys.length : Nat) : Int) + 1 = (((ys ++ [mixI (cell ns at_ + 31 * cell ns ((at_ + 1 + ys.length) % mx) + 1009 * (at_ : Nat)) (ys.length : Nat)]).length : Nat) : Int) := by simp
    rw [e0]
    exact forD_step trivial (by simp only [gNm, List.set_cons_succ, List.set_cons_zero]) (num_turn ns at_ many mx hmx0 hmx rest h ys (by omega) r)
theorem num_for (ns : List Int) (at_ many : Nat) (hm : many ≤ 1000) (rest : Int) (h : Hb) (ys : List Int) (hl : ys.length ≤ many) (hp : ∀ x ∈ ys, 0 ≤ x) : ∃ (xs : List Int) (q' r' : Option D), xs.length = many ∧ (∀ x ∈ xs, 0 ≤ x) ∧
    sFor (iRg (aCons (dCall oLen (aCons (dVar 5) aNil)) (aCons (dVar 2) aNil))) (gNm 6) (sSeq (sAsg (dCall d_law_cell_at (aCons (dVar 0) (aCons (dBin oMod (dBin oAdd (dBin oAdd (dVar 1) (dC (.int 1))) (dVar 6)) (dCall oMax (aCons (dC (.int 1)) (aCons (dCall oLen (aCons (dVar 0) aNil)) aNil)))) aNil))) (gNm 7))
  (sEx (dM (mL mAppend) (dVar 5) (aCons (dCall d_law_mixed (aCons (dBin oAdd (dBin oAdd (dVar 3) (dBin oMul (dC (.int 31)) (dVar 7))) (dBin oMul (dC (.int 1009)) (dVar 1))) (aCons (dVar 6) aNil))) aNil)))) [some (.rol (ns.map D.int)), some (.int (at_ : Nat)), some (.int (many : Nat)), some (.int (cell ns at_)), some (.int rest), some (.lst h.length), none, none] (h ++ [ys.map D.int]) =
      some (.nx [some (.rol (ns.map D.int)), some (.int (at_ : Nat)), some (.int (many : Nat)), some (.int (cell ns at_)), some (.int rest), some (.lst h.length), q', r'], h ++ [xs.map D.int]) := by
  obtain ⟨xs, q', r', a1, a2, a3⟩ := num_loop ns at_ many hm rest h (many - ys.length) ys none none (by omega) hp
  refine ⟨xs, q', r', a1, a2, ?_⟩
  have e4 : iRg (aCons (dCall oLen (aCons (dVar 5) aNil)) (aCons (dVar 2) aNil)) [some (.rol (ns.map D.int)), some (.int (at_ : Nat)), some (.int (many : Nat)), some (.int (cell ns at_)), some (.int rest), some (.lst h.length), none, none] (h ++ [ys.map D.int]) = some ((rangeD (ys.length : Nat) (many - ys.length), fun _ => True), h ++ [ys.map D.int]) := by
    refine iRg_two ?_ (by omega) (by omega)
    walk_at "ev"
    simp only [len_lst (at_last (h := h)), bnd_some, List.length_map]
    walk_at "ev"
  unfold sFor
  rw [e4, bnd_some]
  exact a3
theorem num_big (A B C' : Option D) (c : Int) (h : Hb) : ∃ rest, sIf (tCm oGe (dVar 3) (dBin oPow (dC (.int 10)) (dC (.int 18)))) (sAsg (dVar 3) (gNm 4)) sNx [A, B, C', some (.int c), some (.int 0), none, none, none] h = some (.nx [A, B, C', some (.int c), some (.int rest), none, none, none], h) := by
  simp only [sIf, tCm, dBin, dVar, dC, bnd_some, List.getElem?_cons_succ, List.getElem?_cons_zero]
  simp only [oPow_int (i := 10) (j := 18) (by decide), bnd_some, oGe_int]
  by_cases hc : (10 : Int) ^ (18 : Int).toNat ≤ c
  · refine ⟨c, ?_⟩
    simp only [hc, decide_true, if_true, toB, Option.map_some, bnd_some, sAsg, dVar, gNm, List.getElem?_cons_succ, List.getElem?_cons_zero, List.set_cons_succ, List.set_cons_zero]
  · refine ⟨0, ?_⟩
    simp only [hc, decide_false, if_false, Bool.false_eq_true, toB, Option.map_some, bnd_some, sNx]
theorem d_numbers_eq (ns : List Int) (at_ many : Nat) (hm : many ≤ 1000) (h : Hb) : ∃ xs : List Int, xs.length = many ∧ (∀ x ∈ xs, 0 ≤ x) ∧
    d_law_numbers [.rol (ns.map D.int), .int (at_ : Nat), .int (many : Nat)] h = some (.lst h.length, h ++ [xs.map D.int]) := by
  obtain ⟨rest, f3⟩ := num_big (some (.rol (ns.map D.int))) (some (.int (at_ : Nat))) (some (.int (many : Nat))) (cell ns at_) h
  obtain ⟨rest', ys, l1, p1, e1⟩ := digits_run ns (.rol (ns.map D.int)) (.int (at_ : Nat)) (.int (cell ns at_)) many hm none none h many rest [] (by simp) (by simp)
  obtain ⟨xs, q', r', a1, a2, a3⟩ := num_for ns at_ many hm rest' h ys l1 p1
  refine ⟨xs, a1, a2, ?_⟩
  unfold d_law_numbers
  rw [runD_fin (ρ := [some (.rol (ns.map D.int)), some (.int (at_ : Nat)), some (.int (many : Nat)), none, none, none, none, none]) rfl]
  unfold b_law_numbers
  have f1 : sAsg (dCall d_law_cell_at (aCons (dVar 0) (aCons (dVar 1) aNil))) (gNm 3) [some (.rol (ns.map D.int)), some (.int (at_ : Nat)), some (.int (many : Nat)), none, none, none, none, none] h = some (.nx [some (.rol (ns.map D.int)), some (.int (at_ : Nat)), some (.int (many : Nat)), some (.int (cell ns at_)), none, none, none, none], h) := by
    walk_at "ev"
    simp only [d_cell_eq, bnd_some]
    walk_at "ev"
  have f2 : sAsg (dC (.int 0)) (gNm 4) [some (.rol (ns.map D.int)), some (.int (at_ : Nat)), some (.int (many : Nat)), some (.int (cell ns at_)), none, none, none, none] h = some (.nx [some (.rol (ns.map D.int)), some (.int (at_ : Nat)), some (.int (many : Nat)), some (.int (cell ns at_)), some (.int 0), none, none, none], h) := by
    walk_at "ev"
  have e2 : sAsg (dLst aNil) (gNm 5) [some (.rol (ns.map D.int)), some (.int (at_ : Nat)), some (.int (many : Nat)), some (.int (cell ns at_)), some (.int rest), none, none, none] h = some (.nx [some (.rol (ns.map D.int)), some (.int (at_ : Nat)), some (.int (many : Nat)), some (.int (cell ns at_)), some (.int rest), some (.lst h.length), none, none], h ++ [([] : List Int).map D.int]) := by
    simp only [sAsg, dLst, aNil, bnd_some, List.length_nil, sLine0, if_true, gNm, List.set_cons_succ, List.set_cons_zero, List.map_nil]
  rw [sSeq_nx f1, sSeq_nx f2, sSeq_nx f3, sSeq_nx e2, sSeq_nx e1, sSeq_nx a3]
  walk_at "ev"
end C

set_option Elab.async false
set_option linter.all false
set_option maxRecDepth 100000
set_option maxHeartbeats 4000000
namespace Hv
open PySem L2
theorem ix0 (a : D) (r : List D) (h : Hb) : oIx (.tup (a :: r)) (.int 0) h = some (a, h) := oIx_tup (atI_nat (j := 0) (by simp)) h
theorem ix1 (a b : D) (r : List D) (h : Hb) : oIx (.tup (a :: b :: r)) (.int 1) h = some (b, h) := oIx_tup (atI_nat (j := 1) (by simp)) h
theorem ixL0 {n : Nat} {a : D} {r : List D} {h : Hb} (e : h[n]? = some (a :: r)) : oIx (.lst n) (.int 0) h = some (a, h) := oIx_lst e (atI_nat (j := 0) (by simp))
theorem ixL1 {n : Nat} {a b : D} {r : List D} {h : Hb} (e : h[n]? = some (a :: b :: r)) : oIx (.lst n) (.int 1) h = some (b, h) := oIx_lst e (atI_nat (j := 1) (by simp))
theorem dAndT_true {a b : Dn} {ρ : En} {h h1 : Hb} (e : a ρ h = some (.bl true, h1)) : dAndT a b ρ h = b ρ h1 := by unfold dAndT; rw [e]; rfl
theorem cut2 (a b : D) (r : List D) : cutD (a :: b :: r) (some 2) none = r := by
  unfold cutD
  rw [show (some (2 : Int)) = some ((2 : Nat) : Int) from rfl, HT.sIx_nat, HT.sIx_none]
  simp
theorem pow2_pos (d : Nat) : (0 : Int) < 2 ^ d := Int.pow_pos (by decide)
theorem shl_pt {n : Int} {d : Nat} {j : Nat} (h0 : 0 ≤ n) (h1 : n ≤ 2 ^ d) (hd : d ≤ 1000) (hj : j ≤ 1000) : shlOk n ((j : Nat) : Int) := by
  refine shlOk_of (k := d + 1) (by omega) (by omega) ?_ (by omega)
  have e : n.natAbs = n.toNat := by omega
  have : n.toNat ≤ 2 ^ d := by
    have e2 : ((2 ^ d : Nat) : Int) = (2 : Int) ^ d := by simp
    omega
  rw [e, Nat.pow_succ]
  have := Nat.two_pow_pos d
  omega
end Hv
namespace C
open PySem L2 Hv
theorem ix0p (p : Int × Nat) (h : Hb) : oIx (ptD p) (.int 0) h = some (.int p.1, h) := ix0 _ _ h
theorem ix1p (p : Int × Nat) (h : Hb) : oIx (ptD p) (.int 1) h = some (.int (p.2 : Nat), h) := ix1 _ _ _ h
local macro_rules | `(tactic| walk_at "ev") => `(tactic| (try simp only [sSeq, sAsg, sRet, sIf, sEx, sNx, sAug, gNm, gTp, gsCons, gsNil, tAn, tOr', tNt, tCm, tT, truD, dBin, dVar, dC, dCall, dTup, dIf, dUn, oNot, dM, mL_lst, aCons, aNil, bnd_some, toB, List.getElem?_cons_succ, List.getElem?_cons_zero, List.set_cons_zero, List.set_cons_succ, Option.map_some, finD_rt, finD_nx, oAdd_int, oSub_int, oEq_int, oNe_int, oEq_bl, oLt_int, oLe_int, oGt_int, oGe_int, oAnd_int, isi_int_int, isi_int_bool, isi_tup, isi_bl, isi_lst, len_tup, len_rol, ix0, ix1, ix0p, ix1p, sLine, sLine2, sLine3, List.length_cons, List.length_nil, Nat.zero_add, Nat.reduceAdd, if_true, if_false, Bool.true_eq_false, Bool.false_eq_true, Bool.not_true, Bool.not_false]))
theorem d_whole_int (i : Int) (h : Hb) : d_law_whole [.int i] h = some (.bl true, h) := by
  unfold d_law_whole
  rw [runD_fin (ρ := [some (.int i)]) rfl]
  unfold b_law_whole
  simp only [sRet]
  rw [dAndT_true (h1 := h) (by walk_at "ev")]
  walk_at "ev"
theorem d_is_point_eq (n m : Int) (h : Hb) : d_law_is_point [.tup [.int n, .int m]] h = some (.bl true, h) := by
  unfold d_law_is_point
  rw [runD_fin (ρ := [some (.tup [.int n, .int m])]) rfl]
  unfold b_law_is_point
  simp only [sRet]
  rw [dAndT_true (h1 := h) (by walk_at "ev"), dAndT_true (h1 := h) (by walk_at "ev"; rfl), dAndT_true (h1 := h) (by walk_at "ev"; exact d_whole_int n h)]
  walk_at "ev"
  rw [d_whole_int]
  walk_at "ev"
theorem eq_pt (p : Int × Nat) (h : Hb) : oEq (ptD p) (ptD p) h = some (.bl true, h) := by
  show some (D.bl (PyData.eqvAll _ _), h) = _
  simp [PyData.eqvAll, PyData.eqv]
theorem d_told_eq (n : Int) (d : Nat) (h : Hb) : d_law_told [.int n, .int (d : Nat)] h = some (.bl true, h) := by
  unfold d_law_told
  rw [runD_fin (ρ := [some (.int n), some (.int (d : Nat)), none]) rfl]
  unfold b_law_told
  walk_at "ev"
  rw [d_point_eq, bnd_some]
  walk_at "ev"
  rw [dAndT_true (h1 := h) (by walk_at "ev"; exact d_is_point_eq _ _ h)]
  walk_at "ev"
  rw [d_lowest_eq, bnd_some, eq_pt, bnd_some]
  walk_at "ev"
def mid (p q : Int × Nat) : Int × Nat := low (p.1 * 2 ^ q.2 + q.1 * 2 ^ p.2) (p.2 + q.2 + 1)
theorem cast3 (a b : Nat) : ((a : Nat) : Int) + ((b : Nat) : Int) + 1 = ((a + b + 1 : Nat) : Int) := by omega
theorem d_between_eq (p q : Int × Nat) (h : Hb) (h1 : shlOk p.1 (q.2 : Nat)) (h2 : shlOk q.1 (p.2 : Nat)) : d_between [ptD p, ptD q] h = some (ptD (mid p q), h) := by
  unfold d_between
  rw [runD_fin (ρ := [some (ptD p), some (ptD q)]) rfl]
  unfold b_between
  walk_at "ev"
  simp only [oShl_int h1, oShl_int h2, Int.toNat_natCast]
  walk_at "ev"
  rw [cast3, d_point_eq]
  walk_at "ev"
  rfl
theorem d_halfway_eq (p q : Int × Nat) (h : Hb) (h1 : shlOk p.1 (q.2 : Nat)) (h2 : shlOk q.1 (p.2 : Nat)) : d_law_halfway [ptD p, ptD q] h = some (.bl true, h) := by
  unfold d_law_halfway
  rw [runD_fin (ρ := [some (ptD p), some (ptD q), none, none]) rfl]
  unfold b_law_halfway
  have e1 : sAsg (dCall d_between (aCons (dVar 0) (aCons (dVar 1) aNil))) (gNm 2) [some (ptD p), some (ptD q), none, none] h = some (.nx [some (ptD p), some (ptD q), some (ptD (mid p q)), none], h) := by
    walk_at "ev"
    rw [d_between_eq p q h h1 h2]
    walk_at "ev"
  have e2 : ∀ r : D, sAsg (dCall d_law_lowest (aCons (dBin oAdd (dBin oShl (dBin oIx (dVar 0) (dC (.int 0))) (dBin oIx (dVar 1) (dC (.int 1)))) (dBin oShl (dBin oIx (dVar 1) (dC (.int 0))) (dBin oIx (dVar 0) (dC (.int 1))))) (aCons (dBin oAdd (dBin oAdd (dBin oIx (dVar 0) (dC (.int 1))) (dBin oIx (dVar 1) (dC (.int 1)))) (dC (.int 1))) aNil))) (gNm 3) [some (ptD p), some (ptD q), some r, none] h = some (.nx [some (ptD p), some (ptD q), some r, some (ptD (mid p q))], h) := by
    intro r
    walk_at "ev"
    simp only [oShl_int h1, oShl_int h2, Int.toNat_natCast]
    walk_at "ev"
    rw [cast3, d_lowest_eq]
    walk_at "ev"
    rfl
  rw [sSeq_nx e1, sSeq_nx (e2 _)]
  simp only [sRet]
  rw [dAndT_true (h1 := h) (by walk_at "ev"; exact d_is_point_eq _ _ h)]
  walk_at "ev"
  rw [eq_pt]
  walk_at "ev"
theorem d_before_eq (p q : Int × Nat) (h : Hb) (h1 : shlOk p.1 (q.2 : Nat)) (h2 : shlOk q.1 (p.2 : Nat)) : d_before [ptD p, ptD q] h = some (.bl (decide (p.1 * 2 ^ q.2 < q.1 * 2 ^ p.2)), h) := by
  unfold d_before
  rw [runD_fin (ρ := [some (ptD p), some (ptD q)]) rfl]
  unfold b_before
  walk_at "ev"
  simp only [oShl_int h1, oShl_int h2, Int.toNat_natCast]
  walk_at "ev"
theorem d_order_eq (p q : Int × Nat) (h : Hb) (h1 : shlOk p.1 (q.2 : Nat)) (h2 : shlOk q.1 (p.2 : Nat)) : d_law_order [ptD p, ptD q] h = some (.bl true, h) := by
  unfold d_law_order
  rw [runD_fin (ρ := [some (ptD p), some (ptD q), none]) rfl]
  unfold b_law_order
  have e1 : sAsg (dCall d_before (aCons (dVar 0) (aCons (dVar 1) aNil))) (gNm 2) [some (ptD p), some (ptD q), none] h = some (.nx [some (ptD p), some (ptD q), some (.bl (decide (p.1 * 2 ^ q.2 < q.1 * 2 ^ p.2)))], h) := by
    walk_at "ev"
    rw [d_before_eq p q h h1 h2]
    walk_at "ev"
  rw [sSeq_nx e1]
  simp only [sRet]
  rw [dAndT_true (h1 := h) (by walk_at "ev")]
  walk_at "ev"
  simp only [oShl_int h1, oShl_int h2, Int.toNat_natCast]
  walk_at "ev"
  simp only [beq_self_eq_true]
/-! ### the drawn pairs -/
theorem pair_for (m : Nat) (zs : List D) (h : Hb) (hm : h[m]? = some zs) (A B C' F : Option D) : ∀ (ys : List Int) (n : Int) (q : Option D), ∃ n' q', forD (fun h' => h'[m]? = some zs) (gNm 4) (sAsg (dBin oAdd (dBin oMul (dVar 3) (dC (.int 1000))) (dVar 4)) (gNm 3)) (ys.map D.int) [A, B, C', some (.int n), q, F] h = some (.nx [A, B, C', some (.int n'), q', F], h)
  | [], n, q => ⟨n, q, forD_nil hm⟩
  | y :: ys, n, q => by
    obtain ⟨n', q', e⟩ := pair_for m zs h hm A B C' F ys (n * 1000 + y) (some (.int y))
    refine ⟨n', q', ?_⟩
    rw [List.map_cons, ← e]
    refine forD_step hm (h1 := h) (ρ1 := [A, B, C', some (.int n), some (.int y), F]) (by walk_at "ev") ?_
    walk_at "ev"
    simp only [oMul_int (i := n) (j := 1000) (.inr (by decide))]
    walk_at "ev"
/-- a pair n, d with 0 ≤ n ≤ 2 ^ d -/
structure Good (p : Int × Nat) (deep : Nat) : Prop where
  lo : 0 ≤ p.1
  hi : p.1 ≤ 2 ^ p.2
  dp : p.2 ≤ deep
theorem Good.shl {p q : Int × Nat} {a b : Nat} (g : Good p a) (k : Good q b) (ha : a ≤ 1000) (hb : b ≤ 1000) : shlOk p.1 ((q.2 : Nat) : Int) := shl_pt g.lo g.hi (Nat.le_trans g.dp ha) (Nat.le_trans k.dp hb)
theorem mod_nat (x : Int) (m : Nat) (hm : 0 < m) : ∃ k : Nat, k < m ∧ x % ((m : Nat) : Int) = ((k : Nat) : Int) := by
  have a := Int.emod_nonneg x (show ((m : Nat) : Int) ≠ 0 by omega)
  have b := Int.emod_lt_of_pos x (show (0 : Int) < ((m : Nat) : Int) by omega)
  exact ⟨(x % ((m : Nat) : Int)).toNat, by omega, by omega⟩
theorem clear_le {n : Int} {c d : Nat} (h0 : 0 ≤ n) (h1 : n ≤ 2 ^ d) : 0 ≤ n / 2 ^ c ∧ n / 2 ^ c * 2 ^ c ≤ 2 ^ d ∧ 0 ≤ n / 2 ^ c * 2 ^ c ∧ n / 2 ^ c ≤ 2 ^ d := by
  have hp := pow2_pos c
  have a := Int.ediv_nonneg h0 (Int.le_of_lt hp)
  have b := Int.ediv_mul_le n (Int.ne_of_gt hp)
  have e : n / 2 ^ c ≤ n := Int.ediv_le_self _ h0
  exact ⟨a, Int.le_trans b h1, Int.mul_nonneg a (Int.le_of_lt hp), Int.le_trans e h1⟩
theorem d_pair_eq (x0 x1 : Int) (rest : List Int) (deep n0 : Nat) (hdeep : deep ≤ 300) (h : Hb) (hn : h[n0]? = some ((x0 :: x1 :: rest).map D.int)) : ∃ (p : Int × Nat), Good p deep ∧ ∃ junk, d_law_pair [.lst n0, .int (deep : Nat)] h = some (ptD p, h ++ junk) := by
  obtain ⟨d, hd, ed⟩ := mod_nat x0 (deep + 1) (by omega)
  have hn1 : (h ++ [rest.map D.int])[n0]? = some ((x0 :: x1 :: rest).map D.int) := by rw [List.getElem?_append_left (List.getElem?_eq_some_iff.mp hn).1]; exact hn
  obtain ⟨n1, q1, e1⟩ := pair_for h.length (rest.map D.int) (h ++ [rest.map D.int]) at_last (some (.lst n0)) (some (.int (deep : Nat))) (some (.int (d : Nat))) none rest 0 none
  have m0 : (0 : Int) < 2 ^ d + 1 := by have := pow2_pos d; omega
  have g0 := Int.emod_nonneg n1 (Int.ne_of_gt m0)
  have g1 := Int.emod_lt_of_pos n1 m0
  generalize hn2 : n1 % (2 ^ d + 1) = n2 at g0 g1
  have a1 : sAsg (dBin oMod (dBin oIx (dVar 0) (dC (.int 0))) (dBin oAdd (dVar 1) (dC (.int 1)))) (gNm 2) [some (.lst n0), some (.int (deep : Nat)), none, none, none, none] h = some (.nx [some (.lst n0), some (.int (deep : Nat)), some (.int (d : Nat)), none, none, none], h) := by
    walk_at "ev"
    rw [ixL0 (a := .int x0) hn]
    walk_at "ev"
    rw [show ((deep : Nat) : Int) + 1 = ((deep + 1 : Nat) : Int) by omega, oMod_int (by omega), ed]
    walk_at "ev"
  have a2 : sAsg (dC (.int 0)) (gNm 3) [some (.lst n0), some (.int (deep : Nat)), some (.int (d : Nat)), none, none, none] h = some (.nx [some (.lst n0), some (.int (deep : Nat)), some (.int (d : Nat)), some (.int 0), none, none], h) := by walk_at "ev"
  have a3 : sFor (iAny (dSlL (dVar 0) (oSo (dC (.int 2))) oNo)) (gNm 4) (sAsg (dBin oAdd (dBin oMul (dVar 3) (dC (.int 1000))) (dVar 4)) (gNm 3)) [some (.lst n0), some (.int (deep : Nat)), some (.int (d : Nat)), some (.int 0), none, none] h = some (.nx [some (.lst n0), some (.int (deep : Nat)), some (.int (d : Nat)), some (.int n1), q1, none], h ++ [rest.map D.int]) := by
    have b1 : dSlL (dVar 0) (oSo (dC (.int 2))) oNo [some (.lst n0), some (.int (deep : Nat)), some (.int (d : Nat)), some (.int 0), none, none] h = some (.lst h.length, h ++ [rest.map D.int]) := by
      unfold dSlL oSo oNo
      walk_at "ev"
      show Option.map _ (h[n0]?) = _
      rw [hn]
      show some (D.lst h.length, h ++ [cutD (.int x0 :: .int x1 :: rest.map D.int) (some 2) none]) = _
      rw [cut2]
    unfold sFor iAny
    rw [b1, bnd_some]
    show bnd (match (h ++ [rest.map D.int])[h.length]? with | some xs => some ((xs, fun h' => h'[h.length]? = some xs), h ++ [rest.map D.int]) | none => none) _ = _
    rw [at_last, bnd_some]
    exact e1
  have a4 : sAsg (dBin oMod (dVar 3) (dBin oAdd (dBin oShl (dC (.int 1)) (dVar 2)) (dC (.int 1)))) (gNm 3) [some (.lst n0), some (.int (deep : Nat)), some (.int (d : Nat)), some (.int n1), q1, none] (h ++ [rest.map D.int]) = some (.nx [some (.lst n0), some (.int (deep : Nat)), some (.int (d : Nat)), some (.int n2), q1, none], h ++ [rest.map D.int]) := by
    walk_at "ev"
    rw [oShl_int (shl_pt (d := 0) (by decide) (by decide) (by decide) (by omega)), Int.toNat_natCast, Int.one_mul]
    walk_at "ev"
    rw [oMod_int m0, hn2]
    walk_at "ev"
  have fin : ∀ p : Int × Nat, p.2 = d → ∀ (z : Option D), finD (sRet (dTup (aCons (dVar 3) (aCons (dVar 2) aNil))) [some (.lst n0), some (.int (deep : Nat)), some (.int (d : Nat)), some (.int p.1), q1, z] (h ++ [rest.map D.int])) = some (ptD p, h ++ [rest.map D.int]) := by
    intro p hp z
    walk_at "ev"
    unfold ptD
    rw [hp]
  by_cases hc : x1 % 2 = 1
  · obtain ⟨c, hcl, ec⟩ := mod_nat (x1 / 2) (d + 1) (by omega)
    obtain ⟨k0, k1, k2, k3⟩ := clear_le (c := c) g0 (show n2 ≤ 2 ^ d by omega)
    refine ⟨(n2 / 2 ^ c * 2 ^ c, d), ⟨k2, k1, by show d ≤ deep; omega⟩, [rest.map D.int], ?_⟩
    have a5 : sIf (tCm oEq (dBin oMod (dBin oIx (dVar 0) (dC (.int 1))) (dC (.int 2))) (dC (.int 1))) (sSeq (sAsg (dBin oMod (dBin oDiv (dBin oIx (dVar 0) (dC (.int 1))) (dC (.int 2))) (dBin oAdd (dVar 2) (dC (.int 1)))) (gNm 5))
  (sAsg (dBin oShl (dBin oShr (dVar 3) (dVar 5)) (dVar 5)) (gNm 3))) sNx [some (.lst n0), some (.int (deep : Nat)), some (.int (d : Nat)), some (.int n2), q1, none] (h ++ [rest.map D.int]) = some (.nx [some (.lst n0), some (.int (deep : Nat)), some (.int (d : Nat)), some (.int (n2 / 2 ^ c * 2 ^ c)), q1, some (.int (c : Nat))], h ++ [rest.map D.int]) := by
      walk_at "ev"
      simp only [ixL1 (a := .int x0) (b := .int x1) hn1]
      walk_at "ev"
      simp only [oMod_int (show (0 : Int) < 2 by decide)]
      walk_at "ev"
      simp only [hc, beq_self_eq_true, if_true]
      walk_at "ev"
      simp only [ixL1 (a := .int x0) (b := .int x1) hn1]
      walk_at "ev"
      simp only [oDiv_int (show (0 : Int) < 2 ∧ (2 : Int) < 1073741824 by decide)]
      walk_at "ev"
      simp only [show ((d : Nat) : Int) + 1 = ((d + 1 : Nat) : Int) by omega, oMod_int (show (0 : Int) < ((d + 1 : Nat) : Int) by omega), ec]
      walk_at "ev"
      simp only [oShr_int (show (0 : Int) ≤ ((c : Nat) : Int) by omega), Int.toNat_natCast]
      walk_at "ev"
      simp only [oShl_int (shl_pt (n := n2 / 2 ^ c) (j := c) k0 k3 (by omega) (by omega)), Int.toNat_natCast]
      walk_at "ev"
    unfold d_law_pair
    rw [runD_fin (ρ := [some (.lst n0), some (.int (deep : Nat)), none, none, none, none]) rfl]
    unfold b_law_pair
    rw [sSeq_nx a1, sSeq_nx a2, sSeq_nx a3, sSeq_nx a4, sSeq_nx a5]
    exact fin (n2 / 2 ^ c * 2 ^ c, d) rfl _
  · refine ⟨(n2, d), ⟨g0, by show n2 ≤ 2 ^ d; omega, by show d ≤ deep; omega⟩, [rest.map D.int], ?_⟩
    have a5 : sIf (tCm oEq (dBin oMod (dBin oIx (dVar 0) (dC (.int 1))) (dC (.int 2))) (dC (.int 1))) (sSeq (sAsg (dBin oMod (dBin oDiv (dBin oIx (dVar 0) (dC (.int 1))) (dC (.int 2))) (dBin oAdd (dVar 2) (dC (.int 1)))) (gNm 5))
  (sAsg (dBin oShl (dBin oShr (dVar 3) (dVar 5)) (dVar 5)) (gNm 3))) sNx [some (.lst n0), some (.int (deep : Nat)), some (.int (d : Nat)), some (.int n2), q1, none] (h ++ [rest.map D.int]) = some (.nx [some (.lst n0), some (.int (deep : Nat)), some (.int (d : Nat)), some (.int n2), q1, none], h ++ [rest.map D.int]) := by
      walk_at "ev"
      simp only [ixL1 (a := .int x0) (b := .int x1) hn1]
      walk_at "ev"
      simp only [oMod_int (show (0 : Int) < 2 by decide)]
      walk_at "ev"
      have : (x1 % 2 == 1) = false := by simpa using hc
      simp only [this, if_false, Bool.false_eq_true]
    unfold d_law_pair
    rw [runD_fin (ρ := [some (.lst n0), some (.int (deep : Nat)), none, none, none, none]) rfl]
    unfold b_law_pair
    rw [sSeq_nx a1, sSeq_nx a2, sSeq_nx a3, sSeq_nx a4, sSeq_nx a5]
    exact fin (n2, d) rfl _
theorem d_other_eq (p q : Int × Nat) (x : Int) (h : Hb) (g : Good p 100) (k : Good q 100) : ∃ r : Int × Nat, Good r 100 ∧ d_law_other [ptD p, ptD q, .int x] h = some (ptD r, h) := by
  have a1 : sAsg (dVar 0) (gTp (gsCons (gNm 3) (gsCons (gNm 4) gsNil))) [some (ptD p), some (ptD q), some (.int x), none, none] h = some (.nx [some (ptD p), some (ptD q), some (.int x), some (.int p.1), some (.int (p.2 : Nat))], h) := by
    unfold ptD
    walk_at "ev"
  have m4 : oMod (.int x) (.int 4) h = some (.int (x % 4), h) := oMod_int (by decide) h
  have s1 : oShl (.int 1) (.int ((p.2 : Nat) : Int)) h = some (.int (2 ^ p.2), h) := by
    rw [oShl_int (shl_pt (d := 0) (by decide) (by decide) (by decide) (by have := g.dp; omega)), Int.toNat_natCast, Int.one_mul]
  unfold d_law_other
  rw [runD_fin (ρ := [some (ptD p), some (ptD q), some (.int x), none, none]) rfl]
  unfold b_law_other
  rw [sSeq_nx a1]
  walk_at "ev"
  simp only [m4]
  walk_at "ev"
  by_cases c0 : x % 4 = 0
  · refine ⟨p, g, ?_⟩
    simp only [c0, beq_self_eq_true, if_true]
    walk_at "ev"
  · have c0' : (x % 4 == 0) = false := by simpa using c0
    simp only [c0', if_false, Bool.false_eq_true]
    walk_at "ev"
    simp only [m4]
    walk_at "ev"
    by_cases c1 : x % 4 = 1
    · simp only [c1, beq_self_eq_true, if_true]
      walk_at "ev"
      simp only [s1]
      walk_at "ev"
      by_cases c2 : p.1 + 1 ≤ 2 ^ p.2
      · refine ⟨(p.1 + 1, p.2), ⟨by have := g.lo; show 0 ≤ p.1 + 1; omega, c2, g.dp⟩, ?_⟩
        simp only [c2, decide_true, if_true]
        walk_at "ev"
        rfl
      · refine ⟨(p.1 - 1, p.2), ⟨?_, by have := g.hi; show p.1 - 1 ≤ 2 ^ p.2; omega, g.dp⟩, ?_⟩
        · have := pow2_pos p.2
          show 0 ≤ p.1 - 1
          omega
        · simp only [c2, decide_false, if_false, Bool.false_eq_true]
          walk_at "ev"
          simp only [m4]
          walk_at "ev"
          simp only [c1, beq_self_eq_true, if_true]
          walk_at "ev"
          rfl
    · have c1' : (x % 4 == 1) = false := by simpa using c1
      refine ⟨q, k, ?_⟩
      simp only [c1', if_false, Bool.false_eq_true]
      walk_at "ev"
      simp only [m4]
      walk_at "ev"
      simp only [c1', if_false, Bool.false_eq_true]
      walk_at "ev"
theorem low_good : ∀ (d : Nat) (n : Int) (deep : Nat), 0 ≤ n → n ≤ 2 ^ d → d ≤ deep → Good (low n d) deep
  | 0, n, deep, h0, h1, h2 => ⟨h0, h1, h2⟩
  | d + 1, n, deep, h0, h1, h2 => by
    simp only [low]
    split
    · rename_i e
      exact low_good d (n / 2) deep (by omega) (by rw [Int.pow_succ] at h1; omega) (by omega)
    · exact ⟨h0, h1, h2⟩
theorem two_cons {xs : List Int} (h : 2 ≤ xs.length) : ∃ a b r, xs = a :: b :: r := by
  match xs, h with
  | a :: b :: r, _ => exact ⟨a, b, r, rfl⟩
theorem law_true (ns : List Int) (hl : ns.length ≤ 63) : ∃ h', d_law [.rol (ns.map D.int)] [] = some (.bl true, h') := by
  obtain ⟨ws, lw, pw, ew⟩ := d_numbers_eq ns 0 3 (by decide) []
  obtain ⟨w0, w1, wr, rfl⟩ := two_cons (xs := ws) (by omega)
  generalize hh1 : ([] : Hb) ++ [(w0 :: w1 :: wr).map D.int] = h1 at ew
  obtain ⟨as, la, pa, ea⟩ := d_numbers_eq ns 1 14 (by decide) h1
  obtain ⟨a0, a1, ar, rfl⟩ := two_cons (xs := as) (by omega)
  generalize hh2 : h1 ++ [(a0 :: a1 :: ar).map D.int] = h2 at ea
  have q2 : h2[h1.length]? = some ((a0 :: a1 :: ar).map D.int) := by rw [← hh2]; exact at_last
  obtain ⟨p, gp, j1, ep⟩ := d_pair_eq a0 a1 ar 100 h1.length (by decide) h2 q2
  generalize hh3 : h2 ++ j1 = h3 at ep
  obtain ⟨bs, lb, pb, eb⟩ := d_numbers_eq ns 2 14 (by decide) h3
  obtain ⟨b0, b1, br, rfl⟩ := two_cons (xs := bs) (by omega)
  generalize hh4 : h3 ++ [(b0 :: b1 :: br).map D.int] = h4 at eb
  have q4 : h4[h3.length]? = some ((b0 :: b1 :: br).map D.int) := by rw [← hh4]; exact at_last
  obtain ⟨q, gq, j2, eq⟩ := d_pair_eq b0 b1 br 100 h3.length (by decide) h4 q4
  generalize hh5 : h4 ++ j2 = h5 at eq
  have w_at : ∀ h : Hb, (∃ m, h = h1 ++ m) → h[0]? = some ((w0 :: w1 :: wr).map D.int) := by
    rintro h ⟨m, rfl⟩
    rw [← hh1]; rfl
  have w5 : h5[0]? = some ((w0 :: w1 :: wr).map D.int) := w_at h5 ⟨[(a0 :: a1 :: ar).map D.int] ++ j1 ++ [(b0 :: b1 :: br).map D.int] ++ j2, by rw [← hh5, ← hh4, ← hh3, ← hh2]; simp only [List.append_assoc]⟩
  obtain ⟨r, gr, er⟩ := d_other_eq p q w0 h5 gp gq
  obtain ⟨cs, lc, pc, ec⟩ := d_numbers_eq ns 3 36 (by decide) h5
  obtain ⟨c0, c1, cr, rfl⟩ := two_cons (xs := cs) (by omega)
  generalize hh6 : h5 ++ [(c0 :: c1 :: cr).map D.int] = h6 at ec
  have q6 : h6[h5.length]? = some ((c0 :: c1 :: cr).map D.int) := by rw [← hh6]; exact at_last
  obtain ⟨u, gu, j3, eu⟩ := d_pair_eq c0 c1 cr 300 h5.length (by decide) h6 q6
  generalize hh7 : h6 ++ j3 = h7 at eu
  have w7 : h7[0]? = some ((w0 :: w1 :: wr).map D.int) := by
    rw [← hh7, ← hh6, List.append_assoc, List.getElem?_append_left (List.getElem?_eq_some_iff.mp w5).1]; exact w5
  obtain ⟨mo, hmo, emo⟩ := mod_nat w1 201 (by decide)
  have gp' := low_good p.2 p.1 100 gp.lo gp.hi gp.dp
  have gr' := low_good r.2 r.1 100 gr.lo gr.hi gr.dp
  generalize hp' : low p.1 p.2 = p' at gp'
  generalize hr' : low r.1 r.2 = r' at gr'
  have half : ∀ (x y : Int × Nat) (h : Hb), Good x 100 → Good y 100 → d_law_halfway [ptD x, ptD y] h = some (.bl true, h) := fun x y h gx gy => d_halfway_eq x y h (gx.shl gy (by decide) (by decide)) (gy.shl gx (by decide) (by decide))
  have ordr : ∀ (x y : Int × Nat) (h : Hb), Good x 100 → Good y 100 → d_law_order [ptD x, ptD y] h = some (.bl true, h) := fun x y h gx gy => d_order_eq x y h (gx.shl gy (by decide) (by decide)) (gy.shl gx (by decide) (by decide))
  replace ew : d_law_numbers [.rol (ns.map D.int), .int 0, .int 3] [] = some (.lst 0, h1) := ew
  replace ea : d_law_numbers [.rol (ns.map D.int), .int 1, .int 14] h1 = some (.lst h1.length, h2) := ea
  replace eb : d_law_numbers [.rol (ns.map D.int), .int 2, .int 14] h3 = some (.lst h3.length, h4) := eb
  replace ec : d_law_numbers [.rol (ns.map D.int), .int 3, .int 36] h5 = some (.lst h5.length, h6) := ec
  replace ep : d_law_pair [.lst h1.length, .int 100] h2 = some (ptD p, h3) := ep
  replace eq : d_law_pair [.lst h3.length, .int 100] h4 = some (ptD q, h5) := eq
  replace eu : d_law_pair [.lst h5.length, .int 300] h6 = some (ptD u, h7) := eu
  generalize D.rol (ns.map D.int) = S at *
  have w3 : h3[0]? = some ((w0 :: w1 :: wr).map D.int) := w_at h3 ⟨[(a0 :: a1 :: ar).map D.int] ++ j1, by rw [← hh3, ← hh2]; simp only [List.append_assoc]⟩
  have s1 : sAsg (dCall d_law_numbers (aCons (dVar 0) (aCons (dC (.int 0)) (aCons (dC (.int 3)) aNil)))) (gNm 1) [some S, none, none, none, none, none, none, none, none, none, none] [] = some (.nx [some S, some (.lst 0), none, none, none, none, none, none, none, none, none], h1) := by
    walk_at "ev"
    rw [ew]
    walk_at "ev"
  have s2 : sAsg (dCall d_law_pair (aCons (dCall d_law_numbers (aCons (dVar 0) (aCons (dC (.int 1)) (aCons (dC (.int 14)) aNil)))) (aCons (dC (.int 100)) aNil))) (gNm 2) [some S, some (.lst 0), none, none, none, none, none, none, none, none, none] h1 = some (.nx [some S, some (.lst 0), some (ptD p), none, none, none, none, none, none, none, none], h3) := by
    walk_at "ev"
    rw [ea]
    walk_at "ev"
    rw [ep]
    walk_at "ev"
  have s3 : sAsg (dCall d_law_other (aCons (dVar 2) (aCons (dCall d_law_pair (aCons (dCall d_law_numbers (aCons (dVar 0) (aCons (dC (.int 2)) (aCons (dC (.int 14)) aNil)))) (aCons (dC (.int 100)) aNil))) (aCons (dBin oIx (dVar 1) (dC (.int 0))) aNil)))) (gNm 3) [some S, some (.lst 0), some (ptD p), none, none, none, none, none, none, none, none] h3 = some (.nx [some S, some (.lst 0), some (ptD p), some (ptD r), none, none, none, none, none, none, none], h5) := by
    walk_at "ev"
    rw [eb]
    walk_at "ev"
    rw [eq]
    walk_at "ev"
    rw [ixL0 (a := .int w0) w5]
    walk_at "ev"
    rw [er]
    walk_at "ev"
  have s4 : sAsg (dCall d_law_pair (aCons (dCall d_law_numbers (aCons (dVar 0) (aCons (dC (.int 3)) (aCons (dC (.int 36)) aNil)))) (aCons (dC (.int 300)) aNil))) (gTp (gsCons (gNm 4) (gsCons (gNm 5) gsNil))) [some S, some (.lst 0), some (ptD p), some (ptD r), none, none, none, none, none, none, none] h5 = some (.nx [some S, some (.lst 0), some (ptD p), some (ptD r), some (.int u.1), some (.int (u.2 : Nat)), none, none, none, none, none], h7) := by
    walk_at "ev"
    rw [ec]
    walk_at "ev"
    rw [eu]
    simp only [bnd_some]
    unfold ptD
    walk_at "ev"
  have s5 : sIf (tOr' (tNt (tT (dCall d_law_told (aCons (dVar 4) (aCons (dVar 5) aNil))))) (tOr' (tNt (tT (dCall d_law_told (aCons (dBin oIx (dVar 2) (dC (.int 0))) (aCons (dBin oIx (dVar 2) (dC (.int 1))) aNil))))) (tNt (tT (dCall d_law_told (aCons (dBin oIx (dVar 3) (dC (.int 0))) (aCons (dBin oIx (dVar 3) (dC (.int 1))) aNil))))))) (sRet (dC (.bl false))) sNx [some S, some (.lst 0), some (ptD p), some (ptD r), some (.int u.1), some (.int (u.2 : Nat)), none, none, none, none, none] h7 = some (.nx [some S, some (.lst 0), some (ptD p), some (ptD r), some (.int u.1), some (.int (u.2 : Nat)), none, none, none, none, none], h7) := by
    walk_at "ev"
    simp only [d_told_eq]
    walk_at "ev"
  have s6 : sAsg (dBin oMod (dBin oIx (dVar 1) (dC (.int 1))) (dC (.int 201))) (gNm 6) [some S, some (.lst 0), some (ptD p), some (ptD r), some (.int u.1), some (.int (u.2 : Nat)), none, none, none, none, none] h7 = some (.nx [some S, some (.lst 0), some (ptD p), some (ptD r), some (.int u.1), some (.int (u.2 : Nat)), some (.int (mo : Nat)), none, none, none, none], h7) := by
    walk_at "ev"
    rw [ixL1 (a := .int w0) (b := .int w1) w7]
    walk_at "ev"
    rw [oMod_int (by decide), show w1 % 201 = ((mo : Nat) : Int) from emo]
    walk_at "ev"
  have sh : ∀ (x : Int × Nat) (h : Hb), Good x 100 → oShl (.int x.1) (.int (mo : Nat)) h = some (.int (x.1 * 2 ^ mo), h) := fun x h gx => by
    rw [oShl_int (shl_pt gx.lo gx.hi (by have := gx.dp; omega) (by omega)), Int.toNat_natCast]
  have ad : ∀ a : Nat, ((a : Nat) : Int) + ((mo : Nat) : Int) = ((a + mo : Nat) : Int) := fun a => by omega
  have s7 : sIf (tOr' (tNt (tT (dCall d_law_told (aCons (dBin oShl (dBin oIx (dVar 2) (dC (.int 0))) (dVar 6)) (aCons (dBin oAdd (dBin oIx (dVar 2) (dC (.int 1))) (dVar 6)) aNil))))) (tNt (tT (dCall d_law_told (aCons (dBin oShl (dBin oIx (dVar 3) (dC (.int 0))) (dVar 6)) (aCons (dBin oAdd (dBin oIx (dVar 3) (dC (.int 1))) (dVar 6)) aNil)))))) (sRet (dC (.bl false))) sNx [some S, some (.lst 0), some (ptD p), some (ptD r), some (.int u.1), some (.int (u.2 : Nat)), some (.int (mo : Nat)), none, none, none, none] h7 = some (.nx [some S, some (.lst 0), some (ptD p), some (ptD r), some (.int u.1), some (.int (u.2 : Nat)), some (.int (mo : Nat)), none, none, none, none], h7) := by
    walk_at "ev"
    simp only [sh p _ gp]
    walk_at "ev"
    simp only [ad, d_told_eq]
    walk_at "ev"
    simp only [sh r _ gr]
    walk_at "ev"
    simp only [ad, d_told_eq]
    walk_at "ev"
  have s8 : sAsg (dCall d_law_lowest (aCons (dBin oIx (dVar 2) (dC (.int 0))) (aCons (dBin oIx (dVar 2) (dC (.int 1))) aNil))) (gNm 7) [some S, some (.lst 0), some (ptD p), some (ptD r), some (.int u.1), some (.int (u.2 : Nat)), some (.int (mo : Nat)), none, none, none, none] h7 = some (.nx [some S, some (.lst 0), some (ptD p), some (ptD r), some (.int u.1), some (.int (u.2 : Nat)), some (.int (mo : Nat)), some (ptD p'), none, none, none], h7) := by
    walk_at "ev"
    rw [d_lowest_eq, hp']
    walk_at "ev"
  have s9 : sAsg (dCall d_law_lowest (aCons (dBin oIx (dVar 3) (dC (.int 0))) (aCons (dBin oIx (dVar 3) (dC (.int 1))) aNil))) (gNm 8) [some S, some (.lst 0), some (ptD p), some (ptD r), some (.int u.1), some (.int (u.2 : Nat)), some (.int (mo : Nat)), some (ptD p'), none, none, none] h7 = some (.nx [some S, some (.lst 0), some (ptD p), some (ptD r), some (.int u.1), some (.int (u.2 : Nat)), some (.int (mo : Nat)), some (ptD p'), some (ptD r'), none, none], h7) := by
    walk_at "ev"
    rw [d_lowest_eq, hr']
    walk_at "ev"
  have body : ∀ (x y : Int × Nat) (a b : Option D) (h : Hb), Good x 100 → Good y 100 → sIf (tOr' (tNt (tT (dCall d_law_halfway (aCons (dVar 9) (aCons (dVar 10) aNil))))) (tNt (tT (dCall d_law_order (aCons (dVar 9) (aCons (dVar 10) aNil)))))) (sRet (dC (.bl false))) sNx [some S, some (.lst 0), some (ptD p), some (ptD r), some (.int u.1), some (.int (u.2 : Nat)), some (.int (mo : Nat)), some (ptD p'), some (ptD r'), some (ptD x), some (ptD y)] h = some (.nx [some S, some (.lst 0), some (ptD p), some (ptD r), some (.int u.1), some (.int (u.2 : Nat)), some (.int (mo : Nat)), some (ptD p'), some (ptD r'), some (ptD x), some (ptD y)], h) := by
    intro x y a b h gx gy
    walk_at "ev"
    simp only [half x y _ gx gy]
    walk_at "ev"
    simp only [ordr x y _ gx gy]
    walk_at "ev"
  have tgt : ∀ (x y : Int × Nat) (a b : Option D) (h : Hb), gTp (gsCons (gNm 9) (gsCons (gNm 10) gsNil)) (.tup [ptD x, ptD y]) [some S, some (.lst 0), some (ptD p), some (ptD r), some (.int u.1), some (.int (u.2 : Nat)), some (.int (mo : Nat)), some (ptD p'), some (ptD r'), a, b] h = some ([some S, some (.lst 0), some (ptD p), some (ptD r), some (.int u.1), some (.int (u.2 : Nat)), some (.int (mo : Nat)), some (ptD p'), some (ptD r'), some (ptD x), some (ptD y)], h) := by
    intro x y a b h
    walk_at "ev"
  have s10 : ∃ h8, sFor (iAny (dLst (aCons (dTup (aCons (dVar 7) (aCons (dVar 8) aNil))) (aCons (dTup (aCons (dVar 8) (aCons (dVar 7) aNil))) (aCons (dTup (aCons (dVar 7) (aCons (dVar 7) aNil))) (aCons (dTup (aCons (dVar 8) (aCons (dVar 8) aNil))) (aCons (dTup (aCons (dVar 7) (aCons (dVar 8) aNil))) aNil))))))) (gTp (gsCons (gNm 9) (gsCons (gNm 10) gsNil))) (sIf (tOr' (tNt (tT (dCall d_law_halfway (aCons (dVar 9) (aCons (dVar 10) aNil))))) (tNt (tT (dCall d_law_order (aCons (dVar 9) (aCons (dVar 10) aNil)))))) (sRet (dC (.bl false))) sNx) [some S, some (.lst 0), some (ptD p), some (ptD r), some (.int u.1), some (.int (u.2 : Nat)), some (.int (mo : Nat)), some (ptD p'), some (ptD r'), none, none] h7 = some (.nx [some S, some (.lst 0), some (ptD p), some (ptD r), some (.int u.1), some (.int (u.2 : Nat)), some (.int (mo : Nat)), some (ptD p'), some (ptD r'), some (ptD p'), some (ptD r')], h8) := by
    refine ⟨h7 ++ [[.tup [ptD p', ptD r'], .tup [ptD r', ptD p'], .tup [ptD p', ptD p'], .tup [ptD r', ptD r'], .tup [ptD p', ptD r']]], ?_⟩
    have b1 : dLst (aCons (dTup (aCons (dVar 7) (aCons (dVar 8) aNil))) (aCons (dTup (aCons (dVar 8) (aCons (dVar 7) aNil))) (aCons (dTup (aCons (dVar 7) (aCons (dVar 7) aNil))) (aCons (dTup (aCons (dVar 8) (aCons (dVar 8) aNil))) (aCons (dTup (aCons (dVar 7) (aCons (dVar 8) aNil))) aNil))))) [some S, some (.lst 0), some (ptD p), some (ptD r), some (.int u.1), some (.int (u.2 : Nat)), some (.int (mo : Nat)), some (ptD p'), some (ptD r'), none, none] h7 = some (.lst h7.length, h7 ++ [[.tup [ptD p', ptD r'], .tup [ptD r', ptD p'], .tup [ptD p', ptD p'], .tup [ptD r', ptD r'], .tup [ptD p', ptD r']]]) := by
      unfold dLst
      walk_at "ev"
      rw [if_pos (by decide)]
    unfold sFor iAny
    rw [b1, bnd_some]
    show bnd (match (h7 ++ [_])[h7.length]? with | some xs => some ((xs, fun h' => h'[h7.length]? = some xs), h7 ++ [_]) | none => none) _ = _
    rw [at_last, bnd_some]
    rw [forD_step at_last (tgt p' r' _ _ _) (body p' r' none none _ gp' gr'), forD_step at_last (tgt r' p' _ _ _) (body r' p' none none _ gr' gp'), forD_step at_last (tgt p' p' _ _ _) (body p' p' none none _ gp' gp'), forD_step at_last (tgt r' r' _ _ _) (body r' r' none none _ gr' gr'), forD_step at_last (tgt p' r' _ _ _) (body p' r' none none _ gp' gr'), forD_nil at_last]
  obtain ⟨h8, s10⟩ := s10
  refine ⟨h8, ?_⟩
  unfold d_law
  rw [runD_fin (ρ := [some S, none, none, none, none, none, none, none, none, none, none]) rfl]
  unfold b_law
  rw [sSeq_nx s1, sSeq_nx s2, sSeq_nx s3, sSeq_nx s4, sSeq_nx s5, sSeq_nx s6, sSeq_nx s7, sSeq_nx s8, sSeq_nx s9, sSeq_nx s10]
  simp only [sRet]
  rw [dAndT_true (h1 := h8) (by walk_at "ev"; exact d_told_eq _ _ h8)]
  walk_at "ev"
  rw [d_told_eq]
  walk_at "ev"
end C

set_option Elab.async false
set_option linter.all false
set_option maxRecDepth 100000
set_option maxHeartbeats 4000000
namespace Hv
open PySem L2
/-! ### two lists behind a heap -/
theorem at2a {h : Hb} {xs ys : List D} : (h ++ [xs, ys])[h.length]? = some xs := by simp
theorem at2b {h : Hb} {xs ys : List D} : (h ++ [xs, ys])[h.length + 1]? = some ys := by
  rw [List.getElem?_append_right (by omega)]; simp
theorem set2a {h : Hb} {xs ys zs : List D} : (h ++ [xs, ys]).set h.length zs = h ++ [zs, ys] := by
  rw [List.set_append_right _ _ (Nat.le_refl _), Nat.sub_self]; rfl
theorem set2b {h : Hb} {xs ys zs : List D} : (h ++ [xs, ys]).set (h.length + 1) zs = h ++ [xs, zs] := by
  rw [List.set_append_right _ _ (by omega), show h.length + 1 - h.length = 1 by omega]; rfl
theorem pop_lst {n : Nat} {ys : List D} {y : D} {h : Hb} (e : h[n]? = some (ys ++ [y])) : mPop n [] h = some (y, h.set n ys) := by
  unfold mPop
  rw [e]
  simp
theorem mapO_lay {h : Hb} {n : Nat} (hf : ∀ d p, datF h n d = some p → p.canLay0 = true) : ∀ (ds : List D) (ps : List PyData), mapO (datF h n) ds = some ps → PyData.canLayAll0 ps = true
  | [], ps, e => by cases e; rfl
  | d :: ds, ps, e => by
    unfold mapO at e
    split at e
    · rename_i p hp
      split at e
      · rename_i qs hq
        cases e
        simp only [PyData.canLayAll0, hf d p hp, mapO_lay hf ds qs hq]; rfl
      · cases e
    · cases e
theorem datF_lay {h : Hb} : ∀ (n : Nat) (d : D) (p : PyData), datF h n d = some p → p.canLay0 = true
  | 0, _, _, e => by cases e
  | n + 1, d, p, e => by
    have ih := datF_lay (h := h) n
    cases d with
    | non => cases e; rfl
    | bl b => cases e; rfl
    | int i => cases e; rfl
    | str x =>
      simp only [datF] at e
      split at e
      · rename_i c; cases e; exact c
      · cases e
    | tup ds =>
      simp only [datF] at e
      cases z : mapO (datF h n) ds with
      | none => rw [z] at e; cases e
      | some ps => rw [z] at e; cases e; exact mapO_lay ih ds ps z
    | lst k =>
      simp only [datF] at e
      split at e
      · rename_i ds hd
        cases z : mapO (datF h n) ds with
        | none => rw [z] at e; cases e
        | some ps => rw [z] at e; cases e; exact mapO_lay ih ds ps z
      · cases e
    | rol ds =>
      simp only [datF] at e
      cases z : mapO (datF h n) ds with
      | none => rw [z] at e; cases e
      | some ps => rw [z] at e; cases e; exact mapO_lay ih ds ps z
    | ty n => cases e
    | dct ks n => cases e
/-- what can be compared -/
theorem oEq_same {h : Hb} {x y : D} {p : PyData} (hx : datF h 1000 x = some p) (hy : datF h 1000 y = some p) : oEq x y h = some (.bl true, h) := by
  unfold oEq; rw [hx, hy]
  show some (D.bl (PyData.eqv p p), h) = _
  rw [SeqAt.eqv_refl _ (datF_lay _ _ _ hx)]
theorem oNe_same {h : Hb} {x y : D} {p : PyData} (hx : datF h 1000 x = some p) (hy : datF h 1000 y = some p) : oNe x y h = some (.bl false, h) := by
  unfold oNe; rw [hx, hy]
  show some (D.bl (!PyData.eqv p p), h) = _
  rw [SeqAt.eqv_refl _ (datF_lay _ _ _ hx)]; rfl
end Hv
namespace C
open PySem L2 Hv
local macro_rules | `(tactic| walk_at "ev") => `(tactic| (try simp only [sSeq, sAsg, sRet, sIf, sEx, sNx, sAug, gNm, gTp, gsCons, gsNil, tAn, tOr', tNt, tCm, tT, truD, dBin, dVar, dC, dCall, dTup, dIf, dUn, oNot, dM, mL_lst, aCons, aNil, bnd_some, toB, List.getElem?_cons_succ, List.getElem?_cons_zero, List.set_cons_zero, List.set_cons_succ, Option.map_some, finD_rt, finD_nx, oAdd_int, oSub_int, oEq_int, oNe_int, oEq_bl, oLt_int, oLe_int, oGt_int, oGe_int, oAnd_int, isi_int_int, isi_int_bool, isi_tup, isi_bl, isi_lst, len_tup, len_rol, ix0, ix1, ix0p, ix1p, sLine, sLine2, sLine3, List.length_cons, List.length_nil, Nat.zero_add, Nat.reduceAdd, if_true, if_false, Bool.true_eq_false, Bool.false_eq_true, Bool.not_true, Bool.not_false]))
/-! ### trees -/
inductive Tr where
  | leaf
  | node (l r : Tr)
def Tr.d : Tr → D
  | .leaf => .tup []
  | .node l r => .tup [l.d, r.d]
def Tr.p : Tr → PyData
  | .leaf => .tuple []
  | .node l r => .tuple [l.p, r.p]
def Tr.lvs : Tr → Nat
  | .leaf => 1
  | .node l r => l.lvs + r.lvs
def Tr.hgt : Tr → Nat
  | .leaf => 0
  | .node l r => max l.hgt r.hgt + 1
theorem Tr.pos : ∀ t : Tr, 1 ≤ t.lvs
  | .leaf => Nat.le_refl _
  | .node l r => by have := Tr.pos l; simp only [Tr.lvs]; omega
theorem Tr.hgt_lt : ∀ t : Tr, t.hgt < t.lvs
  | .leaf => by decide
  | .node l r => by
    have := Tr.hgt_lt l
    have := Tr.hgt_lt r
    have := Tr.pos l
    have := Tr.pos r
    simp only [Tr.hgt, Tr.lvs]; omega
theorem datF_tr (h : Hb) : ∀ (t : Tr) (n : Nat), t.hgt < n → datF h n t.d = some t.p
  | .leaf, n + 1, _ => rfl
  | .node l r, n + 1, hn => by
    simp only [Tr.hgt] at hn
    simp only [Tr.d, datF, mapO, datF_tr h l n (by omega), datF_tr h r n (by omega), Tr.p]; rfl
/-- the stretches: begin and depth of each leaf -/
def stz : Tr → Int → Nat → List (Int × Nat)
  | .leaf, n, d => [(n, d)]
  | .node l r, n, d => stz l (2 * n) (d + 1) ++ stz r (2 * n + 1) (d + 1)
def dps : Tr → Nat → List Nat
  | .leaf, k => [k]
  | .node l r, k => dps l (k + 1) ++ dps r (k + 1)
/-- what waits -/
def item (x : Tr × Int × Nat) : D := .tup [x.1.d, .int x.2.1, .int (x.2.2 : Nat)]
theorem leafQ (t : Tr) (h : Hb) (hg : t.hgt < 999) : oEq t.d (.tup []) h = some (.bl (match t with | .leaf => true | .node _ _ => false), h) := by
  unfold oEq
  rw [datF_tr h t 1000 (by omega)]
  cases t <;> rfl
theorem eq_nil (h : Hb) : oEq (.tup []) (.tup []) h = some (.bl true, h) := id rfl
def sumL : List (Tr × Int × Nat) → Nat
  | [] => 0
  | x :: r => x.1.lvs + sumL r
theorem sumL_len : ∀ s : List (Tr × Int × Nat), s.length ≤ sumL s
  | [] => Nat.le_refl _
  | x :: r => by have := sumL_len r; have := Tr.pos x.1; simp only [sumL, List.length_cons]; omega
def allS : List (Tr × Int × Nat) → List (Int × Nat)
  | [] => []
  | x :: r => stz x.1 x.2.1 x.2.2 ++ allS r
def nodes : List (Tr × Int × Nat) → Nat
  | [] => 0
  | x :: r => (2 * x.1.lvs - 1) + nodes r
theorem stretches_run (h : Hb) (T : Option D) : ∀ (m : Nat) (s : List (Tr × Int × Nat)) (found : List (Int × Nat)) (a b c d e : Option D), nodes s ≤ m → (∀ x ∈ s, x.1.hgt < 999) → found.length + sumL s ≤ 1000000 →
    ∃ a' b' c' d' e', whD (tT (dVar 2)) (sSeq (sAsg (dM (mL mPop) (dVar 2) aNil) (gTp (gsCons (gNm 3) (gsCons (gNm 4) (gsCons (gNm 5) gsNil)))))
  (sIf (tCm oEq (dVar 3) (dTup aNil)) (sEx (dM (mL mAppend) (dVar 1) (aCons (dTup (aCons (dVar 4) (aCons (dVar 5) aNil))) aNil))) (sSeq (sAsg (dVar 3) (gTp (gsCons (gNm 6) (gsCons (gNm 7) gsNil))))
  (sSeq (sEx (dM (mL mAppend) (dVar 2) (aCons (dTup (aCons (dVar 7) (aCons (dBin oAdd (dBin oMul (dC (.int 2)) (dVar 4)) (dC (.int 1))) (aCons (dBin oAdd (dVar 5) (dC (.int 1))) aNil)))) aNil)))
  (sEx (dM (mL mAppend) (dVar 2) (aCons (dTup (aCons (dVar 6) (aCons (dBin oMul (dC (.int 2)) (dVar 4)) (aCons (dBin oAdd (dVar 5) (dC (.int 1))) aNil)))) aNil))))))) [T, some (.lst h.length), some (.lst (h.length + 1)), a, b, c, d, e] (h ++ [found.map ptD, (s.reverse.map item)]) =
      some (.nx [T, some (.lst h.length), some (.lst (h.length + 1)), a', b', c', d', e'], h ++ [(found ++ allS s).map ptD, []])
  | m, [], found, a, b, c, d, e, hm, hh, hl => by
    refine ⟨a, b, c, d, e, ?_⟩
    rw [whD_stop (h1 := h ++ [found.map ptD, []])]
    · simp only [allS, List.append_nil]
    · walk_at "ev"
      simp only [at2b, List.reverse_nil, List.map_nil, Option.map_some]
      rfl
  | 0, x :: s, found, a, b, c, d, e, hm, hh, hl => by
    have := Tr.pos x.1
    simp only [nodes] at hm
    omega
  | m + 1, (.leaf, n, k) :: s, found, a, b, c, d, e, hm, hh, hl => by
    simp only [nodes, Tr.lvs] at hm
    simp only [sumL, Tr.lvs] at hl
    obtain ⟨a', b', c', d', e', e1⟩ := stretches_run h T m s (found ++ [(n, k)]) (some (.tup [])) (some (.int n)) (some (.int (k : Nat))) d e (by omega) (fun x hx => hh x (List.mem_cons_of_mem _ hx)) (by simp only [List.length_append, List.length_cons, List.length_nil]; omega)
    refine ⟨a', b', c', d', e', ?_⟩
    have e2 : allS ((.leaf, n, k) :: s) = (n, k) :: allS s := rfl
    rw [e2, show found ++ (n, k) :: allS s = (found ++ [(n, k)]) ++ allS s by simp, ← e1]
    rw [List.reverse_cons, List.map_append, List.map_singleton]
    refine whD_step (h1 := h ++ [found.map ptD, s.reverse.map item ++ [item (.leaf, n, k)]]) ?_ ?_
    · walk_at "ev"
      simp only [at2b, Option.map_some]
      simp
    · walk_at "ev"
      rw [pop_lst at2b, set2b]
      rw [show item (.leaf, n, k) = .tup [.tup [], .int n, .int (k : Nat)] from rfl]
      walk_at "ev"
      rw [if_pos sLine0]
      walk_at "ev"
      simp only [eq_nil]
      walk_at "ev"
      rw [app_lst (at2a) (by rw [List.length_map, size_val]; omega), set2a]
      walk_at "ev"
      simp only [List.map_append, List.map_cons, List.map_nil]
      rfl
  | m + 1, (.node l r, n, k) :: s, found, a, b, c, d, e, hm, hh, hl => by
    have hl0 := Tr.pos l
    have hr0 := Tr.pos r
    have hsl := sumL_len s
    simp only [nodes, Tr.lvs] at hm
    simp only [sumL, Tr.lvs] at hl
    have hg := hh _ List.mem_cons_self
    simp only [Tr.hgt] at hg
    obtain ⟨a', b', c', d', e', e1⟩ := stretches_run h T m ((l, 2 * n, k + 1) :: (r, 2 * n + 1, k + 1) :: s) found (some (Tr.node l r).d) (some (.int n)) (some (.int (k : Nat))) (some l.d) (some r.d) (by simp only [nodes]; omega)
      (fun x hx => by
        rcases List.mem_cons.mp hx with rfl | hx
        · show l.hgt < 999; omega
        · rcases List.mem_cons.mp hx with rfl | hx
          · show r.hgt < 999; omega
          · exact hh x (List.mem_cons_of_mem _ hx)) (by simp only [sumL]; omega)
    refine ⟨a', b', c', d', e', ?_⟩
    have e2 : allS ((.node l r, n, k) :: s) = allS ((l, 2 * n, k + 1) :: (r, 2 * n + 1, k + 1) :: s) := by simp only [allS, stz, List.append_assoc]
    rw [e2, ← e1]
    rw [List.reverse_cons, List.map_append, List.map_singleton]
    refine whD_step (h1 := h ++ [found.map ptD, s.reverse.map item ++ [item (.node l r, n, k)]]) ?_ ?_
    · walk_at "ev"
      simp only [at2b, Option.map_some]
      simp
    · walk_at "ev"
      rw [pop_lst at2b, set2b]
      have q : oEq (Tr.node l r).d (.tup []) (h ++ [found.map ptD, s.reverse.map item]) = some (.bl false, h ++ [found.map ptD, s.reverse.map item]) := leafQ (.node l r) _ (by simp only [Tr.hgt]; omega)
      rw [show item (.node l r, n, k) = .tup [(Tr.node l r).d, .int n, .int (k : Nat)] from rfl]
      walk_at "ev"
      rw [if_pos sLine0]
      walk_at "ev"
      rw [q]
      walk_at "ev"
      rw [show (Tr.node l r).d = .tup [l.d, r.d] from rfl]
      walk_at "ev"
      simp only [oMul_int (i := 2) (j := n) (.inl (by decide))]
      walk_at "ev"
      rw [app_lst at2b (by rw [List.length_map, List.length_reverse, size_val]; omega), set2b]
      walk_at "ev"
      simp only [oMul_int (i := 2) (j := n) (.inl (by decide))]
      walk_at "ev"
      rw [app_lst at2b (by rw [List.length_append, List.length_map, List.length_reverse, size_val]; simp only [List.length_cons, List.length_nil]; omega), set2b]
      walk_at "ev"
      simp only [List.reverse_cons, List.map_append, List.map_cons, List.map_nil, item, List.append_assoc]
      rfl
theorem d_stretches_eq (t : Tr) (h : Hb) (ht : t.lvs ≤ 900) : d_stretches [t.d] h = some (.lst h.length, h ++ [(stz t 0 0).map ptD, []]) := by
  have hg := Tr.hgt_lt t
  obtain ⟨a', b', c', d', e', e1⟩ := stretches_run h (some t.d) (2 * t.lvs) [(t, 0, 0)] [] none none none none none (by simp only [nodes]; omega) (by intro x hx; simp at hx; subst hx; show t.hgt < 999; omega) (by simp only [List.length_nil, sumL]; omega)
  unfold d_stretches
  rw [runD_fin (ρ := [some t.d, none, none, none, none, none, none, none]) rfl]
  unfold b_stretches
  have a1 : sAsg (dLst aNil) (gNm 1) [some t.d, none, none, none, none, none, none, none] h = some (.nx [some t.d, some (.lst h.length), none, none, none, none, none, none], h ++ [[]]) := by
    simp only [sAsg, dLst, aNil, bnd_some, List.length_nil, sLine0, if_true, gNm, List.set_cons_succ, List.set_cons_zero]
  have a2 : sAsg (dLst (aCons (dTup (aCons (dVar 0) (aCons (dC (.int 0)) (aCons (dC (.int 0)) aNil)))) aNil)) (gNm 2) [some t.d, some (.lst h.length), none, none, none, none, none, none] (h ++ [[]]) = some (.nx [some t.d, some (.lst h.length), some (.lst (h.length + 1)), none, none, none, none, none], h ++ [[], [item (t, 0, 0)]]) := by
    simp only [sAsg, dLst]
    walk_at "ev"
    simp only [List.length_append, List.length_cons, List.length_nil, List.append_assoc, List.cons_append, List.nil_append]
    rfl
  simp only [List.map_nil, List.reverse_cons, List.reverse_nil, List.nil_append, List.map_cons] at e1
  rw [sSeq_nx a1, sSeq_nx a2, sSeq_nx e1]
  walk_at "ev"
  simp only [allS, List.nil_append, List.append_nil]
end C

set_option Elab.async false
set_option linter.all false
set_option maxRecDepth 100000
set_option maxHeartbeats 4000000
namespace Hv
open PySem L2
theorem atR {h : Hb} {xs ys : List D} {n : Nat} (e : h[n]? = some xs) : (h ++ [ys])[n]? = some xs := by rw [List.getElem?_append_left (List.getElem?_eq_some_iff.mp e).1]; exact e
theorem atA {h m : Hb} {xs : List D} {n : Nat} (e : h[n]? = some xs) : (h ++ m)[n]? = some xs := by rw [List.getElem?_append_left (List.getElem?_eq_some_iff.mp e).1]; exact e
theorem cut1 (a : D) (r : List D) : cutD (a :: r) (some 1) none = r := by
  unfold cutD
  rw [show (some (1 : Int)) = some ((1 : Nat) : Int) from rfl, HT.sIx_nat, HT.sIx_none]
  simp
theorem cut1' (xs : List D) : cutD xs (some 1) none = xs.drop 1 := by
  cases xs with
  | nil => rfl
  | cons a r => rw [cut1]; rfl
theorem sl1 {a : Dn} {ρ : En} {h h1 : Hb} {n : Nat} {xs : List D} (e : a ρ h = some (.lst n, h1)) (hx : h1[n]? = some xs) : dSlL a (oSo (dC (.int 1))) oNo ρ h = some (.lst h1.length, h1 ++ [xs.drop 1]) := by
  unfold dSlL oSo oNo dC
  simp only [e, bnd_some]
  show Option.map _ (h1[n]?) = _
  rw [hx]
  show some (D.lst h1.length, h1 ++ [cutD xs (some 1) none]) = _
  rw [cut1']
end Hv
namespace C
open PySem L2 Hv
local macro_rules | `(tactic| walk_at "ev") => `(tactic| (try simp only [sSeq, sAsg, sRet, sIf, sEx, sNx, sAug, gNm, gTp, gsCons, gsNil, tAn, tOr', tNt, tCm, tT, tYs, truD, dBin, dVar, dC, dCall, dTup, dIf, dUn, oNot, dM, mL_lst, aCons, aNil, wipeE, bnd_some, toB, List.getElem?_cons_succ, List.getElem?_cons_zero, List.set_cons_zero, List.set_cons_succ, Option.map_some, finD_rt, finD_nx, oAdd_int, oSub_int, oEq_int, oNe_int, oEq_bl, oLt_int, oLe_int, oGt_int, oGe_int, oAnd_int, isi_int_int, isi_int_bool, isi_tup, isi_bl, isi_lst, len_tup, len_rol, ix0, ix1, ix0p, ix1p, sLine, sLine2, sLine3, List.length_cons, List.length_nil, Nat.zero_add, Nat.reduceAdd, if_true, if_false, Bool.true_eq_false, Bool.false_eq_true, Bool.not_true, Bool.not_false]))
end C

set_option Elab.async false
set_option linter.all false
set_option maxRecDepth 100000
set_option maxHeartbeats 4000000
namespace C
open PySem L2 Hv
local macro_rules | `(tactic| walk_at "ev") => `(tactic| (try simp only [sSeq, sAsg, sRet, sIf, sEx, sNx, sAug, gNm, gTp, gsCons, gsNil, tAn, tOr', tNt, tCm, tT, tYs, truD, dBin, dVar, dC, dCall, dTup, dIf, dUn, oNot, dM, mL_lst, aCons, aNil, wipeE, bnd_some, toB, List.getElem?_cons_succ, List.getElem?_cons_zero, List.set_cons_zero, List.set_cons_succ, Option.map_some, finD_rt, finD_nx, oAdd_int, oSub_int, oEq_int, oNe_int, oEq_bl, oLt_int, oLe_int, oGt_int, oGe_int, oAnd_int, isi_int_int, isi_int_bool, isi_tup, isi_bl, isi_lst, len_tup, len_rol, ix0, ix1, ix0p, ix1p, sLine, sLine2, sLine3, List.length_cons, List.length_nil, Nat.zero_add, Nat.reduceAdd, if_true, if_false, Bool.true_eq_false, Bool.false_eq_true, Bool.not_true, Bool.not_false]))
/-! ### a tree by its depths: law_tree -/
/-- t at depth k laid on what stands (the newest first) -/
def push : List (Tr × Nat) → Tr → Nat → List (Tr × Nat)
  | [], t, k => [(t, k)]
  | (s, j) :: r, t, k => if j = k then push r (.node s t) (k - 1) else (t, k) :: (s, j) :: r
def topLe (s : List (Tr × Nat)) (k : Nat) : Prop := ∀ x ∈ s.head?, x.2 ≤ k
def runT : List Nat → List (Tr × Nat) → List (Tr × Nat)
  | [], s => s
  | k :: ks, s => runT ks (push s .leaf k)
theorem runT_app : ∀ (a b : List Nat) (s : List (Tr × Nat)), runT (a ++ b) s = runT b (runT a s)
  | [], _, _ => rfl
  | k :: ks, b, s => runT_app ks b _
theorem runT_dps : ∀ (t : Tr) (k : Nat) (s : List (Tr × Nat)), topLe s k → runT (dps t k) s = push s t k
  | .leaf, k, s, _ => rfl
  | .node l r, k, s, h => by
    have e1 : push s l (k + 1) = (l, k + 1) :: s := by
      cases s with
      | nil => rfl
      | cons x r =>
        obtain ⟨a, j⟩ := x
        have : j ≤ k := h (a, j) (by simp)
        simp only [push]
        rw [if_neg (by omega)]
    have h1 : topLe s (k + 1) := fun x hx => Nat.le_succ_of_le (h x hx)
    have h2 : topLe ((l, k + 1) :: s) (k + 1) := fun x hx => by simp at hx; subst hx; exact Nat.le_refl _
    simp only [dps, runT_app]
    rw [runT_dps l (k + 1) s h1, e1, runT_dps r (k + 1) _ h2]
    simp only [push, if_true, Nat.add_sub_cancel]
theorem runT_all (t : Tr) : runT (dps t 0) [] = [(t, 0)] := runT_dps t 0 [] (fun x hx => by simp at hx)
theorem atI_last' (xs : List D) (v : D) : atI (xs ++ [v]) (-1) = some v := atI_last xs v
theorem ix_last {n : Nat} {xs : List D} {v : D} {h : Hb} (e : h[n]? = some (xs ++ [v])) : oIx (.lst n) (.int (-1)) h = some (v, h) := oIx_lst e (atI_last' xs v)
/-! ### depths that are drawn -/
end C

set_option Elab.async false
set_option linter.all false
set_option maxRecDepth 100000
set_option maxHeartbeats 4000000
namespace C
open PySem L2 Hv
local macro_rules | `(tactic| walk_at "ev") => `(tactic| (try simp only [sSeq, sAsg, sRet, sIf, sEx, sNx, sAug, gNm, gTp, gsCons, gsNil, tAn, tOr', tNt, tCm, tT, tYs, truD, dBin, dVar, dC, dCall, dTup, dIf, dUn, oNot, dM, mL_lst, aCons, aNil, wipeE, bnd_some, toB, List.getElem?_cons_succ, List.getElem?_cons_zero, List.set_cons_zero, List.set_cons_succ, Option.map_some, finD_rt, finD_nx, oAdd_int, oSub_int, oEq_int, oNe_int, oEq_bl, oLt_int, oLe_int, oGt_int, oGe_int, oAnd_int, isi_int_int, isi_int_bool, isi_tup, isi_bl, isi_lst, len_tup, len_rol, ix0, ix1, ix0p, ix1p, sLine, sLine2, sLine3, List.length_cons, List.length_nil, Nat.zero_add, Nat.reduceAdd, if_true, if_false, Bool.true_eq_false, Bool.false_eq_true, Bool.not_true, Bool.not_false]))
/-! ### the law's own looks -/
theorem set_app {h j : Hb} {i : Nat} {xs : List D} (hi : h.length ≤ i) : (h ++ j).set i xs = h ++ j.set (i - h.length) xs := by rw [List.set_append_right _ _ hi]
theorem clear_lst {n : Nat} {xs : List D} {h : Hb} (e : h[n]? = some xs) : mClear n [] h = some (.non, h.set n []) := by unfold mClear; rw [e]
end C

set_option Elab.async false
set_option linter.all false
set_option maxRecDepth 100000
set_option maxHeartbeats 4000000
namespace C
open PySem L2 Hv
local macro_rules | `(tactic| walk_at "ev") => `(tactic| (try simp only [sSeq, sAsg, sRet, sIf, sEx, sNx, sAug, gNm, gTp, gsCons, gsNil, tAn, tOr', tNt, tCm, tT, tYs, truD, dBin, dVar, dC, dCall, dTup, dIf, dUn, oNot, dM, mL_lst, aCons, aNil, wipeE, bnd_some, toB, List.getElem?_cons_succ, List.getElem?_cons_zero, List.set_cons_zero, List.set_cons_succ, Option.map_some, finD_rt, finD_nx, oAdd_int, oSub_int, oEq_int, oNe_int, oEq_bl, oLt_int, oLe_int, oGt_int, oGe_int, oAnd_int, isi_int_int, isi_int_bool, isi_tup, isi_bl, isi_lst, len_tup, len_rol, ix0, ix1, ix0p, ix1p, sLine, sLine2, sLine3, List.length_cons, List.length_nil, Nat.zero_add, Nat.reduceAdd, if_true, if_false, Bool.true_eq_false, Bool.false_eq_true, Bool.not_true, Bool.not_false]))
/-! ### a tree with its leaves exchanged -/
def graft : Tr → List Tr → Tr
  | .leaf, ps => ps.headD .leaf
  | .node l r, ps => .node (graft l (ps.take l.lvs)) (graft r (ps.drop l.lvs))
theorem atI_last2 (xs : List D) (u v : D) : atI (xs ++ [u, v]) (-2) = some u := by
  unfold atI
  have hx : ixN (xs ++ [u, v]).length (-2) = some xs.length := by
    unfold ixN
    rw [if_neg (by decide), if_pos (by rw [List.length_append]; simp only [List.length_cons, List.length_nil]; omega)]
    rw [List.length_append]; simp only [List.length_cons, List.length_nil]
    congr 1
    omega
  rw [hx]
  simp
theorem ix_last2 {n : Nat} {xs : List D} {u v : D} {h : Hb} (e : h[n]? = some (xs ++ [u, v])) : oIx (.lst n) (.int (-2)) h = some (u, h) := oIx_lst e (atI_last2 xs u v)
end C

set_option Elab.async false
set_option linter.all false
set_option maxRecDepth 100000
set_option maxHeartbeats 4000000
namespace C
open PySem L2 Hv
local macro_rules | `(tactic| walk_at "ev") => `(tactic| (try simp only [sSeq, sAsg, sRet, sIf, sEx, sNx, sAug, gNm, gTp, gsCons, gsNil, tAn, tOr', tNt, tCm, tT, tYs, truD, dBin, dVar, dC, dCall, dTup, dIf, dUn, oNot, dM, mL_lst, aCons, aNil, wipeE, bnd_some, toB, List.getElem?_cons_succ, List.getElem?_cons_zero, List.set_cons_zero, List.set_cons_succ, Option.map_some, finD_rt, finD_nx, oAdd_int, oSub_int, oEq_int, oNe_int, oEq_bl, oLt_int, oLe_int, oGt_int, oGe_int, oAnd_int, isi_int_int, isi_int_bool, isi_tup, isi_bl, isi_lst, len_tup, len_rol, ix0, ix1, ix0p, ix1p, sLine, sLine2, sLine3, List.length_cons, List.length_nil, Nat.zero_add, Nat.reduceAdd, if_true, if_false, Bool.true_eq_false, Bool.false_eq_true, Bool.not_true, Bool.not_false]))
/-! ### what another tree has beneath the leaves of one -/
def beneath : Tr → Tr → List Tr
  | .leaf, o => [o]
  | .node l r, .leaf => beneath l .leaf ++ beneath r .leaf
  | .node l r, .node a b => beneath l a ++ beneath r b
theorem beneath_length : ∀ t o : Tr, (beneath t o).length = t.lvs
  | .leaf, _ => rfl
  | .node l r, .leaf => by simp only [beneath, List.length_append, beneath_length l, beneath_length r, Tr.lvs]
  | .node l r, .node a b => by simp only [beneath, List.length_append, beneath_length l, beneath_length r, Tr.lvs]
def joinT : Tr → Tr → Tr
  | .leaf, o => o
  | .node l r, .leaf => .node l r
  | .node l r, .node a b => .node (joinT l a) (joinT r b)
theorem joinT_leaf : ∀ t : Tr, joinT t .leaf = t
  | .leaf => rfl
  | .node _ _ => rfl
theorem joinT_comm : ∀ a b : Tr, joinT a b = joinT b a
  | .leaf, .leaf => rfl
  | .leaf, .node _ _ => rfl
  | .node _ _, .leaf => rfl
  | .node l r, .node a b => by simp only [joinT, joinT_comm l a, joinT_comm r b]
theorem joinT_self : ∀ a : Tr, joinT a a = a
  | .leaf => rfl
  | .node l r => by simp only [joinT, joinT_self l, joinT_self r]
theorem graft_app (l r : Tr) (ps qs : List Tr) (hp : ps.length = l.lvs) : graft (.node l r) (ps ++ qs) = .node (graft l ps) (graft r qs) := by
  simp only [graft]
  rw [← hp, List.take_left, List.drop_left]
theorem graft_beneath : ∀ t o : Tr, graft t (beneath t o) = joinT t o
  | .leaf, o => rfl
  | .node l r, .leaf => by
    simp only [beneath]
    rw [graft_app _ _ _ _ (beneath_length l _), graft_beneath l, graft_beneath r, joinT_leaf, joinT_leaf, joinT]
  | .node l r, .node a b => by
    simp only [beneath]
    rw [graft_app _ _ _ _ (beneath_length l _), graft_beneath l, graft_beneath r, joinT]
/-! ### one leaf exchanged -/
def repl (t : Tr) (k : Nat) (o : Tr) : Tr := graft t ((List.replicate t.lvs .leaf).set k o)
end C

set_option Elab.async false
set_option linter.all false
set_option maxRecDepth 100000
set_option maxHeartbeats 4000000
namespace Hv
open PySem L2
/-! ### what a run ends with -/
def Wp {α : Type} (m : Option (α × Hb)) (K : α → Hb → Prop) : Prop := ∃ a h, m = some (a, h) ∧ K a h
theorem Wp.ret {α : Type} {a : α} {h : Hb} {K : α → Hb → Prop} (k : K a h) : Wp (some (a, h)) K := ⟨a, h, rfl, k⟩
theorem Wp.of {α : Type} {m : Option (α × Hb)} {a : α} {h : Hb} {K : α → Hb → Prop} (e : m = some (a, h)) (k : K a h) : Wp m K := ⟨a, h, e, k⟩
theorem Wp.bnd {α β : Type} {m : Option (α × Hb)} {k : α → Hb → Option (β × Hb)} {K : β → Hb → Prop} (w : Wp m fun a h => Wp (k a h) K) : Wp (Hv.bnd m k) K := by
  obtain ⟨a, h, rfl, w⟩ := w
  exact w
theorem Wp.mono {α : Type} {m : Option (α × Hb)} {K K' : α → Hb → Prop} (w : Wp m K) (i : ∀ a h, K a h → K' a h) : Wp m K' := by
  obtain ⟨a, h, e, k⟩ := w
  exact ⟨a, h, e, i a h k⟩
/-! ### our own lists behind the heap that was there -/
structure St (h0 : Hb) (L : List (Nat × List D)) (h : Hb) : Prop where
  ext : ∃ j, h = h0 ++ j
  own : ∀ p ∈ L, h0.length ≤ p.1 ∧ h[p.1]? = some p.2
  nd : L.Pairwise fun p q => p.1 ≠ q.1
section
variable {h0 h h' : Hb} {L L' : List (Nat × List D)} {n i : Nat} {xs ys : List D}
theorem St.nil : St h [] h := ⟨⟨[], by simp⟩, by simp, .nil⟩
theorem St.get (S : St h0 L h) (e : L[i]? = some (n, xs)) : h[n]? = some xs := (S.own _ (List.mem_of_getElem? e)).2
theorem St.ge (S : St h0 L h) (e : L[i]? = some (n, xs)) : h0.length ≤ n := (S.own _ (List.mem_of_getElem? e)).1
theorem St.old (S : St h0 L h) (e : h0[n]? = some xs) : h[n]? = some xs := by
  obtain ⟨j, rfl⟩ := S.ext
  exact atA e
theorem St.new (S : St h0 L h) (xs : List D) : St h0 ((h.length, xs) :: L) (h ++ [xs]) := by
  obtain ⟨j, hj⟩ := S.ext
  refine ⟨⟨j ++ [xs], by rw [hj, List.append_assoc]⟩, fun p hp => ?_, ?_⟩
  · rcases List.mem_cons.mp hp with rfl | hp
    · exact ⟨by rw [hj, List.length_append]; omega, at_last⟩
    · exact ⟨(S.own p hp).1, atR (S.own p hp).2⟩
  · refine .cons (fun p hp => ?_) S.nd
    have := (List.getElem?_eq_some_iff.mp (S.own p hp).2).1
    show h.length ≠ p.1
    omega
theorem St.sub (S : St h0 L h) (s : L'.Sublist L) : St h0 L' h := ⟨S.ext, fun p hp => S.own p (s.subset hp), S.nd.sublist s⟩
theorem St.less (S : St h0 L h) : St h0 [] h := S.sub (List.nil_sublist _)
theorem pw_set {α : Type} {R : α → α → Prop} : ∀ {l : List α} {i : Nat} {a b : α}, l.Pairwise R → l[i]? = some a → (∀ x, R x a → R x b) → (∀ x, R a x → R b x) → (l.set i b).Pairwise R
  | [], _, _, _, _, e, _, _ => by simp at e
  | c :: l, 0, a, b, p, e, f, g => by
    simp at e; subst e
    rw [List.pairwise_cons] at p
    rw [List.set_cons_zero, List.pairwise_cons]
    exact ⟨fun x hx => g x (p.1 x hx), p.2⟩
  | c :: l, i + 1, a, b, p, e, f, g => by
    rw [List.getElem?_cons_succ] at e
    rw [List.pairwise_cons] at p
    rw [List.set_cons_succ, List.pairwise_cons]
    refine ⟨fun x hx => ?_, pw_set p.2 e f g⟩
    rcases List.mem_or_eq_of_mem_set hx with hx | rfl
    · exact p.1 x hx
    · exact f c (p.1 a (List.mem_of_getElem? e))
theorem pw_at {α : Type} {R : α → α → Prop} {l : List α} (p : l.Pairwise R) {i j : Nat} {a b : α} (ha : l[i]? = some a) (hb : l[j]? = some b) (hij : i < j) : R a b := by
  obtain ⟨h1, rfl⟩ := List.getElem?_eq_some_iff.mp ha
  obtain ⟨h2, rfl⟩ := List.getElem?_eq_some_iff.mp hb
  exact List.pairwise_iff_getElem.mp p i j h1 h2 hij
theorem St.ne (S : St h0 L h) {j m : Nat} {zs : List D} (e : L[i]? = some (n, xs)) (e' : L[j]? = some (m, zs)) (hij : i ≠ j) : n ≠ m := by
  rcases Nat.lt_or_gt_of_ne hij with hlt | hgt
  · exact pw_at S.nd e e' hlt
  · exact fun z => pw_at S.nd e' e hgt z.symm
theorem St.put (S : St h0 L h) (e : L[i]? = some (n, xs)) (ys : List D) : St h0 (L.set i (n, ys)) (h.set n ys) := by
  have hn := S.ge e
  have hl : n < h.length := (List.getElem?_eq_some_iff.mp (S.get e)).1
  obtain ⟨j, hj⟩ := S.ext
  refine ⟨⟨j.set (n - h0.length) ys, by rw [hj, C.set_app hn]⟩, fun p hp => ?_, pw_set S.nd e (fun x hx => hx) (fun x hx => hx)⟩
  obtain ⟨k, hk⟩ := List.getElem?_of_mem hp
  by_cases hik : i = k
  · subst hik
    rw [List.getElem?_set_self (by exact (List.getElem?_eq_some_iff.mp e).1)] at hk
    cases hk
    exact ⟨hn, by rw [List.getElem?_set_self hl]⟩
  · rw [List.getElem?_set_ne hik] at hk
    obtain ⟨m, zs⟩ := p
    exact ⟨S.ge hk, by rw [List.getElem?_set_ne (S.ne e hk hik)]; exact S.get hk⟩
theorem St.call (S : St h0 L h) (T : St h L' h') : St h0 (L' ++ L) h' := by
  obtain ⟨j, hj⟩ := S.ext
  obtain ⟨k, hk⟩ := T.ext
  have hlen : h0.length ≤ h.length := by rw [hj, List.length_append]; omega
  refine ⟨⟨j ++ k, by rw [hk, hj, List.append_assoc]⟩, fun p hp => ?_, ?_⟩
  · rcases List.mem_append.mp hp with hp | hp
    · exact ⟨Nat.le_trans hlen (T.own p hp).1, (T.own p hp).2⟩
    · exact ⟨(S.own p hp).1, by rw [hk]; exact atA (S.own p hp).2⟩
  · rw [List.pairwise_append]
    refine ⟨T.nd, S.nd, fun a ha b hb => ?_⟩
    have := (T.own a ha).1
    have := (List.getElem?_eq_some_iff.mp (S.own b hb).2).1
    omega
theorem St.call0 (S : St h0 L h) (T : St h [] h') : St h0 L h' := S.call T
theorem St.app {j : Hb} : St h [] (h ++ j) := ⟨⟨j, rfl⟩, by simp, .nil⟩
end
/-! ### rules: values -/
section
variable {ρ : En} {h : Hb} {K : D → Hb → Prop} {KB : Bool → Hb → Prop} {KL : List D → Hb → Prop} {KF : Fl → Hb → Prop} {KE : En → Hb → Prop}
theorem Wp.var {i : Nat} {d : D} (e : ρ[i]? = some (some d)) (k : K d h) : Wp (dVar i ρ h) K := ⟨d, h, by unfold dVar; rw [e], k⟩
theorem Wp.con {d : D} (k : K d h) : Wp (dC d ρ h) K := ⟨d, h, rfl, k⟩
theorem Wp.bin {o : Op} {a b : Dn} (w : Wp (a ρ h) fun x h1 => Wp (b ρ h1) fun y h2 => Wp (o x y h2) K) : Wp (dBin o a b ρ h) K := .bnd (w.mono fun _ _ w => .bnd w)
theorem Wp.un {o : D → Option D} {a : Dn} (w : Wp (a ρ h) fun x h1 => ∃ y, o x = some y ∧ K y h1) : Wp (dUn o a ρ h) K := .bnd (w.mono fun x h1 ⟨y, e, k⟩ => ⟨y, h1, by rw [e]; rfl, k⟩)
theorem Wp.call {f : Cl} {as : An} (w : Wp (as ρ h) fun xs h1 => Wp (f xs h1) K) : Wp (dCall f as ρ h) K := .bnd w
theorem Wp.anil (k : KL [] h) : Wp (aNil ρ h) KL := ⟨[], h, rfl, k⟩
theorem Wp.acons {a : Dn} {r : An} (w : Wp (a ρ h) fun x h1 => Wp (r ρ h1) fun xs h2 => KL (x :: xs) h2) : Wp (aCons a r ρ h) KL := .bnd (w.mono fun _ _ w => .bnd (w.mono fun xs h2 k => .ret k))
theorem Wp.tup {a : An} (w : Wp (a ρ h) fun xs h1 => xs.length ≤ sizeLine ∧ K (.tup xs) h1) : Wp (dTup a ρ h) K := .bnd (w.mono fun xs h1 ⟨l, k⟩ => ⟨_, h1, by rw [if_pos l], k⟩)
/-- a new list -/
def newL (xs : List D) (h : Hb) : Option (D × Hb) := if xs.length ≤ sizeLine then some (.lst h.length, h ++ [xs]) else none
theorem Wp.lst {a : An} (w : Wp (a ρ h) fun xs h1 => Wp (newL xs h1) K) : Wp (dLst a ρ h) K := .bnd w
theorem Wp.new {h0 : Hb} {L : List (Nat × List D)} {xs : List D} (S : St h0 L h) (hl : xs.length ≤ sizeLine) (k : ∀ n h', St h0 ((n, xs) :: L) h' → K (.lst n) h') : Wp (newL xs h) K := ⟨_, _, by unfold newL; rw [if_pos hl], k _ _ (S.new xs)⟩
theorem Wp.m {f : Nat → Cl} {a : Dn} {as : An} (w : Wp (a ρ h) fun x h1 => Wp (as ρ h1) fun xs h2 => Wp (mL f x xs h2) K) : Wp (dM (mL f) a as ρ h) K := .bnd (w.mono fun _ _ w => .bnd w)
theorem Wp.mlst {f : Nat → Cl} {n : Nat} {xs : List D} (w : Wp (f n xs h) K) : Wp (mL f (.lst n) xs h) K := w
theorem Wp.andT {a b : Dn} (w : Wp (a ρ h) fun x h1 => ∃ c, truD h1 x = some c ∧ (c = true → Wp (b ρ h1) K) ∧ (c = false → K x h1)) : Wp (dAndT a b ρ h) K := .bnd (w.mono fun x h1 ⟨c, e, k1, k2⟩ => by
  rw [e]
  cases c with
  | true => exact k1 rfl
  | false => exact ⟨x, h1, rfl, k2 rfl⟩)
theorem Wp.tT {a : Dn} (w : Wp (a ρ h) fun x h1 => ∃ c, truD h1 x = some c ∧ KB c h1) : Wp (tT a ρ h) KB := .bnd (w.mono fun x h1 ⟨c, e, k⟩ => ⟨c, h1, by rw [e]; rfl, k⟩)
theorem Wp.tCm {o : Op} {a b : Dn} (w : Wp (a ρ h) fun x h1 => Wp (b ρ h1) fun y h2 => Wp (o x y h2) fun z h3 => ∃ c, z = .bl c ∧ KB c h3) : Wp (tCm o a b ρ h) KB := .bnd (Wp.bin (w.mono fun _ _ w => w.mono fun _ _ w => w.mono fun z h3 ⟨c, e, k⟩ => ⟨c, h3, by rw [e]; rfl, k⟩))
theorem Wp.tNt {a : Tn} (w : Wp (a ρ h) fun c h1 => KB (!c) h1) : Wp (tNt a ρ h) KB := .bnd (w.mono fun c h1 k => .ret k)
theorem Wp.tAn {a b : Tn} (w : Wp (a ρ h) fun c h1 => (c = true → Wp (b ρ h1) KB) ∧ (c = false → KB false h1)) : Wp (tAn a b ρ h) KB := .bnd (w.mono fun c h1 ⟨k1, k2⟩ => by
  cases c with
  | true => exact k1 rfl
  | false => exact .ret (k2 rfl))
theorem Wp.tOr {a b : Tn} (w : Wp (a ρ h) fun c h1 => (c = true → KB true h1) ∧ (c = false → Wp (b ρ h1) KB)) : Wp (tOr' a b ρ h) KB := .bnd (w.mono fun c h1 ⟨k1, k2⟩ => by
  cases c with
  | true => exact .ret (k1 rfl)
  | false => exact k2 rfl)
theorem Wp.tYs (k : KB true h) : Wp (tYs ρ h) KB := .ret k
/-! ### targets -/
theorem Wp.gNm {i : Nat} {d : D} (k : KE (ρ.set i (some d)) h) : Wp (gNm i d ρ h) KE := .ret k
theorem Wp.gTp {g : GsN} {ds : List D} (w : Wp (g ds ρ h) KE) : Wp (gTp g (.tup ds) ρ h) KE := w
theorem Wp.gsC {g : Gn} {r : GsN} {d : D} {ds : List D} (w : Wp (g d ρ h) fun ρ1 h1 => Wp (r ds ρ1 h1) KE) : Wp (gsCons g r (d :: ds) ρ h) KE := .bnd w
theorem Wp.gsN (k : KE ρ h) : Wp (gsNil [] ρ h) KE := .ret k
/-- o[i] = d -/
def putI (x y d : D) (ρ : En) (h : Hb) : Option (En × Hb) := match x, y with
  | .lst n, .int k => match h[n]? with
    | some xs => match ixN xs.length k with
      | some j => some (ρ, h.set n (xs.set j d))
      | none => none
    | none => none
  | _, _ => none
theorem Wp.gIx {o i : Dn} {d : D} (w : Wp (o ρ h) fun x h1 => Wp (i ρ h1) fun y h2 => Wp (putI x y d ρ h2) KE) : Wp (gIx o i d ρ h) KE := .bnd (w.mono fun _ _ w => .bnd w)
theorem Wp.putI {h0 : Hb} {L : List (Nat × List D)} {n i j : Nat} {xs : List D} {d : D} (S : St h0 L h) (e : L[i]? = some (n, xs)) (hj : j < xs.length) (k : ∀ h', St h0 (L.set i (n, xs.set j d)) h' → KE ρ h') : Wp (putI (.lst n) (.int ((j : Nat) : Int)) d ρ h) KE := by
  refine ⟨ρ, _, ?_, k _ (S.put e _)⟩
  show (match h[n]? with
    | some xs => match ixN xs.length ((j : Nat) : Int) with
      | some j => some (ρ, h.set n (xs.set j d))
      | none => none
    | none => none) = _
  have : ixN xs.length ((j : Nat) : Int) = some j := by unfold ixN; rw [if_pos (by omega), if_pos (by omega), Int.toNat_natCast]
  rw [S.get e]
  simp only [this]
def putS (x i j d : D) (ρ : En) (h : Hb) : Option (En × Hb) := match x, i, j, d with
  | .lst n, .int i, .int j, .lst m => match h[n]?, h[m]? with
    | some xs, some ys => if n ≠ m ∧ 0 ≤ i ∧ i ≤ j ∧ j ≤ xs.length ∧ xs.length + ys.length ≤ sizeLine then some (ρ, h.set n (xs.take i.toNat ++ ys ++ xs.drop j.toNat)) else none
    | _, _ => none
  | _, _, _, _ => none
theorem Wp.gSl {o a c : Dn} {d : D} (w : Wp (o ρ h) fun x h1 => Wp (a ρ h1) fun i h2 => Wp (c ρ h2) fun j h3 => Wp (putS x i j d ρ h3) KE) : Wp (gSl o a c d ρ h) KE := .bnd (w.mono fun _ _ w => .bnd (w.mono fun _ _ w => .bnd w))
theorem Wp.putS {h0 : Hb} {L : List (Nat × List D)} {n m i i' : Nat} {a b : Int} {xs ys : List D} (S : St h0 L h) (e : L[i]? = some (n, xs)) (e' : L[i']? = some (m, ys)) (hi : i ≠ i') (h1 : 0 ≤ a) (h2 : a ≤ b) (h3 : b ≤ xs.length) (h4 : xs.length + ys.length ≤ 1000000) (k : ∀ h', St h0 (L.set i (n, xs.take a.toNat ++ ys ++ xs.drop b.toNat)) h' → KE ρ h') : Wp (putS (.lst n) (.int a) (.int b) (.lst m) ρ h) KE := by
  refine ⟨ρ, _, ?_, k _ (S.put e _)⟩
  show (match h[n]?, h[m]? with
    | some xs, some ys => if n ≠ m ∧ 0 ≤ a ∧ a ≤ b ∧ b ≤ xs.length ∧ xs.length + ys.length ≤ sizeLine then some (ρ, h.set n (xs.take a.toNat ++ ys ++ xs.drop b.toNat)) else none
    | _, _ => none) = _
  rw [S.get e, S.get e']
  show (if _ then _ else _) = _
  rw [if_pos ⟨S.ne e e' hi, h1, h2, h3, by rw [size_val]; omega⟩]
/-! ### statements -/
def sqK (b : Sn) (KF : Fl → Hb → Prop) : Fl → Hb → Prop := fun fl h1 => match fl with
  | .nx ρ => Wp (b ρ h1) KF
  | f => KF f h1
theorem Wp.seq {a b : Sn} (w : Wp (a ρ h) (sqK b KF)) : Wp (sSeq a b ρ h) KF := .bnd (w.mono fun fl h1 k => by
  cases fl with
  | nx ρ => exact k
  | bk ρ => exact .ret k
  | ct ρ => exact .ret k
  | rt d => exact .ret k)
theorem sqK.nx {b : Sn} (w : Wp (b ρ h) KF) : sqK b KF (.nx ρ) h := w
theorem sqK.rt {b : Sn} {d : D} (k : KF (.rt d) h) : sqK b KF (.rt d) h := k
theorem sqK.bk {b : Sn} (k : KF (.bk ρ) h) : sqK b KF (.bk ρ) h := k
theorem sqK.ct {b : Sn} (k : KF (.ct ρ) h) : sqK b KF (.ct ρ) h := k
theorem Wp.asg {a : Dn} {g : Gn} (w : Wp (a ρ h) fun d h1 => Wp (g d ρ h1) fun ρ1 h2 => KF (.nx ρ1) h2) : Wp (sAsg a g ρ h) KF := .bnd (w.mono fun _ _ w => .bnd (w.mono fun _ _ k => .ret k))
theorem Wp.sret {a : Dn} (w : Wp (a ρ h) fun d h1 => KF (.rt d) h1) : Wp (sRet a ρ h) KF := .bnd (w.mono fun _ _ k => .ret k)
theorem Wp.ex {a : Dn} (w : Wp (a ρ h) fun _ h1 => KF (.nx ρ) h1) : Wp (sEx a ρ h) KF := .bnd (w.mono fun _ _ k => .ret k)
theorem Wp.sif {t : Tn} {a b : Sn} (w : Wp (t ρ h) fun c h1 => (c = true → Wp (a ρ h1) KF) ∧ (c = false → Wp (b ρ h1) KF)) : Wp (sIf t a b ρ h) KF := .bnd (w.mono fun c h1 ⟨k1, k2⟩ => by
  cases c with
  | true => exact k1 rfl
  | false => exact k2 rfl)
theorem Wp.nx (k : KF (.nx ρ) h) : Wp (sNx ρ h) KF := .ret k
theorem Wp.par {i j : Nat} {a : An} (w : Wp (a ρ h) fun ds h1 => ∃ x y, ds = [x, y] ∧ KF (.nx ((ρ.set i (some x)).set j (some y))) h1) : Wp (sPar i j a ρ h) KF := .bnd (w.mono fun ds h1 ⟨x, y, e, k⟩ => by
  rw [e]; exact .ret k)
def fnK (K : D → Hb → Prop) : Fl → Hb → Prop := fun fl h => match fl with
  | .rt d => K d h
  | .nx _ => K .non h
  | _ => False
theorem fnK.rt {d : D} (k : K d h) : fnK K (.rt d) h := k
theorem fnK.nx (k : K .non h) : fnK K (.nx ρ) h := k
theorem Wp.run {n : Nat} {b : Sn} {as : List D} (ρ : En) (e : as.map some ++ List.replicate (n - as.length) none = ρ) (w : Wp (b ρ h) (fnK K)) : Wp (runD n b as h) K := by
  subst e
  obtain ⟨fl, h', e, k⟩ := w
  unfold runD
  rw [e]
  cases fl with
  | nx ρ => exact .ret k
  | rt d => exact .ret k
  | bk ρ => exact k.elim
  | ct ρ => exact k.elim
/-! ### loops -/
def lpK (N : En → Hb → Prop) (KF : Fl → Hb → Prop) : Fl → Hb → Prop := fun fl h => match fl with
  | .nx ρ => N ρ h
  | .ct ρ => N ρ h
  | .bk ρ => KF (.nx ρ) h
  | .rt d => KF (.rt d) h
theorem lpK.nx {N : En → Hb → Prop} (k : N ρ h) : lpK N KF (.nx ρ) h := k
theorem lpK.ct {N : En → Hb → Prop} (k : N ρ h) : lpK N KF (.ct ρ) h := k
theorem lpK.bk {N : En → Hb → Prop} (k : KF (.nx ρ) h) : lpK N KF (.bk ρ) h := k
theorem lpK.rt {N : En → Hb → Prop} {d : D} (k : KF (.rt d) h) : lpK N KF (.rt d) h := k
theorem Wp.whl {c : Tn} {b : Sn} (I : Nat → En → Hb → Prop) (m : Nat) (init : I m ρ h)
    (step : ∀ m ρ h, I m ρ h → Wp (c ρ h) fun t h1 => (t = true → Wp (b ρ h1) (lpK (fun ρ' h' => ∃ m', m' < m ∧ I m' ρ' h') KF)) ∧ (t = false → KF (.nx ρ) h1)) : Wp (whD c b ρ h) KF := by
  induction m using Nat.strongRecOn generalizing ρ h with
  | _ m ih =>
    obtain ⟨t, h1, e, k1, k2⟩ := step m ρ h init
    cases t with
    | false => exact ⟨.nx ρ, h1, whD_stop e, k2 rfl⟩
    | true =>
      obtain ⟨fl, h2, e2, k⟩ := k1 rfl
      rw [whD, e]
      simp only [e2]
      cases fl with
      | nx ρ' => obtain ⟨m', hm, i'⟩ := k; exact ih m' hm i'
      | ct ρ' => obtain ⟨m', hm, i'⟩ := k; exact ih m' hm i'
      | bk ρ' => exact ⟨_, h2, rfl, k⟩
      | rt d => exact ⟨_, h2, rfl, k⟩
theorem Wp.sfor {f : In} {g : Gn} {b : Sn} (w : Wp (f ρ h) fun it h1 => Wp (forD it.2 g b it.1 ρ h1) KF) : Wp (sFor f g b ρ h) KF := .bnd w
/-- over the items: those behind, those ahead -/
theorem Wp.forI {α : Type} {ok : Hb → Prop} {g : Gn} {b : Sn} (f : α → D) (xs : List α) (I : List α → List α → En → Hb → Prop) (init : I [] xs ρ h)
    (hok : ∀ as bs ρ h, I as bs ρ h → ok h) (step : ∀ as x bs ρ h, xs = as ++ x :: bs → I as (x :: bs) ρ h → Wp (g (f x) ρ h) fun ρ1 h1 => Wp (b ρ1 h1) (lpK (fun ρ' h' => I (as ++ [x]) bs ρ' h') KF))
    (done : ∀ ρ h, I xs [] ρ h → KF (.nx ρ) h) : Wp (forD ok g b (xs.map f) ρ h) KF := by
  have aux : ∀ (bs as : List α) (ρ : En) (h : Hb), xs = as ++ bs → I as bs ρ h → Wp (forD ok g b (bs.map f) ρ h) KF := by
    intro bs
    induction bs with
    | nil =>
      intro as ρ h e i
      rw [List.append_nil] at e
      subst e
      rw [List.map_nil, forD, if_pos (hok _ _ _ _ i)]
      exact .ret (done ρ h i)
    | cons x bs ih =>
      intro as ρ h e i
      rw [List.map_cons, forD, if_pos (hok _ _ _ _ i)]
      refine .bnd ((step as x bs ρ h e i).mono fun ρ1 h1 w => .bnd (w.mono fun fl h2 k => ?_))
      cases fl with
      | nx ρ2 => exact ih (as ++ [x]) ρ2 h2 (by rw [e]; simp) k
      | ct ρ2 => exact ih (as ++ [x]) ρ2 h2 (by rw [e]; simp) k
      | bk ρ2 => exact .ret k
      | rt d => exact .ret k
  exact aux xs [] ρ h rfl init
theorem Wp.lc {f : In} {g : Gn} {t : Tn} {e : Dn} {vs : List Nat} (w : Wp (f ρ h) fun it h1 => Wp (lcGo it.2 g t e (wipeE ρ vs) it.1 h1) fun zs h2 => Wp (newL zs h2) K) : Wp (dLc f g t e vs ρ h) K := .bnd (w.mono fun _ _ w => .bnd w)
theorem Wp.lcI {α : Type} {ok : Hb → Prop} {g : Gn} {t : Tn} {e : Dn} (f : α → D) (F : α → List D) (xs : List α) (I : Hb → Prop) (init : I h) (hok : ∀ h, I h → ok h)
    (step : ∀ x ∈ xs, ∀ h, I h → Wp (g (f x) ρ h) fun ρ1 h1 => Wp (t ρ1 h1) fun c h2 => (c = true → Wp (e ρ1 h2) fun y h3 => F x = [y] ∧ I h3) ∧ (c = false → F x = [] ∧ I h2))
    (done : ∀ h, I h → KL (xs.flatMap F) h) : Wp (lcGo ok g t e ρ (xs.map f) h) KL := by
  induction xs generalizing h KL with
  | nil => rw [List.map_nil, lcGo, if_pos (hok _ init)]; exact .ret (done h init)
  | cons x xs ih =>
    rw [List.map_cons, lcGo, if_pos (hok _ init)]
    refine .bnd ((step x List.mem_cons_self h init).mono fun ρ1 h1 w => .bnd (w.mono fun c h2 ⟨k1, k2⟩ => ?_))
    cases c with
    | true =>
      rw [if_pos rfl]
      refine .bnd ((k1 rfl).mono fun y h3 ⟨e1, i⟩ => .bnd (ih i (fun x hx => step x (List.mem_cons_of_mem _ hx)) fun h4 i4 => .ret ?_))
      have := done h4 i4
      rwa [List.flatMap_cons, e1] at this
    | false =>
      rw [if_neg (by decide)]
      obtain ⟨e1, i⟩ := k2 rfl
      refine ih i (fun x hx => step x (List.mem_cons_of_mem _ hx)) fun h4 i4 => ?_
      have := done h4 i4
      rwa [List.flatMap_cons, e1] at this
theorem flatMap_one {α β : Type} (F : α → β) (xs : List α) : xs.flatMap (fun x => [F x]) = xs.map F := by
  induction xs with
  | nil => rfl
  | cons x xs ih => rw [List.flatMap_cons, ih]; rfl
/-- each item gives one -/
theorem Wp.lcM {α : Type} {ok : Hb → Prop} {g : Gn} {t : Tn} {e : Dn} (f : α → D) (F : α → D) (xs : List α) (I : Hb → Prop) (init : I h) (hok : ∀ h, I h → ok h)
    (step : ∀ x ∈ xs, ∀ h, I h → Wp (g (f x) ρ h) fun ρ1 h1 => Wp (t ρ1 h1) fun c h2 => c = true ∧ Wp (e ρ1 h2) fun y h3 => y = F x ∧ I h3)
    (done : ∀ h, I h → KL (xs.map F) h) : Wp (lcGo ok g t e ρ (xs.map f) h) KL := by
  refine Wp.lcI f (fun x => [F x]) xs I init hok (fun x hx h i => (step x hx h i).mono fun ρ1 h1 w => w.mono fun c h2 ⟨e1, w⟩ => ⟨fun _ => w.mono fun y h3 ⟨e2, i⟩ => ⟨by rw [e2], i⟩, fun z => by rw [e1] at z; cases z⟩) fun h i => ?_
  rw [flatMap_one]
  exact done h i
/-! ### what is walked -/
variable {KI : Itm → Hb → Prop} {KO : Option Int → Hb → Prop}
def anyS (x : D) (h1 : Hb) : Option (Itm × Hb) := match x with
  | .lst n => match h1[n]? with
    | some xs => some ((xs, fun h => h[n]? = some xs), h1)
    | none => none
  | .rol ds => some ((ds, fun _ => True), h1)
  | .tup ds => some ((ds, fun _ => True), h1)
  | .str z => some ((signsD z, fun _ => True), h1)
  | _ => none
theorem Wp.iAny {a : Dn} (w : Wp (a ρ h) fun x h1 => Wp (anyS x h1) KI) : Wp (iAny a ρ h) KI := .bnd w
theorem Wp.anyL {n : Nat} {xs : List D} (e : h[n]? = some xs) (k : KI (xs, fun h => h[n]? = some xs) h) : Wp (anyS (.lst n) h) KI := ⟨_, h, by unfold anyS; simp only [e], k⟩
theorem Wp.rg1 {a : Dn} (w : Wp (a ρ h) fun x h1 => ∃ j : Nat, x = .int ((j : Nat) : Int) ∧ j ≤ 1000000 ∧ KI (rangeD 0 j, fun _ => True) h1) : Wp (iRg (aCons a aNil) ρ h) KI := by
  obtain ⟨x, h1, e, j, rfl, hj, k⟩ := w
  refine ⟨_, h1, iRg_one (j := j) ?_ hj, k⟩
  simp only [aCons, e, bnd_some, aNil]
theorem rangeD_zero (n : Nat) : rangeD 0 n = (List.range n).map fun k => .int ((k : Nat) : Int) := by
  unfold rangeD
  apply List.map_congr_left
  intro k _
  rw [Int.zero_add]
theorem Wp.zip {as : An} (w : Wp (as ρ h) fun xs h1 => ∃ a b us vs, xs = [a, b] ∧ seqL h1 a = some us ∧ seqL h1 b = some vs ∧ KI (zipD us vs, fun h => seqL h a = some us ∧ seqL h b = some vs) h1) : Wp (iZp as ρ h) KI := .bnd (w.mono fun xs h1 ⟨a, b, us, vs, e, e1, e2, k⟩ => by
  subst e
  simp only [e1, e2]
  exact .ret k)
theorem Wp.rev {as : An} (w : Wp (as ρ h) fun xs h1 => ∃ a us, xs = [a] ∧ seqL h1 a = some us ∧ KI (us.reverse, fun h => seqL h a = some us) h1) : Wp (iRv as ρ h) KI := .bnd (w.mono fun xs h1 ⟨a, us, e, e1, k⟩ => by
  subst e
  simp only [e1]
  exact .ret k)
/-! ### operations -/
theorem Wp.addI {i j : Int} (k : K (.int (i + j)) h) : Wp (oAdd (.int i) (.int j) h) K := .ret k
theorem Wp.subI {i j : Int} (k : K (.int (i - j)) h) : Wp (oSub (.int i) (.int j) h) K := .ret k
theorem Wp.mulI {i j : Int} (c : i.natAbs < 2 ^ 64 ∨ j.natAbs < 2 ^ 64) (k : K (.int (i * j)) h) : Wp (oMul (.int i) (.int j) h) K := .of (oMul_int c h) k
theorem Wp.modI {i j : Int} (c : 0 < j) (k : K (.int (i % j)) h) : Wp (oMod (.int i) (.int j) h) K := .of (oMod_int c h) k
theorem Wp.divI {i j : Int} (c : 0 < j ∧ j < 1073741824) (k : K (.int (i / j)) h) : Wp (oDiv (.int i) (.int j) h) K := .of (oDiv_int c h) k
theorem Wp.powI {i j : Int} (c : 0 ≤ j ∧ j ≤ 1000000 ∧ i.natAbs < 2 ^ 64) (k : K (.int (i ^ j.toNat)) h) : Wp (oPow (.int i) (.int j) h) K := .of (oPow_int c h) k
theorem Wp.ltI {i j : Int} (k : K (.bl (decide (i < j))) h) : Wp (oLt (.int i) (.int j) h) K := .ret k
theorem Wp.leI {i j : Int} (k : K (.bl (decide (i ≤ j))) h) : Wp (oLe (.int i) (.int j) h) K := .ret k
theorem Wp.gtI {i j : Int} (k : K (.bl (decide (j < i))) h) : Wp (oGt (.int i) (.int j) h) K := .ret k
theorem Wp.geI {i j : Int} (k : K (.bl (decide (j ≤ i))) h) : Wp (oGe (.int i) (.int j) h) K := .ret k
theorem Wp.eqI {i j : Int} (k : K (.bl (i == j)) h) : Wp (oEq (.int i) (.int j) h) K := .of (oEq_int i j h) k
theorem Wp.neI {i j : Int} (k : K (.bl (!(i == j))) h) : Wp (oNe (.int i) (.int j) h) K := .of (oNe_int i j h) k
theorem Wp.eqS {x y : D} {p : PyData} (hx : datF h 1000 x = some p) (hy : datF h 1000 y = some p) (k : K (.bl true) h) : Wp (oEq x y h) K := .of (oEq_same hx hy) k
theorem Wp.neS {x y : D} {p : PyData} (hx : datF h 1000 x = some p) (hy : datF h 1000 y = some p) (k : K (.bl false) h) : Wp (oNe x y h) K := .of (oNe_same hx hy) k
theorem Wp.ixL {n j : Nat} {xs : List D} {d : D} (e : h[n]? = some xs) (e2 : xs[j]? = some d) (k : K d h) : Wp (oIx (.lst n) (.int ((j : Nat) : Int)) h) K := .of (oIx_lst e (atI_nat e2)) k
theorem Wp.ixT0 {a : D} {r : List D} (k : K a h) : Wp (oIx (.tup (a :: r)) (.int 0) h) K := .of (ix0 a r h) k
theorem Wp.ixT1 {a b : D} {r : List D} (k : K b h) : Wp (oIx (.tup (a :: b :: r)) (.int 1) h) K := .of (ix1 a b r h) k
theorem Wp.ixLast {n : Nat} {xs : List D} {d : D} (e : h[n]? = some (xs ++ [d])) (k : K d h) : Wp (oIx (.lst n) (.int (-1)) h) K := .of (C.ix_last e) k
theorem Wp.lenL {n : Nat} {xs : List D} (e : h[n]? = some xs) (k : K (.int (xs.length : Nat)) h) : Wp (oLen [.lst n] h) K := .of (len_lst e) k
theorem Wp.lenT {xs : List D} (k : K (.int (xs.length : Nat)) h) : Wp (oLen [.tup xs] h) K := .ret k
variable {h0 : Hb} {L : List (Nat × List D)} {n i : Nat} {xs ys : List D}
theorem Wp.app {d : D} (S : St h0 L h) (e : L[i]? = some (n, xs)) (hl : xs.length < 1000000) (k : ∀ h', St h0 (L.set i (n, xs ++ [d])) h' → K .non h') : Wp (mAppend n [d] h) K := .of (app_lst (S.get e) (by rw [size_val]; omega)) (k _ (S.put e _))
theorem Wp.pop {d : D} (S : St h0 L h) (e : L[i]? = some (n, xs ++ [d])) (k : ∀ h', St h0 (L.set i (n, xs)) h' → K d h') : Wp (mPop n [] h) K := .of (pop_lst (S.get e)) (k _ (S.put e _))
theorem Wp.clear (S : St h0 L h) (e : L[i]? = some (n, xs)) (k : ∀ h', St h0 (L.set i (n, [])) h' → K .non h') : Wp (mClear n [] h) K := .of (C.clear_lst (S.get e)) (k _ (S.put e _))
theorem Wp.extend {m : Nat} (S : St h0 L h) (e : L[i]? = some (n, xs)) (e2 : h[m]? = some ys) (hl : xs.length + ys.length ≤ 1000000) (k : ∀ h', St h0 (L.set i (n, xs ++ ys)) h' → K .non h') : Wp (mExtend n [.lst m] h) K := by
  refine ⟨.non, _, ?_, k _ (S.put e _)⟩
  unfold mExtend
  simp only [S.get e, e2]
  rw [if_pos (by rw [size_val]; omega)]
theorem Wp.addL {m : Nat} (S : St h0 L h) (e : h[n]? = some xs) (e2 : h[m]? = some ys) (hl : xs.length + ys.length ≤ 1000000) (k : ∀ r h', St h0 ((r, xs ++ ys) :: L) h' → K (.lst r) h') : Wp (oAdd (.lst n) (.lst m) h) K := by
  refine ⟨_, _, ?_, k _ _ (S.new (xs ++ ys))⟩
  unfold oAdd
  simp only [e, e2]
  rw [if_pos (by rw [size_val]; omega)]
theorem Wp.listL (S : St h0 L h) (e : h[n]? = some xs) (k : ∀ r h', St h0 ((r, xs) :: L) h' → K (.lst r) h') : Wp (oList [.lst n] h) K := ⟨_, _, by unfold oList seqAny seqL; simp only [e]; rfl, k _ _ (S.new xs)⟩
/-! ### slices -/
theorem Wp.oNo (k : KO none h) : Wp (oNo ρ h) KO := .ret k
theorem Wp.oSo {a : Dn} (w : Wp (a ρ h) fun x h1 => ∃ i, x = .int i ∧ KO (some i) h1) : Wp (oSo a ρ h) KO := .bnd (w.mono fun x h1 ⟨i, e, k⟩ => by rw [e]; exact .ret k)
theorem Wp.sl {a : Dn} {lo hi : On} (w : Wp (a ρ h) fun x h1 => Wp (lo ρ h1) fun l h2 => Wp (hi ρ h2) fun u h3 => Wp (oSlL x l u h3) K) : Wp (dSlL a lo hi ρ h) K := .bnd (w.mono fun _ _ w => .bnd (w.mono fun _ _ w => .bnd w))
theorem sIx_nat (len dflt k : Nat) : HT.sIx len dflt (some ((k : Nat) : Int)) = min k len := by
  unfold HT.sIx
  simp only
  rw [if_neg (by omega)]
  simp
def jnK (P : En → Hb → Prop) (KF : Fl → Hb → Prop) : Fl → Hb → Prop := fun fl h => match fl with
  | .nx ρ => P ρ h
  | f => KF f h
theorem jnK.nx {P : En → Hb → Prop} (k : P ρ h) : jnK P KF (.nx ρ) h := k
theorem jnK.rt {P : En → Hb → Prop} {d : D} (k : KF (.rt d) h) : jnK P KF (.rt d) h := k
theorem jnK.sq {P : En → Hb → Prop} {b : Sn} (k : ∀ ρ h, P ρ h → Wp (b ρ h) KF) : ∀ fl h, jnK P KF fl h → sqK b KF fl h := by
  intro fl h j
  cases fl with
  | nx ρ => exact k ρ h j
  | bk ρ => exact j
  | ct ρ => exact j
  | rt d => exact j
/-- two ways that meet again -/
theorem brJ {c : Bool} {m1 m2 : Option (Fl × Hb)} {b : Sn} (P : En → Hb → Prop) (w1 : c = true → Wp m1 (jnK P KF)) (w2 : c = false → Wp m2 (jnK P KF)) (k : ∀ ρ h, P ρ h → Wp (b ρ h) KF) : (c = true → Wp m1 (sqK b KF)) ∧ (c = false → Wp m2 (sqK b KF)) :=
  ⟨fun e => (w1 e).mono (jnK.sq k), fun e => (w2 e).mono (jnK.sq k)⟩
theorem Wp.join {m : Option (Fl × Hb)} {b : Sn} (P : En → Hb → Prop) (w : Wp m (jnK P KF)) (k : ∀ ρ h, P ρ h → Wp (b ρ h) KF) : Wp m (sqK b KF) := w.mono (jnK.sq k)
theorem exB {b : Bool} {P : Bool → Prop} (k : P b) : ∃ c, D.bl b = .bl c ∧ P c := ⟨b, rfl, k⟩
theorem truB {b : Bool} {P : Bool → Prop} (k : P b) : ∃ c, truD h (.bl b) = some c ∧ P c := ⟨b, rfl, k⟩
theorem brT {A B : Prop} (a : A) : (true = true → A) ∧ (true = false → B) := ⟨fun _ => a, fun z => by cases z⟩
theorem brF {A B : Prop} (b : B) : (false = true → A) ∧ (false = false → B) := ⟨(fun z => by cases z), fun _ => b⟩
theorem brNT {A B : Prop} (a : B) : ((!true) = true → A) ∧ ((!true) = false → B) := ⟨(fun z => by cases z), fun _ => a⟩
theorem tupK {xs : List D} {P : Prop} (hl : xs.length ≤ 8) (k : P) : xs.length ≤ sizeLine ∧ P := ⟨by rw [size_val]; omega, k⟩
theorem line8 {xs : List D} (hl : xs.length ≤ 8) : xs.length ≤ sizeLine := by rw [size_val]; omega
theorem negK {i : Int} {P : D → Prop} (k : P (.int (-i))) : ∃ y, oNeg (.int i) = some y ∧ P y := ⟨_, rfl, k⟩
theorem soK {i : Int} {P : Int → Prop} (k : P i) : ∃ j, D.int i = .int j ∧ P j := ⟨i, rfl, k⟩
theorem zipK {a b : D} {us vs : List D} {P : D → D → List D → List D → Prop} (e1 : seqL h a = some us) (e2 : seqL h b = some vs) (k : P a b us vs) : ∃ a' b' us vs, [a, b] = [a', b'] ∧ seqL h a' = some us ∧ seqL h b' = some vs ∧ P a' b' us vs := ⟨a, b, us, vs, rfl, e1, e2, k⟩
end
end Hv

set_option Elab.async false
set_option linter.all false
set_option maxRecDepth 100000
set_option maxHeartbeats 4000000
namespace C
open PySem L2 Hv
noncomputable def b_pieces : Sn :=
  (sSeq (sAsg (dVar 0) (gTp (gsCons (gNm 1) (gsCons (gNm 2) gsNil))))
  (sRet (dLz (aCons (dCall d_stretches (aCons (dVar 1) aNil)) (aCons (dCall d_stretches (aCons (dVar 2) aNil)) aNil)))))
noncomputable def d_pieces : Cl := runD 3 b_pieces
noncomputable def b_growth : Sn :=
  (sSeq (sAsg (dVar 0) (gTp (gsCons (gNm 1) (gsCons (gNm 2) gsNil))))
  (sRet (dBin oSub (dBin oIx (dVar 1) (dC (.int 1))) (dBin oIx (dVar 2) (dC (.int 1))))))
noncomputable def d_growth : Cl := runD 3 b_growth
end C

set_option Elab.async false
set_option linter.all false
set_option maxRecDepth 100000
set_option maxHeartbeats 4000000
namespace Hv
open PySem L2
section
variable {h0 h : Hb} {L L' : List (Nat × List D)} {K : D → Hb → Prop} {ρ : En}
theorem St.perm (S : St h0 L h) (p : L.Perm L') : St h0 L' h := ⟨S.ext, fun q hq => S.own q (p.mem_iff.mpr hq), (p.pairwise_iff (fun {x y} (e : x.1 ≠ y.1) => Ne.symm e)).mp S.nd⟩
theorem Wp.lz {as : An} (w : Wp (as ρ h) fun xs h1 => ∃ a b us vs, xs = [a, b] ∧ seqL h1 a = some us ∧ seqL h1 b = some vs ∧ Wp (some (D.lst h1.length, h1 ++ [zipD us vs])) K) : Wp (dLz as ρ h) K := .bnd (w.mono fun xs h1 ⟨a, b, us, vs, e, e1, e2, k⟩ => by
  subst e
  simp only [e1, e2]
  exact k)
theorem Wp.new' {xs : List D} (S : St h0 L h) (k : ∀ n h', St h0 ((n, xs) :: L) h' → K (.lst n) h') : Wp (some (D.lst h.length, h ++ [xs])) K := ⟨_, _, rfl, k _ _ (S.new xs)⟩
theorem Wp.isiT {ds : List D} (k : K (.bl true) h) : Wp (oIsi [.tup ds, .ty "tuple"] h) K := .of (isi_tup ds h) k
end
end Hv
namespace C
open PySem L2 Hv
local macro_rules | `(tactic| walk_at "sl") => `(tactic| repeat (first | exact List.nil_sublist _ | (with_reducible exact List.Sublist.refl _) | (with_reducible refine List.Sublist.cons₂ _ ?_) | (refine List.Sublist.cons _ ?_)))
set_option hygiene false in
local macro_rules | `(tactic| walk_at "rd") => `(tactic| first | exact S.get (i := 0) rfl | exact S.get (i := 1) rfl | exact S.get (i := 2) rfl | exact S.get (i := 3) rfl | exact S.get (i := 4) rfl | exact S.get (i := 5) rfl | assumption | exact S.old (by assumption))
set_option hygiene false in
local macro_rules | `(tactic| walk_at "s") => `(tactic| first
  | with_reducible refine Wp.seq ?_ | with_reducible refine sqK.nx ?_ | with_reducible refine sqK.rt ?_ | with_reducible refine Wp.asg ?_
  | ((with_reducible apply Wp.var); exact rfl) | with_reducible refine Wp.con ?_ | with_reducible refine Wp.bin ?_ | with_reducible refine Wp.call ?_ | with_reducible refine Wp.acons ?_ | with_reducible refine Wp.anil ?_
  | ((with_reducible refine Wp.gNm ?_); try dsimp only [List.set_cons_zero, List.set_cons_succ]) | with_reducible refine Wp.gTp ?_ | with_reducible refine Wp.gsC ?_ | with_reducible refine Wp.gsN ?_ | with_reducible refine Wp.gIx ?_ | with_reducible refine Wp.gSl ?_
  | with_reducible refine Wp.sif ?_ | with_reducible refine Wp.tCm ?_ | with_reducible refine exB ?_ | with_reducible refine brT ?_ | with_reducible refine brF ?_ | with_reducible refine brNT ?_ | with_reducible refine brNF ?_ | with_reducible refine Wp.tT ?_ | with_reducible refine truB ?_ | with_reducible refine truI ?_ | with_reducible refine truT ?_ | with_reducible refine truN ?_
  | ((with_reducible apply truL); walk_at "rd") | with_reducible refine Wp.tNt ?_ | with_reducible refine Wp.tAn ?_ | with_reducible refine Wp.tOr ?_ | with_reducible refine Wp.tYs ?_
  | with_reducible refine Wp.sret ?_ | with_reducible refine Wp.ex ?_ | with_reducible refine Wp.nx ?_ | with_reducible refine Wp.sbk ?_ | with_reducible refine Wp.sct ?_ | (with_reducible refine Wp.aug ?_) | (with_reducible refine Wp.par ?_) | with_reducible refine parK ?_
  | (with_reducible refine Wp.tup ?_) | ((with_reducible refine tupK ?_ ?_); exact Nat.le_of_ble_eq_true rfl) | with_reducible refine Wp.lst ?_ | with_reducible refine Wp.m ?_ | with_reducible refine Wp.mlst ?_ | with_reducible refine Wp.andT ?_ | with_reducible refine Wp.orT ?_ | with_reducible refine Wp.if_ ?_
  | with_reducible refine Wp.un ?_ | with_reducible refine negK ?_ | with_reducible refine notK ?_
  | with_reducible refine jnK.nx ?_ | with_reducible refine jnK.rt ?_ | with_reducible refine fnK.rt ?_ | with_reducible refine fnK.nx ?_ | with_reducible refine lpK.nx ?_ | with_reducible refine lpK.ct ?_ | with_reducible refine lpK.bk ?_ | with_reducible refine lpK.rt ?_
  | with_reducible refine Wp.addI ?_ | with_reducible refine Wp.subI ?_ | with_reducible refine Wp.iaddI ?_ | with_reducible refine Wp.andI ?_ | ((with_reducible refine Wp.mulI ?_ ?_); first | exact .inl (by decide) | exact .inr (by decide)) | ((with_reducible refine Wp.modI ?_ ?_); exact (by decide)) | ((with_reducible refine Wp.divI ?_ ?_); exact (by decide))
  | with_reducible refine Wp.ltI ?_ | with_reducible refine Wp.leI ?_ | with_reducible refine Wp.gtI ?_ | with_reducible refine Wp.geI ?_ | with_reducible refine Wp.eqI ?_ | with_reducible refine Wp.neI ?_
  | with_reducible refine Wp.ixT0 ?_ | with_reducible refine Wp.ixT1 ?_ | ((with_reducible apply Wp.lenL); walk_at "rd") | with_reducible refine Wp.lenT ?_ | with_reducible refine Wp.lenR ?_
  | with_reducible refine Wp.isiT ?_ | with_reducible refine Wp.isiL ?_ | with_reducible refine Wp.isiI ?_ | with_reducible refine Wp.isiB ?_ | with_reducible refine Wp.isiS ?_ | with_reducible refine Wp.lz ?_ | with_reducible refine Wp.sfor ?_ | with_reducible refine Wp.iAny ?_ | ((with_reducible apply Wp.anyL); walk_at "rd"; try dsimp only [wipeE, List.set_cons_zero, List.set_cons_succ]) | ((with_reducible refine Wp.anyT ?_); try dsimp only [wipeE, List.set_cons_zero, List.set_cons_succ]) | ((with_reducible refine Wp.anyR ?_); try dsimp only [wipeE, List.set_cons_zero, List.set_cons_succ]) | ((with_reducible refine Wp.anyX ?_); try dsimp only [wipeE, List.set_cons_zero, List.set_cons_succ]) | with_reducible refine Wp.lc ?_
  | ((with_reducible apply Wp.tupL); walk_at "rd") | with_reducible refine Wp.tupT ?_ | with_reducible refine Wp.sl ?_ | with_reducible refine Wp.oNo ?_ | with_reducible refine Wp.oSo ?_ | with_reducible refine soK ?_ | with_reducible refine Wp.rg1 ?_ | with_reducible refine Wp.rg2 ?_ | with_reducible refine Wp.zip ?_ | with_reducible refine Wp.enum ?_ | with_reducible refine Wp.rev ?_)
set_option hygiene false in
local macro_rules | `(tactic| walk_at "w") => `(tactic| repeat (walk_at "s"))

abbrev Pt := Int × Nat
abbrev Pc := Pt × Pt
def pcD (x : Pc) : D := .tup [ptD x.1, ptD x.2]
theorem zip_pc : ∀ (xs ys : List Pt), zipD (xs.map ptD) (ys.map ptD) = (xs.zip ys).map pcD
  | [], _ => by simp [zipD]
  | x :: xs, [] => by simp [zipD]
  | x :: xs, y :: ys => by simp only [List.map_cons, zipD, List.zip_cons_cons, zip_pc xs ys]; rfl
def pcs (a b : Tr) : List Pc := (stz a 0 0).zip (stz b 0 0)
section
variable {h0 h : Hb} {L : List (Nat × List D)} {K : D → Hb → Prop}
theorem stretches_wp {t : Tr} (ht : t.lvs ≤ 900) (S : St h0 L h) (k : ∀ n h', St h0 ((n, (stz t 0 0).map ptD) :: L) h' → K (.lst n) h') : Wp (d_stretches [t.d] h) K := by
  refine ⟨_, _, d_stretches_eq t h ht, k _ _ ?_⟩
  have T := (S.new ((stz t 0 0).map ptD)).call (St.app (j := [[]]))
  simpa using T
theorem pieces_wp {a b : Tr} (ha : a.lvs ≤ 900) (hb : b.lvs ≤ 900) (S : St h0 L h) (k : ∀ n h', St h0 ((n, (pcs a b).map pcD) :: L) h' → K (.lst n) h') : Wp (d_pieces [.tup [a.d, b.d]] h) K := by
  unfold d_pieces
  refine Wp.run [some (.tup [a.d, b.d]), none, none] rfl ?_
  unfold b_pieces
  walk_at "w"
  refine stretches_wp ha S fun n h S => ?_
  walk_at "w"
  refine stretches_wp hb S fun m h S => ?_
  walk_at "w"
  refine zipK (us := (stz a 0 0).map ptD) (vs := (stz b 0 0).map ptD) (by show h[n]? = _; walk_at "rd") (by show h[m]? = _; walk_at "rd") ?_
  rw [zip_pc, show (stz a 0 0).zip (stz b 0 0) = pcs a b from rfl]
  refine Wp.new' S fun r h S => ?_
  walk_at "w"
  exact k r h (S.sub (by walk_at "sl"))
def gr (x : Pc) : Int := ((x.1.2 : Nat) : Int) - ((x.2.2 : Nat) : Int)
theorem growth_wp {x : Pc} (k : K (.int (gr x)) h) : Wp (d_growth [pcD x] h) K := by
  unfold d_growth
  refine Wp.run [some (pcD x), none, none] rfl ?_
  unfold b_growth pcD ptD
  walk_at "w"
  exact k
end
end C

set_option Elab.async false
set_option linter.all false
set_option maxRecDepth 100000
set_option maxHeartbeats 4000000
namespace Hv
open PySem PySem.Spec PyProof.Rows L2
section
variable {X : Cx}
def dS1 (g : Str → Str → Option D) (a b : Dn) : Dn := fun ρ h => bnd (a ρ h) fun x h1 => bnd (b ρ h1) fun y h2 => match x, y with
  | .str s, .str t => (g s t).map fun d => (d, h2)
  | _, _ => none
def flt : D → Option V
  | .bl b => some (.bl b)
  | .int i => some (.int i)
  | .str s => some (.str s)
  | _ => none
theorem flt_rp {K : PySem.W.Frag} {H : Hp} {ms : List Addr} {d : D} {v : V} (e : flt d = some v) : Rp K H ms d v := by
  cases d <;> first | (cases e; done) | skip
  all_goals cases e; rfl
theorem je_s1 {id : String} {name : Str} {apos pos : Pos} {g : Str → Str → Option D} {r : V → List V → Hp → VK → Prop} {o e : Expr} {a b : Dn} (slot : Slot "str" name id) (ty : typeOf (.builtin id) = pure (.type "method_descriptor")) (rule : MtR X id r)
    (hg : ∀ s t d, g s t = some d → ∃ v, flt d = some v ∧ ∀ H Q, Q v H → r (.str s) [.str t] H Q) (jo : JE X o a) (je : JE X e b)
    (hs : starEach [e] X.env = [(false, eval e X.env)] := by rfl) (hbase : attributeBase o name X.env (eval o X.env) = eval o X.env := by rfl) (hline : (apos.endLine == pos.line) = true := by rfl) : JE X (.Call (.Attribute o name apos) [e] [] pos) (dS1 g a b) := by
  refine .of (pe_m1 slot ty rule jo.pe je.pe hs hbase hline) fun σ H Q h => ?_
  obtain ⟨ρ, ms, hb, d', h', ok, e, q⟩ := h
  obtain ⟨x, h1, e1, e⟩ := of_bnd e
  obtain ⟨y, h2, e2, e⟩ := of_bnd e
  cases x with
  | str s =>
    refine ⟨ρ, ms, hb, .str s, h1, ok, e1, fun v H1 ms1 x1 r1 p1 => ?_⟩
    simp only [Rp] at p1
    subst p1
    refine ⟨⟨s, rfl⟩, ρ, ms1, h1, y, h2, ok.up x1 r1, e2, fun v2 H2 ms2 x2 r2 p2 => ?_⟩
    cases y with
    | str t =>
      simp only [Rp] at p2
      subst p2
      simp only at e
      cases z : g s t with
      | none => rw [z] at e; cases e
      | some d =>
        rw [z] at e
        cases e
        obtain ⟨v, e2, e3⟩ := hg s t _ z
        exact e3 _ _ (q _ H2 ms2 (x1.trans x2) r2 (flt_rp e2))
    | _ => cases e
  | _ => cases e
def gSw (s t : Str) : Option D := some (.bl (Txt.startswith s t))
theorem hgSw : ∀ s t d, gSw s t = some d → ∃ v, flt d = some v ∧ ∀ H Q, Q v H → (fun x xs H Q => ∃ a b, x = V.str a ∧ xs = [.str b] ∧ Q (V.bl (Txt.startswith a b)) H : V → List V → Hp → VK → Prop) (.str s) [.str t] H Q := fun s t d e => by
  cases e
  exact ⟨_, rfl, fun H Q q => ⟨s, t, rfl, rfl, q⟩⟩
theorem je_sw {apos pos : Pos} {o e : Expr} {a b : Dn} (jo : JE X o a) (je : JE X e b)
    (hs : starEach [e] X.env = [(false, eval e X.env)] := by rfl) (hbase : attributeBase o "startswith" X.env (eval o X.env) = eval o X.env := by rfl) (hline : (apos.endLine == pos.line) = true := by rfl) : JE X (.Call (.Attribute o "startswith" apos) [e] [] pos) (dS1 gSw a b) :=
  je_s1 F.slot_str_startswith F.type_str_startswith mt_startswith hgSw jo je hs hbase hline
end
end Hv

set_option Elab.async false
set_option linter.all false
set_option maxRecDepth 100000
set_option maxHeartbeats 4000000
namespace C
open PySem L2 Hv
noncomputable def b_ends : Sn :=
  (sSeq (sAsg (dCall d_pieces (aCons (dVar 0) aNil)) (gNm 1))
  (sRet (dTup (aCons (dCall d_growth (aCons (dBin oIx (dVar 1) (dC (.int 0))) aNil)) (aCons (dCall d_growth (aCons (dBin oIx (dVar 1) (dUn oNeg (dC (.int 1)))) aNil)) aNil)))))
noncomputable def d_ends : Cl := runD 2 b_ends
noncomputable def b_law_deal_3 : Sn :=
  (sSeq (sAsg (dLc (iAny (dSlL (dVar 0) (oSo (dVar 1)) (oSo (dC (.int 63))))) (gNm 4) tYs (dCall oMax (aCons (dVar 4) (aCons (dBin oSub (dC (.int 0)) (dVar 4)) aNil))) [4]) (gNm 2))
  (sSeq (sAsg (dBin oAdd (dC (.int 6271)) (dBin oMul (dC (.int 11)) (dVar 1))) (gNm 3))
  (sSeq (sFor (iAny (dVar 2)) (gNm 4) (sAsg (dBin oMod (dBin oAdd (dBin oAdd (dBin oMul (dVar 3) (dC (.int 69313))) (dBin oMod (dVar 4) (dC (.int 2147483579)))) (dC (.int 17))) (dC (.int 2147483647))) (gNm 3)))
  (sRet (dDsp [("seed", (dVar 3)), ("number", (dC (.int 0))), ("left", (dLr (aCons (dLc (iAny (dVar 2)) (gNm 4) (tCm oGe (dVar 4) (dBin oPow (dC (.int 10)) (dC (.int 18)))) (dVar 4) [4]) aNil)))])))))
noncomputable def d_law_deal_3 : Cl := runD 5 b_law_deal_3
noncomputable def b_law_draw_3 : Sn :=
  (sSeq (whD (tAn (tCm oEq (dKx (dVar 0) "number") (dC (.int 0))) (tCm oGt (dCall oLen (aCons (dKx (dVar 0) "left") aNil)) (dC (.int 0)))) (sKp (dVar 0) "number" (dM (mL mPop) (dKx (dVar 0) "left") aNil)))
  (sSeq (sAsg (dKx (dVar 0) "number") (gNm 2))
  (sSeq (sIf (tCm oGt (dVar 2) (dC (.int 0))) (sSeq (sKp (dVar 0) "number" (dBin oDiv (dVar 2) (dVar 1)))
  (sRet (dBin oMod (dVar 2) (dVar 1)))) sNx)
  (sSeq (sAsg (dBin oMod (dBin oAdd (dBin oMul (dKx (dVar 0) "seed") (dC (.int 48271))) (dC (.int 5003))) (dC (.int 2147483647))) (gNm 3))
  (sSeq (sKp (dVar 0) "seed" (dBin oMod (dBin oAdd (dBin oMul (dVar 3) (dC (.int 39373))) (dC (.int 60013))) (dC (.int 2147483587))))
  (sSeq (sAsg (dBin oMod (dBin oMul (dKx (dVar 0) "seed") (dKx (dVar 0) "seed")) (dC (.int 2147483549))) (gNm 4))
  (sRet (dBin oMod (dBin oAdd (dBin oMul (dBin oMod (dBin oMul (dVar 3) (dVar 3)) (dC (.int 2147483563))) (dC (.int 2147483549))) (dVar 4)) (dVar 1)))))))))
noncomputable def d_law_draw_3 : Cl := runD 5 b_law_draw_3
noncomputable def b_law_words (self : Cl) : Sn :=
  (sSeq (sIf (tCm oEq (dVar 1) (dC (.int 1))) (sRet (dLst (aCons (dVar 2) aNil))) sNx)
  (sSeq (sAsg (dBin oIx (dLst (aCons (dC (.int 1)) (aCons (dBin oSub (dVar 1) (dC (.int 1))) (aCons (dBin oDiv (dVar 1) (dC (.int 2))) (aCons (dBin oAdd (dC (.int 1)) (dCall d_law_draw_3 (aCons (dVar 0) (aCons (dBin oSub (dVar 1) (dC (.int 1))) aNil)))) aNil))))) (dCall d_law_draw_3 (aCons (dVar 0) (aCons (dC (.int 4)) aNil)))) (gNm 3))
  (sRet (dBin oAdd (dCall self (aCons (dVar 0) (aCons (dVar 3) (aCons (dBin oAdd (dVar 2) (dC (.str "0"))) aNil)))) (dCall self (aCons (dVar 0) (aCons (dBin oSub (dVar 1) (dVar 3)) (aCons (dBin oAdd (dVar 2) (dC (.str "1"))) aNil))))))))
noncomputable def d_law_words : Cl := recN 64 fun self => runD 4 (b_law_words self)
noncomputable def b_law_halves : Sn :=
  (sSeq (sFor (iZpT (aCons (dVar 0) (aCons (dVar 1) aNil))) (gTp (gsCons (gNm 2) (gsCons (gNm 3) gsNil))) (sIf (tOr' (tCm oNe (dSlL (dVar 2) (oSo (dUn oNeg (dC (.int 1)))) oNo) (dC (.str "0"))) (tOr' (tCm oNe (dSlL (dVar 3) (oSo (dUn oNeg (dC (.int 1)))) oNo) (dC (.str "1"))) (tCm oNe (dSlL (dVar 2) oNo (oSo (dUn oNeg (dC (.int 1))))) (dSlL (dVar 3) oNo (oSo (dUn oNeg (dC (.int 1)))))))) (sRet (dC (.bl false))) sNx))
  (sRet (dC (.bl true))))
noncomputable def d_law_halves : Cl := runD 4 b_law_halves
noncomputable def b_law_trim : Sn :=
  (sSeq (sAsg (dLst aNil) (gNm 1))
  (sSeq (sFor (iAny (dVar 0)) (gTp (gsCons (gNm 2) (gsCons (gNm 3) gsNil))) (sSeq (sEx (dM (mL mAppend) (dVar 1) (aCons (dTup (aCons (dVar 2) (aCons (dVar 3) aNil))) aNil)))
  (whD (tAn (tCm oGt (dCall oLen (aCons (dVar 1) aNil)) (dC (.int 1))) (tT (dCall d_law_halves (aCons (dBin oIx (dVar 1) (dUn oNeg (dC (.int 2)))) (aCons (dBin oIx (dVar 1) (dUn oNeg (dC (.int 1)))) aNil))))) (sSeq (sAsg (dM (mL mPop) (dVar 1) aNil) (gNm 4))
  (sAsg (dTup (aCons (dSlL (dBin oIx (dVar 4) (dC (.int 0))) oNo (oSo (dUn oNeg (dC (.int 1))))) (aCons (dSlL (dBin oIx (dVar 4) (dC (.int 1))) oNo (oSo (dUn oNeg (dC (.int 1))))) aNil))) (gIx (dVar 1) (dUn oNeg (dC (.int 1)))))))))
  (sRet (dVar 1))))
noncomputable def d_law_trim : Cl := runD 5 b_law_trim
noncomputable def b_law_then : Sn :=
  (sSeq (sAsg (dLst aNil) (gNm 2))
  (sSeq (sAsg (dC (.int 0)) (gNm 3))
  (sSeq (sAsg (dC (.int 0)) (gNm 4))
  (sSeq (whD (tAn (tCm oLt (dVar 3) (dCall oLen (aCons (dVar 0) aNil))) (tCm oLt (dVar 4) (dCall oLen (aCons (dVar 1) aNil)))) (sSeq (sAsg (dBin oIx (dVar 0) (dVar 3)) (gTp (gsCons (gNm 5) (gsCons (gNm 6) gsNil))))
  (sSeq (sAsg (dBin oIx (dVar 1) (dVar 4)) (gTp (gsCons (gNm 7) (gsCons (gNm 8) gsNil))))
  (sIf (tT (dS1 gSw (dVar 6) (dVar 7))) (sSeq (sEx (dM (mL mAppend) (dVar 2) (aCons (dTup (aCons (dVar 5) (aCons (dBin oAdd (dVar 8) (dSlL (dVar 6) (oSo (dCall oLen (aCons (dVar 7) aNil))) oNo)) aNil))) aNil)))
  (sSeq (sAsg (dBin oAdd (dVar 3) (dC (.int 1))) (gNm 3))
  (sAsg (dBin oAdd (dVar 4) (dCall oInt1 (aCons (dBin oNotIn (dC (.str "0")) (dSlL (dVar 6) (oSo (dCall oLen (aCons (dVar 7) aNil))) oNo)) aNil))) (gNm 4)))) (sIf (tT (dS1 gSw (dVar 7) (dVar 6))) (sSeq (sEx (dM (mL mAppend) (dVar 2) (aCons (dTup (aCons (dBin oAdd (dVar 5) (dSlL (dVar 7) (oSo (dCall oLen (aCons (dVar 6) aNil))) oNo)) (aCons (dVar 8) aNil))) aNil)))
  (sSeq (sAsg (dBin oAdd (dVar 4) (dC (.int 1))) (gNm 4))
  (sAsg (dBin oAdd (dVar 3) (dCall oInt1 (aCons (dBin oNotIn (dC (.str "0")) (dSlL (dVar 7) (oSo (dCall oLen (aCons (dVar 6) aNil))) oNo)) aNil))) (gNm 3)))) (sRet (dLst aNil)))))))
  (sRet (dCall d_law_trim (aCons (dVar 2) aNil)))))))
noncomputable def d_law_then : Cl := runD 9 b_law_then
noncomputable def b_law_back : Sn :=
  (sRet (dLc (iAny (dVar 0)) (gTp (gsCons (gNm 1) (gsCons (gNm 2) gsNil))) tYs (dTup (aCons (dVar 2) (aCons (dVar 1) aNil))) [1, 2]))
noncomputable def d_law_back : Cl := runD 3 b_law_back
noncomputable def b_law_tree_5 (self : Cl) : Sn :=
  (sSeq (sIf (tCm oEq (dVar 0) (dLst (aCons (dC (.str "")) aNil))) (sRet (dTup aNil)) sNx)
  (sSeq (sAsg (dLc (iAny (dVar 0)) (gNm 2) (tCm oEq (dBin oIx (dVar 2) (dC (.int 0))) (dC (.str "0"))) (dSlL (dVar 2) (oSo (dC (.int 1))) oNo) [2]) (gNm 1))
  (sRet (dTup (aCons (dCall self (aCons (dVar 1) aNil)) (aCons (dCall self (aCons (dLc (iAny (dVar 0)) (gNm 2) (tCm oEq (dBin oIx (dVar 2) (dC (.int 0))) (dC (.str "1"))) (dSlL (dVar 2) (oSo (dC (.int 1))) oNo) [2]) aNil)) aNil))))))
noncomputable def d_law_tree_5 : Cl := recN 64 fun self => runD 3 (b_law_tree_5 self)
noncomputable def b_law_pair_2 : Sn :=
  (sRet (dTup (aCons (dCall d_law_tree_5 (aCons (dLc (iAny (dVar 0)) (gTp (gsCons (gNm 1) (gsCons (gNm 2) gsNil))) tYs (dVar 1) [1, 2]) aNil)) (aCons (dCall d_law_tree_5 (aCons (dLc (iAny (dVar 0)) (gTp (gsCons (gNm 1) (gsCons (gNm 2) gsNil))) tYs (dVar 2) [1, 2]) aNil)) aNil))))
noncomputable def d_law_pair_2 : Cl := runD 3 b_law_pair_2
noncomputable def b_law_some (self : Cl) : Sn :=
  (sSeq (sAsg (dCall d_law_draw_3 (aCons (dVar 0) (aCons (dC (.int 4)) aNil))) (gNm 2))
  (sSeq (sIf (tOr' (tCm oEq (dVar 2) (dC (.int 0))) (tCm oLt (dVar 1) (dC (.int 4)))) (sSeq (sAsg (dBin oIx (dLst (aCons (dVar 1) (aCons (dBin oAdd (dC (.int 1)) (dCall d_law_draw_3 (aCons (dVar 0) (aCons (dVar 1) aNil)))) aNil))) (dCall d_law_draw_3 (aCons (dVar 0) (aCons (dC (.int 2)) aNil)))) (gNm 3))
  (sRet (dCall d_law_trim (aCons (dLz (aCons (dCall d_law_words (aCons (dVar 0) (aCons (dVar 3) (aCons (dC (.str "")) aNil)))) (aCons (dCall d_law_words (aCons (dVar 0) (aCons (dVar 3) (aCons (dC (.str "")) aNil)))) aNil))) aNil)))) sNx)
  (sSeq (sIf (tCm oLt (dVar 2) (dC (.int 3))) (sSeq (sAsg (dLst (aCons (dTup (aCons (dC (.str "00")) (aCons (dC (.str "0")) aNil))) (aCons (dTup (aCons (dC (.str "01")) (aCons (dC (.str "10")) aNil))) (aCons (dTup (aCons (dC (.str "1")) (aCons (dC (.str "11")) aNil))) aNil)))) (gNm 4))
  (sSeq (sAsg (dBin oAdd (dLst (aCons (dTup (aCons (dC (.str "0")) (aCons (dC (.str "0")) aNil))) aNil)) (dLc (iAny (dVar 4)) (gTp (gsCons (gNm 10) (gsCons (gNm 11) gsNil))) tYs (dTup (aCons (dBin oAdd (dC (.str "1")) (dVar 10)) (aCons (dBin oAdd (dC (.str "1")) (dVar 11)) aNil))) [10, 11])) (gNm 5))
  (sSeq (sAsg (dLst (aCons (dTup (aCons (dC (.str "")) (aCons (dC (.str "")) aNil))) aNil)) (gNm 6))
  (sSeq (sFor (iRg (aCons (dBin oAdd (dC (.int 1)) (dCall d_law_draw_3 (aCons (dVar 0) (aCons (dVar 1) aNil)))) aNil)) (gNm 7) (sSeq (sAsg (dCall d_law_then (aCons (dVar 6) (aCons (dBin oIx (dLst (aCons (dVar 4) (aCons (dVar 5) (aCons (dCall d_law_back (aCons (dVar 4) aNil)) (aCons (dCall d_law_back (aCons (dVar 5) aNil)) aNil))))) (dCall d_law_draw_3 (aCons (dVar 0) (aCons (dC (.int 4)) aNil)))) aNil))) (gNm 8))
  (sAsg (dBin oIx (dLst (aCons (dVar 6) (aCons (dVar 8) aNil))) (dCall oInt1 (aCons (dBin oLe (dCall oLen (aCons (dVar 8) aNil)) (dVar 1)) aNil))) (gNm 6))))
  (sRet (dVar 6)))))) sNx)
  (sSeq (sAsg (dLc (iAny (dCall self (aCons (dVar 0) (aCons (dBin oDiv (dVar 1) (dC (.int 2))) aNil)))) (gTp (gsCons (gNm 10) (gsCons (gNm 11) gsNil))) tYs (dTup (aCons (dBin oAdd (dC (.str "0")) (dVar 10)) (aCons (dBin oAdd (dC (.str "0")) (dVar 11)) aNil))) [10, 11]) (gNm 9))
  (sRet (dCall d_law_trim (aCons (dBin oAdd (dVar 9) (dLc (iAny (dCall self (aCons (dVar 0) (aCons (dBin oDiv (dVar 1) (dC (.int 2))) aNil)))) (gTp (gsCons (gNm 10) (gsCons (gNm 11) gsNil))) tYs (dTup (aCons (dBin oAdd (dC (.str "1")) (dVar 10)) (aCons (dBin oAdd (dC (.str "1")) (dVar 11)) aNil))) [10, 11])) aNil)))))))
noncomputable def d_law_some : Cl := recN 64 fun self => runD 12 (b_law_some self)
noncomputable def b_law_more_2 : Sn :=
  (sSeq (sAsg (dCall oList (aCons (dVar 1) aNil)) (gNm 1))
  (sSeq (sFor (iRg (aCons (dCall oMin (aCons (dCall d_law_draw_3 (aCons (dVar 0) (aCons (dC (.int 4)) aNil))) (aCons (dBin oSub (dVar 2) (dCall oLen (aCons (dVar 1) aNil))) aNil))) aNil)) (gNm 3) (sSeq (sAsg (dCall d_law_draw_3 (aCons (dVar 0) (aCons (dCall oLen (aCons (dVar 1) aNil)) aNil))) (gNm 4))
  (sSeq (sAsg (dBin oIx (dVar 1) (dVar 4)) (gTp (gsCons (gNm 5) (gsCons (gNm 6) gsNil))))
  (sAsg (dLst (aCons (dTup (aCons (dBin oAdd (dVar 5) (dC (.str "0"))) (aCons (dBin oAdd (dVar 6) (dC (.str "0"))) aNil))) (aCons (dTup (aCons (dBin oAdd (dVar 5) (dC (.str "1"))) (aCons (dBin oAdd (dVar 6) (dC (.str "1"))) aNil))) aNil))) (gSl (dVar 1) (dVar 4) (dBin oAdd (dVar 4) (dC (.int 1))))))))
  (sRet (dVar 1))))
noncomputable def d_law_more_2 : Cl := runD 7 b_law_more_2
noncomputable def b_law_due_2 : Sn :=
  (sRet (dTup (aCons (dBin oSub (dCall oLen (aCons (dBin oIx (dBin oIx (dVar 0) (dC (.int 0))) (dC (.int 0))) aNil)) (dCall oLen (aCons (dBin oIx (dBin oIx (dVar 0) (dC (.int 0))) (dC (.int 1))) aNil))) (aCons (dBin oSub (dCall oLen (aCons (dBin oIx (dBin oIx (dVar 0) (dUn oNeg (dC (.int 1)))) (dC (.int 0))) aNil)) (dCall oLen (aCons (dBin oIx (dBin oIx (dVar 0) (dUn oNeg (dC (.int 1)))) (dC (.int 1))) aNil))) aNil))))
noncomputable def d_law_due_2 : Cl := runD 1 b_law_due_2
noncomputable def b_law_is_right : Sn :=
  (sSeq (sIf (tOr' (tNt (tT (dCall oIsi (aCons (dVar 0) (aCons (dC (.ty "tuple")) aNil))))) (tCm oNe (dCall oLen (aCons (dVar 0) aNil)) (dC (.int 2)))) (sRet (dC (.bl false))) sNx)
  (sRet (dAndT (dCall d_law_whole (aCons (dBin oIx (dVar 0) (dC (.int 0))) aNil)) (dAndT (dCall d_law_whole (aCons (dBin oIx (dVar 0) (dC (.int 1))) aNil)) (dBin oEq (dVar 0) (dVar 1))))))
noncomputable def d_law_is_right : Cl := runD 2 b_law_is_right
noncomputable def b_law_14 : Sn :=
  (sSeq (sAsg (dCall d_law_deal_3 (aCons (dVar 0) (aCons (dC (.int 0)) aNil))) (gNm 1))
  (sSeq (sAsg (dCall d_law_some (aCons (dVar 1) (aCons (dBin oIx (dLst (aCons (dC (.int 6)) (aCons (dC (.int 24)) aNil))) (dCall d_law_draw_3 (aCons (dVar 1) (aCons (dC (.int 2)) aNil)))) aNil))) (gNm 2))
  (sSeq (sAsg (dCall d_law_some (aCons (dVar 1) (aCons (dBin oIx (dLst (aCons (dC (.int 6)) (aCons (dC (.int 24)) aNil))) (dCall d_law_draw_3 (aCons (dVar 1) (aCons (dC (.int 2)) aNil)))) aNil))) (gNm 3))
  (sSeq (sAsg (dCall d_law_more_2 (aCons (dVar 1) (aCons (dVar 2) (aCons (dC (.int 24)) aNil)))) (gNm 4))
  (sSeq (sAsg (dCall d_ends (aCons (dCall d_law_pair_2 (aCons (dVar 4) aNil)) aNil)) (gNm 5))
  (sSeq (sAsg (dLst (aCons (dCall d_law_back (aCons (dVar 2) aNil)) (aCons (dVar 3) (aCons (dCall d_law_back (aCons (dVar 3) aNil)) (aCons (dVar 2) aNil))))) (gNm 6))
  (sSeq (sAsg (dCall d_law_then (aCons (dVar 2) (aCons (dVar 3) aNil))) (gNm 7))
  (sSeq (sIf (tCm oLe (dCall oLen (aCons (dVar 7) aNil)) (dC (.int 24))) (sSeq (sEx (dM (mL mAppend) (dVar 6) (aCons (dVar 7) aNil)))
  (sSeq (sAsg (dCall d_law_due_2 (aCons (dVar 7) aNil)) (gNm 8))
  (sIf (tCm oNe (dVar 8) (dTup (aCons (dBin oAdd (dBin oIx (dCall d_law_due_2 (aCons (dVar 2) aNil)) (dC (.int 0))) (dBin oIx (dCall d_law_due_2 (aCons (dVar 3) aNil)) (dC (.int 0)))) (aCons (dBin oAdd (dBin oIx (dCall d_law_due_2 (aCons (dVar 2) aNil)) (dC (.int 1))) (dBin oIx (dCall d_law_due_2 (aCons (dVar 3) aNil)) (dC (.int 1)))) aNil)))) (sRet (dC (.bl false))) sNx))) sNx)
  (sSeq (sFor (iAny (dVar 6)) (gNm 9) (sIf (tNt (tT (dCall d_law_is_right (aCons (dCall d_ends (aCons (dCall d_law_pair_2 (aCons (dVar 9) aNil)) aNil)) (aCons (dCall d_law_due_2 (aCons (dVar 9) aNil)) aNil))))) (sRet (dC (.bl false))) sNx))
  (sRet (dAndT (dCall d_law_is_right (aCons (dVar 5) (aCons (dCall d_law_due_2 (aCons (dVar 2) aNil)) aNil))) (dBin oEq (dCall d_ends (aCons (dCall d_law_pair_2 (aCons (dVar 4) aNil)) aNil)) (dVar 5)))))))))))))
noncomputable def d_law_14 : Cl := runD 10 b_law_14
end C

set_option Elab.async false
set_option linter.all false
set_option maxRecDepth 100000
set_option maxHeartbeats 4000000
namespace G
open PySem L2 Hv
def top (i : Nat) : Stmt := PySem.Challenge.pw_halvewright_k65_ends_of_maps.main.body.getD i (.Pass ⟨0, 0, 0, 0⟩)
abbrev s_stretches : Stmt := top 1
abbrev s_pieces : Stmt := top 3
abbrev s_growth : Stmt := top 4
abbrev s_ends : Stmt := top 6
abbrev s_law_deal : Stmt := top 8
abbrev s_law_draw : Stmt := top 9
abbrev s_law_words : Stmt := top 10
abbrev s_law_halves : Stmt := top 12
abbrev s_law_trim : Stmt := top 11
abbrev s_law_then : Stmt := top 13
abbrev s_law_back : Stmt := top 14
abbrev s_law_tree : Stmt := top 15
abbrev s_law_pair : Stmt := top 16
abbrev s_law_some : Stmt := top 17
abbrev s_law_more : Stmt := top 18
abbrev s_law_whole : Stmt := top 19
abbrev s_law_due : Stmt := top 20
abbrev s_law_is_right : Stmt := top 21
abbrev s_law : Stmt := top 22
end G
namespace G
open PySem L2 Hv C
section
variable {P : Program} {w : World} {K : PySem.W.Frag} {mg : Str → Option Value} {base : Heap} {f : Addr} {fd : FuncData}
theorem sc_stretches : FnScope ["tree", "found", "waiting", "part", "n", "d", "left", "right"] ["tree"] (defScope s_stretches) := ⟨rfl, rfl, rfl, by decide +kernel, rfl, by decide +kernel, by decide +kernel⟩
theorem ok_stretches (F : Fun K "stretches" "stretches" s_stretches f fd) : FnOk P w K mg base CX0 71 f fd ["tree"] (spD K 1 d_stretches) :=
  fn_ok (k := 70) (n := 8) (m := 1) (b := b_stretches) F sc_stretches rfl rfl fun cdv A outer s H E hr =>
  (js_cons (js_set (i := 1) sc_stretches.nd (je_lst ja_nil))
  (js_cons (js_set (i := 2) sc_stretches.nd (je_lst (ja_cons (je_tup (ja_cons je_var (ja_cons je_int (ja_cons je_int ja_nil)))) ja_nil)))
  (js_cons (js_while PassesOwn.never (jt_val je_var) (js_cons (js_asg (je_m0 PySem.F.slot_list_pop PySem.F.type_list_pop mt_popD je_var) (JGw.jg (vs := [3, 4, 5]) (jg_tup rfl (jgs_cons (jg_name (i := 3) sc_stretches.nd (by decide)) (jgs_cons (jg_name (i := 4) sc_stretches.nd (by decide)) (jgs_cons (jg_name (i := 5) sc_stretches.nd (by decide)) jgs_nil))))))
  (js_one (js_if (jt_cmp (op_eqDD (rm_of hr)) je_var (je_tup ja_nil)) (js_one (js_expr (je_m PySem.F.slot_list_append PySem.F.type_list_append mt_appendD je_var (ja_cons (je_tup (ja_cons je_var (ja_cons je_var ja_nil))) ja_nil)))) (js_cons (js_asg je_var (JGw.jg (vs := [6, 7]) (jg_tup rfl (jgs_cons (jg_name (i := 6) sc_stretches.nd (by decide)) (jgs_cons (jg_name (i := 7) sc_stretches.nd (by decide)) jgs_nil)))))
  (js_cons (js_expr (je_m PySem.F.slot_list_append PySem.F.type_list_append mt_appendD je_var (ja_cons (je_tup (ja_cons je_var (ja_cons (je_bin op_addD (je_bin op_mulD je_int je_var) je_int) (ja_cons (je_bin op_addD je_var je_int) ja_nil)))) ja_nil)))
  (js_one (js_expr (je_m PySem.F.slot_list_append PySem.F.type_list_append mt_appendD je_var (ja_cons (je_tup (ja_cons je_var (ja_cons (je_bin op_mulD je_int je_var) (ja_cons (je_bin op_addD je_var je_int) ja_nil)))) ja_nil))))))))))
  (js_one (js_ret je_var)))))
theorem sc_pieces : FnScope ["mapped", "one", "other"] ["mapped"] (defScope s_pieces) := ⟨rfl, rfl, rfl, by decide +kernel, rfl, by decide +kernel, by decide +kernel⟩
theorem ok_pieces (F : Fun K "pieces" "pieces" s_pieces f fd) (F_stretches : Fd P w K mg base 71 "stretches" 1 d_stretches) (m_list : mg "list" = none) (m_zip : mg "zip" = none) : FnOk P w K mg base CX0 72 f fd ["mapped"] (spD K 1 d_pieces) :=
  fn_ok (k := 71) (n := 3) (m := 1) (b := b_pieces) F sc_pieces rfl rfl fun cdv A outer s H E hr =>
  (js_cons (js_asg je_var (JGw.jg (vs := [1, 2]) (jg_tup rfl (jgs_cons (jg_name (i := 1) sc_pieces.nd (by decide)) (jgs_cons (jg_name (i := 2) sc_pieces.nd (by decide)) jgs_nil)))))
  (js_one (js_ret (je_listzip rfl m_list m_zip (ja_cons (je_cl F_stretches (hr.mono (by decide)) (ja_cons je_var ja_nil) (fx_cons fx_nil)) (ja_cons (je_cl F_stretches (hr.mono (by decide)) (ja_cons je_var ja_nil) (fx_cons fx_nil)) ja_nil))))))
theorem sc_growth : FnScope ["piece", "here", "there"] ["piece"] (defScope s_growth) := ⟨rfl, rfl, rfl, by decide +kernel, rfl, by decide +kernel, by decide +kernel⟩
theorem ok_growth (F : Fun K "growth" "growth" s_growth f fd) : FnOk P w K mg base CX0 71 f fd ["piece"] (spD K 1 d_growth) :=
  fn_ok (k := 70) (n := 3) (m := 1) (b := b_growth) F sc_growth rfl rfl fun cdv A outer s H E hr =>
  (js_cons (js_asg je_var (JGw.jg (vs := [1, 2]) (jg_tup rfl (jgs_cons (jg_name (i := 1) sc_growth.nd (by decide)) (jgs_cons (jg_name (i := 2) sc_growth.nd (by decide)) jgs_nil)))))
  (js_one (js_ret (je_bin op_subD (je_ix je_var je_int) (je_ix je_var je_int)))))
theorem sc_ends : FnScope ["mapped", "found"] ["mapped"] (defScope s_ends) := ⟨rfl, rfl, rfl, by decide +kernel, rfl, by decide +kernel, by decide +kernel⟩
theorem ok_ends (F : Fun K "ends" "ends" s_ends f fd) (F_pieces : Fd P w K mg base 72 "pieces" 1 d_pieces) (F_growth : Fd P w K mg base 71 "growth" 1 d_growth) : FnOk P w K mg base CX0 73 f fd ["mapped"] (spD K 1 d_ends) :=
  fn_ok (k := 72) (n := 2) (m := 1) (b := b_ends) F sc_ends rfl rfl fun cdv A outer s H E hr =>
  (js_cons (js_set (i := 1) sc_ends.nd (je_cl F_pieces (hr.mono (by decide)) (ja_cons je_var ja_nil) (fx_cons fx_nil)))
  (js_one (js_ret (je_tup (ja_cons (je_cl F_growth (hr.mono (by decide)) (ja_cons (je_ix je_var je_int) ja_nil) (fx_cons fx_nil)) (ja_cons (je_cl F_growth (hr.mono (by decide)) (ja_cons (je_ix je_var (je_neg je_int)) ja_nil) (fx_cons fx_nil)) ja_nil))))))
theorem sc_law_deal : FnScope ["_law_script", "_law_base", "_law_cells", "_law_number", "_law_cell"] ["_law_script", "_law_base"] (defScope s_law_deal) := ⟨rfl, rfl, rfl, by decide +kernel, rfl, by decide +kernel, by decide +kernel⟩
theorem ok_law_deal (F : Fun K "_law_deal" "_law_deal" s_law_deal f fd) (m_max : mg "max" = none) (m_list : mg "list" = none) (m_reversed : mg "reversed" = none) : FnOk P w K mg base CX0 71 f fd ["_law_script", "_law_base"] (spD K 2 d_law_deal_3) :=
  fn_ok (k := 70) (n := 5) (m := 2) (b := b_law_deal_3) F sc_law_deal rfl rfl fun cdv A outer s H E hr =>
  (js_cons (js_setLc (i := 2) rfl sc_law_deal.nd (ji_any (je_sl je_var (jo_some je_var) (jo_some je_int))) (blkOk_by (own := [("_law_cell", 4)]) (N := ["_law_script", "_law_base", "_law_cells", "_law_number", "_law_cell"]) (sc := defScope s_law_deal) (by decide +kernel)) rfl (fun _ _ _ _ _ => (jg_name (i := 4) sc_law_deal.nd (by decide))) (fun _ _ _ _ _ => jts_nil) (fun _ _ _ _ _ => (je_cb (cl_max rfl) m_max (ja_cons je_var (ja_cons (je_bin op_subD je_int je_var) ja_nil)))))
  (js_cons (js_set (i := 3) sc_law_deal.nd (je_bin op_addD je_int (je_bin op_mulD je_int je_var)))
  (js_cons (js_for PassesOwn.never rfl (ji_any je_var) (JGw.jg (vs := [4]) (jg_name (i := 4) sc_law_deal.nd (by decide))) (js_one (js_set (i := 3) sc_law_deal.nd (je_bin op_modD (je_bin op_addD (je_bin op_addD (je_bin op_mulD je_var je_int) (je_bin op_modD je_var je_int)) je_int) je_int))))
  (js_one (js_ret (je_dsp (pps_c je_var (pps_c je_int (pps_c (je_listrev rfl m_list m_reversed (ja_cons (je_lc rfl sc_law_deal.nd (ji_any je_var) (blkOk_by (own := [("_law_cell", 4)]) (N := ["_law_script", "_law_base", "_law_cells", "_law_number", "_law_cell"]) (sc := defScope s_law_deal) (by decide +kernel)) rfl (fun _ _ _ _ _ => (jg_name (i := 4) sc_law_deal.nd (by decide))) (fun _ _ _ _ _ => (jts_one (jt_cmp op_geD je_var (je_bin op_powD je_int je_int)))) (fun _ _ _ _ _ => je_var)) ja_nil)) pps_n)))))))))
theorem sc_law_draw : FnScope ["_law_deal_here", "_law_many", "_law_number", "_law_one", "_law_other"] ["_law_deal_here", "_law_many"] (defScope s_law_draw) := ⟨rfl, rfl, rfl, by decide +kernel, rfl, by decide +kernel, by decide +kernel⟩
theorem ok_law_draw (F : Fun K "_law_draw" "_law_draw" s_law_draw f fd) (m_len : mg "len" = none) : FnOk P w K mg base CX0 71 f fd ["_law_deal_here", "_law_many"] (spD K 2 d_law_draw_3) :=
  fn_ok (k := 70) (n := 5) (m := 2) (b := b_law_draw_3) F sc_law_draw rfl rfl fun cdv A outer s H E hr =>
  (js_cons (js_while PassesOwn.never (JW.jt (jw_and (jt_cmp (op_eqDD (rm_of hr)) (je_kx (rm_of hr) je_var) je_int) (jw_and1 (jt_cmp op_gtD (je_cb cl_len m_len (ja_cons (je_kx (rm_of hr) je_var) ja_nil)) je_int)))) (js_one (js_kput (rm_of hr) je_var (je_m0 PySem.F.slot_list_pop PySem.F.type_list_pop mt_popD (je_kx (rm_of hr) je_var)))))
  (js_cons (js_set (i := 2) sc_law_draw.nd (je_kx (rm_of hr) je_var))
  (js_cons (js_if (jt_cmp op_gtD je_var je_int) (js_cons (js_kput (rm_of hr) je_var (je_bin op_divD je_var je_var))
  (js_one (js_ret (je_bin op_modD je_var je_var)))) js_nil)
  (js_cons (js_set (i := 3) sc_law_draw.nd (je_bin op_modD (je_bin op_addD (je_bin op_mulD (je_kx (rm_of hr) je_var) je_int) je_int) je_int))
  (js_cons (js_kput (rm_of hr) je_var (je_bin op_modD (je_bin op_addD (je_bin op_mulD je_var je_int) je_int) je_int))
  (js_cons (js_set (i := 4) sc_law_draw.nd (je_bin op_modD (je_bin op_mulD (je_kx (rm_of hr) je_var) (je_kx (rm_of hr) je_var)) je_int))
  (js_one (js_ret (je_bin op_modD (je_bin op_addD (je_bin op_mulD (je_bin op_modD (je_bin op_mulD je_var je_var) je_int) je_int) je_var) je_var)))))))))
theorem sc_law_words : FnScope ["_law_deal_here", "_law_many", "_law_way", "_law_left"] ["_law_deal_here", "_law_many", "_law_way"] (defScope s_law_words) := ⟨rfl, rfl, rfl, by decide +kernel, rfl, by decide +kernel, by decide +kernel⟩
theorem ok_law_words (F : Fun K "_law_words" "_law_words" s_law_words f fd) (F_law_draw : Fd P w K mg base 71 "_law_draw" 2 d_law_draw_3) (gself : mg "_law_words" = some (.ref f)) (kself : PySem.W.keepIn K (.ref f) = true) : FnOk P w K mg base CX0 135 f fd ["_law_deal_here", "_law_many", "_law_way"] (spD K 3 d_law_words) :=
  rec_ok (k := 71) (n := 3) (F := fun self => runD 4 (b_law_words self)) rfl (fun j d G => fn_ok (k := 71 + j) (n := 4) (m := 3) (b := b_law_words d) F sc_law_words rfl rfl fun cdv A outer s H E hr =>
  have F_self : Fd P w K mg base (71 + j) "_law_words" 3 d := ⟨f, fd, ["_law_deal_here", "_law_many", "_law_way"], rfl, G, gself, kself, F.binds (ps := ["_law_deal_here", "_law_many", "_law_way"]) fun _ _ _ _ _ _ us hl => match us, hl with | [_, _, _], _ => rfl⟩
  (js_cons (js_if (jt_cmp (op_eqDD (rm_of hr (by omega))) je_var je_int) (js_one (js_ret (je_lst (ja_cons je_var ja_nil)))) js_nil)
  (js_cons (js_set (i := 3) sc_law_words.nd (je_ix (je_lst (ja_cons je_int (ja_cons (je_bin op_subD je_var je_int) (ja_cons (je_bin op_divD je_var je_int) (ja_cons (je_bin op_addD je_int (je_cl F_law_draw (hr.mono (by omega)) (ja_cons je_var (ja_cons (je_bin op_subD je_var je_int) ja_nil)) (fx_cons (fx_cons fx_nil)))) ja_nil))))) (je_cl F_law_draw (hr.mono (by omega)) (ja_cons je_var (ja_cons je_int ja_nil)) (fx_cons (fx_cons fx_nil)))))
  (js_one (js_ret (je_bin op_addD (je_cl F_self hr (ja_cons je_var (ja_cons je_var (ja_cons (je_bin op_addD je_var je_str) ja_nil))) (fx_cons (fx_cons (fx_cons fx_nil)))) (je_cl F_self hr (ja_cons je_var (ja_cons (je_bin op_subD je_var je_var) (ja_cons (je_bin op_addD je_var je_str) ja_nil))) (fx_cons (fx_cons (fx_cons fx_nil)))))))))) 64
theorem sc_law_halves : FnScope ["_law_first", "_law_second", "_law_one", "_law_other"] ["_law_first", "_law_second"] (defScope s_law_halves) := ⟨rfl, rfl, rfl, by decide +kernel, rfl, by decide +kernel, by decide +kernel⟩
theorem ok_law_halves (F : Fun K "_law_halves" "_law_halves" s_law_halves f fd) (m_zip : mg "zip" = none) : FnOk P w K mg base CX0 71 f fd ["_law_first", "_law_second"] (spD K 2 d_law_halves) :=
  fn_ok (k := 70) (n := 4) (m := 2) (b := b_law_halves) F sc_law_halves rfl rfl fun cdv A outer s H E hr =>
  (js_cons (js_for PassesOwn.never rfl (ji_zipT m_zip (ja_cons je_var (ja_cons je_var ja_nil))) (JGw.jg (vs := [2, 3]) (jg_tup rfl (jgs_cons (jg_name (i := 2) sc_law_halves.nd (by decide)) (jgs_cons (jg_name (i := 3) sc_law_halves.nd (by decide)) jgs_nil)))) (js_one (js_if (JW.jt (jw_or (jt_cmp (op_neDD (rm_of hr)) (je_sl je_var (jo_some (je_neg je_int)) jo_none) je_str) (jw_or (jt_cmp (op_neDD (rm_of hr)) (je_sl je_var (jo_some (je_neg je_int)) jo_none) je_str) (jw_or1 (jt_cmp (op_neDD (rm_of hr)) (je_sl je_var jo_none (jo_some (je_neg je_int))) (je_sl je_var jo_none (jo_some (je_neg je_int)))))))) (js_one (js_ret je_bl)) js_nil)))
  (js_one (js_ret je_bl)))
theorem sc_law_trim : FnScope ["_law_pairs", "_law_found", "_law_one", "_law_other", "_law_last"] ["_law_pairs"] (defScope s_law_trim) := ⟨rfl, rfl, rfl, by decide +kernel, rfl, by decide +kernel, by decide +kernel⟩
theorem ok_law_trim (F : Fun K "_law_trim" "_law_trim" s_law_trim f fd) (F_law_halves : Fd P w K mg base 71 "_law_halves" 2 d_law_halves) (m_len : mg "len" = none) : FnOk P w K mg base CX0 72 f fd ["_law_pairs"] (spD K 1 d_law_trim) :=
  fn_ok (k := 71) (n := 5) (m := 1) (b := b_law_trim) F sc_law_trim rfl rfl fun cdv A outer s H E hr =>
  (js_cons (js_set (i := 1) sc_law_trim.nd (je_lst ja_nil))
  (js_cons (js_for PassesOwn.never rfl (ji_any je_var) (JGw.jg (vs := [2, 3]) (jg_tup rfl (jgs_cons (jg_name (i := 2) sc_law_trim.nd (by decide)) (jgs_cons (jg_name (i := 3) sc_law_trim.nd (by decide)) jgs_nil)))) (js_cons (js_expr (je_m PySem.F.slot_list_append PySem.F.type_list_append mt_appendD je_var (ja_cons (je_tup (ja_cons je_var (ja_cons je_var ja_nil))) ja_nil)))
  (js_one (js_while PassesOwn.never (JW.jt (jw_and (jt_cmp op_gtD (je_cb cl_len m_len (ja_cons je_var ja_nil)) je_int) (jw_and1 (jt_val (je_cl F_law_halves (hr.mono (by decide)) (ja_cons (je_ix je_var (je_neg je_int)) (ja_cons (je_ix je_var (je_neg je_int)) ja_nil)) (fx_cons (fx_cons fx_nil))))))) (js_cons (js_set (i := 4) sc_law_trim.nd (je_m0 PySem.F.slot_list_pop PySem.F.type_list_pop mt_popD je_var))
  (js_one (js_asg (je_tup (ja_cons (je_sl (je_ix je_var je_int) jo_none (jo_some (je_neg je_int))) (ja_cons (je_sl (je_ix je_var je_int) jo_none (jo_some (je_neg je_int))) ja_nil))) (jg_ix je_var (je_neg je_int)))))))))
  (js_one (js_ret je_var))))
theorem sc_law_then : FnScope ["_law_f", "_law_g", "_law_found", "_law_i", "_law_j", "_law_a", "_law_b", "_law_c", "_law_d"] ["_law_f", "_law_g"] (defScope s_law_then) := ⟨rfl, rfl, rfl, by decide +kernel, rfl, by decide +kernel, by decide +kernel⟩
theorem ok_law_then (F : Fun K "_law_then" "_law_then" s_law_then f fd) (F_law_trim : Fd P w K mg base 72 "_law_trim" 1 d_law_trim) (m_len : mg "len" = none) (m_int : mg "int" = none) : FnOk P w K mg base CX0 73 f fd ["_law_f", "_law_g"] (spD K 2 d_law_then) :=
  fn_ok (k := 72) (n := 9) (m := 2) (b := b_law_then) F sc_law_then rfl rfl fun cdv A outer s H E hr =>
  (js_cons (js_set (i := 2) sc_law_then.nd (je_lst ja_nil))
  (js_cons (js_set (i := 3) sc_law_then.nd je_int)
  (js_cons (js_set (i := 4) sc_law_then.nd je_int)
  (js_cons (js_while PassesOwn.never (JW.jt (jw_and (jt_cmp op_ltD je_var (je_cb cl_len m_len (ja_cons je_var ja_nil))) (jw_and1 (jt_cmp op_ltD je_var (je_cb cl_len m_len (ja_cons je_var ja_nil)))))) (js_cons (js_asg (je_ix je_var je_var) (JGw.jg (vs := [5, 6]) (jg_tup rfl (jgs_cons (jg_name (i := 5) sc_law_then.nd (by decide)) (jgs_cons (jg_name (i := 6) sc_law_then.nd (by decide)) jgs_nil)))))
  (js_cons (js_asg (je_ix je_var je_var) (JGw.jg (vs := [7, 8]) (jg_tup rfl (jgs_cons (jg_name (i := 7) sc_law_then.nd (by decide)) (jgs_cons (jg_name (i := 8) sc_law_then.nd (by decide)) jgs_nil)))))
  (js_one (js_if (jt_val (je_sw je_var je_var)) (js_cons (js_expr (je_m PySem.F.slot_list_append PySem.F.type_list_append mt_appendD je_var (ja_cons (je_tup (ja_cons je_var (ja_cons (je_bin op_addD je_var (je_sl je_var (jo_some (je_cb cl_len m_len (ja_cons je_var ja_nil))) jo_none)) ja_nil))) ja_nil)))
  (js_cons (js_set (i := 3) sc_law_then.nd (je_bin op_addD je_var je_int))
  (js_one (js_set (i := 4) sc_law_then.nd (je_bin op_addD je_var (je_ct cl_int m_int (ja_cons (je_cmp (op_notinD (rm_of hr)) je_str (je_sl je_var (jo_some (je_cb cl_len m_len (ja_cons je_var ja_nil))) jo_none)) ja_nil))))))) (js_one (js_if (jt_val (je_sw je_var je_var)) (js_cons (js_expr (je_m PySem.F.slot_list_append PySem.F.type_list_append mt_appendD je_var (ja_cons (je_tup (ja_cons (je_bin op_addD je_var (je_sl je_var (jo_some (je_cb cl_len m_len (ja_cons je_var ja_nil))) jo_none)) (ja_cons je_var ja_nil))) ja_nil)))
  (js_cons (js_set (i := 4) sc_law_then.nd (je_bin op_addD je_var je_int))
  (js_one (js_set (i := 3) sc_law_then.nd (je_bin op_addD je_var (je_ct cl_int m_int (ja_cons (je_cmp (op_notinD (rm_of hr)) je_str (je_sl je_var (jo_some (je_cb cl_len m_len (ja_cons je_var ja_nil))) jo_none)) ja_nil))))))) (js_one (js_ret (je_lst ja_nil))))))))))
  (js_one (js_ret (je_cl F_law_trim (hr.mono (by decide)) (ja_cons je_var ja_nil) (fx_cons fx_nil))))))))
theorem sc_law_back : FnScope ["_law_f", "_law_one", "_law_other"] ["_law_f"] (defScope s_law_back) := ⟨rfl, rfl, rfl, by decide +kernel, rfl, by decide +kernel, by decide +kernel⟩
theorem ok_law_back (F : Fun K "_law_back" "_law_back" s_law_back f fd) : FnOk P w K mg base CX0 71 f fd ["_law_f"] (spD K 1 d_law_back) :=
  fn_ok (k := 70) (n := 3) (m := 1) (b := b_law_back) F sc_law_back rfl rfl fun cdv A outer s H E hr =>
  (js_one (js_ret (je_lc rfl sc_law_back.nd (ji_any je_var) (blkOk_by (own := [("_law_one", 1), ("_law_other", 2)]) (N := ["_law_f", "_law_one", "_law_other"]) (sc := defScope s_law_back) (by decide +kernel)) rfl (fun _ _ _ _ _ => (jg_tup rfl (jgs_cons (jg_name (i := 1) sc_law_back.nd (by decide)) (jgs_cons (jg_name (i := 2) sc_law_back.nd (by decide)) jgs_nil)))) (fun _ _ _ _ _ => jts_nil) (fun _ _ _ _ _ => (je_tup (ja_cons je_var (ja_cons je_var ja_nil)))))))
theorem sc_law_tree : FnScope ["_law_words_here", "_law_left", "_law_word"] ["_law_words_here"] (defScope s_law_tree) := ⟨rfl, rfl, rfl, by decide +kernel, rfl, by decide +kernel, by decide +kernel⟩
theorem ok_law_tree (F : Fun K "_law_tree" "_law_tree" s_law_tree f fd) (gself : mg "_law_tree" = some (.ref f)) (kself : PySem.W.keepIn K (.ref f) = true) : FnOk P w K mg base CX0 134 f fd ["_law_words_here"] (spD K 1 d_law_tree_5) :=
  rec_ok (k := 70) (n := 1) (F := fun self => runD 3 (b_law_tree_5 self)) rfl (fun j d G => fn_ok (k := 70 + j) (n := 3) (m := 1) (b := b_law_tree_5 d) F sc_law_tree rfl rfl fun cdv A outer s H E hr =>
  have F_self : Fd P w K mg base (70 + j) "_law_tree" 1 d := ⟨f, fd, ["_law_words_here"], rfl, G, gself, kself, F.binds (ps := ["_law_words_here"]) fun _ _ _ _ _ _ us hl => match us, hl with | [_], _ => rfl⟩
  (js_cons (js_if (jt_cmp (op_eqDD (rm_of hr (by omega))) je_var (je_lst (ja_cons je_str ja_nil))) (js_one (js_ret (je_tup ja_nil))) js_nil)
  (js_cons (js_setLc (i := 1) rfl sc_law_tree.nd (ji_any je_var) (blkOk_by (own := [("_law_word", 2)]) (N := ["_law_words_here", "_law_left", "_law_word"]) (sc := defScope s_law_tree) (by decide +kernel)) rfl (fun _ _ _ _ _ => (jg_name (i := 2) sc_law_tree.nd (by decide))) (fun _ _ _ _ _ => (jts_one (jt_cmp (op_eqDD (rm_of hr (by omega))) (je_ix je_var je_int) je_str))) (fun _ _ _ _ _ => (je_sl je_var (jo_some je_int) jo_none)))
  (js_one (js_ret (je_tup (ja_cons (je_cl F_self hr (ja_cons je_var ja_nil) (fx_cons fx_nil)) (ja_cons (je_cl F_self hr (ja_cons (je_lc rfl sc_law_tree.nd (ji_any je_var) (blkOk_by (own := [("_law_word", 2)]) (N := ["_law_words_here", "_law_left", "_law_word"]) (sc := defScope s_law_tree) (by decide +kernel)) rfl (fun _ _ _ _ _ => (jg_name (i := 2) sc_law_tree.nd (by decide))) (fun _ _ _ _ _ => (jts_one (jt_cmp (op_eqDD (rm_of hr (by omega))) (je_ix je_var je_int) je_str))) (fun _ _ _ _ _ => (je_sl je_var (jo_some je_int) jo_none))) ja_nil) (fx_cons fx_nil)) ja_nil)))))))) 64
theorem sc_law_pair : FnScope ["_law_f", "_law_one", "_law_other"] ["_law_f"] (defScope s_law_pair) := ⟨rfl, rfl, rfl, by decide +kernel, rfl, by decide +kernel, by decide +kernel⟩
theorem ok_law_pair (F : Fun K "_law_pair" "_law_pair" s_law_pair f fd) (F_law_tree : Fd P w K mg base 134 "_law_tree" 1 d_law_tree_5) : FnOk P w K mg base CX0 135 f fd ["_law_f"] (spD K 1 d_law_pair_2) :=
  fn_ok (k := 134) (n := 3) (m := 1) (b := b_law_pair_2) F sc_law_pair rfl rfl fun cdv A outer s H E hr =>
  (js_one (js_ret (je_tup (ja_cons (je_cl F_law_tree (hr.mono (by decide)) (ja_cons (je_lc rfl sc_law_pair.nd (ji_any je_var) (blkOk_by (own := [("_law_one", 1), ("_law_other", 2)]) (N := ["_law_f", "_law_one", "_law_other"]) (sc := defScope s_law_pair) (by decide +kernel)) rfl (fun _ _ _ _ _ => (jg_tup rfl (jgs_cons (jg_name (i := 1) sc_law_pair.nd (by decide)) (jgs_cons (jg_name (i := 2) sc_law_pair.nd (by decide)) jgs_nil)))) (fun _ _ _ _ _ => jts_nil) (fun _ _ _ _ _ => je_var)) ja_nil) (fx_cons fx_nil)) (ja_cons (je_cl F_law_tree (hr.mono (by decide)) (ja_cons (je_lc rfl sc_law_pair.nd (ji_any je_var) (blkOk_by (own := [("_law_one", 1), ("_law_other", 2)]) (N := ["_law_f", "_law_one", "_law_other"]) (sc := defScope s_law_pair) (by decide +kernel)) rfl (fun _ _ _ _ _ => (jg_tup rfl (jgs_cons (jg_name (i := 1) sc_law_pair.nd (by decide)) (jgs_cons (jg_name (i := 2) sc_law_pair.nd (by decide)) jgs_nil)))) (fun _ _ _ _ _ => jts_nil) (fun _ _ _ _ _ => je_var)) ja_nil) (fx_cons fx_nil)) ja_nil)))))
theorem sc_law_some : FnScope ["_law_deal_here", "_law_most", "_law_way", "_law_many", "_law_a", "_law_b", "_law_f", "_law_k", "_law_g", "_law_lows", "_law_one", "_law_other"] ["_law_deal_here", "_law_most"] (defScope s_law_some) := ⟨rfl, rfl, rfl, by decide +kernel, rfl, by decide +kernel, by decide +kernel⟩
theorem ok_law_some (F : Fun K "_law_some" "_law_some" s_law_some f fd) (F_law_draw : Fd P w K mg base 71 "_law_draw" 2 d_law_draw_3) (F_law_words : Fd P w K mg base 135 "_law_words" 3 d_law_words) (F_law_trim : Fd P w K mg base 72 "_law_trim" 1 d_law_trim) (F_law_back : Fd P w K mg base 71 "_law_back" 1 d_law_back) (F_law_then : Fd P w K mg base 73 "_law_then" 2 d_law_then) (m_list : mg "list" = none) (m_zip : mg "zip" = none) (m_range : mg "range" = none) (m_len : mg "len" = none) (m_int : mg "int" = none) (gself : mg "_law_some" = some (.ref f)) (kself : PySem.W.keepIn K (.ref f) = true) : FnOk P w K mg base CX0 199 f fd ["_law_deal_here", "_law_most"] (spD K 2 d_law_some) :=
  rec_ok (k := 135) (n := 2) (F := fun self => runD 12 (b_law_some self)) rfl (fun j d G => fn_ok (k := 135 + j) (n := 12) (m := 2) (b := b_law_some d) F sc_law_some rfl rfl fun cdv A outer s H E hr =>
  have F_self : Fd P w K mg base (135 + j) "_law_some" 2 d := ⟨f, fd, ["_law_deal_here", "_law_most"], rfl, G, gself, kself, F.binds (ps := ["_law_deal_here", "_law_most"]) fun _ _ _ _ _ _ us hl => match us, hl with | [_, _], _ => rfl⟩
  (js_cons (js_set (i := 2) sc_law_some.nd (je_cl F_law_draw (hr.mono (by omega)) (ja_cons je_var (ja_cons je_int ja_nil)) (fx_cons (fx_cons fx_nil))))
  (js_cons (js_if (JW.jt (jw_or (jt_cmp (op_eqDD (rm_of hr (by omega))) je_var je_int) (jw_or1 (jt_cmp op_ltD je_var je_int)))) (js_cons (js_set (i := 3) sc_law_some.nd (je_ix (je_lst (ja_cons je_var (ja_cons (je_bin op_addD je_int (je_cl F_law_draw (hr.mono (by omega)) (ja_cons je_var (ja_cons je_var ja_nil)) (fx_cons (fx_cons fx_nil)))) ja_nil))) (je_cl F_law_draw (hr.mono (by omega)) (ja_cons je_var (ja_cons je_int ja_nil)) (fx_cons (fx_cons fx_nil)))))
  (js_one (js_ret (je_cl F_law_trim (hr.mono (by omega)) (ja_cons (je_listzip rfl m_list m_zip (ja_cons (je_cl F_law_words (hr.mono (by omega)) (ja_cons je_var (ja_cons je_var (ja_cons je_str ja_nil))) (fx_cons (fx_cons (fx_cons fx_nil)))) (ja_cons (je_cl F_law_words (hr.mono (by omega)) (ja_cons je_var (ja_cons je_var (ja_cons je_str ja_nil))) (fx_cons (fx_cons (fx_cons fx_nil)))) ja_nil))) ja_nil) (fx_cons fx_nil))))) js_nil)
  (js_cons (js_if (jt_cmp op_ltD je_var je_int) (js_cons (js_set (i := 4) sc_law_some.nd (je_lst (ja_cons (je_tup (ja_cons je_str (ja_cons je_str ja_nil))) (ja_cons (je_tup (ja_cons je_str (ja_cons je_str ja_nil))) (ja_cons (je_tup (ja_cons je_str (ja_cons je_str ja_nil))) ja_nil)))))
  (js_cons (js_set (i := 5) sc_law_some.nd (je_bin op_addD (je_lst (ja_cons (je_tup (ja_cons je_str (ja_cons je_str ja_nil))) ja_nil)) (je_lc rfl sc_law_some.nd (ji_any je_var) (blkOk_by (own := [("_law_one", 10), ("_law_other", 11)]) (N := ["_law_deal_here", "_law_most", "_law_way", "_law_many", "_law_a", "_law_b", "_law_f", "_law_k", "_law_g", "_law_lows", "_law_one", "_law_other"]) (sc := defScope s_law_some) (by decide +kernel)) rfl (fun _ _ _ _ _ => (jg_tup rfl (jgs_cons (jg_name (i := 10) sc_law_some.nd (by decide)) (jgs_cons (jg_name (i := 11) sc_law_some.nd (by decide)) jgs_nil)))) (fun _ _ _ _ _ => jts_nil) (fun _ _ _ _ _ => (je_tup (ja_cons (je_bin op_addD je_str je_var) (ja_cons (je_bin op_addD je_str je_var) ja_nil)))))))
  (js_cons (js_set (i := 6) sc_law_some.nd (je_lst (ja_cons (je_tup (ja_cons je_str (ja_cons je_str ja_nil))) ja_nil)))
  (js_cons (js_for PassesOwn.never rfl (ji_rg1 m_range (ja_cons (je_bin op_addD je_int (je_cl F_law_draw (hr.mono (by omega)) (ja_cons je_var (ja_cons je_var ja_nil)) (fx_cons (fx_cons fx_nil)))) ja_nil) (fx_cons fx_nil)) (JGw.jg (vs := [7]) (jg_name (i := 7) sc_law_some.nd (by decide))) (js_cons (js_set (i := 8) sc_law_some.nd (je_cl F_law_then (hr.mono (by omega)) (ja_cons je_var (ja_cons (je_ix (je_lst (ja_cons je_var (ja_cons je_var (ja_cons (je_cl F_law_back (hr.mono (by omega)) (ja_cons je_var ja_nil) (fx_cons fx_nil)) (ja_cons (je_cl F_law_back (hr.mono (by omega)) (ja_cons je_var ja_nil) (fx_cons fx_nil)) ja_nil))))) (je_cl F_law_draw (hr.mono (by omega)) (ja_cons je_var (ja_cons je_int ja_nil)) (fx_cons (fx_cons fx_nil)))) ja_nil)) (fx_cons (fx_cons fx_nil))))
  (js_one (js_set (i := 6) sc_law_some.nd (je_ix (je_lst (ja_cons je_var (ja_cons je_var ja_nil))) (je_ct cl_int m_int (ja_cons (je_cmp op_leD (je_cb cl_len m_len (ja_cons je_var ja_nil)) je_var) ja_nil)))))))
  (js_one (js_ret je_var)))))) js_nil)
  (js_cons (js_setLc (i := 9) rfl sc_law_some.nd (ji_any (je_cl F_self hr (ja_cons je_var (ja_cons (je_bin op_divD je_var je_int) ja_nil)) (fx_cons (fx_cons fx_nil)))) (blkOk_by (own := [("_law_one", 10), ("_law_other", 11)]) (N := ["_law_deal_here", "_law_most", "_law_way", "_law_many", "_law_a", "_law_b", "_law_f", "_law_k", "_law_g", "_law_lows", "_law_one", "_law_other"]) (sc := defScope s_law_some) (by decide +kernel)) rfl (fun _ _ _ _ _ => (jg_tup rfl (jgs_cons (jg_name (i := 10) sc_law_some.nd (by decide)) (jgs_cons (jg_name (i := 11) sc_law_some.nd (by decide)) jgs_nil)))) (fun _ _ _ _ _ => jts_nil) (fun _ _ _ _ _ => (je_tup (ja_cons (je_bin op_addD je_str je_var) (ja_cons (je_bin op_addD je_str je_var) ja_nil)))))
  (js_one (js_ret (je_cl F_law_trim (hr.mono (by omega)) (ja_cons (je_bin op_addD je_var (je_lc rfl sc_law_some.nd (ji_any (je_cl F_self hr (ja_cons je_var (ja_cons (je_bin op_divD je_var je_int) ja_nil)) (fx_cons (fx_cons fx_nil)))) (blkOk_by (own := [("_law_one", 10), ("_law_other", 11)]) (N := ["_law_deal_here", "_law_most", "_law_way", "_law_many", "_law_a", "_law_b", "_law_f", "_law_k", "_law_g", "_law_lows", "_law_one", "_law_other"]) (sc := defScope s_law_some) (by decide +kernel)) rfl (fun _ _ _ _ _ => (jg_tup rfl (jgs_cons (jg_name (i := 10) sc_law_some.nd (by decide)) (jgs_cons (jg_name (i := 11) sc_law_some.nd (by decide)) jgs_nil)))) (fun _ _ _ _ _ => jts_nil) (fun _ _ _ _ _ => (je_tup (ja_cons (je_bin op_addD je_str je_var) (ja_cons (je_bin op_addD je_str je_var) ja_nil)))))) ja_nil) (fx_cons fx_nil))))))))) 64
theorem sc_law_more : FnScope ["_law_deal_here", "_law_f", "_law_most", "_law_k", "_law_at", "_law_one", "_law_other"] ["_law_deal_here", "_law_f", "_law_most"] (defScope s_law_more) := ⟨rfl, rfl, rfl, by decide +kernel, rfl, by decide +kernel, by decide +kernel⟩
theorem ok_law_more (F : Fun K "_law_more" "_law_more" s_law_more f fd) (F_law_draw : Fd P w K mg base 71 "_law_draw" 2 d_law_draw_3) (m_list : mg "list" = none) (m_range : mg "range" = none) (m_len : mg "len" = none) (m_min : mg "min" = none) : FnOk P w K mg base CX0 72 f fd ["_law_deal_here", "_law_f", "_law_most"] (spD K 3 d_law_more_2) :=
  fn_ok (k := 71) (n := 7) (m := 3) (b := b_law_more_2) F sc_law_more rfl rfl fun cdv A outer s H E hr =>
  (js_cons (js_set (i := 1) sc_law_more.nd (je_ct cl_list m_list (ja_cons je_var ja_nil)))
  (js_cons (js_for PassesOwn.never rfl (ji_rg1 m_range (ja_cons (je_cb (cl_min rfl) m_min (ja_cons (je_cl F_law_draw (hr.mono (by decide)) (ja_cons je_var (ja_cons je_int ja_nil)) (fx_cons (fx_cons fx_nil))) (ja_cons (je_bin op_subD je_var (je_cb cl_len m_len (ja_cons je_var ja_nil))) ja_nil))) ja_nil) (fx_cons fx_nil)) (JGw.jg (vs := [3]) (jg_name (i := 3) sc_law_more.nd (by decide))) (js_cons (js_set (i := 4) sc_law_more.nd (je_cl F_law_draw (hr.mono (by decide)) (ja_cons je_var (ja_cons (je_cb cl_len m_len (ja_cons je_var ja_nil)) ja_nil)) (fx_cons (fx_cons fx_nil))))
  (js_cons (js_asg (je_ix je_var je_var) (JGw.jg (vs := [5, 6]) (jg_tup rfl (jgs_cons (jg_name (i := 5) sc_law_more.nd (by decide)) (jgs_cons (jg_name (i := 6) sc_law_more.nd (by decide)) jgs_nil)))))
  (js_one (js_asg (je_lst (ja_cons (je_tup (ja_cons (je_bin op_addD je_var je_str) (ja_cons (je_bin op_addD je_var je_str) ja_nil))) (ja_cons (je_tup (ja_cons (je_bin op_addD je_var je_str) (ja_cons (je_bin op_addD je_var je_str) ja_nil))) ja_nil))) (jg_sl je_var je_var (je_bin op_addD je_var je_int)))))))
  (js_one (js_ret je_var))))
theorem sc_law_whole : FnScope ["_law_number"] ["_law_number"] (defScope s_law_whole) := ⟨rfl, rfl, rfl, by decide +kernel, rfl, by decide +kernel, by decide +kernel⟩
theorem ok_law_whole (F : Fun K "_law_whole" "_law_whole" s_law_whole f fd) (m_int : mg "int" = none) (m_isinstance : mg "isinstance" = none) (m_bool : mg "bool" = none) : FnOk P w K mg base CX0 71 f fd ["_law_number"] (spD K 1 d_law_whole) :=
  fn_ok (k := 70) (n := 1) (m := 1) (b := b_law_whole) F sc_law_whole rfl rfl fun cdv A outer s H E hr =>
  (js_one (js_ret (je_andT (je_cb cl_isi m_isinstance (ja_cons je_var (ja_cons (je_ty m_int) ja_nil))) (je_one (je_not (je_cb cl_isi m_isinstance (ja_cons je_var (ja_cons (je_ty m_bool) ja_nil))))))))
theorem sc_law_due : FnScope ["_law_f"] ["_law_f"] (defScope s_law_due) := ⟨rfl, rfl, rfl, by decide +kernel, rfl, by decide +kernel, by decide +kernel⟩
theorem ok_law_due (F : Fun K "_law_due" "_law_due" s_law_due f fd) (m_len : mg "len" = none) : FnOk P w K mg base CX0 71 f fd ["_law_f"] (spD K 1 d_law_due_2) :=
  fn_ok (k := 70) (n := 1) (m := 1) (b := b_law_due_2) F sc_law_due rfl rfl fun cdv A outer s H E hr =>
  (js_one (js_ret (je_tup (ja_cons (je_bin op_subD (je_cb cl_len m_len (ja_cons (je_ix (je_ix je_var je_int) je_int) ja_nil)) (je_cb cl_len m_len (ja_cons (je_ix (je_ix je_var je_int) je_int) ja_nil))) (ja_cons (je_bin op_subD (je_cb cl_len m_len (ja_cons (je_ix (je_ix je_var (je_neg je_int)) je_int) ja_nil)) (je_cb cl_len m_len (ja_cons (je_ix (je_ix je_var (je_neg je_int)) je_int) ja_nil))) ja_nil)))))
theorem sc_law_is_right : FnScope ["_law_found", "_law_due_here"] ["_law_found", "_law_due_here"] (defScope s_law_is_right) := ⟨rfl, rfl, rfl, by decide +kernel, rfl, by decide +kernel, by decide +kernel⟩
theorem ok_law_is_right (F : Fun K "_law_is_right" "_law_is_right" s_law_is_right f fd) (F_law_whole : Fd P w K mg base 71 "_law_whole" 1 d_law_whole) (m_tuple : mg "tuple" = none) (m_isinstance : mg "isinstance" = none) (m_len : mg "len" = none) : FnOk P w K mg base CX0 72 f fd ["_law_found", "_law_due_here"] (spD K 2 d_law_is_right) :=
  fn_ok (k := 71) (n := 2) (m := 2) (b := b_law_is_right) F sc_law_is_right rfl rfl fun cdv A outer s H E hr =>
  (js_cons (js_if (JW.jt (jw_or (jt_not (jt_val (je_cb cl_isi m_isinstance (ja_cons je_var (ja_cons (je_ty m_tuple) ja_nil))))) (jw_or1 (jt_cmp (op_neDD (rm_of hr)) (je_cb cl_len m_len (ja_cons je_var ja_nil)) je_int)))) (js_one (js_ret je_bl)) js_nil)
  (js_one (js_ret (je_andT (je_cl F_law_whole (hr.mono (by decide)) (ja_cons (je_ix je_var je_int) ja_nil) (fx_cons fx_nil)) (je_andT (je_cl F_law_whole (hr.mono (by decide)) (ja_cons (je_ix je_var je_int) ja_nil) (fx_cons fx_nil)) (je_one (je_cmp (op_eqDD (rm_of hr)) je_var je_var)))))))
theorem sc_law : FnScope ["_law_script", "_law_deal_here", "_law_f", "_law_g", "_law_more_here", "_law_first", "_law_maps", "_law_both_ways", "_law_due_here", "_law_one"] ["_law_script"] (defScope s_law) := ⟨rfl, rfl, rfl, by decide +kernel, rfl, by decide +kernel, by decide +kernel⟩
theorem ok_law (F : Fun K "law" "law" s_law f fd) (F_law_deal : Fd P w K mg base 71 "_law_deal" 2 d_law_deal_3) (F_law_draw : Fd P w K mg base 71 "_law_draw" 2 d_law_draw_3) (F_law_some : Fd P w K mg base 199 "_law_some" 2 d_law_some) (F_law_more : Fd P w K mg base 72 "_law_more" 3 d_law_more_2) (F_law_pair : Fd P w K mg base 135 "_law_pair" 1 d_law_pair_2) (F_ends : Fd P w K mg base 73 "ends" 1 d_ends) (F_law_back : Fd P w K mg base 71 "_law_back" 1 d_law_back) (F_law_then : Fd P w K mg base 73 "_law_then" 2 d_law_then) (F_law_due : Fd P w K mg base 71 "_law_due" 1 d_law_due_2) (F_law_is_right : Fd P w K mg base 72 "_law_is_right" 2 d_law_is_right) (m_len : mg "len" = none) : FnOk P w K mg base CX0 200 f fd ["_law_script"] (spD K 1 d_law_14) :=
  fn_ok (k := 199) (n := 10) (m := 1) (b := b_law_14) F sc_law rfl rfl fun cdv A outer s H E hr =>
  (js_cons (js_set (i := 1) sc_law.nd (je_cl F_law_deal (hr.mono (by decide)) (ja_cons je_var (ja_cons je_int ja_nil)) (fx_cons (fx_cons fx_nil))))
  (js_cons (js_set (i := 2) sc_law.nd (je_cl F_law_some (hr.mono (by decide)) (ja_cons je_var (ja_cons (je_ix (je_lst (ja_cons je_int (ja_cons je_int ja_nil))) (je_cl F_law_draw (hr.mono (by decide)) (ja_cons je_var (ja_cons je_int ja_nil)) (fx_cons (fx_cons fx_nil)))) ja_nil)) (fx_cons (fx_cons fx_nil))))
  (js_cons (js_set (i := 3) sc_law.nd (je_cl F_law_some (hr.mono (by decide)) (ja_cons je_var (ja_cons (je_ix (je_lst (ja_cons je_int (ja_cons je_int ja_nil))) (je_cl F_law_draw (hr.mono (by decide)) (ja_cons je_var (ja_cons je_int ja_nil)) (fx_cons (fx_cons fx_nil)))) ja_nil)) (fx_cons (fx_cons fx_nil))))
  (js_cons (js_set (i := 4) sc_law.nd (je_cl F_law_more (hr.mono (by decide)) (ja_cons je_var (ja_cons je_var (ja_cons je_int ja_nil))) (fx_cons (fx_cons (fx_cons fx_nil)))))
  (js_cons (js_set (i := 5) sc_law.nd (je_cl F_ends (hr.mono (by decide)) (ja_cons (je_cl F_law_pair (hr.mono (by decide)) (ja_cons je_var ja_nil) (fx_cons fx_nil)) ja_nil) (fx_cons fx_nil)))
  (js_cons (js_set (i := 6) sc_law.nd (je_lst (ja_cons (je_cl F_law_back (hr.mono (by decide)) (ja_cons je_var ja_nil) (fx_cons fx_nil)) (ja_cons je_var (ja_cons (je_cl F_law_back (hr.mono (by decide)) (ja_cons je_var ja_nil) (fx_cons fx_nil)) (ja_cons je_var ja_nil))))))
  (js_cons (js_set (i := 7) sc_law.nd (je_cl F_law_then (hr.mono (by decide)) (ja_cons je_var (ja_cons je_var ja_nil)) (fx_cons (fx_cons fx_nil))))
  (js_cons (js_if (jt_cmp op_leD (je_cb cl_len m_len (ja_cons je_var ja_nil)) je_int) (js_cons (js_expr (je_m PySem.F.slot_list_append PySem.F.type_list_append mt_appendD je_var (ja_cons je_var ja_nil)))
  (js_cons (js_set (i := 8) sc_law.nd (je_cl F_law_due (hr.mono (by decide)) (ja_cons je_var ja_nil) (fx_cons fx_nil)))
  (js_one (js_if (jt_cmp (op_neDD (rm_of hr)) je_var (je_tup (ja_cons (je_bin op_addD (je_ix (je_cl F_law_due (hr.mono (by decide)) (ja_cons je_var ja_nil) (fx_cons fx_nil)) je_int) (je_ix (je_cl F_law_due (hr.mono (by decide)) (ja_cons je_var ja_nil) (fx_cons fx_nil)) je_int)) (ja_cons (je_bin op_addD (je_ix (je_cl F_law_due (hr.mono (by decide)) (ja_cons je_var ja_nil) (fx_cons fx_nil)) je_int) (je_ix (je_cl F_law_due (hr.mono (by decide)) (ja_cons je_var ja_nil) (fx_cons fx_nil)) je_int)) ja_nil)))) (js_one (js_ret je_bl)) js_nil)))) js_nil)
  (js_cons (js_for PassesOwn.never rfl (ji_any je_var) (JGw.jg (vs := [9]) (jg_name (i := 9) sc_law.nd (by decide))) (js_one (js_if (jt_not (jt_val (je_cl F_law_is_right (hr.mono (by decide)) (ja_cons (je_cl F_ends (hr.mono (by decide)) (ja_cons (je_cl F_law_pair (hr.mono (by decide)) (ja_cons je_var ja_nil) (fx_cons fx_nil)) ja_nil) (fx_cons fx_nil)) (ja_cons (je_cl F_law_due (hr.mono (by decide)) (ja_cons je_var ja_nil) (fx_cons fx_nil)) ja_nil)) (fx_cons (fx_cons fx_nil))))) (js_one (js_ret je_bl)) js_nil)))
  (js_one (js_ret (je_andT (je_cl F_law_is_right (hr.mono (by decide)) (ja_cons je_var (ja_cons (je_cl F_law_due (hr.mono (by decide)) (ja_cons je_var ja_nil) (fx_cons fx_nil)) ja_nil)) (fx_cons (fx_cons fx_nil))) (je_one (je_cmp (op_eqDD (rm_of hr)) (je_cl F_ends (hr.mono (by decide)) (ja_cons (je_cl F_law_pair (hr.mono (by decide)) (ja_cons je_var ja_nil) (fx_cons fx_nil)) ja_nil) (fx_cons fx_nil)) je_var))))))))))))))
end
end G

set_option Elab.async false
set_option linter.all false
set_option maxRecDepth 100000
set_option maxHeartbeats 4000000
namespace Hv
open PySem L2
section
variable {h0 h : Hb} {L : List (Nat × List D)} {ρ : En} {K : D → Hb → Prop} {KB : Bool → Hb → Prop} {KF : Fl → Hb → Prop} {KL : List D → Hb → Prop}
theorem Wp.divB {i j : Int} {k : Nat} (c : 0 < j) (c2 : j < 2 ^ k) (c3 : k ≤ 9000) (q : K (.int (i / j)) h) : Wp (oDiv (.int i) (.int j) h) K :=
  .of (oDiv_big ⟨c, Nat.lt_of_lt_of_le ((Nat.log2_lt (k := k) (by omega)).mpr (by
    have : ((j.natAbs : Nat) : Int) < ((2 ^ k : Nat) : Int) := by rw [Int.natCast_pow]; show _ < (2 : Int) ^ k; omega
    exact Int.ofNat_lt.mp this)) c3⟩ h) q
/-- dicts: the values behind the keys -/
def ixK (x : D) (k : Str) (h1 : Hb) : Option (D × Hb) := match x with
  | .dct ks n => match h1[n]?, posK ks (.inr k) with
    | some xs, some j => (xs[j]?).map fun d => (d, h1)
    | _, _ => none
  | _ => none
theorem Wp.kx {a : Dn} {k : Str} (w : Wp (a ρ h) fun x h1 => Wp (ixK x k h1) K) : Wp (dKx a k ρ h) K := .bnd w
theorem Wp.ixK {ks : List Key} {n j : Nat} {k : Str} {xs : List D} {d : D} (e : h[n]? = some xs) (ej : posK ks (.inr k) = some j) (ed : xs[j]? = some d) (q : K d h) : Wp (ixK (.dct ks n) k h) K := ⟨d, h, by unfold Hv.ixK; simp only [e, ej, ed]; rfl, q⟩
def puK (x : D) (k : Str) (d : D) (ρ : En) (h2 : Hb) : Option (Fl × Hb) := match x with
  | .dct ks n => match h2[n]?, posK ks (.inr k) with
    | some xs, some j => if ks.Nodup ∧ ks.length < 1000 then some (.nx ρ, h2.set n (xs.set j d)) else none
    | _, _ => none
  | _ => none
theorem Wp.kp {o a : Dn} {k : Str} (w : Wp (a ρ h) fun d h1 => Wp (o ρ h1) fun x h2 => Wp (puK x k d ρ h2) KF) : Wp (sKp o k a ρ h) KF := .bnd (w.mono fun _ _ w => .bnd w)
theorem Wp.puK {ks : List Key} {n i j : Nat} {k : Str} {xs : List D} {d : D} (S : St h0 L h) (e : L[i]? = some (n, xs)) (ej : posK ks (.inr k) = some j) (hk : ks.Nodup ∧ ks.length < 1000) (q : ∀ h', St h0 (L.set i (n, xs.set j d)) h' → KF (.nx ρ) h') : Wp (puK (.dct ks n) k d ρ h) KF :=
  ⟨_, _, by unfold Hv.puK; simp only [S.get e, ej]; rw [if_pos hk], q _ (S.put e _)⟩
def newD (l : List (Str × Dn)) (xs : List D) (h1 : Hb) : Option (D × Hb) := if (l.map (·.1)).Nodup ∧ l.length ≤ 15 then some (.dct (l.map fun p => .inr p.1) h1.length, h1 ++ [xs]) else none
theorem Wp.dsp {l : List (Str × Dn)} (w : Wp (anOf l ρ h) fun xs h1 => Wp (newD l xs h1) K) : Wp (dDsp l ρ h) K := .bnd w
theorem Wp.anC {p : Str × Dn} {l : List (Str × Dn)} (w : Wp (aCons p.2 (anOf l) ρ h) KL) : Wp (anOf (p :: l) ρ h) KL := w
theorem Wp.anN (k : KL [] h) : Wp (anOf [] ρ h) KL := .ret k
theorem Wp.newD {l : List (Str × Dn)} {xs : List D} (S : St h0 L h) (c : (l.map (·.1)).Nodup ∧ l.length ≤ 15) (k : ∀ n h', St h0 ((n, xs) :: L) h' → K (.dct (l.map fun p => .inr p.1) n) h') : Wp (newD l xs h) K := ⟨_, _, by unfold Hv.newD; rw [if_pos c], k _ _ (S.new xs)⟩
/-- list(reversed(..)) -/
theorem Wp.lr {a : Dn} (w : Wp (a ρ h) fun x h1 => ∃ us, seqL h1 x = some us ∧ Wp (some (D.lst h1.length, h1 ++ [us.reverse])) K) : Wp (dLr (aCons a aNil) ρ h) K :=
  .bnd (Wp.acons (w.mono fun x h1 ⟨us, e, k⟩ => .anil (by simp only [e]; exact k)))
theorem Wp.maxI {i j : Int} (k : K (.int (if i < j then j else i)) h) : Wp (oMax [.int i, .int j] h) K := .ret k
theorem Wp.isN {x : D} (k : K (.bl (isNon x)) h) : Wp (oIs x .non h) K := .ret k
/-- == and != of what is plain: by what it stands for -/
theorem Wp.eqP {x y : D} {p q : PyData} (hx : datF h 1000 x = some p) (hy : datF h 1000 y = some q) (k : K (.bl (PyData.eqv p q)) h) : Wp (oEq x y h) K := by
  refine ⟨_, h, ?_, k⟩
  unfold oEq
  simp only [hx, hy]
theorem Wp.neP {x y : D} {p q : PyData} (hx : datF h 1000 x = some p) (hy : datF h 1000 y = some q) (k : K (.bl (!PyData.eqv p q)) h) : Wp (oNe x y h) K := by
  refine ⟨_, h, ?_, k⟩
  unfold oNe
  simp only [hx, hy]
end
end Hv

set_option Elab.async false
set_option linter.all false
set_option maxRecDepth 100000
set_option maxHeartbeats 4000000
namespace C
open PySem L2 Hv
/-! ### leaves by their ways from the top (the last step first) -/
abbrev Ad := List Bool
def num : Ad → Int
  | [] => 0
  | b :: u => 2 * num u + (if b then 1 else 0)
def ap (u : Ad) : Int × Nat := (num u, u.length)
def adr : Tr → Ad → List Ad
  | .leaf, c => [c]
  | .node l r, c => adr l (false :: c) ++ adr r (true :: c)
theorem adr_length : ∀ (t : Tr) (c : Ad), (adr t c).length = t.lvs
  | .leaf, _ => rfl
  | .node l r, c => by simp only [adr, List.length_append, adr_length l, adr_length r, Tr.lvs]
theorem adr_stz : ∀ (t : Tr) (c : Ad), (adr t c).map ap = stz t (num c) c.length
  | .leaf, _ => rfl
  | .node l r, c => by
    simp only [adr, List.map_append, adr_stz l, adr_stz r, stz, num, List.length_cons]
    simp
theorem adr_dps : ∀ (t : Tr) (c : Ad), (adr t c).map List.length = dps t c.length
  | .leaf, _ => rfl
  | .node l r, c => by simp only [adr, List.map_append, adr_dps l, adr_dps r, dps, List.length_cons]
theorem dps_inj {s t : Tr} (e : dps s 0 = dps t 0) : s = t := by
  have h := runT_all s
  rw [e, runT_all t] at h
  simp at h
  exact h.symm
theorem adr_inj {s t : Tr} (e : adr s [] = adr t []) : s = t := by
  refine dps_inj ?_
  have h1 := adr_dps s []
  have h2 := adr_dps t []
  rw [e, h2] at h1
  exact h1.symm
/-! ### next ones -/
def Nx (u v : Ad) : Prop := ∃ i j w, u = List.replicate i true ++ false :: w ∧ v = List.replicate j false ++ true :: w
theorem rep_snoc {α : Type} (i : Nat) (b : α) (w : List α) : List.replicate i b ++ b :: w = List.replicate (i + 1) b ++ w := by
  rw [List.replicate_succ', List.append_assoc]; rfl
theorem adr_first : ∀ (t : Tr) (c : Ad), ∃ i r, adr t c = (List.replicate i false ++ c) :: r
  | .leaf, c => ⟨0, [], rfl⟩
  | .node l r, c => by
    obtain ⟨i, s, e⟩ := adr_first l (false :: c)
    exact ⟨i + 1, s ++ adr r (true :: c), by rw [adr, e, rep_snoc]; rfl⟩
theorem adr_last : ∀ (t : Tr) (c : Ad), ∃ i r, adr t c = r ++ [List.replicate i true ++ c]
  | .leaf, c => ⟨0, [], rfl⟩
  | .node l r, c => by
    obtain ⟨i, s, e⟩ := adr_last r (true :: c)
    exact ⟨i + 1, adr l (false :: c) ++ s, by rw [adr, e, rep_snoc, List.append_assoc]⟩
/-- where a row of two is cut into a part ahead, two neighbours, a part behind -/
theorem two_cut {α : Type} {p q xs ys : List α} {u v : α} (e : p ++ q = xs ++ u :: v :: ys) :
    (∃ z, p = xs ++ u :: v :: z ∧ ys = z ++ q) ∨ (p = xs ++ [u] ∧ q = v :: ys) ∨ (∃ z, xs = p ++ z ∧ q = z ++ u :: v :: ys) := by
  rcases List.append_eq_append_iff.mp e with ⟨a, h1, h2⟩ | ⟨a, h1, h2⟩
  · exact .inr (.inr ⟨a, h1, h2⟩)
  · match a, h2 with
    | [], h2 => exact .inr (.inr ⟨[], by simpa using h1.symm, by simpa using h2.symm⟩)
    | [a], h2 =>
      simp at h2
      obtain ⟨rfl, h2⟩ := h2
      exact .inr (.inl ⟨h1, h2.symm⟩)
    | a :: b :: z, h2 =>
      simp at h2
      obtain ⟨rfl, rfl, h2⟩ := h2
      exact .inl ⟨z, h1, h2⟩
theorem adr_merge : ∀ (t : Tr) (c : Ad) {xs ys : List Ad} {u : Ad}, adr t c = xs ++ (false :: u) :: (true :: u) :: ys → ∃ t', adr t' c = xs ++ u :: ys
  | .leaf, c, xs, ys, u, e => by
    have := congrArg List.length e
    simp [adr] at this
    omega
  | .node l r, c, xs, ys, u, e => by
    rw [adr] at e
    rcases two_cut e with ⟨z, h1, h2⟩ | ⟨h1, h2⟩ | ⟨z, h1, h2⟩
    · obtain ⟨l', e'⟩ := adr_merge l _ h1
      exact ⟨.node l' r, by rw [adr, e', h2]; simp⟩
    · obtain ⟨i, s, e1⟩ := adr_last l (false :: c)
      obtain ⟨j, s', e2⟩ := adr_first r (true :: c)
      have h1' := h1
      have h2' := h2
      rw [e1] at h1
      rw [e2] at h2
      have h3 := (List.append_inj' h1 rfl).2
      have h4 := (List.append_inj' h1 rfl).1
      simp at h3 h2
      match i, h3 with
      | 0, h3 =>
        simp at h3
        subst h3
        match j, h2 with
        | 0, h2 =>
          match l, h1' with
          | .leaf, h1' =>
            match r, h2' with
            | .leaf, h2' =>
              simp [adr] at h1' h2'
              obtain ⟨rfl⟩ := h1'
              obtain rfl := h2'
              exact ⟨.leaf, rfl⟩
            | .node r1 r2, h2' =>
              exfalso
              obtain ⟨j, s', e2⟩ := adr_first r1 (false :: true :: c)
              rw [adr, e2, rep_snoc] at h2'
              simp [List.replicate_succ] at h2'
          | .node l1 l2, h1' =>
            exfalso
            obtain ⟨j, s', e2⟩ := adr_last l2 (true :: false :: c)
            rw [adr, e2, rep_snoc, ← List.append_assoc] at h1'
            have h3 := (List.append_inj' h1' rfl).2
            simp [List.replicate_succ] at h3
        | j + 1, h2 => simp [List.replicate_succ] at h2
      | i + 1, h3 => simp [List.replicate_succ] at h3
    · obtain ⟨r', e'⟩ := adr_merge r _ h2
      exact ⟨.node l r', by rw [adr, e', h1]; simp⟩
/-! ### pieces, and what two neighbours that are needless are exchanged for -/
abbrev Pa := Ad × Ad
def pa (a b : Tr) : List Pa := (adr a []).zip (adr b [])
theorem pa_length {a b : Tr} (e : a.lvs = b.lvs) : (pa a b).length = a.lvs := by rw [pa, List.length_zip, adr_length, adr_length, e, Nat.min_self]
theorem pa_fst {a b : Tr} (e : a.lvs = b.lvs) : (pa a b).map (·.1) = adr a [] := by
  rw [pa]; exact List.map_fst_zip (by rw [adr_length, adr_length, e]; exact Nat.le_refl _)
theorem pa_snd {a b : Tr} (e : a.lvs = b.lvs) : (pa a b).map (·.2) = adr b [] := by
  rw [pa]; exact List.map_snd_zip (by rw [adr_length, adr_length, e]; exact Nat.le_refl _)
theorem pa_inj {a b a' b' : Tr} (e : a.lvs = b.lvs) (e' : a'.lvs = b'.lvs) (h : pa a b = pa a' b') : a = a' ∧ b = b' :=
  ⟨adr_inj (by rw [← pa_fst e, ← pa_fst e', h]), adr_inj (by rw [← pa_snd e, ← pa_snd e', h])⟩
def mrg : Pa → Pa → Option Pa
  | (false :: u, false :: v), (true :: u', true :: v') => if u = u' ∧ v = v' then some (u, v) else none
  | _, _ => none
theorem mrg_some {y x z : Pa} (h : mrg y x = some z) : y = (false :: z.1, false :: z.2) ∧ x = (true :: z.1, true :: z.2) := by
  unfold mrg at h
  split at h
  · split at h
    · rename_i h'
      obtain ⟨rfl, rfl⟩ := h'
      simp at h
      subst h
      exact ⟨rfl, rfl⟩
    · simp at h
  · simp at h
theorem mrg_half (u v : Ad) : mrg (false :: u, false :: v) (true :: u, true :: v) = some (u, v) := by simp [mrg]
theorem mrg_left (y : Pa) (u v : Ad) : mrg y (false :: u, v) = none := by
  cases h : mrg y (false :: u, v) with
  | none => rfl
  | some z => have := (mrg_some h).2; simp at this
def psh : List Pa → Pa → List Pa
  | [], x => [x]
  | y :: s, x => match mrg y x with
    | some z => psh s z
    | none => x :: y :: s
theorem psh_left (s : List Pa) (u v : Ad) : psh s (false :: u, v) = (false :: u, v) :: s := by
  cases s with
  | nil => rfl
  | cons y s => rw [psh, mrg_left]
theorem psh_half (s : List Pa) (u v : Ad) : psh (psh s (false :: u, false :: v)) (true :: u, true :: v) = psh s (u, v) := by
  rw [psh_left, psh, mrg_half]
def exq : Tr → Pa → List Pa
  | .leaf, x => [x]
  | .node l r, x => exq l (false :: x.1, false :: x.2) ++ exq r (true :: x.1, true :: x.2)
theorem exq_zip : ∀ (p : Tr) (u v : Ad), (adr p u).zip (adr p v) = exq p (u, v)
  | .leaf, _, _ => rfl
  | .node l r, u, v => by
    rw [adr, adr, List.zip_append (by rw [adr_length, adr_length]), exq_zip l, exq_zip r]; rfl
theorem psh_exq : ∀ (p : Tr) (x : Pa) (s : List Pa), (exq p x).foldl psh s = psh s x
  | .leaf, x, s => rfl
  | .node l r, x, s => by rw [exq, List.foldl_append, psh_exq l, psh_exq r, psh_half]
def nf (xs : List Pa) : List Pa := (xs.foldl psh []).reverse
/-! ### trees with more beneath their leaves -/
theorem adr_graft : ∀ (t : Tr) (ps : List Tr) (c : Ad), ps.length = t.lvs → adr (graft t ps) c = ((adr t c).zip ps).flatMap fun x => adr x.2 x.1
  | .leaf, ps, c, h => by
    match ps, h with
    | [p], _ => simp [graft, adr]
  | .node l r, ps, c, h => by
    have h' : ps.length = l.lvs + r.lvs := h
    have e1 : (ps.take l.lvs).length = l.lvs := by rw [List.length_take]; omega
    have e2 : (ps.drop l.lvs).length = r.lvs := by rw [List.length_drop]; omega
    rw [graft, adr, adr_graft l _ _ e1, adr_graft r _ _ e2]
    conv => rhs; rw [adr, ← List.take_append_drop l.lvs ps, List.zip_append (by rw [adr_length, e1]), List.flatMap_append]
theorem zip_exq : ∀ (us vs : List Ad) (ps : List Tr), us.length = ps.length → vs.length = ps.length →
    ((us.zip ps).flatMap fun x => adr x.2 x.1).zip ((vs.zip ps).flatMap fun x => adr x.2 x.1) = ((us.zip vs).zip ps).flatMap fun x => exq x.2 x.1
  | us, vs, [], h1, h2 => by
    rw [List.length_eq_zero_iff.mp h1, List.length_eq_zero_iff.mp h2]; rfl
  | [], _, p :: ps, h1, _ => by simp at h1
  | _, [], p :: ps, _, h2 => by simp at h2
  | u :: us, v :: vs, p :: ps, h1, h2 => by
    simp only [List.zip_cons_cons, List.flatMap_cons]
    rw [List.zip_append (by rw [adr_length, adr_length]), exq_zip, zip_exq us vs ps (by simpa using h1) (by simpa using h2)]
theorem pa_graft {a b : Tr} {ps : List Tr} (e : a.lvs = b.lvs) (h : ps.length = a.lvs) : pa (graft a ps) (graft b ps) = ((pa a b).zip ps).flatMap fun x => exq x.2 x.1 := by
  unfold pa
  rw [adr_graft a ps [] h, adr_graft b ps [] (by rw [h, e]), zip_exq _ _ _ (by rw [adr_length, h]) (by rw [adr_length, h, e])]
theorem fold_exq : ∀ (xs : List Pa) (ps : List Tr) (s : List Pa), xs.length = ps.length → ((xs.zip ps).flatMap fun x => exq x.2 x.1).foldl psh s = xs.foldl psh s
  | [], [], s, _ => rfl
  | x :: xs, p :: ps, s, h => by
    simp only [List.zip_cons_cons, List.flatMap_cons, List.foldl_append, List.foldl_cons]
    rw [psh_exq, fold_exq xs ps _ (by simpa using h)]
theorem nf_graft {a b : Tr} {ps : List Tr} (e : a.lvs = b.lvs) (h : ps.length = a.lvs) : nf (pa (graft a ps) (graft b ps)) = nf (pa a b) := by
  unfold nf
  rw [pa_graft e h, fold_exq _ _ _ (by rw [pa_length e, h])]
def sumT : List Tr → Nat
  | [] => 0
  | p :: ps => p.lvs + sumT ps
theorem sumT_app : ∀ (a b : List Tr), sumT (a ++ b) = sumT a + sumT b
  | [], b => by simp [sumT]
  | p :: a, b => by simp only [List.cons_append, sumT, sumT_app a b]; omega
theorem graft_lvs : ∀ (t : Tr) (ps : List Tr), ps.length = t.lvs → (graft t ps).lvs = sumT ps
  | .leaf, ps, h => by
    match ps, h with
    | [p], _ => simp [graft, sumT]
  | .node l r, ps, h => by
    have h' : ps.length = l.lvs + r.lvs := h
    rw [graft, Tr.lvs, graft_lvs l _ (by rw [List.length_take]; omega), graft_lvs r _ (by rw [List.length_drop]; omega), ← sumT_app, List.take_append_drop]
def comb : List Tr → List Tr → List Tr
  | [], _ => []
  | p :: ps, qs => graft p (qs.take p.lvs) :: comb ps (qs.drop p.lvs)
theorem comb_length : ∀ (ps qs : List Tr), (comb ps qs).length = ps.length
  | [], _ => rfl
  | p :: ps, qs => by simp only [comb, List.length_cons, comb_length ps]
theorem comb_take : ∀ (k : Nat) (ps qs : List Tr), (comb ps qs).take k = comb (ps.take k) (qs.take (sumT (ps.take k)))
  | 0, ps, qs => by simp [comb]
  | k + 1, [], qs => by simp [comb]
  | k + 1, p :: ps, qs => by
    simp only [comb, List.take_succ_cons, sumT]
    rw [comb_take k, List.take_take, Nat.min_eq_left (by omega), List.drop_take, show p.lvs + sumT (ps.take k) - p.lvs = sumT (ps.take k) by omega]
theorem comb_drop : ∀ (k : Nat) (ps qs : List Tr), (comb ps qs).drop k = comb (ps.drop k) (qs.drop (sumT (ps.take k)))
  | 0, ps, qs => by simp [sumT]
  | k + 1, [], qs => by simp [comb]
  | k + 1, p :: ps, qs => by
    simp only [comb, List.drop_succ_cons, List.take_succ_cons, sumT]
    rw [comb_drop k, List.drop_drop]
theorem graft_take : ∀ (t : Tr) (qs : List Tr) (k : Nat), t.lvs ≤ k → graft t (qs.take k) = graft t qs
  | .leaf, qs, k, h => by
    have h' : 1 ≤ k := h
    cases qs with
    | nil => simp [graft]
    | cons q qs =>
      obtain ⟨k, rfl⟩ : ∃ j, k = j + 1 := ⟨k - 1, by omega⟩
      simp [graft]
  | .node l r, qs, k, h => by
    have h' : l.lvs + r.lvs ≤ k := h
    rw [graft, graft, List.take_take, Nat.min_eq_left (by omega), List.drop_take, graft_take r _ _ (by omega)]
theorem graft_graft : ∀ (t : Tr) (ps qs : List Tr), ps.length = t.lvs → graft (graft t ps) qs = graft t (comb ps qs)
  | .leaf, ps, qs, h => by
    match ps, h with
    | [p], _ =>
      simp only [graft, comb, List.headD_cons]
      rw [graft_take _ _ _ (Nat.le_refl _)]
  | .node l r, ps, qs, h => by
    have h' : ps.length = l.lvs + r.lvs := h
    have e1 : (ps.take l.lvs).length = l.lvs := by rw [List.length_take]; omega
    rw [graft, graft, graft, graft_graft l _ _ e1, graft_graft r _ _ (by rw [List.length_drop]; omega), graft_lvs l _ e1, comb_take, comb_drop]
theorem graft_rep : ∀ (t : Tr) (k : Nat), graft t (List.replicate k .leaf) = t
  | .leaf, k => by cases k <;> rfl
  | .node l r, k => by rw [graft, List.take_replicate, List.drop_replicate, graft_rep l, graft_rep r]
/-! ### a map with more cuts -/
def Ex (f g : Tr × Tr) : Prop := ∃ ps : List Tr, ps.length = f.1.lvs ∧ g = (graft f.1 ps, graft f.2 ps)
theorem Ex.refl (f : Tr × Tr) : Ex f f := ⟨List.replicate f.1.lvs .leaf, by simp, by rw [graft_rep, graft_rep]⟩
theorem Ex.lvs {f g : Tr × Tr} (e : f.1.lvs = f.2.lvs) (h : Ex f g) : g.1.lvs = g.2.lvs ∧ f.1.lvs ≤ g.1.lvs := by
  obtain ⟨ps, hl, rfl⟩ := h
  have : ∀ ps : List Tr, ps.length ≤ sumT ps := fun ps => by
    induction ps with
    | nil => exact Nat.le_refl _
    | cons p ps ih => have := Tr.pos p; simp only [List.length_cons, sumT]; omega
  have := this ps
  show (graft f.1 ps).lvs = (graft f.2 ps).lvs ∧ f.1.lvs ≤ (graft f.1 ps).lvs
  rw [graft_lvs _ _ hl, graft_lvs _ _ (by rw [hl, e])]
  exact ⟨rfl, by omega⟩
theorem Ex.trans {f g h : Tr × Tr} (e : f.1.lvs = f.2.lvs) (a : Ex f g) (b : Ex g h) : Ex f h := by
  obtain ⟨ps, hl, rfl⟩ := a
  obtain ⟨qs, hq, rfl⟩ := b
  exact ⟨comb ps qs, by rw [comb_length, hl], by rw [graft_graft _ _ _ hl, graft_graft _ _ _ (by rw [hl, e])]⟩
theorem Ex.nf {f g : Tr × Tr} (e : f.1.lvs = f.2.lvs) (h : Ex f g) : nf (pa g.1 g.2) = nf (pa f.1 f.2) := by
  obtain ⟨ps, hl, rfl⟩ := h
  exact nf_graft e hl
/-! ### trimmed -/
def RdS : List Pa → Prop
  | x :: y :: s => mrg y x = none ∧ RdS (y :: s)
  | _ => True
theorem RdS.tail {x : Pa} {s : List Pa} (h : RdS (x :: s)) : RdS s := by
  cases s with
  | nil => trivial
  | cons y s => exact h.2
theorem RdS.psh : ∀ {s : List Pa} {x : Pa}, RdS s → RdS (psh s x)
  | [], x, _ => trivial
  | y :: s, x, h => by
    rw [C.psh]
    cases e : mrg y x with
    | none => exact ⟨e, h⟩
    | some z => exact RdS.psh h.tail
theorem fold_rd : ∀ {xs s : List Pa}, RdS (xs.reverse ++ s) → xs.foldl psh s = xs.reverse ++ s
  | [], s, _ => rfl
  | x :: xs, s, h => by
    rw [List.reverse_cons, List.append_assoc] at h
    have e : psh s x = x :: s := by
      have : ∀ (zs ws : List Pa), RdS (zs ++ ws) → RdS ws := fun zs => by
        induction zs with
        | nil => exact fun ws h => h
        | cons z zs ih => exact fun ws h => ih ws (RdS.tail h)
      have h' : RdS (x :: s) := this xs.reverse _ h
      cases s with
      | nil => rfl
      | cons y s => rw [psh, h'.1]
    rw [List.foldl_cons, e, fold_rd (s := x :: s) h, List.reverse_cons, List.append_assoc]
    rfl
theorem mrg_ex {a b : Tr} {s rest : List Pa} {y x z : Pa} (e : a.lvs = b.lvs) (h : pa a b = s ++ y :: x :: rest) (m : mrg y x = some z) : ∃ a' b' : Tr, a'.lvs = b'.lvs ∧ pa a' b' = s ++ z :: rest ∧ Ex (a', b') (a, b) := by
  obtain ⟨rfl, rfl⟩ := mrg_some m
  have h1 : adr a [] = s.map (·.1) ++ (false :: z.1) :: (true :: z.1) :: rest.map (·.1) := by rw [← pa_fst e, h]; simp
  have h2 : adr b [] = s.map (·.2) ++ (false :: z.2) :: (true :: z.2) :: rest.map (·.2) := by rw [← pa_snd e, h]; simp
  obtain ⟨a', ea⟩ := adr_merge a [] h1
  obtain ⟨b', eb⟩ := adr_merge b [] h2
  have la : a'.lvs = s.length + (rest.length + 1) := by rw [← adr_length a' [], ea]; simp
  have lb : b'.lvs = s.length + (rest.length + 1) := by rw [← adr_length b' [], eb]; simp
  have hp : pa a' b' = s ++ z :: rest := by
    rw [pa, ea, eb, List.zip_append (by simp), List.zip_cons_cons, List.zip_map', List.zip_map']
    simp
  refine ⟨a', b', by omega, hp, List.replicate s.length .leaf ++ .node .leaf .leaf :: List.replicate rest.length .leaf, by rw [la]; simp, ?_⟩
  have hz : ∀ (xs : List Ad) (k : Nat), xs.length = k → (xs.zip (List.replicate k Tr.leaf)).flatMap (fun x => adr x.2 x.1) = xs := fun xs => by
    induction xs with
    | nil => intro k _; simp
    | cons x xs ih =>
      intro k hk
      obtain ⟨k, rfl⟩ : ∃ j, k = j + 1 := ⟨k - 1, by simp at hk; omega⟩
      rw [List.replicate_succ, List.zip_cons_cons, List.flatMap_cons, ih k (by simpa using hk)]
      rfl
  refine Prod.ext (adr_inj ?_) (adr_inj ?_)
  · show adr a [] = adr (graft a' _) []
    rw [adr_graft _ _ _ (by rw [la]; simp), ea, h1, List.zip_append (by simp), List.zip_cons_cons, List.flatMap_append, List.flatMap_cons, hz _ _ (by simp), hz _ _ (by simp)]
    rfl
  · show adr b [] = adr (graft b' _) []
    rw [adr_graft _ _ _ (by rw [lb]; simp), eb, h2, List.zip_append (by simp), List.zip_cons_cons, List.flatMap_append, List.flatMap_cons, hz _ _ (by simp), hz _ _ (by simp)]
    rfl
theorem psh_ex : ∀ {s : List Pa} {x : Pa} {a b : Tr} {rest : List Pa}, a.lvs = b.lvs → pa a b = s.reverse ++ x :: rest → ∃ a' b' : Tr, a'.lvs = b'.lvs ∧ pa a' b' = (psh s x).reverse ++ rest ∧ Ex (a', b') (a, b)
  | [], x, a, b, rest, e, h => ⟨a, b, e, h, .refl _⟩
  | y :: s, x, a, b, rest, e, h => by
    rw [psh]
    cases m : mrg y x with
    | none => exact ⟨a, b, e, by rw [h]; simp, .refl _⟩
    | some z =>
      obtain ⟨a1, b1, e1, h1, x1⟩ := mrg_ex (s := s.reverse) (rest := rest) e (by rw [h]; simp) m
      obtain ⟨a2, b2, e2, h2, x2⟩ := psh_ex (s := s) (x := z) (rest := rest) e1 h1
      exact ⟨a2, b2, e2, h2, x2.trans e2 x1⟩
theorem fold_ex : ∀ {rest s : List Pa} {a b : Tr}, a.lvs = b.lvs → pa a b = s.reverse ++ rest → ∃ a' b' : Tr, a'.lvs = b'.lvs ∧ pa a' b' = (rest.foldl psh s).reverse ∧ Ex (a', b') (a, b)
  | [], s, a, b, e, h => ⟨a, b, e, by rw [h]; simp, .refl _⟩
  | x :: rest, s, a, b, e, h => by
    obtain ⟨a1, b1, e1, h1, x1⟩ := psh_ex e h
    obtain ⟨a2, b2, e2, h2, x2⟩ := fold_ex (rest := rest) e1 h1
    exact ⟨a2, b2, e2, h2, x2.trans e2 x1⟩
theorem trim_ex (f : Tr × Tr) : ∃ g : Tr × Tr, f.1.lvs = f.2.lvs → g.1.lvs = g.2.lvs ∧ pa g.1 g.2 = nf (pa f.1 f.2) ∧ Ex g f := by
  by_cases e : f.1.lvs = f.2.lvs
  · obtain ⟨a, b, h1, h2, h3⟩ := fold_ex (rest := pa f.1 f.2) (s := []) e rfl
    exact ⟨(a, b), fun _ => ⟨h1, h2, h3⟩⟩
  · exact ⟨f, fun z => absurd z e⟩
noncomputable def trim (f : Tr × Tr) : Tr × Tr := Classical.choose (trim_ex f)
theorem trim_lvs {f : Tr × Tr} (e : f.1.lvs = f.2.lvs) : (trim f).1.lvs = (trim f).2.lvs := (Classical.choose_spec (trim_ex f) e).1
theorem trim_pa {f : Tr × Tr} (e : f.1.lvs = f.2.lvs) : pa (trim f).1 (trim f).2 = nf (pa f.1 f.2) := (Classical.choose_spec (trim_ex f) e).2.1
theorem trim_Ex {f : Tr × Tr} (e : f.1.lvs = f.2.lvs) : Ex (trim f) f := (Classical.choose_spec (trim_ex f) e).2.2
theorem trim_le {f : Tr × Tr} (e : f.1.lvs = f.2.lvs) : (trim f).1.lvs ≤ f.1.lvs := ((trim_Ex e).lvs (trim_lvs e)).2
theorem trim_eq {f g : Tr × Tr} (e : f.1.lvs = f.2.lvs) (e' : g.1.lvs = g.2.lvs) (h : nf (pa f.1 f.2) = nf (pa g.1 g.2)) : trim f = trim g := by
  obtain ⟨h1, h2⟩ := pa_inj (trim_lvs e) (trim_lvs e') (by rw [trim_pa e, trim_pa e', h])
  exact Prod.ext h1 h2
theorem Ex.trim {f g : Tr × Tr} (e : f.1.lvs = f.2.lvs) (h : Ex f g) : trim g = C.trim f := trim_eq (h.lvs e).1 e (h.nf e)
def Rd (f : Tr × Tr) : Prop := RdS (pa f.1 f.2).reverse
theorem Rd.trim {f : Tr × Tr} (e : f.1.lvs = f.2.lvs) (h : Rd f) : trim f = f := by
  obtain ⟨h1, h2⟩ := pa_inj (trim_lvs e) e (by rw [trim_pa e, nf, fold_rd (s := []) (by rw [List.append_nil]; exact h), List.append_nil, List.reverse_reverse])
  exact Prod.ext h1 h2
def swp (x : Pa) : Pa := (x.2, x.1)
theorem zip_swp : ∀ (xs ys : List Ad), ys.zip xs = (xs.zip ys).map swp
  | [], ys => by simp
  | _ :: _, [] => by simp
  | x :: xs, y :: ys => by simp only [List.zip_cons_cons, List.map_cons, zip_swp xs ys]; rfl
theorem pa_swp (a b : Tr) : pa b a = (pa a b).map swp := zip_swp _ _
/-! ### one map then another -/
def le (t M : Tr) : Prop := joinT t M = M
theorem le_refl (t : Tr) : le t t := joinT_self t
theorem le_join : ∀ a b : Tr, le a (joinT a b)
  | .leaf, b => rfl
  | .node l r, .leaf => joinT_self _
  | .node l r, .node a b => by
    have h1 := le_join l a
    have h2 := le_join r b
    unfold le at h1 h2 ⊢
    rw [joinT, joinT, h1, h2]
theorem le_join' (a b : Tr) : le b (joinT a b) := by rw [joinT_comm]; exact le_join b a
theorem join_le : ∀ {a b M : Tr}, le a M → le b M → le (joinT a b) M
  | .leaf, b, M, _, h => h
  | .node l r, .leaf, M, h, _ => h
  | .node l r, .node a b, .leaf, h, _ => by cases h
  | .node l r, .node a b, .node x y, h, k => by
    unfold le at h k ⊢
    simp only [joinT, Tr.node.injEq] at h k ⊢
    exact ⟨join_le h.1 k.1, join_le h.2 k.2⟩
theorem le_trans : ∀ {a b M : Tr}, le a b → le b M → le a M
  | .leaf, b, M, _, _ => rfl
  | .node l r, .leaf, M, h, _ => by cases h
  | .node l r, .node a b, .leaf, _, h => by cases h
  | .node l r, .node a b, .node x y, h, k => by
    unfold le at h k ⊢
    simp only [joinT, Tr.node.injEq] at h k ⊢
    exact ⟨le_trans h.1 k.1, le_trans h.2 k.2⟩
theorem graft_le : ∀ (t : Tr) (ps : List Tr), le t (graft t ps)
  | .leaf, _ => rfl
  | .node l r, ps => by
    have h1 := graft_le l (ps.take l.lvs)
    have h2 := graft_le r (ps.drop l.lvs)
    unfold le at h1 h2 ⊢
    rw [graft, joinT, h1, h2]
theorem beneath_graft : ∀ (t : Tr) (ps : List Tr), ps.length = t.lvs → beneath t (graft t ps) = ps
  | .leaf, ps, h => by
    match ps, h with
    | [p], _ => rfl
  | .node l r, ps, h => by
    have h' : ps.length = l.lvs + r.lvs := h
    rw [graft, beneath, beneath_graft l _ (by rw [List.length_take]; omega), beneath_graft r _ (by rw [List.length_drop]; omega), List.take_append_drop]
theorem graft_of_le {t M : Tr} (h : le t M) : graft t (beneath t M) = M := by rw [graft_beneath]; exact h
theorem sumT_beneath : ∀ (t M : Tr), sumT (beneath t M) = (joinT t M).lvs := fun t M => by rw [← graft_beneath, graft_lvs _ _ (beneath_length t M)]
theorem comb_app (a b p q : List Tr) (h : p.length = sumT a) : comb (a ++ b) (p ++ q) = comb a p ++ comb b q := by
  induction a generalizing p with
  | nil =>
    have : p = [] := List.length_eq_zero_iff.mp h
    subst this
    rfl
  | cons x a ih =>
    simp only [sumT] at h
    rw [List.cons_append, comb, comb, List.take_append_of_le_length (by omega), List.drop_append_of_le_length (by omega), ih _ (by rw [List.length_drop]; omega)]
    rfl
theorem beneath_trans : ∀ {a b M : Tr}, le a b → le b M → beneath a M = comb (beneath a b) (beneath b M)
  | .leaf, b, M, _, h => by
    rw [beneath, beneath, comb, comb, graft_take _ _ _ (Nat.le_refl _), graft_of_le h]
  | .node l r, .leaf, M, h, _ => by cases h
  | .node l r, .node a b, .leaf, _, h => by cases h
  | .node l r, .node a b, .node x y, h, k => by
    unfold le at h k
    simp only [joinT, Tr.node.injEq] at h k
    simp only [beneath]
    rw [comb_app _ _ _ _ (by rw [beneath_length, sumT_beneath, h.1]), beneath_trans h.1 k.1, beneath_trans h.2 k.2]
theorem Ex.of_le {a b M : Tr} (e : a.lvs = b.lvs) (h : le b M) : Ex (a, b) (graft a (beneath b M), M) := ⟨beneath b M, by rw [beneath_length]; exact e.symm, by rw [graft_of_le h]⟩
theorem Ex.of_le' {a b M : Tr} (e : a.lvs = b.lvs) (h : le a M) : Ex (a, b) (M, graft b (beneath a M)) := ⟨beneath a M, by rw [beneath_length], by rw [graft_of_le h]⟩
theorem Ex.le {a b A M : Tr} (e : a.lvs = b.lvs) (h : Ex (a, b) (A, M)) : le b M ∧ A = graft a (beneath b M) ∧ C.le a A ∧ M = graft b (beneath a A) := by
  obtain ⟨ps, hl, h⟩ := h
  obtain ⟨rfl, rfl⟩ := Prod.mk.inj h
  have hl : ps.length = a.lvs := hl
  exact ⟨graft_le _ _, by rw [beneath_graft _ _ (by rw [hl, e])], graft_le _ _, by rw [beneath_graft _ _ hl]⟩
noncomputable def cmp (f g : Tr × Tr) : Tr × Tr := trim (graft f.1 (beneath f.2 g.1), graft g.2 (beneath g.1 f.2))
theorem cmp_raw_lvs {f g : Tr × Tr} (e : f.1.lvs = f.2.lvs) (e' : g.1.lvs = g.2.lvs) : (graft f.1 (beneath f.2 g.1)).lvs = (joinT f.2 g.1).lvs ∧ (graft g.2 (beneath g.1 f.2)).lvs = (joinT f.2 g.1).lvs := by
  rw [graft_lvs _ _ (by rw [beneath_length, e]), graft_lvs _ _ (by rw [beneath_length, e']), sumT_beneath, sumT_beneath, joinT_comm g.1]
  exact ⟨rfl, rfl⟩
theorem cmp_lvs {f g : Tr × Tr} (e : f.1.lvs = f.2.lvs) (e' : g.1.lvs = g.2.lvs) : (cmp f g).1.lvs = (cmp f g).2.lvs :=
  trim_lvs (by have := cmp_raw_lvs e e'; exact this.1.trans this.2.symm)
theorem cmp_of {f g : Tr × Tr} {A M B : Tr} (e : f.1.lvs = f.2.lvs) (e' : g.1.lvs = g.2.lvs) (h : Ex f (A, M)) (k : Ex g (M, B)) : cmp f g = trim (A, B) := by
  obtain ⟨a, b⟩ := f
  obtain ⟨c, d⟩ := g
  obtain ⟨h1, rfl, _, _⟩ := h.le e
  obtain ⟨_, _, k1, rfl⟩ := k.le e'
  have hJ := join_le h1 k1
  have r := cmp_raw_lvs (f := (a, b)) (g := (c, d)) e e'
  refine (Ex.trim (f := (graft a (beneath b c), graft d (beneath c b))) (by exact r.1.trans r.2.symm) ⟨beneath (joinT b c) M, by rw [beneath_length]; exact r.1.symm, ?_⟩).symm
  show _ = (graft (graft a (beneath b c)) _, graft (graft d (beneath c b)) _)
  have x1 : beneath b c = beneath b (joinT b c) := by
    have := beneath_graft b (beneath b c) (beneath_length _ _)
    rw [graft_beneath] at this
    exact this.symm
  have x2 : beneath c b = beneath c (joinT b c) := by
    have := beneath_graft c (beneath c b) (beneath_length _ _)
    rw [graft_beneath, joinT_comm] at this
    exact this.symm
  rw [graft_graft _ _ _ (by rw [beneath_length]; exact e.symm), graft_graft _ _ _ (by rw [beneath_length]; exact e'), x1, x2, ← beneath_trans (le_join b c) hJ, ← beneath_trans (le_join' b c) hJ]
abbrev Ok (f : Tr × Tr) : Prop := f.1.lvs = f.2.lvs
theorem Ex.cmp {f f' g g' : Tr × Tr} (e : Ok f) (e' : Ok g) (h : Ex f f') (k : Ex g g') : cmp f' g' = C.cmp f g := by
  have ef := (h.lvs e).1
  have eg := (k.lvs e').1
  obtain ⟨a, b⟩ := f'
  obtain ⟨c, d⟩ := g'
  have h1 : Ex (a, b) (graft a (beneath b (joinT b c)), joinT b c) := Ex.of_le ef (le_join b c)
  have h2 : Ex (c, d) (joinT b c, graft d (beneath c (joinT b c))) := Ex.of_le' eg (le_join' b c)
  rw [cmp_of ef eg h1 h2, cmp_of e e' (h.trans e h1) (k.trans e' h2)]
/-- three that fit: what lies between them is cut alike -/
theorem fit3 {f g h : Tr × Tr} (ef : Ok f) (eg : Ok g) (eh : Ok h) : ∃ A M N B : Tr, Ex f (A, M) ∧ Ex g (M, N) ∧ Ex h (N, B) := by
  obtain ⟨a, b⟩ := f
  obtain ⟨c, d⟩ := g
  obtain ⟨k, m⟩ := h
  have g1 : Ex (c, d) (joinT b c, graft d (beneath c (joinT b c))) := Ex.of_le' eg (le_join' b c)
  have l1 := (g1.lvs eg).1
  have g2 := Ex.of_le (a := joinT b c) (b := graft d (beneath c (joinT b c))) l1 (le_join _ k)
  have g3 := g1.trans eg g2
  refine ⟨_, _, _, _, Ex.of_le ef ?_, g3, Ex.of_le' eh (le_join' _ k)⟩
  exact le_trans (le_join b c) (graft_le _ _)
def oneT : Tr × Tr := (.leaf, .leaf)
theorem ok_one : Ok oneT := rfl
def bck (f : Tr × Tr) : Tr × Tr := (f.2, f.1)
end C

set_option Elab.async false
set_option linter.all false
set_option maxRecDepth 100000
set_option maxHeartbeats 4000000
namespace C
open PySem L2 Hv
/-! ### a point on a stretch, without its begin (true) or without its end (false) -/
abbrev Pq := Int × Nat
def In (s : Bool) (u : Ad) (p : Pq) : Prop :=
  if s then num u * 2 ^ p.2 < p.1 * 2 ^ u.length ∧ p.1 * 2 ^ u.length ≤ (num u + 1) * 2 ^ p.2
  else num u * 2 ^ p.2 ≤ p.1 * 2 ^ u.length ∧ p.1 * 2 ^ u.length < (num u + 1) * 2 ^ p.2
theorem two_pos (d : Nat) : (0 : Int) < 2 ^ d := Int.pow_pos (by decide)
/-! ### where a piece brings a point -/
def img (x : Pa) (p : Pq) : Pq := low (p.1 * 2 ^ x.1.length + (num x.2 - num x.1) * 2 ^ p.2) (x.2.length + p.2)
def grw (x : Pa) : Int := ((x.1.length : Nat) : Int) - ((x.2.length : Nat) : Int)
def Act (s : Bool) (xs : List Pa) (p : Pq) (r : Pq × Int) : Prop := ∃ x ∈ xs, In s x.1 p ∧ r = (img x p, grw x)
/-! ### maps at points -/
end C

set_option Elab.async false
set_option linter.all false
set_option maxRecDepth 100000
set_option maxHeartbeats 4000000
namespace C
open PySem L2 Hv
local macro_rules | `(tactic| walk_at "sl") => `(tactic| repeat (first | exact List.nil_sublist _ | (with_reducible exact List.Sublist.refl _) | (with_reducible refine List.Sublist.cons₂ _ ?_) | (refine List.Sublist.cons _ ?_)))
set_option hygiene false in
local macro_rules | `(tactic| walk_at "rd") => `(tactic| first | exact S.get (i := 0) rfl | exact S.get (i := 1) rfl | exact S.get (i := 2) rfl | exact S.get (i := 3) rfl | exact S.get (i := 4) rfl | exact S.get (i := 5) rfl | assumption | exact S.old (by assumption))
set_option hygiene false in
local macro_rules | `(tactic| walk_at "s") => `(tactic| first
  | with_reducible refine Wp.seq ?_ | with_reducible refine sqK.nx ?_ | with_reducible refine sqK.rt ?_ | with_reducible refine Wp.asg ?_
  | ((with_reducible apply Wp.var); exact rfl) | with_reducible refine Wp.con ?_ | with_reducible refine Wp.bin ?_ | with_reducible refine Wp.call ?_ | with_reducible refine Wp.acons ?_ | with_reducible refine Wp.anil ?_
  | ((with_reducible refine Wp.gNm ?_); try dsimp only [List.set_cons_zero, List.set_cons_succ]) | with_reducible refine Wp.gTp ?_ | with_reducible refine Wp.gsC ?_ | with_reducible refine Wp.gsN ?_ | with_reducible refine Wp.gIx ?_ | with_reducible refine Wp.gSl ?_
  | with_reducible refine Wp.sif ?_ | with_reducible refine Wp.tCm ?_ | with_reducible refine exB ?_ | with_reducible refine brT ?_ | with_reducible refine brF ?_ | with_reducible refine brNT ?_ | with_reducible refine brNF ?_ | with_reducible refine Wp.tT ?_ | with_reducible refine truB ?_ | with_reducible refine truI ?_ | with_reducible refine truT ?_ | with_reducible refine truN ?_
  | ((with_reducible apply truL); walk_at "rd") | with_reducible refine Wp.tNt ?_ | with_reducible refine Wp.tAn ?_ | with_reducible refine Wp.tOr ?_ | with_reducible refine Wp.tYs ?_
  | with_reducible refine Wp.sret ?_ | with_reducible refine Wp.ex ?_ | with_reducible refine Wp.nx ?_ | with_reducible refine Wp.sbk ?_ | with_reducible refine Wp.sct ?_ | (with_reducible refine Wp.aug ?_) | (with_reducible refine Wp.par ?_) | with_reducible refine parK ?_
  | (with_reducible refine Wp.tup ?_) | ((with_reducible refine tupK ?_ ?_); exact Nat.le_of_ble_eq_true rfl) | with_reducible refine Wp.lst ?_ | with_reducible refine Wp.m ?_ | with_reducible refine Wp.mlst ?_ | with_reducible refine Wp.andT ?_ | with_reducible refine Wp.orT ?_ | with_reducible refine Wp.if_ ?_
  | with_reducible refine Wp.un ?_ | with_reducible refine negK ?_ | with_reducible refine notK ?_
  | with_reducible refine jnK.nx ?_ | with_reducible refine jnK.rt ?_ | with_reducible refine fnK.rt ?_ | with_reducible refine fnK.nx ?_ | with_reducible refine lpK.nx ?_ | with_reducible refine lpK.ct ?_ | with_reducible refine lpK.bk ?_ | with_reducible refine lpK.rt ?_
  | with_reducible refine Wp.addI ?_ | with_reducible refine Wp.subI ?_ | with_reducible refine Wp.iaddI ?_ | with_reducible refine Wp.andI ?_ | ((with_reducible refine Wp.mulI ?_ ?_); first | exact .inl (by decide) | exact .inr (by decide)) | ((with_reducible refine Wp.modI ?_ ?_); exact (by decide)) | ((with_reducible refine Wp.divI ?_ ?_); exact (by decide))
  | with_reducible refine Wp.ltI ?_ | with_reducible refine Wp.leI ?_ | with_reducible refine Wp.gtI ?_ | with_reducible refine Wp.geI ?_ | with_reducible refine Wp.eqI ?_ | with_reducible refine Wp.neI ?_
  | with_reducible refine Wp.ixT0 ?_ | with_reducible refine Wp.ixT1 ?_ | ((with_reducible apply Wp.lenL); walk_at "rd") | with_reducible refine Wp.lenT ?_ | with_reducible refine Wp.lenR ?_
  | with_reducible refine Wp.isiT ?_ | with_reducible refine Wp.isiL ?_ | with_reducible refine Wp.isiI ?_ | with_reducible refine Wp.isiB ?_ | with_reducible refine Wp.isiS ?_ | with_reducible refine Wp.lz ?_ | with_reducible refine Wp.sfor ?_ | with_reducible refine Wp.iAny ?_ | ((with_reducible apply Wp.anyL); walk_at "rd"; try dsimp only [wipeE, List.set_cons_zero, List.set_cons_succ]) | ((with_reducible refine Wp.anyT ?_); try dsimp only [wipeE, List.set_cons_zero, List.set_cons_succ]) | ((with_reducible refine Wp.anyR ?_); try dsimp only [wipeE, List.set_cons_zero, List.set_cons_succ]) | ((with_reducible refine Wp.anyX ?_); try dsimp only [wipeE, List.set_cons_zero, List.set_cons_succ]) | with_reducible refine Wp.lc ?_
  | ((with_reducible apply Wp.tupL); walk_at "rd") | with_reducible refine Wp.tupT ?_ | with_reducible refine Wp.sl ?_ | with_reducible refine Wp.oNo ?_ | with_reducible refine Wp.oSo ?_ | with_reducible refine soK ?_ | with_reducible refine Wp.rg1 ?_ | with_reducible refine Wp.rg2 ?_ | with_reducible refine Wp.zip ?_ | with_reducible refine Wp.enum ?_ | with_reducible refine Wp.rev ?_
  | with_reducible refine Wp.kx ?_ | with_reducible refine Wp.kp ?_ | with_reducible refine Wp.dsp ?_ | with_reducible refine Wp.anC ?_ | with_reducible refine Wp.anN ?_ | with_reducible refine Wp.chain ?_ | with_reducible refine Wp.tch ?_ | with_reducible refine Wp.maxI ?_ | with_reducible refine Wp.absI ?_ | with_reducible refine Wp.isN ?_ | with_reducible refine Wp.isnN ?_ | with_reducible refine Wp.if_ ?_)
set_option hygiene false in
local macro_rules | `(tactic| walk_at "w") => `(tactic| repeat (walk_at "s"))
/-! ### the program's own: trees of stretches, trimming -/
def pD (x : Pa) : D := pcD (ap x.1, ap x.2)
theorem pcs_pa (a b : Tr) : pcs a b = (pa a b).map fun x => (ap x.1, ap x.2) := by
  unfold pcs pa
  have h1 : stz a 0 0 = (adr a []).map ap := (adr_stz a []).symm
  have h2 : stz b 0 0 = (adr b []).map ap := (adr_stz b []).symm
  rw [h1, h2, List.zip_map]
  rfl
theorem pcsD (a b : Tr) : (pcs a b).map pcD = (pa a b).map pD := by rw [pcs_pa, List.map_map]; rfl
section
variable {h0 h : Hb} {L : List (Nat × List D)} {K : D → Hb → Prop}
def mD (f : Tr × Tr) : D := .tup [f.1.d, f.2.d]
end
end C

set_option Elab.async false
set_option linter.all false
set_option maxRecDepth 100000
set_option maxHeartbeats 4000000
namespace C
open PySem L2 Hv
local macro_rules | `(tactic| walk_at "sl") => `(tactic| repeat (first | exact List.nil_sublist _ | (with_reducible exact List.Sublist.refl _) | (with_reducible refine List.Sublist.cons₂ _ ?_) | (refine List.Sublist.cons _ ?_)))
set_option hygiene false in
local macro_rules | `(tactic| walk_at "rd") => `(tactic| first | exact S.get (i := 0) rfl | exact S.get (i := 1) rfl | exact S.get (i := 2) rfl | exact S.get (i := 3) rfl | exact S.get (i := 4) rfl | exact S.get (i := 5) rfl | assumption | exact S.old (by assumption))
set_option hygiene false in
local macro_rules | `(tactic| walk_at "s") => `(tactic| first
  | with_reducible refine Wp.seq ?_ | with_reducible refine sqK.nx ?_ | with_reducible refine sqK.rt ?_ | with_reducible refine Wp.asg ?_
  | ((with_reducible apply Wp.var); exact rfl) | with_reducible refine Wp.con ?_ | with_reducible refine Wp.bin ?_ | with_reducible refine Wp.call ?_ | with_reducible refine Wp.acons ?_ | with_reducible refine Wp.anil ?_
  | ((with_reducible refine Wp.gNm ?_); try dsimp only [List.set_cons_zero, List.set_cons_succ]) | with_reducible refine Wp.gTp ?_ | with_reducible refine Wp.gsC ?_ | with_reducible refine Wp.gsN ?_ | with_reducible refine Wp.gIx ?_ | with_reducible refine Wp.gSl ?_
  | with_reducible refine Wp.sif ?_ | with_reducible refine Wp.tCm ?_ | with_reducible refine exB ?_ | with_reducible refine brT ?_ | with_reducible refine brF ?_ | with_reducible refine brNT ?_ | with_reducible refine brNF ?_ | with_reducible refine Wp.tT ?_ | with_reducible refine truB ?_ | with_reducible refine truI ?_ | with_reducible refine truT ?_ | with_reducible refine truN ?_
  | ((with_reducible apply truL); walk_at "rd") | with_reducible refine Wp.tNt ?_ | with_reducible refine Wp.tAn ?_ | with_reducible refine Wp.tOr ?_ | with_reducible refine Wp.tYs ?_
  | with_reducible refine Wp.sret ?_ | with_reducible refine Wp.ex ?_ | with_reducible refine Wp.nx ?_ | with_reducible refine Wp.sbk ?_ | with_reducible refine Wp.sct ?_ | (with_reducible refine Wp.aug ?_) | (with_reducible refine Wp.par ?_) | with_reducible refine parK ?_
  | (with_reducible refine Wp.tup ?_) | ((with_reducible refine tupK ?_ ?_); exact Nat.le_of_ble_eq_true rfl) | with_reducible refine Wp.lst ?_ | with_reducible refine Wp.m ?_ | with_reducible refine Wp.mlst ?_ | with_reducible refine Wp.andT ?_ | with_reducible refine Wp.orT ?_ | with_reducible refine Wp.if_ ?_
  | with_reducible refine Wp.un ?_ | with_reducible refine negK ?_ | with_reducible refine notK ?_
  | with_reducible refine jnK.nx ?_ | with_reducible refine jnK.rt ?_ | with_reducible refine fnK.rt ?_ | with_reducible refine fnK.nx ?_ | with_reducible refine lpK.nx ?_ | with_reducible refine lpK.ct ?_ | with_reducible refine lpK.bk ?_ | with_reducible refine lpK.rt ?_
  | with_reducible refine Wp.addI ?_ | with_reducible refine Wp.subI ?_ | with_reducible refine Wp.iaddI ?_ | with_reducible refine Wp.andI ?_ | ((with_reducible refine Wp.mulI ?_ ?_); first | exact .inl (by decide) | exact .inr (by decide)) | ((with_reducible refine Wp.modI ?_ ?_); exact (by decide)) | ((with_reducible refine Wp.divI ?_ ?_); exact (by decide))
  | with_reducible refine Wp.ltI ?_ | with_reducible refine Wp.leI ?_ | with_reducible refine Wp.gtI ?_ | with_reducible refine Wp.geI ?_ | with_reducible refine Wp.eqI ?_ | with_reducible refine Wp.neI ?_
  | with_reducible refine Wp.ixT0 ?_ | with_reducible refine Wp.ixT1 ?_ | ((with_reducible apply Wp.lenL); walk_at "rd") | with_reducible refine Wp.lenT ?_ | with_reducible refine Wp.lenR ?_
  | with_reducible refine Wp.isiT ?_ | with_reducible refine Wp.isiL ?_ | with_reducible refine Wp.isiI ?_ | with_reducible refine Wp.isiB ?_ | with_reducible refine Wp.isiS ?_ | with_reducible refine Wp.lz ?_ | with_reducible refine Wp.sfor ?_ | with_reducible refine Wp.iAny ?_ | ((with_reducible apply Wp.anyL); walk_at "rd"; try dsimp only [wipeE, List.set_cons_zero, List.set_cons_succ]) | ((with_reducible refine Wp.anyT ?_); try dsimp only [wipeE, List.set_cons_zero, List.set_cons_succ]) | ((with_reducible refine Wp.anyR ?_); try dsimp only [wipeE, List.set_cons_zero, List.set_cons_succ]) | ((with_reducible refine Wp.anyX ?_); try dsimp only [wipeE, List.set_cons_zero, List.set_cons_succ]) | with_reducible refine Wp.lc ?_
  | ((with_reducible apply Wp.tupL); walk_at "rd") | with_reducible refine Wp.tupT ?_ | with_reducible refine Wp.sl ?_ | with_reducible refine Wp.oNo ?_ | with_reducible refine Wp.oSo ?_ | with_reducible refine soK ?_ | with_reducible refine Wp.rg1 ?_ | with_reducible refine Wp.rg2 ?_ | with_reducible refine Wp.zip ?_ | with_reducible refine Wp.enum ?_ | with_reducible refine Wp.rev ?_
  | with_reducible refine Wp.kx ?_ | with_reducible refine Wp.kp ?_ | with_reducible refine Wp.dsp ?_ | with_reducible refine Wp.anC ?_ | with_reducible refine Wp.anN ?_ | with_reducible refine Wp.chain ?_ | with_reducible refine Wp.tch ?_ | with_reducible refine Wp.maxI ?_ | with_reducible refine Wp.absI ?_ | with_reducible refine Wp.isN ?_ | with_reducible refine Wp.isnN ?_ | with_reducible refine Wp.if_ ?_)
set_option hygiene false in
local macro_rules | `(tactic| walk_at "w") => `(tactic| repeat (walk_at "s"))
/-! ### points that are sent -/
structure Vp (N : Nat) (p : Pq) : Prop where
  lo : 0 ≤ p.1
  hi : p.1 ≤ 2 ^ p.2
  dp : p.2 ≤ N
  lw : low p.1 p.2 = p
def sd (p : Pq) : Bool := decide (0 < p.1)
open Classical in
noncomputable def snt (f : Tr × Tr) (p : Pq) : Pq := if h : ∃ r, Act (sd p) (pa f.1 f.2) p r then (Classical.choose h).1 else (0, 0)
section
variable {h0 h : Hb} {L : List (Nat × List D)} {K : D → Hb → Prop}
theorem natAbs_le {n : Int} {k : Nat} (h1 : 0 ≤ n) (h2 : n < 2 ^ k) : n.natAbs < 2 ^ k := by
  have : ((n.natAbs : Nat) : Int) < ((2 ^ k : Nat) : Int) := by rw [Int.natCast_pow]; show _ < (2 : Int) ^ k; omega
  exact Int.ofNat_lt.mp this
/-- what may be shifted -/
def Sh (p : Pq) : Prop := (∃ k, k ≤ 900000 ∧ p.1.natAbs < 2 ^ k) ∧ p.2 ≤ 100000
theorem Sh.ok {p : Pq} (s : Sh p) {d : Nat} (hd : d ≤ 100000) : shlOk p.1 ((d : Nat) : Int) := by
  obtain ⟨⟨k, h1, h2⟩, _⟩ := s
  exact shlOk_of (k := k) (by omega) (by omega) h2 (by omega)
theorem Sh.of {n : Int} {d k : Nat} (h1 : 0 ≤ n) (h2 : n < 2 ^ k) (hk : k ≤ 900000) (hd : d ≤ 100000) : Sh (n, d) := ⟨⟨k, hk, natAbs_le h1 h2⟩, hd⟩
theorem Vp.sh {N : Nat} {p : Pq} (v : Vp N p) (hN : N ≤ 100000) : Sh p := by
  have h1 := v.lo
  have h2 := v.hi
  have h3 := v.dp
  have h5 := two_pos p.2
  exact ⟨⟨p.2 + 1, by omega, natAbs_le h1 (by rw [Int.pow_succ]; omega)⟩, by omega⟩
end
end C

set_option Elab.async false
set_option linter.all false
set_option maxRecDepth 100000
set_option maxHeartbeats 4000000
namespace Hv
open PySem L2
section
variable {h0 h : Hb} {L : List (Nat × List D)} {K : D → Hb → Prop}
theorem Wp.slR {l u : Option Int} {xs : List D} (S : St h0 L h) (k : ∀ r h', St h0 ((r, cutD xs l u) :: L) h' → K (.lst r) h') : Wp (oSlL (.rol xs) l u h) K := ⟨_, _, rfl, k _ _ (S.new _)⟩
end
end Hv
namespace C
open PySem L2 Hv
local macro_rules | `(tactic| walk_at "sl") => `(tactic| repeat (first | exact List.nil_sublist _ | (with_reducible exact List.Sublist.refl _) | (with_reducible refine List.Sublist.cons₂ _ ?_) | (refine List.Sublist.cons _ ?_)))
set_option hygiene false in
local macro_rules | `(tactic| walk_at "rd") => `(tactic| first | exact S.get (i := 0) rfl | exact S.get (i := 1) rfl | exact S.get (i := 2) rfl | exact S.get (i := 3) rfl | exact S.get (i := 4) rfl | exact S.get (i := 5) rfl | assumption | exact S.old (by assumption))
set_option hygiene false in
local macro_rules | `(tactic| walk_at "s") => `(tactic| first
  | with_reducible refine Wp.seq ?_ | with_reducible refine sqK.nx ?_ | with_reducible refine sqK.rt ?_ | with_reducible refine Wp.asg ?_
  | ((with_reducible apply Wp.var); exact rfl) | with_reducible refine Wp.con ?_ | with_reducible refine Wp.bin ?_ | with_reducible refine Wp.call ?_ | with_reducible refine Wp.acons ?_ | with_reducible refine Wp.anil ?_
  | ((with_reducible refine Wp.gNm ?_); try dsimp only [List.set_cons_zero, List.set_cons_succ]) | with_reducible refine Wp.gTp ?_ | with_reducible refine Wp.gsC ?_ | with_reducible refine Wp.gsN ?_ | with_reducible refine Wp.gIx ?_ | with_reducible refine Wp.gSl ?_
  | with_reducible refine Wp.sif ?_ | with_reducible refine Wp.tCm ?_ | with_reducible refine exB ?_ | with_reducible refine brT ?_ | with_reducible refine brF ?_ | with_reducible refine brNT ?_ | with_reducible refine brNF ?_ | with_reducible refine Wp.tT ?_ | with_reducible refine truB ?_ | with_reducible refine truI ?_ | with_reducible refine truT ?_ | with_reducible refine truN ?_
  | ((with_reducible apply truL); walk_at "rd") | with_reducible refine Wp.tNt ?_ | with_reducible refine Wp.tAn ?_ | with_reducible refine Wp.tOr ?_ | with_reducible refine Wp.tYs ?_
  | with_reducible refine Wp.sret ?_ | with_reducible refine Wp.ex ?_ | with_reducible refine Wp.nx ?_ | with_reducible refine Wp.sbk ?_ | with_reducible refine Wp.sct ?_ | (with_reducible refine Wp.aug ?_) | (with_reducible refine Wp.par ?_) | with_reducible refine parK ?_
  | (with_reducible refine Wp.tup ?_) | ((with_reducible refine tupK ?_ ?_); exact Nat.le_of_ble_eq_true rfl) | with_reducible refine Wp.lst ?_ | with_reducible refine Wp.m ?_ | with_reducible refine Wp.mlst ?_ | with_reducible refine Wp.andT ?_ | with_reducible refine Wp.orT ?_ | with_reducible refine Wp.if_ ?_
  | with_reducible refine Wp.un ?_ | with_reducible refine negK ?_ | with_reducible refine notK ?_
  | with_reducible refine jnK.nx ?_ | with_reducible refine jnK.rt ?_ | with_reducible refine fnK.rt ?_ | with_reducible refine fnK.nx ?_ | with_reducible refine lpK.nx ?_ | with_reducible refine lpK.ct ?_ | with_reducible refine lpK.bk ?_ | with_reducible refine lpK.rt ?_
  | with_reducible refine Wp.addI ?_ | with_reducible refine Wp.subI ?_ | with_reducible refine Wp.iaddI ?_ | with_reducible refine Wp.andI ?_ | ((with_reducible refine Wp.mulI ?_ ?_); first | exact .inl (by decide) | exact .inr (by decide)) | ((with_reducible refine Wp.modI ?_ ?_); exact (by decide)) | ((with_reducible refine Wp.divI ?_ ?_); exact (by decide))
  | with_reducible refine Wp.ltI ?_ | with_reducible refine Wp.leI ?_ | with_reducible refine Wp.gtI ?_ | with_reducible refine Wp.geI ?_ | with_reducible refine Wp.eqI ?_ | with_reducible refine Wp.neI ?_
  | with_reducible refine Wp.ixT0 ?_ | with_reducible refine Wp.ixT1 ?_ | ((with_reducible apply Wp.lenL); walk_at "rd") | with_reducible refine Wp.lenT ?_ | with_reducible refine Wp.lenR ?_
  | with_reducible refine Wp.isiT ?_ | with_reducible refine Wp.isiL ?_ | with_reducible refine Wp.isiI ?_ | with_reducible refine Wp.isiB ?_ | with_reducible refine Wp.isiS ?_ | with_reducible refine Wp.lz ?_ | with_reducible refine Wp.sfor ?_ | with_reducible refine Wp.iAny ?_ | ((with_reducible apply Wp.anyL); walk_at "rd"; try dsimp only [wipeE, List.set_cons_zero, List.set_cons_succ]) | ((with_reducible refine Wp.anyT ?_); try dsimp only [wipeE, List.set_cons_zero, List.set_cons_succ]) | ((with_reducible refine Wp.anyR ?_); try dsimp only [wipeE, List.set_cons_zero, List.set_cons_succ]) | ((with_reducible refine Wp.anyX ?_); try dsimp only [wipeE, List.set_cons_zero, List.set_cons_succ]) | with_reducible refine Wp.lc ?_
  | ((with_reducible apply Wp.tupL); walk_at "rd") | with_reducible refine Wp.tupT ?_ | with_reducible refine Wp.sl ?_ | with_reducible refine Wp.oNo ?_ | with_reducible refine Wp.oSo ?_ | with_reducible refine soK ?_ | with_reducible refine Wp.rg1 ?_ | with_reducible refine Wp.rg2 ?_ | with_reducible refine Wp.zip ?_ | with_reducible refine Wp.enum ?_ | with_reducible refine Wp.rev ?_
  | with_reducible refine Wp.kx ?_ | with_reducible refine Wp.kp ?_ | with_reducible refine Wp.dsp ?_ | with_reducible refine Wp.anC ?_ | with_reducible refine Wp.anN ?_ | with_reducible refine Wp.chain ?_ | with_reducible refine Wp.tch ?_ | with_reducible refine Wp.maxI ?_ | with_reducible refine Wp.absI ?_ | with_reducible refine Wp.isN ?_ | with_reducible refine Wp.isnN ?_ | with_reducible refine Wp.if_ ?_)
set_option hygiene false in
local macro_rules | `(tactic| walk_at "w") => `(tactic| repeat (walk_at "s"))
/-! ### the deal of a law: what is drawn of a script -/
def dk : List Key := [.inr "seed", .inr "number", .inr "left"]
theorem dk0 : posK dk (.inr "seed") = some 0 := by decide
theorem dk1 : posK dk (.inr "number") = some 1 := by decide
theorem dk2 : posK dk (.inr "left") = some 2 := by decide
theorem dk_ok : dk.Nodup ∧ dk.length < 1000 := by decide
structure Dq where
  m : Nat
  seed : Int
  number : Int
  left : List Int
def DC (n : Nat) (q : Dq) : List (Nat × List D) := [(n, [.int q.seed, .int q.number, .lst q.m]), (q.m, q.left.map D.int)]
structure DOk (q : Dq) : Prop where
  s0 : 0 ≤ q.seed
  s1 : q.seed < 2147483648
  n0 : 0 ≤ q.number
  l0 : ∀ x ∈ q.left, 0 ≤ x
def SD (h0 : Hb) (n : Nat) (F : List (Nat × List D)) (h : Hb) : Prop := ∃ q, DOk q ∧ St h0 (F ++ DC n q) h
theorem cut_all {xs : List Int} : ∃ ys : List Int, cutD (xs.map D.int) (some ((b : Nat) : Int)) (some 63) = ys.map D.int ∧ ys.length ≤ 63 := by
  unfold cutD
  refine ⟨(xs.drop (HT.sIx (xs.map D.int).length 0 (some ((b : Nat) : Int)))).take (HT.sIx (xs.map D.int).length (xs.map D.int).length (some 63) - HT.sIx (xs.map D.int).length 0 (some ((b : Nat) : Int))), by rw [List.map_take, List.map_drop], ?_⟩
  rw [List.length_take]
  have := sIx_nat (xs.map D.int).length (xs.map D.int).length 63
  rw [show (some (((63 : Nat) : Nat) : Int)) = some (63 : Int) from rfl] at this
  rw [this]
  omega
section
variable {h0 h : Hb} {L F : List (Nat × List D)} {K : D → Hb → Prop}
theorem SD.of {n : Nat} {q : Dq} (o : DOk q) (S : St h0 (DC n q ++ F) h) : SD h0 n F h := ⟨q, o, S.perm List.perm_append_comm⟩
end
end C

set_option Elab.async false
set_option linter.all false
set_option maxRecDepth 100000
set_option maxHeartbeats 4000000
namespace C
open PySem L2 Hv
local macro_rules | `(tactic| walk_at "sl") => `(tactic| repeat (first | exact List.nil_sublist _ | (with_reducible exact List.Sublist.refl _) | (with_reducible refine List.Sublist.cons₂ _ ?_) | (refine List.Sublist.cons _ ?_)))
set_option hygiene false in
local macro_rules | `(tactic| walk_at "rd") => `(tactic| first | exact S.get (i := 0) rfl | exact S.get (i := 1) rfl | exact S.get (i := 2) rfl | exact S.get (i := 3) rfl | exact S.get (i := 4) rfl | exact S.get (i := 5) rfl | assumption | exact S.old (by assumption))
set_option hygiene false in
local macro_rules | `(tactic| walk_at "s") => `(tactic| first
  | with_reducible refine Wp.seq ?_ | with_reducible refine sqK.nx ?_ | with_reducible refine sqK.rt ?_ | with_reducible refine Wp.asg ?_
  | ((with_reducible apply Wp.var); exact rfl) | with_reducible refine Wp.con ?_ | with_reducible refine Wp.bin ?_ | with_reducible refine Wp.call ?_ | with_reducible refine Wp.acons ?_ | with_reducible refine Wp.anil ?_
  | ((with_reducible refine Wp.gNm ?_); try dsimp only [List.set_cons_zero, List.set_cons_succ]) | with_reducible refine Wp.gTp ?_ | with_reducible refine Wp.gsC ?_ | with_reducible refine Wp.gsN ?_ | with_reducible refine Wp.gIx ?_ | with_reducible refine Wp.gSl ?_
  | with_reducible refine Wp.sif ?_ | with_reducible refine Wp.tCm ?_ | with_reducible refine exB ?_ | with_reducible refine brT ?_ | with_reducible refine brF ?_ | with_reducible refine brNT ?_ | with_reducible refine brNF ?_ | with_reducible refine Wp.tT ?_ | with_reducible refine truB ?_ | with_reducible refine truI ?_ | with_reducible refine truT ?_ | with_reducible refine truN ?_
  | ((with_reducible apply truL); walk_at "rd") | with_reducible refine Wp.tNt ?_ | with_reducible refine Wp.tAn ?_ | with_reducible refine Wp.tOr ?_ | with_reducible refine Wp.tYs ?_
  | with_reducible refine Wp.sret ?_ | with_reducible refine Wp.ex ?_ | with_reducible refine Wp.nx ?_ | with_reducible refine Wp.sbk ?_ | with_reducible refine Wp.sct ?_ | (with_reducible refine Wp.aug ?_) | (with_reducible refine Wp.par ?_) | with_reducible refine parK ?_
  | (with_reducible refine Wp.tup ?_) | ((with_reducible refine tupK ?_ ?_); exact Nat.le_of_ble_eq_true rfl) | with_reducible refine Wp.lst ?_ | with_reducible refine Wp.m ?_ | with_reducible refine Wp.mlst ?_ | with_reducible refine Wp.andT ?_ | with_reducible refine Wp.orT ?_ | with_reducible refine Wp.if_ ?_
  | with_reducible refine Wp.un ?_ | with_reducible refine negK ?_ | with_reducible refine notK ?_
  | with_reducible refine jnK.nx ?_ | with_reducible refine jnK.rt ?_ | with_reducible refine fnK.rt ?_ | with_reducible refine fnK.nx ?_ | with_reducible refine lpK.nx ?_ | with_reducible refine lpK.ct ?_ | with_reducible refine lpK.bk ?_ | with_reducible refine lpK.rt ?_
  | with_reducible refine Wp.addI ?_ | with_reducible refine Wp.subI ?_ | with_reducible refine Wp.iaddI ?_ | with_reducible refine Wp.andI ?_ | ((with_reducible refine Wp.mulI ?_ ?_); first | exact .inl (by decide) | exact .inr (by decide)) | ((with_reducible refine Wp.modI ?_ ?_); exact (by decide)) | ((with_reducible refine Wp.divI ?_ ?_); exact (by decide))
  | with_reducible refine Wp.ltI ?_ | with_reducible refine Wp.leI ?_ | with_reducible refine Wp.gtI ?_ | with_reducible refine Wp.geI ?_ | with_reducible refine Wp.eqI ?_ | with_reducible refine Wp.neI ?_
  | with_reducible refine Wp.ixT0 ?_ | with_reducible refine Wp.ixT1 ?_ | ((with_reducible apply Wp.lenL); walk_at "rd") | with_reducible refine Wp.lenT ?_ | with_reducible refine Wp.lenR ?_
  | with_reducible refine Wp.isiT ?_ | with_reducible refine Wp.isiL ?_ | with_reducible refine Wp.isiI ?_ | with_reducible refine Wp.isiB ?_ | with_reducible refine Wp.isiS ?_ | with_reducible refine Wp.lz ?_ | with_reducible refine Wp.sfor ?_ | with_reducible refine Wp.iAny ?_ | ((with_reducible apply Wp.anyL); walk_at "rd"; try dsimp only [wipeE, List.set_cons_zero, List.set_cons_succ]) | ((with_reducible refine Wp.anyT ?_); try dsimp only [wipeE, List.set_cons_zero, List.set_cons_succ]) | ((with_reducible refine Wp.anyR ?_); try dsimp only [wipeE, List.set_cons_zero, List.set_cons_succ]) | ((with_reducible refine Wp.anyX ?_); try dsimp only [wipeE, List.set_cons_zero, List.set_cons_succ]) | with_reducible refine Wp.lc ?_
  | ((with_reducible apply Wp.tupL); walk_at "rd") | with_reducible refine Wp.tupT ?_ | with_reducible refine Wp.sl ?_ | with_reducible refine Wp.oNo ?_ | with_reducible refine Wp.oSo ?_ | with_reducible refine soK ?_ | with_reducible refine Wp.rg1 ?_ | with_reducible refine Wp.rg2 ?_ | with_reducible refine Wp.zip ?_ | with_reducible refine Wp.enum ?_ | with_reducible refine Wp.rev ?_
  | with_reducible refine Wp.kx ?_ | with_reducible refine Wp.kp ?_ | with_reducible refine Wp.dsp ?_ | with_reducible refine Wp.anC ?_ | with_reducible refine Wp.anN ?_ | with_reducible refine Wp.chain ?_ | with_reducible refine Wp.tch ?_ | with_reducible refine Wp.maxI ?_ | with_reducible refine Wp.absI ?_ | with_reducible refine Wp.isN ?_ | with_reducible refine Wp.isnN ?_ | with_reducible refine Wp.if_ ?_)
set_option hygiene false in
local macro_rules | `(tactic| walk_at "w") => `(tactic| repeat (walk_at "s"))
section
variable {h0 h : Hb} {L F : List (Nat × List D)} {K : D → Hb → Prop} {n : Nat}
theorem SD.less (S : SD h0 n F h) : SD h0 n [] h := by
  obtain ⟨q, ok, S⟩ := S
  exact ⟨q, ok, S.sub (List.sublist_append_right _ _)⟩
/-! ### trees of as many leaves as asked -/
/-! ### the law's own stretches, leaves, points -/
end
end C

set_option Elab.async false
set_option linter.all false
set_option maxRecDepth 100000
set_option maxHeartbeats 4000000
namespace C
open PySem L2 Hv
local macro_rules | `(tactic| walk_at "sl") => `(tactic| repeat (first | exact List.nil_sublist _ | (with_reducible exact List.Sublist.refl _) | (with_reducible refine List.Sublist.cons₂ _ ?_) | (refine List.Sublist.cons _ ?_)))
set_option hygiene false in
local macro_rules | `(tactic| walk_at "rd") => `(tactic| first | exact S.get (i := 0) rfl | exact S.get (i := 1) rfl | exact S.get (i := 2) rfl | exact S.get (i := 3) rfl | exact S.get (i := 4) rfl | exact S.get (i := 5) rfl | assumption | exact S.old (by assumption))
set_option hygiene false in
local macro_rules | `(tactic| walk_at "s") => `(tactic| first
  | with_reducible refine Wp.seq ?_ | with_reducible refine sqK.nx ?_ | with_reducible refine sqK.rt ?_ | with_reducible refine Wp.asg ?_
  | ((with_reducible apply Wp.var); exact rfl) | with_reducible refine Wp.con ?_ | with_reducible refine Wp.bin ?_ | with_reducible refine Wp.call ?_ | with_reducible refine Wp.acons ?_ | with_reducible refine Wp.anil ?_
  | ((with_reducible refine Wp.gNm ?_); try dsimp only [List.set_cons_zero, List.set_cons_succ]) | with_reducible refine Wp.gTp ?_ | with_reducible refine Wp.gsC ?_ | with_reducible refine Wp.gsN ?_ | with_reducible refine Wp.gIx ?_ | with_reducible refine Wp.gSl ?_
  | with_reducible refine Wp.sif ?_ | with_reducible refine Wp.tCm ?_ | with_reducible refine exB ?_ | with_reducible refine brT ?_ | with_reducible refine brF ?_ | with_reducible refine brNT ?_ | with_reducible refine brNF ?_ | with_reducible refine Wp.tT ?_ | with_reducible refine truB ?_ | with_reducible refine truI ?_ | with_reducible refine truT ?_ | with_reducible refine truN ?_
  | ((with_reducible apply truL); walk_at "rd") | with_reducible refine Wp.tNt ?_ | with_reducible refine Wp.tAn ?_ | with_reducible refine Wp.tOr ?_ | with_reducible refine Wp.tYs ?_
  | with_reducible refine Wp.sret ?_ | with_reducible refine Wp.ex ?_ | with_reducible refine Wp.nx ?_ | with_reducible refine Wp.sbk ?_ | with_reducible refine Wp.sct ?_ | (with_reducible refine Wp.aug ?_) | (with_reducible refine Wp.par ?_) | with_reducible refine parK ?_
  | (with_reducible refine Wp.tup ?_) | ((with_reducible refine tupK ?_ ?_); exact Nat.le_of_ble_eq_true rfl) | with_reducible refine Wp.lst ?_ | with_reducible refine Wp.m ?_ | with_reducible refine Wp.mlst ?_ | with_reducible refine Wp.andT ?_ | with_reducible refine Wp.orT ?_ | with_reducible refine Wp.if_ ?_
  | with_reducible refine Wp.un ?_ | with_reducible refine negK ?_ | with_reducible refine notK ?_
  | with_reducible refine jnK.nx ?_ | with_reducible refine jnK.rt ?_ | with_reducible refine fnK.rt ?_ | with_reducible refine fnK.nx ?_ | with_reducible refine lpK.nx ?_ | with_reducible refine lpK.ct ?_ | with_reducible refine lpK.bk ?_ | with_reducible refine lpK.rt ?_
  | with_reducible refine Wp.addI ?_ | with_reducible refine Wp.subI ?_ | with_reducible refine Wp.iaddI ?_ | with_reducible refine Wp.andI ?_ | ((with_reducible refine Wp.mulI ?_ ?_); first | exact .inl (by decide) | exact .inr (by decide)) | ((with_reducible refine Wp.modI ?_ ?_); exact (by decide)) | ((with_reducible refine Wp.divI ?_ ?_); exact (by decide))
  | with_reducible refine Wp.ltI ?_ | with_reducible refine Wp.leI ?_ | with_reducible refine Wp.gtI ?_ | with_reducible refine Wp.geI ?_ | with_reducible refine Wp.eqI ?_ | with_reducible refine Wp.neI ?_
  | with_reducible refine Wp.ixT0 ?_ | with_reducible refine Wp.ixT1 ?_ | ((with_reducible apply Wp.lenL); walk_at "rd") | with_reducible refine Wp.lenT ?_ | with_reducible refine Wp.lenR ?_
  | with_reducible refine Wp.isiT ?_ | with_reducible refine Wp.isiL ?_ | with_reducible refine Wp.isiI ?_ | with_reducible refine Wp.isiB ?_ | with_reducible refine Wp.isiS ?_ | with_reducible refine Wp.lz ?_ | with_reducible refine Wp.sfor ?_ | with_reducible refine Wp.iAny ?_ | ((with_reducible apply Wp.anyL); walk_at "rd"; try dsimp only [wipeE, List.set_cons_zero, List.set_cons_succ]) | ((with_reducible refine Wp.anyT ?_); try dsimp only [wipeE, List.set_cons_zero, List.set_cons_succ]) | ((with_reducible refine Wp.anyR ?_); try dsimp only [wipeE, List.set_cons_zero, List.set_cons_succ]) | ((with_reducible refine Wp.anyX ?_); try dsimp only [wipeE, List.set_cons_zero, List.set_cons_succ]) | with_reducible refine Wp.lc ?_
  | ((with_reducible apply Wp.tupL); walk_at "rd") | with_reducible refine Wp.tupT ?_ | with_reducible refine Wp.sl ?_ | with_reducible refine Wp.oNo ?_ | with_reducible refine Wp.oSo ?_ | with_reducible refine soK ?_ | with_reducible refine Wp.rg1 ?_ | with_reducible refine Wp.rg2 ?_ | with_reducible refine Wp.zip ?_ | with_reducible refine Wp.enum ?_ | with_reducible refine Wp.rev ?_
  | with_reducible refine Wp.kx ?_ | with_reducible refine Wp.kp ?_ | with_reducible refine Wp.dsp ?_ | with_reducible refine Wp.anC ?_ | with_reducible refine Wp.anN ?_ | with_reducible refine Wp.chain ?_ | with_reducible refine Wp.tch ?_ | with_reducible refine Wp.maxI ?_ | with_reducible refine Wp.absI ?_ | with_reducible refine Wp.isN ?_ | with_reducible refine Wp.isnN ?_ | with_reducible refine Wp.if_ ?_)
set_option hygiene false in
local macro_rules | `(tactic| walk_at "w") => `(tactic| repeat (walk_at "s"))
section
variable {h0 h : Hb} {L F : List (Nat × List D)} {K : D → Hb → Prop} {n : Nat}
theorem datL {m c : Nat} {ds : List D} {ps : List PyData} (e0 : h[c]? = some ds) (e : mapO (datF h m) ds = some ps) : datF h (m + 1) (.lst c) = some (.list ps) := by rw [datF]; simp only [e0]; rw [e]; rfl
end
end C

set_option Elab.async false
set_option linter.all false
set_option maxRecDepth 100000
set_option maxHeartbeats 4000000
namespace C
open PySem L2 Hv
local macro_rules | `(tactic| walk_at "sl") => `(tactic| repeat (first | exact List.nil_sublist _ | (with_reducible exact List.Sublist.refl _) | (with_reducible refine List.Sublist.cons₂ _ ?_) | (refine List.Sublist.cons _ ?_)))
set_option hygiene false in
local macro_rules | `(tactic| walk_at "rd") => `(tactic| first | exact S.get (i := 0) rfl | exact S.get (i := 1) rfl | exact S.get (i := 2) rfl | exact S.get (i := 3) rfl | exact S.get (i := 4) rfl | exact S.get (i := 5) rfl | assumption | exact S.old (by assumption))
set_option hygiene false in
local macro_rules | `(tactic| walk_at "s") => `(tactic| first
  | with_reducible refine Wp.seq ?_ | with_reducible refine sqK.nx ?_ | with_reducible refine sqK.rt ?_ | with_reducible refine Wp.asg ?_
  | ((with_reducible apply Wp.var); exact rfl) | with_reducible refine Wp.con ?_ | with_reducible refine Wp.bin ?_ | with_reducible refine Wp.call ?_ | with_reducible refine Wp.acons ?_ | with_reducible refine Wp.anil ?_
  | ((with_reducible refine Wp.gNm ?_); try dsimp only [List.set_cons_zero, List.set_cons_succ]) | with_reducible refine Wp.gTp ?_ | with_reducible refine Wp.gsC ?_ | with_reducible refine Wp.gsN ?_ | with_reducible refine Wp.gIx ?_ | with_reducible refine Wp.gSl ?_
  | with_reducible refine Wp.sif ?_ | with_reducible refine Wp.tCm ?_ | with_reducible refine exB ?_ | with_reducible refine brT ?_ | with_reducible refine brF ?_ | with_reducible refine brNT ?_ | with_reducible refine brNF ?_ | with_reducible refine Wp.tT ?_ | with_reducible refine truB ?_ | with_reducible refine truI ?_ | with_reducible refine truT ?_ | with_reducible refine truN ?_
  | ((with_reducible apply truL); walk_at "rd") | with_reducible refine Wp.tNt ?_ | with_reducible refine Wp.tAn ?_ | with_reducible refine Wp.tOr ?_ | with_reducible refine Wp.tYs ?_
  | with_reducible refine Wp.sret ?_ | with_reducible refine Wp.ex ?_ | with_reducible refine Wp.nx ?_ | with_reducible refine Wp.sbk ?_ | with_reducible refine Wp.sct ?_ | (with_reducible refine Wp.aug ?_) | (with_reducible refine Wp.par ?_) | with_reducible refine parK ?_
  | (with_reducible refine Wp.tup ?_) | ((with_reducible refine tupK ?_ ?_); exact Nat.le_of_ble_eq_true rfl) | with_reducible refine Wp.lst ?_ | with_reducible refine Wp.m ?_ | with_reducible refine Wp.mlst ?_ | with_reducible refine Wp.andT ?_ | with_reducible refine Wp.orT ?_ | with_reducible refine Wp.if_ ?_
  | with_reducible refine Wp.un ?_ | with_reducible refine negK ?_ | with_reducible refine notK ?_
  | with_reducible refine jnK.nx ?_ | with_reducible refine jnK.rt ?_ | with_reducible refine fnK.rt ?_ | with_reducible refine fnK.nx ?_ | with_reducible refine lpK.nx ?_ | with_reducible refine lpK.ct ?_ | with_reducible refine lpK.bk ?_ | with_reducible refine lpK.rt ?_
  | with_reducible refine Wp.addI ?_ | with_reducible refine Wp.subI ?_ | with_reducible refine Wp.iaddI ?_ | with_reducible refine Wp.andI ?_ | ((with_reducible refine Wp.mulI ?_ ?_); first | exact .inl (by decide) | exact .inr (by decide)) | ((with_reducible refine Wp.modI ?_ ?_); exact (by decide)) | ((with_reducible refine Wp.divI ?_ ?_); exact (by decide))
  | with_reducible refine Wp.ltI ?_ | with_reducible refine Wp.leI ?_ | with_reducible refine Wp.gtI ?_ | with_reducible refine Wp.geI ?_ | with_reducible refine Wp.eqI ?_ | with_reducible refine Wp.neI ?_
  | with_reducible refine Wp.ixT0 ?_ | with_reducible refine Wp.ixT1 ?_ | ((with_reducible apply Wp.lenL); walk_at "rd") | with_reducible refine Wp.lenT ?_ | with_reducible refine Wp.lenR ?_
  | with_reducible refine Wp.isiT ?_ | with_reducible refine Wp.isiL ?_ | with_reducible refine Wp.isiI ?_ | with_reducible refine Wp.isiB ?_ | with_reducible refine Wp.isiS ?_ | with_reducible refine Wp.lz ?_ | with_reducible refine Wp.sfor ?_ | with_reducible refine Wp.iAny ?_ | ((with_reducible apply Wp.anyL); walk_at "rd"; try dsimp only [wipeE, List.set_cons_zero, List.set_cons_succ]) | ((with_reducible refine Wp.anyT ?_); try dsimp only [wipeE, List.set_cons_zero, List.set_cons_succ]) | ((with_reducible refine Wp.anyR ?_); try dsimp only [wipeE, List.set_cons_zero, List.set_cons_succ]) | ((with_reducible refine Wp.anyX ?_); try dsimp only [wipeE, List.set_cons_zero, List.set_cons_succ]) | with_reducible refine Wp.lc ?_
  | ((with_reducible apply Wp.tupL); walk_at "rd") | with_reducible refine Wp.tupT ?_ | with_reducible refine Wp.sl ?_ | with_reducible refine Wp.oNo ?_ | with_reducible refine Wp.oSo ?_ | with_reducible refine soK ?_ | with_reducible refine Wp.rg1 ?_ | with_reducible refine Wp.rg2 ?_ | with_reducible refine Wp.zip ?_ | with_reducible refine Wp.enum ?_ | with_reducible refine Wp.rev ?_
  | with_reducible refine Wp.kx ?_ | with_reducible refine Wp.kp ?_ | with_reducible refine Wp.dsp ?_ | with_reducible refine Wp.anC ?_ | with_reducible refine Wp.anN ?_ | with_reducible refine Wp.chain ?_ | with_reducible refine Wp.tch ?_ | with_reducible refine Wp.maxI ?_ | with_reducible refine Wp.absI ?_ | with_reducible refine Wp.isN ?_ | with_reducible refine Wp.isnN ?_ | with_reducible refine Wp.if_ ?_)
set_option hygiene false in
local macro_rules | `(tactic| walk_at "w") => `(tactic| repeat (walk_at "s"))
theorem v1 : Vp 0 (1, 0) := ⟨by decide, by decide, by decide, rfl⟩
section
variable {h0 h : Hb} {L F : List (Nat × List D)} {K : D → Hb → Prop} {n : Nat}
end
end C

set_option Elab.async false
set_option linter.all false
set_option maxRecDepth 100000
set_option maxHeartbeats 4000000
namespace C
open PySem L2 Hv
local macro_rules | `(tactic| walk_at "sl") => `(tactic| repeat (first | exact List.nil_sublist _ | (with_reducible exact List.Sublist.refl _) | (with_reducible refine List.Sublist.cons₂ _ ?_) | (refine List.Sublist.cons _ ?_)))
set_option hygiene false in
local macro_rules | `(tactic| walk_at "rd") => `(tactic| first | exact S.get (i := 0) rfl | exact S.get (i := 1) rfl | exact S.get (i := 2) rfl | exact S.get (i := 3) rfl | exact S.get (i := 4) rfl | exact S.get (i := 5) rfl | assumption | exact S.old (by assumption))
set_option hygiene false in
local macro_rules | `(tactic| walk_at "s") => `(tactic| first
  | with_reducible refine Wp.seq ?_ | with_reducible refine sqK.nx ?_ | with_reducible refine sqK.rt ?_ | with_reducible refine Wp.asg ?_
  | ((with_reducible apply Wp.var); exact rfl) | with_reducible refine Wp.con ?_ | with_reducible refine Wp.bin ?_ | with_reducible refine Wp.call ?_ | with_reducible refine Wp.acons ?_ | with_reducible refine Wp.anil ?_
  | ((with_reducible refine Wp.gNm ?_); try dsimp only [List.set_cons_zero, List.set_cons_succ]) | with_reducible refine Wp.gTp ?_ | with_reducible refine Wp.gsC ?_ | with_reducible refine Wp.gsN ?_ | with_reducible refine Wp.gIx ?_ | with_reducible refine Wp.gSl ?_
  | with_reducible refine Wp.sif ?_ | with_reducible refine Wp.tCm ?_ | with_reducible refine exB ?_ | with_reducible refine brT ?_ | with_reducible refine brF ?_ | with_reducible refine brNT ?_ | with_reducible refine brNF ?_ | with_reducible refine Wp.tT ?_ | with_reducible refine truB ?_ | with_reducible refine truI ?_ | with_reducible refine truT ?_ | with_reducible refine truN ?_
  | ((with_reducible apply truL); walk_at "rd") | with_reducible refine Wp.tNt ?_ | with_reducible refine Wp.tAn ?_ | with_reducible refine Wp.tOr ?_ | with_reducible refine Wp.tYs ?_
  | with_reducible refine Wp.sret ?_ | with_reducible refine Wp.ex ?_ | with_reducible refine Wp.nx ?_ | with_reducible refine Wp.sbk ?_ | with_reducible refine Wp.sct ?_ | (with_reducible refine Wp.aug ?_) | (with_reducible refine Wp.par ?_) | with_reducible refine parK ?_
  | (with_reducible refine Wp.tup ?_) | ((with_reducible refine tupK ?_ ?_); exact Nat.le_of_ble_eq_true rfl) | with_reducible refine Wp.lst ?_ | with_reducible refine Wp.m ?_ | with_reducible refine Wp.mlst ?_ | with_reducible refine Wp.andT ?_ | with_reducible refine Wp.orT ?_ | with_reducible refine Wp.if_ ?_
  | with_reducible refine Wp.un ?_ | with_reducible refine negK ?_ | with_reducible refine notK ?_
  | with_reducible refine jnK.nx ?_ | with_reducible refine jnK.rt ?_ | with_reducible refine fnK.rt ?_ | with_reducible refine fnK.nx ?_ | with_reducible refine lpK.nx ?_ | with_reducible refine lpK.ct ?_ | with_reducible refine lpK.bk ?_ | with_reducible refine lpK.rt ?_
  | with_reducible refine Wp.addI ?_ | with_reducible refine Wp.subI ?_ | with_reducible refine Wp.iaddI ?_ | with_reducible refine Wp.andI ?_ | ((with_reducible refine Wp.mulI ?_ ?_); first | exact .inl (by decide) | exact .inr (by decide)) | ((with_reducible refine Wp.modI ?_ ?_); exact (by decide)) | ((with_reducible refine Wp.divI ?_ ?_); exact (by decide))
  | with_reducible refine Wp.ltI ?_ | with_reducible refine Wp.leI ?_ | with_reducible refine Wp.gtI ?_ | with_reducible refine Wp.geI ?_ | with_reducible refine Wp.eqI ?_ | with_reducible refine Wp.neI ?_
  | with_reducible refine Wp.ixT0 ?_ | with_reducible refine Wp.ixT1 ?_ | ((with_reducible apply Wp.lenL); walk_at "rd") | with_reducible refine Wp.lenT ?_ | with_reducible refine Wp.lenR ?_
  | with_reducible refine Wp.isiT ?_ | with_reducible refine Wp.isiL ?_ | with_reducible refine Wp.isiI ?_ | with_reducible refine Wp.isiB ?_ | with_reducible refine Wp.isiS ?_ | with_reducible refine Wp.lz ?_ | with_reducible refine Wp.sfor ?_ | with_reducible refine Wp.iAny ?_ | ((with_reducible apply Wp.anyL); walk_at "rd"; try dsimp only [wipeE, List.set_cons_zero, List.set_cons_succ]) | ((with_reducible refine Wp.anyT ?_); try dsimp only [wipeE, List.set_cons_zero, List.set_cons_succ]) | ((with_reducible refine Wp.anyR ?_); try dsimp only [wipeE, List.set_cons_zero, List.set_cons_succ]) | ((with_reducible refine Wp.anyX ?_); try dsimp only [wipeE, List.set_cons_zero, List.set_cons_succ]) | with_reducible refine Wp.lc ?_
  | ((with_reducible apply Wp.tupL); walk_at "rd") | with_reducible refine Wp.tupT ?_ | with_reducible refine Wp.sl ?_ | with_reducible refine Wp.oNo ?_ | with_reducible refine Wp.oSo ?_ | with_reducible refine soK ?_ | with_reducible refine Wp.rg1 ?_ | with_reducible refine Wp.rg2 ?_ | with_reducible refine Wp.zip ?_ | with_reducible refine Wp.enum ?_ | with_reducible refine Wp.rev ?_
  | with_reducible refine Wp.kx ?_ | with_reducible refine Wp.kp ?_ | with_reducible refine Wp.dsp ?_ | with_reducible refine Wp.anC ?_ | with_reducible refine Wp.anN ?_ | with_reducible refine Wp.chain ?_ | with_reducible refine Wp.tch ?_ | with_reducible refine Wp.maxI ?_ | with_reducible refine Wp.absI ?_ | with_reducible refine Wp.isN ?_ | with_reducible refine Wp.isnN ?_ | with_reducible refine Wp.if_ ?_)
set_option hygiene false in
local macro_rules | `(tactic| walk_at "w") => `(tactic| repeat (walk_at "s"))
theorem joinT_lt : ∀ a b : Tr, (joinT a b).lvs + 1 ≤ a.lvs + b.lvs
  | .leaf, b => by simp only [joinT, Tr.lvs]; omega
  | .node l r, .leaf => by simp only [joinT, Tr.lvs]; omega
  | .node l r, .node a b => by
    have := joinT_lt l a
    have := joinT_lt r b
    simp only [joinT, Tr.lvs]; omega
/-! ### needless places -/
section
variable {h0 h : Hb} {L F : List (Nat × List D)} {K : D → Hb → Prop} {n : Nat}
end
end C

set_option Elab.async false
set_option linter.all false
set_option maxRecDepth 100000
set_option maxHeartbeats 4000000
namespace C
open PySem L2 Hv
local macro_rules | `(tactic| walk_at "sl") => `(tactic| repeat (first | exact List.nil_sublist _ | (with_reducible exact List.Sublist.refl _) | (with_reducible refine List.Sublist.cons₂ _ ?_) | (refine List.Sublist.cons _ ?_)))
set_option hygiene false in
local macro_rules | `(tactic| walk_at "rd") => `(tactic| first | exact S.get (i := 0) rfl | exact S.get (i := 1) rfl | exact S.get (i := 2) rfl | exact S.get (i := 3) rfl | exact S.get (i := 4) rfl | exact S.get (i := 5) rfl | assumption | exact S.old (by assumption))
set_option hygiene false in
local macro_rules | `(tactic| walk_at "s") => `(tactic| first
  | with_reducible refine Wp.seq ?_ | with_reducible refine sqK.nx ?_ | with_reducible refine sqK.rt ?_ | with_reducible refine Wp.asg ?_
  | ((with_reducible apply Wp.var); exact rfl) | with_reducible refine Wp.con ?_ | with_reducible refine Wp.bin ?_ | with_reducible refine Wp.call ?_ | with_reducible refine Wp.acons ?_ | with_reducible refine Wp.anil ?_
  | ((with_reducible refine Wp.gNm ?_); try dsimp only [List.set_cons_zero, List.set_cons_succ]) | with_reducible refine Wp.gTp ?_ | with_reducible refine Wp.gsC ?_ | with_reducible refine Wp.gsN ?_ | with_reducible refine Wp.gIx ?_ | with_reducible refine Wp.gSl ?_
  | with_reducible refine Wp.sif ?_ | with_reducible refine Wp.tCm ?_ | with_reducible refine exB ?_ | with_reducible refine brT ?_ | with_reducible refine brF ?_ | with_reducible refine brNT ?_ | with_reducible refine brNF ?_ | with_reducible refine Wp.tT ?_ | with_reducible refine truB ?_ | with_reducible refine truI ?_ | with_reducible refine truT ?_ | with_reducible refine truN ?_
  | ((with_reducible apply truL); walk_at "rd") | with_reducible refine Wp.tNt ?_ | with_reducible refine Wp.tAn ?_ | with_reducible refine Wp.tOr ?_ | with_reducible refine Wp.tYs ?_
  | with_reducible refine Wp.sret ?_ | with_reducible refine Wp.ex ?_ | with_reducible refine Wp.nx ?_ | with_reducible refine Wp.sbk ?_ | with_reducible refine Wp.sct ?_ | (with_reducible refine Wp.aug ?_) | (with_reducible refine Wp.par ?_) | with_reducible refine parK ?_
  | (with_reducible refine Wp.tup ?_) | ((with_reducible refine tupK ?_ ?_); exact Nat.le_of_ble_eq_true rfl) | with_reducible refine Wp.lst ?_ | with_reducible refine Wp.m ?_ | with_reducible refine Wp.mlst ?_ | with_reducible refine Wp.andT ?_ | with_reducible refine Wp.orT ?_ | with_reducible refine Wp.if_ ?_
  | with_reducible refine Wp.un ?_ | with_reducible refine negK ?_ | with_reducible refine notK ?_
  | with_reducible refine jnK.nx ?_ | with_reducible refine jnK.rt ?_ | with_reducible refine fnK.rt ?_ | with_reducible refine fnK.nx ?_ | with_reducible refine lpK.nx ?_ | with_reducible refine lpK.ct ?_ | with_reducible refine lpK.bk ?_ | with_reducible refine lpK.rt ?_
  | with_reducible refine Wp.addI ?_ | with_reducible refine Wp.subI ?_ | with_reducible refine Wp.iaddI ?_ | with_reducible refine Wp.andI ?_ | ((with_reducible refine Wp.mulI ?_ ?_); first | exact .inl (by decide) | exact .inr (by decide)) | ((with_reducible refine Wp.modI ?_ ?_); exact (by decide)) | ((with_reducible refine Wp.divI ?_ ?_); exact (by decide))
  | with_reducible refine Wp.ltI ?_ | with_reducible refine Wp.leI ?_ | with_reducible refine Wp.gtI ?_ | with_reducible refine Wp.geI ?_ | with_reducible refine Wp.eqI ?_ | with_reducible refine Wp.neI ?_
  | with_reducible refine Wp.ixT0 ?_ | with_reducible refine Wp.ixT1 ?_ | ((with_reducible apply Wp.lenL); walk_at "rd") | with_reducible refine Wp.lenT ?_ | with_reducible refine Wp.lenR ?_
  | with_reducible refine Wp.isiT ?_ | with_reducible refine Wp.isiL ?_ | with_reducible refine Wp.isiI ?_ | with_reducible refine Wp.isiB ?_ | with_reducible refine Wp.isiS ?_ | with_reducible refine Wp.lz ?_ | with_reducible refine Wp.sfor ?_ | with_reducible refine Wp.iAny ?_ | ((with_reducible apply Wp.anyL); walk_at "rd"; try dsimp only [wipeE, List.set_cons_zero, List.set_cons_succ]) | ((with_reducible refine Wp.anyT ?_); try dsimp only [wipeE, List.set_cons_zero, List.set_cons_succ]) | ((with_reducible refine Wp.anyR ?_); try dsimp only [wipeE, List.set_cons_zero, List.set_cons_succ]) | ((with_reducible refine Wp.anyX ?_); try dsimp only [wipeE, List.set_cons_zero, List.set_cons_succ]) | with_reducible refine Wp.lc ?_
  | ((with_reducible apply Wp.tupL); walk_at "rd") | with_reducible refine Wp.tupT ?_ | with_reducible refine Wp.sl ?_ | with_reducible refine Wp.oNo ?_ | with_reducible refine Wp.oSo ?_ | with_reducible refine soK ?_ | with_reducible refine Wp.rg1 ?_ | with_reducible refine Wp.rg2 ?_ | with_reducible refine Wp.zip ?_ | with_reducible refine Wp.enum ?_ | with_reducible refine Wp.rev ?_
  | with_reducible refine Wp.kx ?_ | with_reducible refine Wp.kp ?_ | with_reducible refine Wp.dsp ?_ | with_reducible refine Wp.anC ?_ | with_reducible refine Wp.anN ?_ | with_reducible refine Wp.chain ?_ | with_reducible refine Wp.tch ?_ | with_reducible refine Wp.maxI ?_ | with_reducible refine Wp.absI ?_ | with_reducible refine Wp.isN ?_ | with_reducible refine Wp.isnN ?_ | with_reducible refine Wp.if_ ?_)
set_option hygiene false in
local macro_rules | `(tactic| walk_at "w") => `(tactic| repeat (walk_at "s"))
instance (s : Bool) (u : Ad) (p : Pq) : Decidable (In s u p) := by unfold In; infer_instance
section
variable {h0 h : Hb} {L F : List (Nat × List D)} {K : D → Hb → Prop} {KB : Bool → Hb → Prop} {n : Nat}
theorem pD_growth {x : Pa} (k : K (.int (grw x)) h) : Wp (d_growth [pD x] h) K := growth_wp (x := (ap x.1, ap x.2)) k
end
end C

set_option Elab.async false
set_option linter.all false
set_option maxRecDepth 100000
set_option maxHeartbeats 4000000
namespace C
open PySem L2 Hv
/-! ### halves -/
/-! ### points of a half -/
theorem adr_app : ∀ (t : Tr) (c d : Ad), adr t (c ++ d) = (adr t c).map (· ++ d)
  | .leaf, _, _ => rfl
  | .node l r, c, d => by
    simp only [adr, List.map_append]
    rw [← adr_app l (false :: c) d, ← adr_app r (true :: c) d]
    rfl
def bi (b : Bool) : Int := if b then 1 else 0
def hv (b : Bool) (p : Pq) : Pq := low (p.1 + bi b * 2 ^ p.2) (p.2 + 1)
end C

set_option Elab.async false
set_option linter.all false
set_option maxRecDepth 100000
set_option maxHeartbeats 4000000
namespace C
open PySem L2 Hv
/-! ### the joints of a tree, in order: the way to each (the last step first), and its right part -/
def jn : Tr → Ad → List (Ad × Tr)
  | .leaf, _ => []
  | .node l r, c => jn l (false :: c) ++ (c, r) :: jn r (true :: c)
def isN : Tr → Bool
  | .leaf => false
  | .node _ _ => true
/-- on neither side -/
def wi (w : Ad) : Bool := w.contains true && w.contains false
theorem has_iff (b : Bool) (w : Ad) : w.contains b = true ↔ b ∈ w := by simp
/-! ### the kinds -/
def kdR (later : List Bool) : Str := if later.head? = some true then "near" else if later.any id then "far" else "last"
def kd (k : Nat) (w : Ad) (r : Tr) (later : List Bool) : Str :=
  if k = 0 then "first" else if wi w then (if isN r then "full" else "bare") else if num w = 0 then "left" else kdR later
def later (t : Tr) (k : Nat) : List Bool := ((jn t []).drop (k + 1)).map fun x => wi x.1
/-! ### ways as texts -/
def sg (b : Bool) : Nat := if b then 49 else 48
def wayS (w : Ad) : Str := ⟨(w.reverse.map sg).toArray⟩
theorem wayS_cons (b : Bool) (w : Ad) : wayS (b :: w) = wayS w ++ (⟨#[sg b]⟩ : Str) := by
  show _ = Str.append _ _
  simp [wayS, Str.append]
theorem wayS_inj {u v : Ad} (h : wayS u = wayS v) : u = v := by
  have h1 : u.reverse.map sg = v.reverse.map sg := by
    have := congrArg (fun s : Str => s.cps.toList) h
    simpa [wayS] using this
  have inj : ∀ {a b : List Bool}, a.map sg = b.map sg → a = b := by
    intro a
    induction a with
    | nil => intro b h; cases b with
      | nil => rfl
      | cons => simp at h
    | cons x xs ih =>
      intro b h
      cases b with
      | nil => simp at h
      | cons y ys =>
        simp only [List.map_cons, List.cons.injEq] at h
        rw [ih h.2]
        congr 1
        have := h.1
        cases x <;> cases y <;> simp [sg] at this ⊢
  exact List.reverse_inj.mp (inj h1)
theorem wayS_mem (b : Bool) (w : Ad) : decide (sg b ∈ (wayS w).cps.toList) = w.contains b := by
  rw [Bool.eq_iff_iff, decide_eq_true_eq, has_iff]
  simp only [wayS, List.mem_map, List.mem_reverse]
  constructor
  · rintro ⟨a, ha, e⟩
    have : a = b := by cases a <;> cases b <;> simp [sg] at e ⊢
    rw [← this]; exact ha
  · intro h
    exact ⟨b, h, rfl⟩
theorem wayS_len (w : Ad) : (wayS w).length = w.length := by simp [wayS, Str.length]
theorem wayS_ok (w : Ad) : PyData.strOk (wayS w) = true := by
  unfold PyData.strOk
  rw [Array.all_eq_true_iff_forall_mem]
  intro x hx
  simp only [wayS, List.mem_toArray, List.mem_map] at hx
  obtain ⟨b, _, rfl⟩ := hx
  cases b <;> simp [sg]
end C

set_option Elab.async false
set_option linter.all false
set_option maxRecDepth 100000
set_option maxHeartbeats 4000000
namespace C
open PySem L2 Hv
local macro_rules | `(tactic| walk_at "sl") => `(tactic| repeat (first | exact List.nil_sublist _ | (with_reducible exact List.Sublist.refl _) | (with_reducible refine List.Sublist.cons₂ _ ?_) | (refine List.Sublist.cons _ ?_)))
set_option hygiene false in
local macro_rules | `(tactic| walk_at "rd") => `(tactic| first | exact S.get (i := 0) rfl | exact S.get (i := 1) rfl | exact S.get (i := 2) rfl | exact S.get (i := 3) rfl | exact S.get (i := 4) rfl | exact S.get (i := 5) rfl | assumption | exact S.old (by assumption))
set_option hygiene false in
local macro_rules | `(tactic| walk_at "s") => `(tactic| first
  | with_reducible refine Wp.seq ?_ | with_reducible refine sqK.nx ?_ | with_reducible refine sqK.rt ?_ | with_reducible refine Wp.asg ?_
  | ((with_reducible apply Wp.var); exact rfl) | with_reducible refine Wp.con ?_ | with_reducible refine Wp.bin ?_ | with_reducible refine Wp.call ?_ | with_reducible refine Wp.acons ?_ | with_reducible refine Wp.anil ?_
  | ((with_reducible refine Wp.gNm ?_); try dsimp only [List.set_cons_zero, List.set_cons_succ]) | with_reducible refine Wp.gTp ?_ | with_reducible refine Wp.gsC ?_ | with_reducible refine Wp.gsN ?_ | with_reducible refine Wp.gIx ?_ | with_reducible refine Wp.gSl ?_
  | with_reducible refine Wp.sif ?_ | with_reducible refine Wp.tCm ?_ | with_reducible refine exB ?_ | with_reducible refine brT ?_ | with_reducible refine brF ?_ | with_reducible refine brNT ?_ | with_reducible refine brNF ?_ | with_reducible refine Wp.tT ?_ | with_reducible refine truB ?_ | with_reducible refine truI ?_ | with_reducible refine truT ?_ | with_reducible refine truN ?_
  | ((with_reducible apply truL); walk_at "rd") | with_reducible refine Wp.tNt ?_ | with_reducible refine Wp.tAn ?_ | with_reducible refine Wp.tOr ?_ | with_reducible refine Wp.tYs ?_
  | with_reducible refine Wp.sret ?_ | with_reducible refine Wp.ex ?_ | with_reducible refine Wp.nx ?_ | with_reducible refine Wp.sbk ?_ | with_reducible refine Wp.sct ?_ | (with_reducible refine Wp.aug ?_) | (with_reducible refine Wp.par ?_) | with_reducible refine parK ?_
  | (with_reducible refine Wp.tup ?_) | ((with_reducible refine tupK ?_ ?_); exact Nat.le_of_ble_eq_true rfl) | with_reducible refine Wp.lst ?_ | with_reducible refine Wp.m ?_ | with_reducible refine Wp.mlst ?_ | with_reducible refine Wp.andT ?_ | with_reducible refine Wp.orT ?_ | with_reducible refine Wp.if_ ?_
  | with_reducible refine Wp.un ?_ | with_reducible refine negK ?_ | with_reducible refine notK ?_
  | with_reducible refine jnK.nx ?_ | with_reducible refine jnK.rt ?_ | with_reducible refine fnK.rt ?_ | with_reducible refine fnK.nx ?_ | with_reducible refine lpK.nx ?_ | with_reducible refine lpK.ct ?_ | with_reducible refine lpK.bk ?_ | with_reducible refine lpK.rt ?_
  | with_reducible refine Wp.addI ?_ | with_reducible refine Wp.subI ?_ | with_reducible refine Wp.iaddI ?_ | with_reducible refine Wp.andI ?_ | ((with_reducible refine Wp.mulI ?_ ?_); first | exact .inl (by decide) | exact .inr (by decide)) | ((with_reducible refine Wp.modI ?_ ?_); exact (by decide)) | ((with_reducible refine Wp.divI ?_ ?_); exact (by decide))
  | with_reducible refine Wp.ltI ?_ | with_reducible refine Wp.leI ?_ | with_reducible refine Wp.gtI ?_ | with_reducible refine Wp.geI ?_ | with_reducible refine Wp.eqI ?_ | with_reducible refine Wp.neI ?_
  | with_reducible refine Wp.ixT0 ?_ | with_reducible refine Wp.ixT1 ?_ | ((with_reducible apply Wp.lenL); walk_at "rd") | with_reducible refine Wp.lenT ?_ | with_reducible refine Wp.lenR ?_
  | with_reducible refine Wp.isiT ?_ | with_reducible refine Wp.isiL ?_ | with_reducible refine Wp.isiI ?_ | with_reducible refine Wp.isiB ?_ | with_reducible refine Wp.isiS ?_ | with_reducible refine Wp.lz ?_ | with_reducible refine Wp.sfor ?_ | with_reducible refine Wp.iAny ?_ | ((with_reducible apply Wp.anyL); walk_at "rd"; try dsimp only [wipeE, List.set_cons_zero, List.set_cons_succ]) | ((with_reducible refine Wp.anyT ?_); try dsimp only [wipeE, List.set_cons_zero, List.set_cons_succ]) | ((with_reducible refine Wp.anyR ?_); try dsimp only [wipeE, List.set_cons_zero, List.set_cons_succ]) | ((with_reducible refine Wp.anyX ?_); try dsimp only [wipeE, List.set_cons_zero, List.set_cons_succ]) | with_reducible refine Wp.lc ?_
  | ((with_reducible apply Wp.tupL); walk_at "rd") | with_reducible refine Wp.tupT ?_ | with_reducible refine Wp.sl ?_ | with_reducible refine Wp.oNo ?_ | with_reducible refine Wp.oSo ?_ | with_reducible refine soK ?_ | with_reducible refine Wp.rg1 ?_ | with_reducible refine Wp.rg2 ?_ | with_reducible refine Wp.zip ?_ | with_reducible refine Wp.enum ?_ | with_reducible refine Wp.rev ?_
  | with_reducible refine Wp.kx ?_ | with_reducible refine Wp.kp ?_ | with_reducible refine Wp.dsp ?_ | with_reducible refine Wp.anC ?_ | with_reducible refine Wp.anN ?_ | with_reducible refine Wp.chain ?_ | with_reducible refine Wp.tch ?_ | with_reducible refine Wp.maxI ?_ | with_reducible refine Wp.absI ?_ | with_reducible refine Wp.isN ?_ | with_reducible refine Wp.isnN ?_ | with_reducible refine Wp.if_ ?_)
set_option hygiene false in
local macro_rules | `(tactic| walk_at "w") => `(tactic| repeat (walk_at "s"))
theorem Wp.addS {a b : Str} {h : Hb} {K : D → Hb → Prop} (hl : a.length + b.length ≤ 1000000) (k : K (.str (a ++ b)) h) : Wp (oAdd (.str a) (.str b) h) K := .of (a := .str (a ++ b)) (by unfold oAdd; simp only [if_pos (show a.length + b.length ≤ sizeLine by rw [size_val]; omega)]) k
theorem Wp.notinI {x y : D} {b : Bool} {h : Hb} {K : D → Hb → Prop} (e : inD x y h = some b) (k : K (.bl (!b)) h) : Wp (oNotIn x y h) K := ⟨_, h, by unfold oNotIn; rw [e]; rfl, k⟩
theorem Wp.notinS {c : Nat} {z : Str} {h : Hb} {K : D → Hb → Prop} (k : K (.bl (!decide (c ∈ z.cps.toList))) h) : Wp (oNotIn (.str ⟨#[c]⟩) (.str z) h) K := Wp.notinI (b := decide (c ∈ z.cps.toList)) (by unfold inD; simp only [StrLaws.found_one]) k
section
variable {h0 h : Hb} {L F : List (Nat × List D)} {K : D → Hb → Prop} {n : Nat}
end
end C

set_option Elab.async false
set_option linter.all false
set_option maxRecDepth 100000
set_option maxHeartbeats 4000000
namespace C
open PySem L2 Hv
local macro_rules | `(tactic| walk_at "sl") => `(tactic| repeat (first | exact List.nil_sublist _ | (with_reducible exact List.Sublist.refl _) | (with_reducible refine List.Sublist.cons₂ _ ?_) | (refine List.Sublist.cons _ ?_)))
set_option hygiene false in
local macro_rules | `(tactic| walk_at "rd") => `(tactic| first | exact S.get (i := 0) rfl | exact S.get (i := 1) rfl | exact S.get (i := 2) rfl | exact S.get (i := 3) rfl | exact S.get (i := 4) rfl | exact S.get (i := 5) rfl | assumption | exact S.old (by assumption))
set_option hygiene false in
local macro_rules | `(tactic| walk_at "s") => `(tactic| first
  | with_reducible refine Wp.seq ?_ | with_reducible refine sqK.nx ?_ | with_reducible refine sqK.rt ?_ | with_reducible refine Wp.asg ?_
  | ((with_reducible apply Wp.var); exact rfl) | with_reducible refine Wp.con ?_ | with_reducible refine Wp.bin ?_ | with_reducible refine Wp.call ?_ | with_reducible refine Wp.acons ?_ | with_reducible refine Wp.anil ?_
  | ((with_reducible refine Wp.gNm ?_); try dsimp only [List.set_cons_zero, List.set_cons_succ]) | with_reducible refine Wp.gTp ?_ | with_reducible refine Wp.gsC ?_ | with_reducible refine Wp.gsN ?_ | with_reducible refine Wp.gIx ?_ | with_reducible refine Wp.gSl ?_
  | with_reducible refine Wp.sif ?_ | with_reducible refine Wp.tCm ?_ | with_reducible refine exB ?_ | with_reducible refine brT ?_ | with_reducible refine brF ?_ | with_reducible refine brNT ?_ | with_reducible refine brNF ?_ | with_reducible refine Wp.tT ?_ | with_reducible refine truB ?_ | with_reducible refine truI ?_ | with_reducible refine truT ?_ | with_reducible refine truN ?_
  | ((with_reducible apply truL); walk_at "rd") | with_reducible refine Wp.tNt ?_ | with_reducible refine Wp.tAn ?_ | with_reducible refine Wp.tOr ?_ | with_reducible refine Wp.tYs ?_
  | with_reducible refine Wp.sret ?_ | with_reducible refine Wp.ex ?_ | with_reducible refine Wp.nx ?_ | with_reducible refine Wp.sbk ?_ | with_reducible refine Wp.sct ?_ | (with_reducible refine Wp.aug ?_) | (with_reducible refine Wp.par ?_) | with_reducible refine parK ?_
  | (with_reducible refine Wp.tup ?_) | ((with_reducible refine tupK ?_ ?_); exact Nat.le_of_ble_eq_true rfl) | with_reducible refine Wp.lst ?_ | with_reducible refine Wp.m ?_ | with_reducible refine Wp.mlst ?_ | with_reducible refine Wp.andT ?_ | with_reducible refine Wp.orT ?_ | with_reducible refine Wp.if_ ?_
  | with_reducible refine Wp.un ?_ | with_reducible refine negK ?_ | with_reducible refine notK ?_
  | with_reducible refine jnK.nx ?_ | with_reducible refine jnK.rt ?_ | with_reducible refine fnK.rt ?_ | with_reducible refine fnK.nx ?_ | with_reducible refine lpK.nx ?_ | with_reducible refine lpK.ct ?_ | with_reducible refine lpK.bk ?_ | with_reducible refine lpK.rt ?_
  | with_reducible refine Wp.addI ?_ | with_reducible refine Wp.subI ?_ | with_reducible refine Wp.iaddI ?_ | with_reducible refine Wp.andI ?_ | ((with_reducible refine Wp.mulI ?_ ?_); first | exact .inl (by decide) | exact .inr (by decide)) | ((with_reducible refine Wp.modI ?_ ?_); exact (by decide)) | ((with_reducible refine Wp.divI ?_ ?_); exact (by decide))
  | with_reducible refine Wp.ltI ?_ | with_reducible refine Wp.leI ?_ | with_reducible refine Wp.gtI ?_ | with_reducible refine Wp.geI ?_ | with_reducible refine Wp.eqI ?_ | with_reducible refine Wp.neI ?_
  | with_reducible refine Wp.ixT0 ?_ | with_reducible refine Wp.ixT1 ?_ | ((with_reducible apply Wp.lenL); walk_at "rd") | with_reducible refine Wp.lenT ?_ | with_reducible refine Wp.lenR ?_
  | with_reducible refine Wp.isiT ?_ | with_reducible refine Wp.isiL ?_ | with_reducible refine Wp.isiI ?_ | with_reducible refine Wp.isiB ?_ | with_reducible refine Wp.isiS ?_ | with_reducible refine Wp.lz ?_ | with_reducible refine Wp.sfor ?_ | with_reducible refine Wp.iAny ?_ | ((with_reducible apply Wp.anyL); walk_at "rd"; try dsimp only [wipeE, List.set_cons_zero, List.set_cons_succ]) | ((with_reducible refine Wp.anyT ?_); try dsimp only [wipeE, List.set_cons_zero, List.set_cons_succ]) | ((with_reducible refine Wp.anyR ?_); try dsimp only [wipeE, List.set_cons_zero, List.set_cons_succ]) | ((with_reducible refine Wp.anyX ?_); try dsimp only [wipeE, List.set_cons_zero, List.set_cons_succ]) | with_reducible refine Wp.lc ?_
  | ((with_reducible apply Wp.tupL); walk_at "rd") | with_reducible refine Wp.tupT ?_ | with_reducible refine Wp.sl ?_ | with_reducible refine Wp.oNo ?_ | with_reducible refine Wp.oSo ?_ | with_reducible refine soK ?_ | with_reducible refine Wp.rg1 ?_ | with_reducible refine Wp.rg2 ?_ | with_reducible refine Wp.zip ?_ | with_reducible refine Wp.enum ?_ | with_reducible refine Wp.rev ?_
  | with_reducible refine Wp.kx ?_ | with_reducible refine Wp.kp ?_ | with_reducible refine Wp.dsp ?_ | with_reducible refine Wp.anC ?_ | with_reducible refine Wp.anN ?_ | with_reducible refine Wp.chain ?_ | with_reducible refine Wp.tch ?_ | with_reducible refine Wp.maxI ?_ | with_reducible refine Wp.absI ?_ | with_reducible refine Wp.isN ?_ | with_reducible refine Wp.isnN ?_ | with_reducible refine Wp.if_ ?_)
set_option hygiene false in
local macro_rules | `(tactic| walk_at "w") => `(tactic| repeat (walk_at "s"))
theorem Wp.int1C {b : Bool} {K : D → Hb → Prop} {h : Hb} (k : K (.int (((if b then 1 else 0 : Nat) : Nat) : Int)) h) : Wp (oInt1 [.bl b] h) K := by
  cases b <;> exact .ret k
section
variable {h0 h : Hb} {L F : List (Nat × List D)} {K : D → Hb → Prop}
variable {n : Nat}
theorem ix_four' {a b c d : Int} {v : Nat} (hv : v < 4) : ∃ x, [D.int a, .int b, .int c, .int d][v]? = some (.int x) ∧ (x = a ∨ x = b ∨ x = c ∨ x = d) := by
  match v, hv with
  | 0, _ => exact ⟨a, rfl, .inl rfl⟩
  | 1, _ => exact ⟨b, rfl, .inr (.inl rfl)⟩
  | 2, _ => exact ⟨c, rfl, .inr (.inr (.inl rfl))⟩
  | 3, _ => exact ⟨d, rfl, .inr (.inr (.inr rfl))⟩
theorem s0 : (("0" : Str)) = ⟨#[sg false]⟩ := by decide
theorem s1 : (("1" : Str)) = ⟨#[sg true]⟩ := by decide
end
end C

set_option Elab.async false
set_option linter.all false
set_option maxRecDepth 100000
set_option maxHeartbeats 4000000
namespace C
open PySem L2 Hv
/-! ### words -/
theorem wayS_tl (u : Ad) : (wayS u).cps.toList = u.reverse.map sg := by simp [wayS]
theorem str_ext {a b : Str} (h : a.cps.toList = b.cps.toList) : a = b := by
  cases a; cases b
  simp only at h
  rw [Array.toList_inj.mp h]
theorem wayS_app (u v : Ad) : wayS v ++ wayS u = wayS (u ++ v) := by
  apply str_ext
  rw [Str.cps_append, Array.toList_append, wayS_tl, wayS_tl, wayS_tl, List.reverse_append, List.map_append]
theorem cut_init (u : Ad) : cutS (wayS u) none (some (-1)) = wayS u.tail := by
  apply str_ext
  unfold cutS
  rw [wayS_len]
  simp only [HT.sIx, wayS_tl]
  cases u with
  | nil => rfl
  | cons b u =>
    simp only [List.length_cons, List.drop_zero, Nat.sub_zero, List.tail_cons, List.reverse_cons, List.map_append]
    rw [if_pos (by decide), show ((-1 : Int) + ((u.length + 1 : Nat) : Int)).toNat = (u.reverse.map sg).length by simp; omega, List.take_left]
theorem cut_last (u : Ad) : cutS (wayS u) (some (-1)) none = wayS (u.take 1) := by
  apply str_ext
  unfold cutS
  rw [wayS_len]
  simp only [HT.sIx, wayS_tl]
  cases u with
  | nil => rfl
  | cons b u =>
    simp only [List.length_cons, List.reverse_cons, List.map_append, List.take_succ_cons, List.take_zero, List.reverse_nil, List.nil_append, List.map_nil]
    rw [if_pos (by decide), show ((-1 : Int) + ((u.length + 1 : Nat) : Int)).toNat = (u.reverse.map sg).length by simp; omega, List.drop_left]
    rw [show u.length + 1 - (u.reverse.map sg).length = 1 by simp]
    rfl
theorem cut_rest (r c : Ad) : cutS (wayS (r ++ c)) (some ((c.length : Nat) : Int)) none = wayS r := by
  apply str_ext
  unfold cutS
  rw [wayS_len]
  simp only [HT.sIx_nat, HT.sIx_none, wayS_tl, List.length_append, List.reverse_append, List.map_append]
  rw [Nat.min_eq_left (by omega), show c.length = (c.reverse.map sg).length by simp, List.drop_left]
  rw [List.take_of_length_le (by simp)]
theorem sw_iff (x y : Str) : Txt.startswith x y = true ↔ y.cps.toList <+: x.cps.toList := by
  have lx : x.cps.toList.length = x.length := Array.length_toList
  have ly : y.cps.toList.length = y.length := Array.length_toList
  unfold Txt.startswith
  rw [Bool.and_eq_true, decide_eq_true_eq, StrLaws.subAt_eq, List.drop_zero]
  constructor
  · rintro ⟨h1, h2⟩
    have e : x.cps.toList.take y.length = y.cps.toList := by simpa using h2
    rw [← e]
    exact List.take_prefix _ _
  · rintro ⟨r, e⟩
    have hl : y.length ≤ x.length := by rw [← lx, ← ly, ← e]; simp
    refine ⟨by omega, ?_⟩
    rw [← e, ← ly, List.take_left]
    simp
theorem sg_inj : ∀ {a b : List Bool}, a.map sg = b.map sg → a = b
  | [], [], _ => rfl
  | [], _ :: _, h => by cases h
  | _ :: _, [], h => by cases h
  | a :: as, b :: bs, h => by
    simp only [List.map_cons, List.cons.injEq] at h
    rw [sg_inj h.2]
    have : a = b := by have h1 := h.1; revert h1; cases a <;> cases b <;> simp [sg]
    rw [this]
theorem sw_way (b c : Ad) : Txt.startswith (wayS b) (wayS c) = decide (c <:+ b) := by
  rw [Bool.eq_iff_iff, sw_iff, decide_eq_true_eq, wayS_tl, wayS_tl]
  constructor
  · rintro ⟨r, e⟩
    have e2 : b.reverse.take c.reverse.length = c.reverse := by
      apply sg_inj
      rw [List.map_take, ← e, show c.reverse.length = (c.reverse.map sg).length by simp, List.take_left]
    rw [← List.reverse_prefix, ← e2]
    exact List.take_prefix _ _
  · intro h
    obtain ⟨r, e⟩ := List.reverse_prefix.mpr h
    exact ⟨r.map sg, by rw [← e, List.map_append]⟩
/-! ### the top of a word -/
theorem adr_top (t : Tr) (c : Ad) : adr t c = (adr t []).map (· ++ c) := adr_app t [] c
/-! ### two lists of pairs laid together -/
def ones (r : Ad) : Bool := !r.contains false
def mg : Nat → List Pa → List Pa → Option (List Pa)
  | _, [], _ => some []
  | _, _ :: _, [] => some []
  | 0, _, _ => none
  | n + 1, (a, b) :: xs, (c, d) :: ys =>
    if c <:+ b then (mg n xs (if ones (b.take (b.length - c.length)) then ys else (c, d) :: ys)).map (((a, b.take (b.length - c.length) ++ d)) :: ·)
    else if b <:+ c then (mg n (if ones (c.take (c.length - b.length)) then xs else (a, b) :: xs) ys).map ((c.take (c.length - b.length) ++ a, d) :: ·)
    else none
theorem take_suf (r w : Ad) : (r ++ w).take ((r ++ w).length - w.length) = r := by
  rw [List.length_append, Nat.add_sub_cancel, List.take_left]
theorem not_suf {b : Bool} {r w : Ad} : ¬ (b :: r ++ w) <:+ w := fun h => by
  have := h.length_le
  simp only [List.length_append, List.length_cons] at this
  omega
theorem suf_app (r w : Ad) : w <:+ r ++ w := ⟨r, rfl⟩
theorem opt_map_map {α β γ : Type} (f : α → β) (g : β → γ) (o : Option α) : (o.map f).map g = o.map fun x => g (f x) := by cases o <;> rfl
/-- one leaf of the first against a tree of the second -/
theorem mg_left (a w : Ad) : ∀ (t : Tr) (r0 : Ad) (ds : List Ad) (xs ys : List Pa) (n : Nat), ds.length = t.lvs →
    mg (n + t.lvs) ((a, w) :: xs) (((adr t (r0 ++ w)).zip ds) ++ ys) = (mg n (if ones r0 then xs else (a, w) :: xs) ys).map ((((adr t (r0 ++ a)).zip ds)) ++ ·)
  | .leaf, r0, ds, xs, ys, n, hl => by
    obtain ⟨d, rfl⟩ := List.length_eq_one_iff.mp (show ds.length = 1 from hl)
    show mg (n + 1) ((a, w) :: xs) ((r0 ++ w, d) :: ys) = _
    rw [mg]
    cases r0 with
    | nil =>
      rw [if_pos (by simp)]
      simp only [List.nil_append, Nat.sub_self, List.take_zero]
      rfl
    | cons b r =>
      rw [if_neg not_suf, if_pos (suf_app _ _), take_suf]
      rfl
  | .node l r, r0, ds, xs, ys, n, hl => by
    have hl' : ds.length = l.lvs + r.lvs := hl
    have e1 : ds = ds.take l.lvs ++ ds.drop l.lvs := (List.take_append_drop _ _).symm
    have l1 : (ds.take l.lvs).length = l.lvs := by rw [List.length_take]; omega
    have l2 : (ds.drop l.lvs).length = r.lvs := by rw [List.length_drop]; omega
    have z : ∀ c : Ad, (adr (.node l r) c).zip ds = (adr l (false :: c)).zip (ds.take l.lvs) ++ (adr r (true :: c)).zip (ds.drop l.lvs) := fun c => by
      rw [adr]
      conv => lhs; rw [e1]
      rw [List.zip_append (by rw [adr_length, l1])]
    rw [z, z, List.append_assoc, show n + (Tr.node l r).lvs = (n + r.lvs) + l.lvs by show n + (l.lvs + r.lvs) = _; omega]
    rw [show false :: (r0 ++ w) = (false :: r0) ++ w from rfl, show true :: (r0 ++ w) = (true :: r0) ++ w from rfl, mg_left a w l (false :: r0) _ xs _ (n + r.lvs) l1]
    rw [show ones (false :: r0) = false by simp [ones], if_neg (by decide), mg_left a w r (true :: r0) _ xs ys n l2, show ones (true :: r0) = ones r0 by simp [ones], opt_map_map]
    congr 1
    funext x
    rw [List.append_assoc]
    rfl
theorem mg_right (w d : Ad) : ∀ (t : Tr) (r0 : Ad) (as : List Ad) (xs ys : List Pa) (n : Nat), as.length = t.lvs →
    mg (n + t.lvs) ((as.zip (adr t (r0 ++ w))) ++ xs) ((w, d) :: ys) = (mg n xs (if ones r0 then ys else (w, d) :: ys)).map (((as.zip (adr t (r0 ++ d)))) ++ ·)
  | .leaf, r0, as, xs, ys, n, hl => by
    obtain ⟨a, rfl⟩ := List.length_eq_one_iff.mp (show as.length = 1 from hl)
    show mg (n + 1) ((a, r0 ++ w) :: xs) ((w, d) :: ys) = _
    rw [mg, if_pos (suf_app _ _), take_suf]
    rfl
  | .node l r, r0, as, xs, ys, n, hl => by
    have hl' : as.length = l.lvs + r.lvs := hl
    have e1 : as = as.take l.lvs ++ as.drop l.lvs := (List.take_append_drop _ _).symm
    have l1 : (as.take l.lvs).length = l.lvs := by rw [List.length_take]; omega
    have l2 : (as.drop l.lvs).length = r.lvs := by rw [List.length_drop]; omega
    have z : ∀ c : Ad, as.zip (adr (.node l r) c) = (as.take l.lvs).zip (adr l (false :: c)) ++ (as.drop l.lvs).zip (adr r (true :: c)) := fun c => by
      rw [adr]
      conv => lhs; rw [e1]
      rw [List.zip_append (by rw [adr_length, l1])]
    rw [z, z, List.append_assoc, show n + (Tr.node l r).lvs = (n + r.lvs) + l.lvs by show n + (l.lvs + r.lvs) = _; omega]
    rw [show false :: (r0 ++ w) = (false :: r0) ++ w from rfl, show true :: (r0 ++ w) = (true :: r0) ++ w from rfl, mg_right w d l (false :: r0) _ _ ys (n + r.lvs) l1]
    rw [show ones (false :: r0) = false by simp [ones], if_neg (by decide), mg_right w d r (true :: r0) _ xs ys n l2, show ones (true :: r0) = ones r0 by simp [ones], opt_map_map]
    congr 1
    funext x
    rw [List.append_assoc]
    rfl
def spr (as : List Ad) (ps : List Tr) : List Ad := (as.zip ps).flatMap fun x => adr x.2 x.1
theorem spr_app {as bs : List Ad} {ps qs : List Tr} (h : as.length = ps.length) : spr (as ++ bs) (ps ++ qs) = spr as ps ++ spr bs qs := by
  unfold spr
  rw [List.zip_append h, List.flatMap_append]
theorem spr_len : ∀ (as : List Ad) (ps : List Tr), as.length = ps.length → (spr as ps).length = sumT ps
  | [], [], _ => rfl
  | [], _ :: _, h => by cases h
  | _ :: _, [], h => by cases h
  | a :: as, p :: ps, h => by
    show (adr p a ++ spr as ps).length = _
    rw [List.length_append, adr_length, spr_len as ps (by simpa using h)]
    rfl
theorem spr_leaves : ∀ (as : List Ad), spr as (List.replicate as.length .leaf) = as
  | [] => rfl
  | a :: as => by
    show adr .leaf a ++ spr as (List.replicate as.length .leaf) = _
    rw [spr_leaves as]; rfl
theorem beneath_leaf : ∀ t : Tr, beneath t .leaf = List.replicate t.lvs .leaf
  | .leaf => rfl
  | .node l r => by
    show beneath l .leaf ++ beneath r .leaf = _
    rw [beneath_leaf l, beneath_leaf r, List.replicate_append_replicate]
    rfl
/-- the whole -/
theorem mg_all : ∀ (s t : Tr) (w : Ad) (as ds : List Ad) (xs ys : List Pa) (n : Nat), as.length = s.lvs → ds.length = t.lvs →
    mg (n + (joinT s t).lvs) ((as.zip (adr s w)) ++ xs) (((adr t w).zip ds) ++ ys) = (mg n xs ys).map (((spr as (beneath s t)).zip (spr ds (beneath t s))) ++ ·)
  | .leaf, t, w, as, ds, xs, ys, n, ha, hd => by
    obtain ⟨a, rfl⟩ := List.length_eq_one_iff.mp (show as.length = 1 from ha)
    have := mg_left a w t [] ds xs ys n hd
    rw [List.nil_append, List.nil_append, if_pos (by rfl)] at this
    show mg (n + t.lvs) ((a, w) :: xs) _ = _
    rw [this, beneath_leaf, ← hd, spr_leaves]
    show _ = Option.map _ _
    rw [show spr [a] (beneath .leaf t) = adr t a by show adr t a ++ [] = _; rw [List.append_nil]]
  | .node l r, .leaf, w, as, ds, xs, ys, n, ha, hd => by
    obtain ⟨d, rfl⟩ := List.length_eq_one_iff.mp (show ds.length = 1 from hd)
    have := mg_right w d (.node l r) [] as xs ys n ha
    rw [List.nil_append, List.nil_append, if_pos (by rfl)] at this
    show mg (n + (Tr.node l r).lvs) _ ((w, d) :: ys) = _
    rw [this, beneath_leaf, ← ha, spr_leaves]
    rw [show spr [d] (beneath .leaf (.node l r)) = adr (.node l r) d by show adr _ d ++ [] = _; rw [List.append_nil]]
  | .node l r, .node p q, w, as, ds, xs, ys, n, ha, hd => by
    have ha' : as.length = l.lvs + r.lvs := ha
    have hd' : ds.length = p.lvs + q.lvs := hd
    have l1 : (as.take l.lvs).length = l.lvs := by rw [List.length_take]; omega
    have l2 : (as.drop l.lvs).length = r.lvs := by rw [List.length_drop]; omega
    have m1 : (ds.take p.lvs).length = p.lvs := by rw [List.length_take]; omega
    have m2 : (ds.drop p.lvs).length = q.lvs := by rw [List.length_drop]; omega
    have za : as.zip (adr (.node l r) w) = (as.take l.lvs).zip (adr l (false :: w)) ++ (as.drop l.lvs).zip (adr r (true :: w)) := by
      rw [adr]
      conv => lhs; rw [← List.take_append_drop l.lvs as]
      rw [List.zip_append (by rw [adr_length, l1])]
    have zd : (adr (.node p q) w).zip ds = (adr p (false :: w)).zip (ds.take p.lvs) ++ (adr q (true :: w)).zip (ds.drop p.lvs) := by
      rw [adr]
      conv => lhs; rw [← List.take_append_drop p.lvs ds]
      rw [List.zip_append (by rw [adr_length, m1])]
    have ea : spr as (beneath (.node l r) (.node p q)) = spr (as.take l.lvs) (beneath l p) ++ spr (as.drop l.lvs) (beneath r q) := by
      rw [← spr_app (by rw [l1, beneath_length]), List.take_append_drop]; rfl
    have ed : spr ds (beneath (.node p q) (.node l r)) = spr (ds.take p.lvs) (beneath p l) ++ spr (ds.drop p.lvs) (beneath q r) := by
      rw [← spr_app (by rw [m1, beneath_length]), List.take_append_drop]; rfl
    rw [za, zd, ea, ed, List.append_assoc, List.append_assoc, show n + (joinT (.node l r) (.node p q)).lvs = (n + (joinT r q).lvs) + (joinT l p).lvs by show n + ((joinT l p).lvs + (joinT r q).lvs) = _; omega]
    rw [mg_all l p (false :: w) _ _ _ _ _ l1 m1, mg_all r q (true :: w) _ _ _ _ _ l2 m2, opt_map_map]
    rw [List.zip_append (by rw [spr_len _ _ (by rw [l1, beneath_length]), spr_len _ _ (by rw [m1, beneath_length]), sumT_beneath, sumT_beneath, joinT_comm])]
    congr 1
    funext x
    rw [List.append_assoc]
def raw (f g : Tr × Tr) : Tr × Tr := (graft f.1 (beneath f.2 g.1), graft g.2 (beneath g.1 f.2))
theorem raw_ok {f g : Tr × Tr} (ef : Ok f) (eg : Ok g) : Ok (raw f g) := by
  have := cmp_raw_lvs ef eg
  exact this.1.trans this.2.symm
theorem mg_raw {f g : Tr × Tr} (ef : Ok f) (eg : Ok g) : mg (joinT f.2 g.1).lvs (pa f.1 f.2) (pa g.1 g.2) = some (pa (raw f g).1 (raw f g).2) := by
  have := mg_all f.2 g.1 [] (adr f.1 []) (adr g.2 []) [] [] 0 (by rw [adr_length]; exact ef) (by rw [adr_length]; exact eg.symm)
  rw [List.append_nil, List.append_nil, Nat.zero_add] at this
  rw [pa, pa, this]
  show some (_ ++ []) = _
  rw [List.append_nil]
  show some ((spr (adr f.1 []) (beneath f.2 g.1)).zip (spr (adr g.2 []) (beneath g.1 f.2))) = _
  unfold spr
  rw [← adr_graft _ _ _ (by rw [beneath_length]; exact ef.symm), ← adr_graft _ _ _ (by rw [beneath_length]; exact eg)]
  rfl
end C

set_option Elab.async false
set_option linter.all false
set_option maxRecDepth 100000
set_option maxHeartbeats 4000000
namespace C
open PySem L2 Hv
local macro_rules | `(tactic| walk_at "sl") => `(tactic| repeat (first | exact List.nil_sublist _ | (with_reducible exact List.Sublist.refl _) | (with_reducible refine List.Sublist.cons₂ _ ?_) | (refine List.Sublist.cons _ ?_)))
set_option hygiene false in
local macro_rules | `(tactic| walk_at "rd") => `(tactic| first | exact S.get (i := 0) rfl | exact S.get (i := 1) rfl | exact S.get (i := 2) rfl | exact S.get (i := 3) rfl | exact S.get (i := 4) rfl | exact S.get (i := 5) rfl | assumption | exact S.old (by assumption))
set_option hygiene false in
local macro_rules | `(tactic| walk_at "s") => `(tactic| first
  | with_reducible refine Wp.seq ?_ | with_reducible refine sqK.nx ?_ | with_reducible refine sqK.rt ?_ | with_reducible refine Wp.asg ?_
  | ((with_reducible apply Wp.var); exact rfl) | with_reducible refine Wp.con ?_ | with_reducible refine Wp.bin ?_ | with_reducible refine Wp.call ?_ | with_reducible refine Wp.acons ?_ | with_reducible refine Wp.anil ?_
  | ((with_reducible refine Wp.gNm ?_); try dsimp only [List.set_cons_zero, List.set_cons_succ]) | with_reducible refine Wp.gTp ?_ | with_reducible refine Wp.gsC ?_ | with_reducible refine Wp.gsN ?_ | with_reducible refine Wp.gIx ?_ | with_reducible refine Wp.gSl ?_
  | with_reducible refine Wp.sif ?_ | with_reducible refine Wp.tCm ?_ | with_reducible refine exB ?_ | with_reducible refine brT ?_ | with_reducible refine brF ?_ | with_reducible refine brNT ?_ | with_reducible refine brNF ?_ | with_reducible refine Wp.tT ?_ | with_reducible refine truB ?_ | with_reducible refine truI ?_ | with_reducible refine truT ?_ | with_reducible refine truN ?_
  | ((with_reducible apply truL); walk_at "rd") | with_reducible refine Wp.tNt ?_ | with_reducible refine Wp.tAn ?_ | with_reducible refine Wp.tOr ?_ | with_reducible refine Wp.tYs ?_
  | with_reducible refine Wp.sret ?_ | with_reducible refine Wp.ex ?_ | with_reducible refine Wp.nx ?_ | with_reducible refine Wp.sbk ?_ | with_reducible refine Wp.sct ?_ | (with_reducible refine Wp.aug ?_) | (with_reducible refine Wp.par ?_) | with_reducible refine parK ?_
  | (with_reducible refine Wp.tup ?_) | ((with_reducible refine tupK ?_ ?_); exact Nat.le_of_ble_eq_true rfl) | with_reducible refine Wp.lst ?_ | with_reducible refine Wp.m ?_ | with_reducible refine Wp.mlst ?_ | with_reducible refine Wp.andT ?_ | with_reducible refine Wp.orT ?_ | with_reducible refine Wp.if_ ?_
  | with_reducible refine Wp.un ?_ | with_reducible refine negK ?_ | with_reducible refine notK ?_
  | with_reducible refine jnK.nx ?_ | with_reducible refine jnK.rt ?_ | with_reducible refine fnK.rt ?_ | with_reducible refine fnK.nx ?_ | with_reducible refine lpK.nx ?_ | with_reducible refine lpK.ct ?_ | with_reducible refine lpK.bk ?_ | with_reducible refine lpK.rt ?_
  | with_reducible refine Wp.addI ?_ | with_reducible refine Wp.subI ?_ | with_reducible refine Wp.iaddI ?_ | with_reducible refine Wp.andI ?_ | ((with_reducible refine Wp.mulI ?_ ?_); first | exact .inl (by decide) | exact .inr (by decide)) | ((with_reducible refine Wp.modI ?_ ?_); exact (by decide)) | ((with_reducible refine Wp.divI ?_ ?_); exact (by decide))
  | with_reducible refine Wp.ltI ?_ | with_reducible refine Wp.leI ?_ | with_reducible refine Wp.gtI ?_ | with_reducible refine Wp.geI ?_ | with_reducible refine Wp.eqI ?_ | with_reducible refine Wp.neI ?_
  | with_reducible refine Wp.ixT0 ?_ | with_reducible refine Wp.ixT1 ?_ | ((with_reducible apply Wp.lenL); walk_at "rd") | with_reducible refine Wp.lenT ?_ | with_reducible refine Wp.lenR ?_
  | with_reducible refine Wp.isiT ?_ | with_reducible refine Wp.isiL ?_ | with_reducible refine Wp.isiI ?_ | with_reducible refine Wp.isiB ?_ | with_reducible refine Wp.isiS ?_ | with_reducible refine Wp.lz ?_ | with_reducible refine Wp.sfor ?_ | with_reducible refine Wp.iAny ?_ | ((with_reducible apply Wp.anyL); walk_at "rd"; try dsimp only [wipeE, List.set_cons_zero, List.set_cons_succ]) | ((with_reducible refine Wp.anyT ?_); try dsimp only [wipeE, List.set_cons_zero, List.set_cons_succ]) | ((with_reducible refine Wp.anyR ?_); try dsimp only [wipeE, List.set_cons_zero, List.set_cons_succ]) | ((with_reducible refine Wp.anyX ?_); try dsimp only [wipeE, List.set_cons_zero, List.set_cons_succ]) | with_reducible refine Wp.lc ?_
  | ((with_reducible apply Wp.tupL); walk_at "rd") | with_reducible refine Wp.tupT ?_ | with_reducible refine Wp.sl ?_ | with_reducible refine Wp.oNo ?_ | with_reducible refine Wp.oSo ?_ | with_reducible refine soK ?_ | with_reducible refine Wp.rg1 ?_ | with_reducible refine Wp.rg2 ?_ | with_reducible refine Wp.zip ?_ | with_reducible refine Wp.enum ?_ | with_reducible refine Wp.rev ?_
  | with_reducible refine Wp.kx ?_ | with_reducible refine Wp.kp ?_ | with_reducible refine Wp.dsp ?_ | with_reducible refine Wp.anC ?_ | with_reducible refine Wp.anN ?_ | with_reducible refine Wp.chain ?_ | with_reducible refine Wp.tch ?_ | with_reducible refine Wp.maxI ?_ | with_reducible refine Wp.absI ?_ | with_reducible refine Wp.isN ?_ | with_reducible refine Wp.isnN ?_ | with_reducible refine Wp.if_ ?_)
set_option hygiene false in
local macro_rules | `(tactic| walk_at "w") => `(tactic| repeat (walk_at "s"))
section
variable {h0 h : Hb} {L F : List (Nat × List D)} {K : D → Hb → Prop} {n : Nat}
theorem datStrs {α : Type} {m : Nat} (f : α → Str) : ∀ xs : List α, (∀ x ∈ xs, PyData.strOk (f x) = true) → mapO (datF h (m + 1)) (xs.map fun x => D.str (f x)) = some (xs.map fun x => PyData.str (f x))
  | [], _ => rfl
  | x :: xs, hx => by
    rw [List.map_cons, List.map_cons, mapO, datStrs f xs fun y hy => hx y (List.mem_cons_of_mem _ hy), datF, if_pos (hx x (List.mem_cons_self ..))]
theorem eqv_str (a b : Str) : PyData.eqv (.str a) (.str b) = (a == b) := by rw [PyData.eqv]
end
end C

set_option Elab.async false
set_option linter.all false
set_option maxRecDepth 100000
set_option maxHeartbeats 4000000
namespace C
open PySem L2 Hv
local macro_rules | `(tactic| walk_at "sl") => `(tactic| repeat (first | exact List.nil_sublist _ | (with_reducible exact List.Sublist.refl _) | (with_reducible refine List.Sublist.cons₂ _ ?_) | (refine List.Sublist.cons _ ?_)))
set_option hygiene false in
local macro_rules | `(tactic| walk_at "rd") => `(tactic| first | exact S.get (i := 0) rfl | exact S.get (i := 1) rfl | exact S.get (i := 2) rfl | exact S.get (i := 3) rfl | exact S.get (i := 4) rfl | exact S.get (i := 5) rfl | assumption | exact S.old (by assumption))
set_option hygiene false in
local macro_rules | `(tactic| walk_at "s") => `(tactic| first
  | with_reducible refine Wp.seq ?_ | with_reducible refine sqK.nx ?_ | with_reducible refine sqK.rt ?_ | with_reducible refine Wp.asg ?_
  | ((with_reducible apply Wp.var); exact rfl) | with_reducible refine Wp.con ?_ | with_reducible refine Wp.bin ?_ | with_reducible refine Wp.call ?_ | with_reducible refine Wp.acons ?_ | with_reducible refine Wp.anil ?_
  | ((with_reducible refine Wp.gNm ?_); try dsimp only [List.set_cons_zero, List.set_cons_succ]) | with_reducible refine Wp.gTp ?_ | with_reducible refine Wp.gsC ?_ | with_reducible refine Wp.gsN ?_ | with_reducible refine Wp.gIx ?_ | with_reducible refine Wp.gSl ?_
  | with_reducible refine Wp.sif ?_ | with_reducible refine Wp.tCm ?_ | with_reducible refine exB ?_ | with_reducible refine brT ?_ | with_reducible refine brF ?_ | with_reducible refine brNT ?_ | with_reducible refine brNF ?_ | with_reducible refine Wp.tT ?_ | with_reducible refine truB ?_ | with_reducible refine truI ?_ | with_reducible refine truT ?_ | with_reducible refine truN ?_
  | ((with_reducible apply truL); walk_at "rd") | with_reducible refine Wp.tNt ?_ | with_reducible refine Wp.tAn ?_ | with_reducible refine Wp.tOr ?_ | with_reducible refine Wp.tYs ?_
  | with_reducible refine Wp.sret ?_ | with_reducible refine Wp.ex ?_ | with_reducible refine Wp.nx ?_ | with_reducible refine Wp.sbk ?_ | with_reducible refine Wp.sct ?_ | (with_reducible refine Wp.aug ?_) | (with_reducible refine Wp.par ?_) | with_reducible refine parK ?_
  | (with_reducible refine Wp.tup ?_) | ((with_reducible refine tupK ?_ ?_); exact Nat.le_of_ble_eq_true rfl) | with_reducible refine Wp.lst ?_ | with_reducible refine Wp.m ?_ | with_reducible refine Wp.mlst ?_ | with_reducible refine Wp.andT ?_ | with_reducible refine Wp.orT ?_ | with_reducible refine Wp.if_ ?_
  | with_reducible refine Wp.un ?_ | with_reducible refine negK ?_ | with_reducible refine notK ?_
  | with_reducible refine jnK.nx ?_ | with_reducible refine jnK.rt ?_ | with_reducible refine fnK.rt ?_ | with_reducible refine fnK.nx ?_ | with_reducible refine lpK.nx ?_ | with_reducible refine lpK.ct ?_ | with_reducible refine lpK.bk ?_ | with_reducible refine lpK.rt ?_
  | with_reducible refine Wp.addI ?_ | with_reducible refine Wp.subI ?_ | with_reducible refine Wp.iaddI ?_ | with_reducible refine Wp.andI ?_ | ((with_reducible refine Wp.mulI ?_ ?_); first | exact .inl (by decide) | exact .inr (by decide)) | ((with_reducible refine Wp.modI ?_ ?_); exact (by decide)) | ((with_reducible refine Wp.divI ?_ ?_); exact (by decide))
  | with_reducible refine Wp.ltI ?_ | with_reducible refine Wp.leI ?_ | with_reducible refine Wp.gtI ?_ | with_reducible refine Wp.geI ?_ | with_reducible refine Wp.eqI ?_ | with_reducible refine Wp.neI ?_
  | with_reducible refine Wp.ixT0 ?_ | with_reducible refine Wp.ixT1 ?_ | ((with_reducible apply Wp.lenL); walk_at "rd") | with_reducible refine Wp.lenT ?_ | with_reducible refine Wp.lenR ?_
  | with_reducible refine Wp.isiT ?_ | with_reducible refine Wp.isiL ?_ | with_reducible refine Wp.isiI ?_ | with_reducible refine Wp.isiB ?_ | with_reducible refine Wp.isiS ?_ | with_reducible refine Wp.lz ?_ | with_reducible refine Wp.sfor ?_ | with_reducible refine Wp.iAny ?_ | ((with_reducible apply Wp.anyL); walk_at "rd"; try dsimp only [wipeE, List.set_cons_zero, List.set_cons_succ]) | ((with_reducible refine Wp.anyT ?_); try dsimp only [wipeE, List.set_cons_zero, List.set_cons_succ]) | ((with_reducible refine Wp.anyR ?_); try dsimp only [wipeE, List.set_cons_zero, List.set_cons_succ]) | ((with_reducible refine Wp.anyX ?_); try dsimp only [wipeE, List.set_cons_zero, List.set_cons_succ]) | with_reducible refine Wp.lc ?_
  | ((with_reducible apply Wp.tupL); walk_at "rd") | with_reducible refine Wp.tupT ?_ | with_reducible refine Wp.sl ?_ | with_reducible refine Wp.oNo ?_ | with_reducible refine Wp.oSo ?_ | with_reducible refine soK ?_ | with_reducible refine Wp.rg1 ?_ | with_reducible refine Wp.rg2 ?_ | with_reducible refine Wp.zip ?_ | with_reducible refine Wp.enum ?_ | with_reducible refine Wp.rev ?_
  | with_reducible refine Wp.kx ?_ | with_reducible refine Wp.kp ?_ | with_reducible refine Wp.dsp ?_ | with_reducible refine Wp.anC ?_ | with_reducible refine Wp.anN ?_ | with_reducible refine Wp.chain ?_ | with_reducible refine Wp.tch ?_ | with_reducible refine Wp.maxI ?_ | with_reducible refine Wp.absI ?_ | with_reducible refine Wp.isN ?_ | with_reducible refine Wp.isnN ?_ | with_reducible refine Wp.if_ ?_)
set_option hygiene false in
local macro_rules | `(tactic| walk_at "w") => `(tactic| repeat (walk_at "s"))
theorem Wp.zipT {as : An} {ρ : En} {h : Hb} {KI : (List D × (Hb → Prop)) → Hb → Prop} (w : Wp (as ρ h) fun xs h1 => ∃ us vs, xs = [.tup us, .tup vs] ∧ KI (zipD us vs, fun _ => True) h1) : Wp (iZpT as ρ h) KI := .bnd (w.mono fun xs h1 ⟨us, vs, e, k⟩ => by
  subst e
  exact .ret k)
section
variable {h0 h : Hb} {L F : List (Nat × List D)} {K : D → Hb → Prop} {n : Nat}
end
end C

set_option Elab.async false
set_option linter.all false
set_option maxRecDepth 100000
set_option maxHeartbeats 4000000
namespace C
open PySem L2 Hv
local macro_rules | `(tactic| walk_at "sl") => `(tactic| repeat (first | exact List.nil_sublist _ | (with_reducible exact List.Sublist.refl _) | (with_reducible refine List.Sublist.cons₂ _ ?_) | (refine List.Sublist.cons _ ?_)))
set_option hygiene false in
local macro_rules | `(tactic| walk_at "rd") => `(tactic| first | exact S.get (i := 0) rfl | exact S.get (i := 1) rfl | exact S.get (i := 2) rfl | exact S.get (i := 3) rfl | exact S.get (i := 4) rfl | exact S.get (i := 5) rfl | assumption | exact S.old (by assumption))
set_option hygiene false in
local macro_rules | `(tactic| walk_at "s") => `(tactic| first
  | with_reducible refine Wp.seq ?_ | with_reducible refine sqK.nx ?_ | with_reducible refine sqK.rt ?_ | with_reducible refine Wp.asg ?_
  | ((with_reducible apply Wp.var); exact rfl) | with_reducible refine Wp.con ?_ | with_reducible refine Wp.bin ?_ | with_reducible refine Wp.call ?_ | with_reducible refine Wp.acons ?_ | with_reducible refine Wp.anil ?_
  | ((with_reducible refine Wp.gNm ?_); try dsimp only [List.set_cons_zero, List.set_cons_succ]) | with_reducible refine Wp.gTp ?_ | with_reducible refine Wp.gsC ?_ | with_reducible refine Wp.gsN ?_ | with_reducible refine Wp.gIx ?_ | with_reducible refine Wp.gSl ?_
  | with_reducible refine Wp.sif ?_ | with_reducible refine Wp.tCm ?_ | with_reducible refine exB ?_ | with_reducible refine brT ?_ | with_reducible refine brF ?_ | with_reducible refine brNT ?_ | with_reducible refine brNF ?_ | with_reducible refine Wp.tT ?_ | with_reducible refine truB ?_ | with_reducible refine truI ?_ | with_reducible refine truT ?_ | with_reducible refine truN ?_
  | ((with_reducible apply truL); walk_at "rd") | with_reducible refine Wp.tNt ?_ | with_reducible refine Wp.tAn ?_ | with_reducible refine Wp.tOr ?_ | with_reducible refine Wp.tYs ?_
  | with_reducible refine Wp.sret ?_ | with_reducible refine Wp.ex ?_ | with_reducible refine Wp.nx ?_ | with_reducible refine Wp.sbk ?_ | with_reducible refine Wp.sct ?_ | (with_reducible refine Wp.aug ?_) | (with_reducible refine Wp.par ?_) | with_reducible refine parK ?_
  | (with_reducible refine Wp.tup ?_) | ((with_reducible refine tupK ?_ ?_); exact Nat.le_of_ble_eq_true rfl) | with_reducible refine Wp.lst ?_ | with_reducible refine Wp.m ?_ | with_reducible refine Wp.mlst ?_ | with_reducible refine Wp.andT ?_ | with_reducible refine Wp.orT ?_ | with_reducible refine Wp.if_ ?_
  | with_reducible refine Wp.un ?_ | with_reducible refine negK ?_ | with_reducible refine notK ?_
  | with_reducible refine jnK.nx ?_ | with_reducible refine jnK.rt ?_ | with_reducible refine fnK.rt ?_ | with_reducible refine fnK.nx ?_ | with_reducible refine lpK.nx ?_ | with_reducible refine lpK.ct ?_ | with_reducible refine lpK.bk ?_ | with_reducible refine lpK.rt ?_
  | with_reducible refine Wp.addI ?_ | with_reducible refine Wp.subI ?_ | with_reducible refine Wp.iaddI ?_ | with_reducible refine Wp.andI ?_ | ((with_reducible refine Wp.mulI ?_ ?_); first | exact .inl (by decide) | exact .inr (by decide)) | ((with_reducible refine Wp.modI ?_ ?_); exact (by decide)) | ((with_reducible refine Wp.divI ?_ ?_); exact (by decide))
  | with_reducible refine Wp.ltI ?_ | with_reducible refine Wp.leI ?_ | with_reducible refine Wp.gtI ?_ | with_reducible refine Wp.geI ?_ | with_reducible refine Wp.eqI ?_ | with_reducible refine Wp.neI ?_
  | with_reducible refine Wp.ixT0 ?_ | with_reducible refine Wp.ixT1 ?_ | ((with_reducible apply Wp.lenL); walk_at "rd") | with_reducible refine Wp.lenT ?_ | with_reducible refine Wp.lenR ?_
  | with_reducible refine Wp.isiT ?_ | with_reducible refine Wp.isiL ?_ | with_reducible refine Wp.isiI ?_ | with_reducible refine Wp.isiB ?_ | with_reducible refine Wp.isiS ?_ | with_reducible refine Wp.lz ?_ | with_reducible refine Wp.sfor ?_ | with_reducible refine Wp.iAny ?_ | ((with_reducible apply Wp.anyL); walk_at "rd"; try dsimp only [wipeE, List.set_cons_zero, List.set_cons_succ]) | ((with_reducible refine Wp.anyT ?_); try dsimp only [wipeE, List.set_cons_zero, List.set_cons_succ]) | ((with_reducible refine Wp.anyR ?_); try dsimp only [wipeE, List.set_cons_zero, List.set_cons_succ]) | ((with_reducible refine Wp.anyX ?_); try dsimp only [wipeE, List.set_cons_zero, List.set_cons_succ]) | with_reducible refine Wp.lc ?_
  | ((with_reducible apply Wp.tupL); walk_at "rd") | with_reducible refine Wp.tupT ?_ | with_reducible refine Wp.sl ?_ | with_reducible refine Wp.oNo ?_ | with_reducible refine Wp.oSo ?_ | with_reducible refine soK ?_ | with_reducible refine Wp.rg1 ?_ | with_reducible refine Wp.rg2 ?_ | with_reducible refine Wp.zip ?_ | with_reducible refine Wp.enum ?_ | with_reducible refine Wp.rev ?_
  | with_reducible refine Wp.kx ?_ | with_reducible refine Wp.kp ?_ | with_reducible refine Wp.dsp ?_ | with_reducible refine Wp.anC ?_ | with_reducible refine Wp.anN ?_ | with_reducible refine Wp.chain ?_ | with_reducible refine Wp.tch ?_ | with_reducible refine Wp.maxI ?_ | with_reducible refine Wp.absI ?_ | with_reducible refine Wp.isN ?_ | with_reducible refine Wp.isnN ?_ | with_reducible refine Wp.if_ ?_)
set_option hygiene false in
local macro_rules | `(tactic| walk_at "w") => `(tactic| repeat (walk_at "s"))
theorem Wp.slX {z : Str} {l u : Option Int} {h : Hb} {K : D → Hb → Prop} (hl : z.length ≤ 1000000) (k : K (.str (cutS z l u)) h) : Wp (oSlL (.str z) l u h) K := .of (a := .str (cutS z l u)) (by unfold oSlL; simp only [if_pos (show z.length ≤ sizeLine by rw [size_val]; omega)]) k
theorem datX {s : Str} {h : Hb} (hs : PyData.strOk s = true) : datF h 1000 (.str s) = some (.str s) := by rw [datF, if_pos hs]
theorem Wp.eqX {a b : Str} {h : Hb} {K : D → Hb → Prop} (ha : PyData.strOk a = true) (hb : PyData.strOk b = true) (k : K (.bl (a == b)) h) : Wp (oEq (.str a) (.str b) h) K := Wp.eqP (datX ha) (datX hb) (by rw [eqv_str]; exact k)
theorem Wp.neX {a b : Str} {h : Hb} {K : D → Hb → Prop} (ha : PyData.strOk a = true) (hb : PyData.strOk b = true) (k : K (.bl (!(a == b))) h) : Wp (oNe (.str a) (.str b) h) K := Wp.neP (datX ha) (datX hb) (by rw [eqv_str]; exact k)
theorem Wp.s1 {g : Str → Str → Option D} {a b : Dn} {ρ : En} {h : Hb} {K : D → Hb → Prop} (w : Wp (a ρ h) fun x h1 => Wp (b ρ h1) fun y h2 => ∃ s t d, x = .str s ∧ y = .str t ∧ g s t = some d ∧ K d h2) : Wp (dS1 g a b ρ h) K :=
  .bnd (w.mono fun x h1 w => .bnd (w.mono fun y h2 ⟨s, t, d, e1, e2, e3, k⟩ => by subst e1 e2; exact ⟨d, h2, by simp only [e3]; rfl, k⟩))
theorem swK {s t : Str} {P : D → Prop} (k : P (.bl (Txt.startswith s t))) : ∃ s' t' d, D.str s = .str s' ∧ D.str t = .str t' ∧ gSw s' t' = some d ∧ P d := ⟨s, t, _, rfl, rfl, rfl, k⟩
theorem Wp.lenX {z : Str} {h : Hb} {K : D → Hb → Prop} (hl : z.length ≤ 1000000) (k : K (.int ((z.length : Nat) : Int)) h) : Wp (oLen [.str z] h) K := .of (a := .int ((z.length : Nat) : Int)) (by unfold oLen lenD; simp only [if_pos (show z.length ≤ sizeLine by rw [size_val]; omega)]; rfl) k
theorem way_eq (u v : Ad) : (wayS u == wayS v) = decide (u = v) := by
  rw [Bool.eq_iff_iff, beq_iff_eq, decide_eq_true_eq]
  exact ⟨wayS_inj, fun e => by rw [e]⟩
theorem adr_hl : ∀ (t : Tr) (c : Ad) {u : Ad}, u ∈ adr t c → u.length ≤ c.length + t.hgt
  | .leaf, c, u, h => by simp [adr] at h; subst h; simp
  | .node l r, c, u, h => by
    simp only [adr, List.mem_append] at h
    rcases h with h | h
    · have := adr_hl l _ h; simp only [Tr.hgt, List.length_cons] at this ⊢; omega
    · have := adr_hl r _ h; simp only [Tr.hgt, List.length_cons] at this ⊢; omega
def w2 (p : Pa) : D := .tup [.str (wayS p.1), .str (wayS p.2)]
theorem pa_short {a b : Tr} {p : Pa} (h : p ∈ pa a b) : p.1.length < a.lvs ∧ p.2.length < b.lvs := by
  have h1 := List.of_mem_zip h
  have a1 := adr_hl a [] h1.1
  have b1 := adr_hl b [] h1.2
  have := Tr.hgt_lt a
  have := Tr.hgt_lt b
  simp at a1 b1
  omega
/-! ### halves -/
def hvQ (a b : Ad) : Bool := decide (a.take 1 = [false]) && decide (b.take 1 = [true]) && decide (a.tail = b.tail)
theorem mrg_hv (y x : Pa) : (mrg y x).isSome = (hvQ y.1 x.1 && hvQ y.2 x.2) := by
  obtain ⟨y1, y2⟩ := y
  obtain ⟨x1, x2⟩ := x
  unfold hvQ
  cases y1 with
  | nil => simp [mrg]
  | cons a y1 =>
    cases y2 with
    | nil => simp [mrg]
    | cons b y2 =>
      cases x1 with
      | nil => cases a <;> simp [mrg]
      | cons c x1 =>
        cases x2 with
        | nil => cases a <;> cases b <;> cases c <;> simp [mrg]
        | cons d x2 =>
          cases a <;> cases b <;> cases c <;> cases d <;> simp [mrg]
          by_cases e1 : y1 = x1 <;> by_cases e2 : y2 = x2 <;> simp [e1, e2]
section
variable {h0 h : Hb} {L F : List (Nat × List D)} {K : D → Hb → Prop} {n : Nat}
def zD (x : Ad × Ad) : D := .tup [.str (wayS x.1), .str (wayS x.2)]
theorem halves_wp {y x : Pa} (hy : y.1.length ≤ 1000 ∧ y.2.length ≤ 1000) (hx : x.1.length ≤ 1000 ∧ x.2.length ≤ 1000) (k : K (.bl (mrg y x).isSome) h) : Wp (d_law_halves [w2 y, w2 x] h) K := by
  unfold d_law_halves
  refine Wp.run [some (w2 y), some (w2 x), none, none] rfl ?_
  unfold b_law_halves
  walk_at "w"
  refine Wp.zipT ?_
  walk_at "w"
  refine ⟨_, _, rfl, ?_⟩
  rw [show zipD [D.str (wayS y.1), .str (wayS y.2)] [D.str (wayS x.1), .str (wayS x.2)] = [(y.1, x.1), (y.2, x.2)].map zD from rfl]
  refine Wp.forI zD [(y.1, x.1), (y.2, x.2)] (fun as _ ρ h' => h' = h ∧ (as.all fun p => hvQ p.1 p.2) = true ∧ ∃ p q, ρ = [some (w2 y), some (w2 x), p, q]) ⟨rfl, rfl, _, _, rfl⟩ (fun _ _ _ _ _ => trivial) ?_ ?_
  · rintro as ⟨a, b⟩ bs _ h1 hxs ⟨rfl, ha, p, q, rfl⟩
    have hm : (a, b) ∈ [(y.1, x.1), (y.2, x.2)] := by rw [hxs]; simp
    have hl : a.length ≤ 1000 ∧ b.length ≤ 1000 := by
      simp only [List.mem_cons, Prod.mk.injEq, List.not_mem_nil, or_false] at hm
      rcases hm with ⟨rfl, rfl⟩ | ⟨rfl, rfl⟩
      · exact ⟨hy.1, hx.1⟩
      · exact ⟨hy.2, hx.2⟩
    have bad : hvQ a b = false → mrg y x = none := fun e => by
      have := mrg_hv y x
      have h3 : (hvQ y.1 x.1 && hvQ y.2 x.2) = false := by
        simp only [List.mem_cons, Prod.mk.injEq, List.not_mem_nil, or_false] at hm
        rcases hm with ⟨rfl, rfl⟩ | ⟨rfl, rfl⟩
        · rw [e]; rfl
        · rw [e, Bool.and_false]
      rw [h3] at this
      simpa using this
    rw [show zD (a, b) = .tup [.str (wayS a), .str (wayS b)] from rfl]
    walk_at "w"
    refine Wp.slX (by rw [wayS_len]; omega) ?_
    rw [cut_last]
    walk_at "w"
    rw [show (("0" : Str)) = wayS [false] by decide]
    refine Wp.neX (wayS_ok _) (wayS_ok _) ?_
    rw [way_eq]
    walk_at "w"
    refine ⟨fun hc => ?_, fun hc => ?_⟩
    · walk_at "w"
      have := bad (by unfold hvQ; simp at hc; simp [hc])
      rw [this] at k
      exact k
    walk_at "w"
    refine Wp.slX (by rw [wayS_len]; omega) ?_
    rw [cut_last]
    walk_at "w"
    rw [show (("1" : Str)) = wayS [true] by decide]
    refine Wp.neX (wayS_ok _) (wayS_ok _) ?_
    rw [way_eq]
    walk_at "w"
    refine ⟨fun hc2 => ?_, fun hc2 => ?_⟩
    · walk_at "w"
      have := bad (by unfold hvQ; simp at hc2; simp [hc2])
      rw [this] at k
      exact k
    walk_at "w"
    refine Wp.slX (by rw [wayS_len]; omega) ?_
    rw [cut_init]
    walk_at "w"
    refine Wp.slX (by rw [wayS_len]; omega) ?_
    rw [cut_init]
    refine Wp.neX (wayS_ok _) (wayS_ok _) ?_
    rw [way_eq]
    walk_at "w"
    refine ⟨fun hc3 => ?_, fun hc3 => ?_⟩
    · walk_at "w"
      have := bad (by unfold hvQ; simp at hc3; simp [hc3])
      rw [this] at k
      exact k
    walk_at "w"
    refine ⟨rfl, ?_, _, _, rfl⟩
    rw [List.all_append, ha]
    simp at hc hc2 hc3
    simp [hvQ, hc, hc2, hc3]
  · rintro _ h1 ⟨rfl, ha, p, q, rfl⟩
    walk_at "w"
    have : (mrg y x).isSome = true := by
      rw [mrg_hv]
      simpa using ha
    rw [this] at k
    exact k
end
end C

set_option Elab.async false
set_option linter.all false
set_option maxRecDepth 100000
set_option maxHeartbeats 4000000
namespace C
open PySem L2 Hv
local macro_rules | `(tactic| walk_at "sl") => `(tactic| repeat (first | exact List.nil_sublist _ | (with_reducible exact List.Sublist.refl _) | (with_reducible refine List.Sublist.cons₂ _ ?_) | (refine List.Sublist.cons _ ?_)))
set_option hygiene false in
local macro_rules | `(tactic| walk_at "rd") => `(tactic| first | exact S.get (i := 0) rfl | exact S.get (i := 1) rfl | exact S.get (i := 2) rfl | exact S.get (i := 3) rfl | exact S.get (i := 4) rfl | exact S.get (i := 5) rfl | assumption | exact S.old (by assumption))
set_option hygiene false in
local macro_rules | `(tactic| walk_at "s") => `(tactic| first
  | with_reducible refine Wp.seq ?_ | with_reducible refine sqK.nx ?_ | with_reducible refine sqK.rt ?_ | with_reducible refine Wp.asg ?_
  | ((with_reducible apply Wp.var); exact rfl) | with_reducible refine Wp.con ?_ | with_reducible refine Wp.bin ?_ | with_reducible refine Wp.call ?_ | with_reducible refine Wp.acons ?_ | with_reducible refine Wp.anil ?_
  | ((with_reducible refine Wp.gNm ?_); try dsimp only [List.set_cons_zero, List.set_cons_succ]) | with_reducible refine Wp.gTp ?_ | with_reducible refine Wp.gsC ?_ | with_reducible refine Wp.gsN ?_ | with_reducible refine Wp.gIx ?_ | with_reducible refine Wp.gSl ?_
  | with_reducible refine Wp.sif ?_ | with_reducible refine Wp.tCm ?_ | with_reducible refine exB ?_ | with_reducible refine brT ?_ | with_reducible refine brF ?_ | with_reducible refine brNT ?_ | with_reducible refine brNF ?_ | with_reducible refine Wp.tT ?_ | with_reducible refine truB ?_ | with_reducible refine truI ?_ | with_reducible refine truT ?_ | with_reducible refine truN ?_
  | ((with_reducible apply truL); walk_at "rd") | with_reducible refine Wp.tNt ?_ | with_reducible refine Wp.tAn ?_ | with_reducible refine Wp.tOr ?_ | with_reducible refine Wp.tYs ?_
  | with_reducible refine Wp.sret ?_ | with_reducible refine Wp.ex ?_ | with_reducible refine Wp.nx ?_ | with_reducible refine Wp.sbk ?_ | with_reducible refine Wp.sct ?_ | (with_reducible refine Wp.aug ?_) | (with_reducible refine Wp.par ?_) | with_reducible refine parK ?_
  | (with_reducible refine Wp.tup ?_) | ((with_reducible refine tupK ?_ ?_); exact Nat.le_of_ble_eq_true rfl) | with_reducible refine Wp.lst ?_ | with_reducible refine Wp.m ?_ | with_reducible refine Wp.mlst ?_ | with_reducible refine Wp.andT ?_ | with_reducible refine Wp.orT ?_ | with_reducible refine Wp.if_ ?_
  | with_reducible refine Wp.un ?_ | with_reducible refine negK ?_ | with_reducible refine notK ?_
  | with_reducible refine jnK.nx ?_ | with_reducible refine jnK.rt ?_ | with_reducible refine fnK.rt ?_ | with_reducible refine fnK.nx ?_ | with_reducible refine lpK.nx ?_ | with_reducible refine lpK.ct ?_ | with_reducible refine lpK.bk ?_ | with_reducible refine lpK.rt ?_
  | with_reducible refine Wp.addI ?_ | with_reducible refine Wp.subI ?_ | with_reducible refine Wp.iaddI ?_ | with_reducible refine Wp.andI ?_ | ((with_reducible refine Wp.mulI ?_ ?_); first | exact .inl (by decide) | exact .inr (by decide)) | ((with_reducible refine Wp.modI ?_ ?_); exact (by decide)) | ((with_reducible refine Wp.divI ?_ ?_); exact (by decide))
  | with_reducible refine Wp.ltI ?_ | with_reducible refine Wp.leI ?_ | with_reducible refine Wp.gtI ?_ | with_reducible refine Wp.geI ?_ | with_reducible refine Wp.eqI ?_ | with_reducible refine Wp.neI ?_
  | with_reducible refine Wp.ixT0 ?_ | with_reducible refine Wp.ixT1 ?_ | ((with_reducible apply Wp.lenL); walk_at "rd") | with_reducible refine Wp.lenT ?_ | with_reducible refine Wp.lenR ?_
  | with_reducible refine Wp.isiT ?_ | with_reducible refine Wp.isiL ?_ | with_reducible refine Wp.isiI ?_ | with_reducible refine Wp.isiB ?_ | with_reducible refine Wp.isiS ?_ | with_reducible refine Wp.lz ?_ | with_reducible refine Wp.sfor ?_ | with_reducible refine Wp.iAny ?_ | ((with_reducible apply Wp.anyL); walk_at "rd"; try dsimp only [wipeE, List.set_cons_zero, List.set_cons_succ]) | ((with_reducible refine Wp.anyT ?_); try dsimp only [wipeE, List.set_cons_zero, List.set_cons_succ]) | ((with_reducible refine Wp.anyR ?_); try dsimp only [wipeE, List.set_cons_zero, List.set_cons_succ]) | ((with_reducible refine Wp.anyX ?_); try dsimp only [wipeE, List.set_cons_zero, List.set_cons_succ]) | with_reducible refine Wp.lc ?_
  | ((with_reducible apply Wp.tupL); walk_at "rd") | with_reducible refine Wp.tupT ?_ | with_reducible refine Wp.sl ?_ | with_reducible refine Wp.oNo ?_ | with_reducible refine Wp.oSo ?_ | with_reducible refine soK ?_ | with_reducible refine Wp.rg1 ?_ | with_reducible refine Wp.rg2 ?_ | with_reducible refine Wp.zip ?_ | with_reducible refine Wp.enum ?_ | with_reducible refine Wp.rev ?_
  | with_reducible refine Wp.kx ?_ | with_reducible refine Wp.kp ?_ | with_reducible refine Wp.dsp ?_ | with_reducible refine Wp.anC ?_ | with_reducible refine Wp.anN ?_ | with_reducible refine Wp.chain ?_ | with_reducible refine Wp.tch ?_ | with_reducible refine Wp.maxI ?_ | with_reducible refine Wp.absI ?_ | with_reducible refine Wp.isN ?_ | with_reducible refine Wp.isnN ?_ | with_reducible refine Wp.if_ ?_)
set_option hygiene false in
local macro_rules | `(tactic| walk_at "w") => `(tactic| repeat (walk_at "s"))
section
variable {h0 h : Hb} {L F : List (Nat × List D)} {K : D → Hb → Prop} {n : Nat}
theorem Wp.putLast {n i : Nat} {xs : List D} {d d0 : D} {ρ : En} {KE : En → Hb → Prop} (S : Hv.St h0 L h) (e : L[i]? = some (n, xs ++ [d0])) (k : ∀ h', Hv.St h0 (L.set i (n, xs ++ [d])) h' → KE ρ h') : Wp (putI (.lst n) (.int (-1)) d ρ h) KE := by
  refine ⟨ρ, _, ?_, k _ (S.put e _)⟩
  show (match h[n]? with
    | some xs => match ixN xs.length (-1) with
      | some j => some (ρ, h.set n (xs.set j d))
      | none => none
    | none => none) = _
  have : ixN (xs ++ [d0]).length (-1) = some xs.length := by
    unfold ixN
    rw [if_neg (by decide), List.length_append, List.length_singleton, if_pos (by omega)]
    congr 1
    omega
  rw [S.get e]
  simp only [this]
  rw [List.set_append_right _ _ (Nat.le_refl _), Nat.sub_self]
  rfl
def wl (f : Tr × Tr) : List D := (pa f.1 f.2).map w2
theorem ltrim_wp {f : Tr × Tr} {n : Nat} (e : Ok f) (hn : h[n]? = some (wl f)) (ht : f.1.lvs ≤ 900) (S : Hv.St h0 L h) (k : ∀ m h', Hv.St h0 ((m, wl (trim f)) :: L) h' → K (.lst m) h') : Wp (d_law_trim [.lst n] h) K := by
  obtain ⟨a, b⟩ := f
  have l1 := pa_length e
  unfold d_law_trim
  refine Wp.run [some (.lst n), none, none, none, none] rfl ?_
  unfold b_law_trim
  have T : Hv.St h [] h := .nil
  walk_at "w"
  refine Wp.new T (line8 (Nat.le_of_ble_eq_true rfl)) fun kp h1 T => ?_
  walk_at "w"
  refine Wp.anyL (T.old hn) ?_
  refine Wp.forI w2 (pa a b) (fun as bs ρ h' => ∃ (p q r : Option D) (a' b' : Tr), a'.lvs = b'.lvs ∧ a'.lvs ≤ 900 ∧ pa a' b' = (as.foldl psh []).reverse ++ bs ∧ ρ = [some (.lst n), some (.lst kp), p, q, r] ∧ Hv.St h [(kp, ((as.foldl psh []).reverse).map w2)] h') ⟨none, none, none, a, b, e, ht, rfl, rfl, T⟩ (fun _ _ _ _ ⟨_, _, _, _, _, _, _, _, _, T⟩ => T.old hn) ?_ ?_
  · rintro as x bs _ h1 hx ⟨p, q, r, a', b', e', ht', hp, rfl, T⟩
    rw [List.foldl_append]
    show Wp _ _
    generalize as.foldl psh [] = s at hp T ⊢
    have l2 := pa_length e'
    rw [hp] at l2
    simp at l2
    rw [show w2 x = .tup [.str (wayS x.1), .str (wayS x.2)] from rfl]
    walk_at "w"
    refine Wp.app (i := 0) T rfl (by simp; omega) fun h1 T => ?_
    walk_at "w"
    refine Wp.whl (fun m ρ h' => ∃ (r : Option D) (s' : List Pa) (x' : Pa) (a' b' : Tr), m = s'.length ∧ psh s' x' = psh s x ∧ a'.lvs = b'.lvs ∧ a'.lvs ≤ 900 ∧ pa a' b' = s'.reverse ++ x' :: bs ∧ ρ = [some (.lst n), some (.lst kp), some (.str (wayS x.1)), some (.str (wayS x.2)), r] ∧ Hv.St h [(kp, ((x' :: s').reverse).map w2)] h') s.length ⟨_, s, x, a', b', rfl, rfl, e', ht', hp, rfl, by rw [List.reverse_cons, List.map_append]; exact T⟩ ?_
    rintro m _ h1 ⟨r, s', x', a', b', rfl, ep, e', ht', hp, rfl, T⟩
    have l2 := pa_length e'
    rw [hp] at l2
    simp at l2
    cases s' with
    | nil =>
      walk_at "w"
      refine Wp.lenL (T.get (i := 0) rfl) ?_
      walk_at "w"
      rw [decide_eq_false (p := (1 : Int) < _) (by simp)]
      walk_at "w"
      exact ⟨_, _, _, a', b', e', ht', by show _ = (psh s x).reverse ++ bs; rw [← ep]; exact hp, rfl, by show Hv.St h [(kp, ((psh s x).reverse).map w2)] h1; rw [← ep]; exact T⟩
    | cons y s' =>
      have eq : ((x' :: y :: s').reverse).map w2 = (s'.reverse.map w2 ++ [w2 y]) ++ [w2 x'] := by simp
      have eq2 : ((x' :: y :: s').reverse).map w2 = s'.reverse.map w2 ++ [w2 y, w2 x'] := by simp
      have hy := pa_short (a := a') (b := b') (p := y) (by rw [hp]; simp)
      have hx' := pa_short (a := a') (b := b') (p := x') (by rw [hp]; simp)
      walk_at "w"
      refine Wp.lenL (T.get (i := 0) rfl) ?_
      walk_at "w"
      rw [decide_eq_true (p := (1 : Int) < _) (by rw [eq2]; simp only [List.length_append, List.length_map, List.length_reverse, List.length_cons, List.length_nil]; omega)]
      walk_at "w"
      refine .of (ix_last2 (by rw [T.get (i := 0) rfl, eq2])) ?_
      walk_at "w"
      refine .of (ix_last (by rw [T.get (i := 0) rfl, eq])) ?_
      walk_at "w"
      refine halves_wp ⟨by omega, by omega⟩ ⟨by omega, by omega⟩ ?_
      walk_at "w"
      refine ⟨fun hc => ?_, fun hc => ?_⟩
      · obtain ⟨z, hz⟩ := Option.isSome_iff_exists.mp hc
        obtain ⟨rfl, rfl⟩ := mrg_some hz
        rw [eq] at T
        walk_at "w"
        refine Wp.pop (i := 0) T rfl fun h1 T => ?_
        rw [show w2 (true :: z.1, true :: z.2) = .tup [.str (wayS (true :: z.1)), .str (wayS (true :: z.2))] from rfl]
        simp only [List.length_cons] at hx'
        walk_at "w"
        refine Wp.slX (by rw [wayS_len, List.length_cons]; omega) ?_
        rw [cut_init]
        walk_at "w"
        refine Wp.slX (by rw [wayS_len, List.length_cons]; omega) ?_
        rw [cut_init]
        walk_at "w"
        refine Wp.putLast (i := 0) T rfl fun h1 T => ?_
        walk_at "w"
        obtain ⟨a2, b2, e2, h2, x2⟩ := mrg_ex (s := s'.reverse) (rest := bs) e' (by rw [hp]; simp) hz
        refine ⟨s'.length, by simp, _, s', z, a2, b2, rfl, ?_, e2, ?_, h2, rfl, by rw [List.reverse_cons, List.map_append]; exact T⟩
        · rw [← ep, psh, hz]
        · have := (x2.lvs e2).2; simp only at this; omega
      · have hz : mrg y x' = none := by
          cases hq : mrg y x' with
          | none => rfl
          | some z => rw [hq] at hc; cases hc
        have ep' : psh s x = x' :: y :: s' := by rw [← ep, psh, hz]
        exact ⟨_, _, _, a', b', e', ht', by show _ = (psh s x).reverse ++ bs; rw [ep', hp]; simp, rfl, by show Hv.St h [(kp, ((psh s x).reverse).map w2)] h1; rw [ep']; exact T⟩
  rintro _ h1 ⟨p, q, r, a', b', e', ht', hp, rfl, T⟩
  have q : nf (pa a b) = pa (trim (a, b)).1 (trim (a, b)).2 := (trim_pa (f := (a, b)) e).symm
  rw [show ((pa a b).foldl psh []).reverse = nf (pa a b) from rfl, q] at T
  walk_at "w"
  exact k _ _ (S.call T)
theorem lback_wp {f : Tr × Tr} {n : Nat} (hn : h[n]? = some (wl f)) (hl : (pa f.1 f.2).length ≤ 900) (S : Hv.St h0 L h) (k : ∀ m h', Hv.St h0 ((m, wl (bck f)) :: L) h' → K (.lst m) h') : Wp (d_law_back [.lst n] h) K := by
  unfold d_law_back
  refine Wp.run [some (.lst n), none, none] rfl ?_
  unfold b_law_back
  walk_at "w"
  refine Wp.lcM w2 (fun x => w2 (swp x)) (pa f.1 f.2) (fun h' => h' = h) rfl (fun h' e => by rw [e]; exact hn) (fun x _ h' e => ?_) fun h' e => ?_
  · rw [show w2 x = .tup [.str (wayS x.1), .str (wayS x.2)] from rfl]
    walk_at "w"
    refine ⟨rfl, ?_⟩
    walk_at "w"
    exact ⟨rfl, e⟩
  subst e
  refine Wp.new S (by rw [List.length_map, size_val]; omega) fun m h S => ?_
  have ee : (pa f.1 f.2).map (fun x => w2 (swp x)) = wl (bck f) := by
    unfold wl bck
    rw [pa_swp f.1 f.2, List.map_map]
    rfl
  rw [ee] at S
  walk_at "w"
  exact k m h S
/-! ### then -/
theorem lthen_wp {f g : Tr × Tr} {n m : Nat} (ef : Ok f) (eg : Ok g) (hn : h[n]? = some (wl f)) (hm : h[m]? = some (wl g)) (hf : f.1.lvs ≤ 100) (hg : g.1.lvs ≤ 100) (S : Hv.St h0 L h) (k : ∀ m h', Hv.St h0 ((m, wl (cmp f g)) :: L) h' → K (.lst m) h') : Wp (d_law_then [.lst n, .lst m] h) K := by
  have lf := pa_length ef
  have lg := pa_length eg
  have eraw := raw_ok ef eg
  have lraw : (raw f g).1.lvs ≤ 200 := by
    have h1 : (graft f.1 (beneath f.2 g.1)).lvs = (joinT f.2 g.1).lvs := (cmp_raw_lvs ef eg).1
    have h2 := joinT_lt f.2 g.1
    have h3 : f.1.lvs = f.2.lvs := ef
    show (graft f.1 (beneath f.2 g.1)).lvs ≤ 200
    omega
  have lE := pa_length eraw
  unfold d_law_then
  refine Wp.run [some (.lst n), some (.lst m), none, none, none, none, none, none, none] rfl ?_
  unfold b_law_then
  have T : Hv.St h [] h := .nil
  walk_at "w"
  refine Wp.new T (line8 (Nat.le_of_ble_eq_true rfl)) fun kp h1 T => ?_
  walk_at "w"
  refine Wp.join (fun ρ h' => (∃ p3 p4 p5 p6 p7 p8 : Option D, ρ = [some (.lst n), some (.lst m), some (.lst kp), p3, p4, p5, p6, p7, p8]) ∧ Hv.St h [(kp, wl (raw f g))] h') ?_ ?_
  · refine Wp.whl (fun q ρ h' => ∃ (p5 p6 p7 p8 : Option D) (i j : Nat) (acc rest : List Pa), i ≤ f.1.lvs ∧ j ≤ g.1.lvs ∧ q = (f.1.lvs - i) + (g.1.lvs - j) ∧ (∃ fuel, mg fuel ((pa f.1 f.2).drop i) ((pa g.1 g.2).drop j) = some rest) ∧ acc ++ rest = pa (raw f g).1 (raw f g).2 ∧
        ρ = [some (.lst n), some (.lst m), some (.lst kp), some (.int ((i : Nat) : Int)), some (.int ((j : Nat) : Int)), p5, p6, p7, p8] ∧ Hv.St h [(kp, acc.map w2)] h') ((f.1.lvs - 0) + (g.1.lvs - 0))
      ⟨none, none, none, none, 0, 0, [], _, Nat.zero_le _, Nat.zero_le _, rfl, ⟨_, mg_raw ef eg⟩, rfl, rfl, T⟩ ?_
    rintro q _ h1 ⟨p5, p6, p7, p8, i, j, acc, rest, hi, hj, rfl, ⟨fuel, hmg⟩, hacc, rfl, T⟩
    have hn1 : h1[n]? = some (wl f) := T.old hn
    have hm1 : h1[m]? = some (wl g) := T.old hm
    have la : acc.length ≤ 200 := by have := congrArg List.length hacc; rw [List.length_append] at this; omega
    walk_at "w"
    rw [show (wl f).length = f.1.lvs by unfold wl; rw [List.length_map, lf]]
    walk_at "w"
    refine ⟨fun hc => ?_, fun hc => ?_⟩
    · have hi' : i < f.1.lvs := by simp at hc; omega
      walk_at "w"
      rw [show (wl g).length = g.1.lvs by unfold wl; rw [List.length_map, lg]]
      walk_at "w"
      refine ⟨fun hc => ?_, fun hc => ?_⟩
      · have hj' : j < g.1.lvs := by simp at hc; omega
        have xi : (pa f.1 f.2)[i]? = some ((pa f.1 f.2)[i]'(by omega)) := List.getElem?_eq_getElem _
        have yj : (pa g.1 g.2)[j]? = some ((pa g.1 g.2)[j]'(by omega)) := List.getElem?_eq_getElem _
        have dx : (pa f.1 f.2).drop i = (pa f.1 f.2)[i]'(by omega) :: (pa f.1 f.2).drop (i + 1) := List.drop_eq_getElem_cons _
        have dy : (pa g.1 g.2).drop j = (pa g.1 g.2)[j]'(by omega) :: (pa g.1 g.2).drop (j + 1) := List.drop_eq_getElem_cons _
        have sx := pa_short (List.mem_of_getElem? xi)
        have sy := pa_short (List.mem_of_getElem? yj)
        generalize (pa f.1 f.2)[i]'(by omega) = x at xi dx sx
        generalize (pa g.1 g.2)[j]'(by omega) = y at yj dy sy
        obtain ⟨a, b⟩ := x
        obtain ⟨c, d⟩ := y
        simp only at sx sy
        have e1 : f.1.lvs = f.2.lvs := ef
        have e2 : g.1.lvs = g.2.lvs := eg
        rw [dx, dy] at hmg
        cases fuel with
        | zero => cases hmg
        | succ fuel =>
        rw [mg] at hmg
        walk_at "w"
        refine Wp.ixL hn1 (d := w2 (a, b)) (by unfold wl; rw [List.getElem?_map, xi]; rfl) ?_
        rw [show w2 (a, b) = .tup [.str (wayS a), .str (wayS b)] from rfl]
        walk_at "w"
        refine Wp.ixL hm1 (d := w2 (c, d)) (by unfold wl; rw [List.getElem?_map, yj]; rfl) ?_
        rw [show w2 (c, d) = .tup [.str (wayS c), .str (wayS d)] from rfl]
        walk_at "w"
        refine Wp.s1 ?_
        walk_at "w"
        refine swK ?_
        rw [sw_way]
        walk_at "w"
        refine ⟨fun hc => ?_, fun hc => ?_⟩
        · have hs : c <:+ b := by simpa using hc
          rw [if_pos hs] at hmg
          obtain ⟨r, rfl⟩ := hs
          rw [take_suf] at hmg
          obtain ⟨rest', hm2, er⟩ := Option.map_eq_some_iff.mp hmg
          subst er
          simp only [List.length_append] at sx
          walk_at "w"
          refine Wp.lenX (by rw [wayS_len]; omega) ?_
          rw [wayS_len]
          walk_at "w"
          refine Wp.slX (by rw [wayS_len, List.length_append]; omega) ?_
          rw [cut_rest]
          refine Wp.addS (by rw [wayS_len, wayS_len]; omega) ?_
          rw [wayS_app]
          walk_at "w"
          refine Wp.app (i := 0) T rfl (by rw [List.length_map]; omega) fun h1 T => ?_
          walk_at "w"
          refine Wp.lenX (by rw [wayS_len]; omega) ?_
          rw [wayS_len]
          walk_at "w"
          refine Wp.slX (by rw [wayS_len, List.length_append]; omega) ?_
          rw [cut_rest, s0]
          refine Wp.notinS ?_
          rw [wayS_mem]
          walk_at "w"
          refine Wp.int1C ?_
          walk_at "w"
          have T' : Hv.St h [(kp, (acc ++ [(a, r ++ d)]).map w2)] h1 := by rw [List.map_append]; exact T
          rw [show (!r.contains false) = ones r from rfl]
          cases ho : ones r with
          | true =>
            rw [ho, if_pos rfl] at hm2
            exact ⟨(f.1.lvs - (i + 1)) + (g.1.lvs - (j + 1)), by omega, _, _, _, _, i + 1, j + 1, acc ++ [(a, r ++ d)], rest', by omega, by omega, rfl, ⟨fuel, hm2⟩, by rw [← hacc]; simp, rfl, T'⟩
          | false =>
            rw [ho, if_neg (by decide), ← dy] at hm2
            exact ⟨(f.1.lvs - (i + 1)) + (g.1.lvs - j), by omega, _, _, _, _, i + 1, j, acc ++ [(a, r ++ d)], rest', by omega, by omega, rfl, ⟨fuel, hm2⟩, by rw [← hacc]; simp, by show _ = [_, _, _, _, _, _, _, _, _]; rfl, T'⟩
        have hs : ¬ c <:+ b := by simpa using hc
        rw [if_neg hs] at hmg
        walk_at "w"
        refine Wp.s1 ?_
        walk_at "w"
        refine swK ?_
        rw [sw_way]
        walk_at "w"
        refine ⟨fun hc => ?_, fun hc => ?_⟩
        · have hs : b <:+ c := by simpa using hc
          rw [if_pos hs] at hmg
          obtain ⟨r, rfl⟩ := hs
          rw [take_suf] at hmg
          obtain ⟨rest', hm2, er⟩ := Option.map_eq_some_iff.mp hmg
          subst er
          simp only [List.length_append] at sy
          walk_at "w"
          refine Wp.lenX (by rw [wayS_len]; omega) ?_
          rw [wayS_len]
          walk_at "w"
          refine Wp.slX (by rw [wayS_len, List.length_append]; omega) ?_
          rw [cut_rest]
          refine Wp.addS (by rw [wayS_len, wayS_len]; omega) ?_
          rw [wayS_app]
          walk_at "w"
          refine Wp.app (i := 0) T rfl (by rw [List.length_map]; omega) fun h1 T => ?_
          walk_at "w"
          refine Wp.lenX (by rw [wayS_len]; omega) ?_
          rw [wayS_len]
          walk_at "w"
          refine Wp.slX (by rw [wayS_len, List.length_append]; omega) ?_
          rw [cut_rest, s0]
          refine Wp.notinS ?_
          rw [wayS_mem]
          walk_at "w"
          refine Wp.int1C ?_
          walk_at "w"
          have T' : Hv.St h [(kp, (acc ++ [(r ++ a, d)]).map w2)] h1 := by rw [List.map_append]; exact T
          rw [show (!r.contains false) = ones r from rfl]
          cases ho : ones r with
          | true =>
            rw [ho, if_pos rfl] at hm2
            exact ⟨(f.1.lvs - (i + 1)) + (g.1.lvs - (j + 1)), by omega, _, _, _, _, i + 1, j + 1, acc ++ [(r ++ a, d)], rest', by omega, by omega, rfl, ⟨fuel, hm2⟩, by rw [← hacc]; simp, rfl, T'⟩
          | false =>
            rw [ho, if_neg (by decide), ← dx] at hm2
            exact ⟨(f.1.lvs - i) + (g.1.lvs - (j + 1)), by omega, _, _, _, _, i, j + 1, acc ++ [(r ++ a, d)], rest', by omega, by omega, rfl, ⟨fuel, hm2⟩, by rw [← hacc]; simp, by show _ = [_, _, _, _, _, _, _, _, _]; rfl, T'⟩
        · have hs : ¬ b <:+ c := by simpa using hc
          rw [if_neg hs] at hmg
          cases hmg
      · have hj' : j = g.1.lvs := by simp at hc; omega
        have : (pa g.1 g.2).drop j = [] := List.drop_eq_nil_of_le (by omega)
        rw [this] at hmg
        have er : rest = [] := by
          cases hq : (pa f.1 f.2).drop i with
          | nil => rw [hq, mg] at hmg; exact (Option.some.inj hmg).symm
          | cons x xs => rw [hq, mg] at hmg; exact (Option.some.inj hmg).symm
        subst er
        rw [List.append_nil] at hacc
        subst hacc
        walk_at "w"
        exact ⟨⟨_, _, _, _, _, _, rfl⟩, T⟩
    · have hi' : i = f.1.lvs := by simp at hc; omega
      have : (pa f.1 f.2).drop i = [] := List.drop_eq_nil_of_le (by omega)
      rw [this, mg] at hmg
      cases hmg
      rw [List.append_nil] at hacc
      subst hacc
      walk_at "w"
      exact ⟨⟨_, _, _, _, _, _, rfl⟩, T⟩
  · rintro _ h1 ⟨⟨p3, p4, p5, p6, p7, p8, rfl⟩, T⟩
    walk_at "w"
    refine ltrim_wp eraw (T.get (i := 0) rfl) (by omega) T fun m h1 T => ?_
    walk_at "w"
    exact k m h1 (S.call (T.sub (.cons₂ _ (.cons _ (List.Sublist.refl _)))))
end
end C

set_option Elab.async false
set_option linter.all false
set_option maxRecDepth 100000
set_option maxHeartbeats 4000000
namespace C
open PySem L2 Hv
local macro_rules | `(tactic| walk_at "sl") => `(tactic| repeat (first | exact List.nil_sublist _ | (with_reducible exact List.Sublist.refl _) | (with_reducible refine List.Sublist.cons₂ _ ?_) | (refine List.Sublist.cons _ ?_)))
set_option hygiene false in
local macro_rules | `(tactic| walk_at "rd") => `(tactic| first | exact S.get (i := 0) rfl | exact S.get (i := 1) rfl | exact S.get (i := 2) rfl | exact S.get (i := 3) rfl | exact S.get (i := 4) rfl | exact S.get (i := 5) rfl | assumption | exact S.old (by assumption))
set_option hygiene false in
local macro_rules | `(tactic| walk_at "s") => `(tactic| first
  | with_reducible refine Wp.seq ?_ | with_reducible refine sqK.nx ?_ | with_reducible refine sqK.rt ?_ | with_reducible refine Wp.asg ?_
  | ((with_reducible apply Wp.var); exact rfl) | with_reducible refine Wp.con ?_ | with_reducible refine Wp.bin ?_ | with_reducible refine Wp.call ?_ | with_reducible refine Wp.acons ?_ | with_reducible refine Wp.anil ?_
  | ((with_reducible refine Wp.gNm ?_); try dsimp only [List.set_cons_zero, List.set_cons_succ]) | with_reducible refine Wp.gTp ?_ | with_reducible refine Wp.gsC ?_ | with_reducible refine Wp.gsN ?_ | with_reducible refine Wp.gIx ?_ | with_reducible refine Wp.gSl ?_
  | with_reducible refine Wp.sif ?_ | with_reducible refine Wp.tCm ?_ | with_reducible refine exB ?_ | with_reducible refine brT ?_ | with_reducible refine brF ?_ | with_reducible refine brNT ?_ | with_reducible refine brNF ?_ | with_reducible refine Wp.tT ?_ | with_reducible refine truB ?_ | with_reducible refine truI ?_ | with_reducible refine truT ?_ | with_reducible refine truN ?_
  | ((with_reducible apply truL); walk_at "rd") | with_reducible refine Wp.tNt ?_ | with_reducible refine Wp.tAn ?_ | with_reducible refine Wp.tOr ?_ | with_reducible refine Wp.tYs ?_
  | with_reducible refine Wp.sret ?_ | with_reducible refine Wp.ex ?_ | with_reducible refine Wp.nx ?_ | with_reducible refine Wp.sbk ?_ | with_reducible refine Wp.sct ?_ | (with_reducible refine Wp.aug ?_) | (with_reducible refine Wp.par ?_) | with_reducible refine parK ?_
  | (with_reducible refine Wp.tup ?_) | ((with_reducible refine tupK ?_ ?_); exact Nat.le_of_ble_eq_true rfl) | with_reducible refine Wp.lst ?_ | with_reducible refine Wp.m ?_ | with_reducible refine Wp.mlst ?_ | with_reducible refine Wp.andT ?_ | with_reducible refine Wp.orT ?_ | with_reducible refine Wp.if_ ?_
  | with_reducible refine Wp.un ?_ | with_reducible refine negK ?_ | with_reducible refine notK ?_
  | with_reducible refine jnK.nx ?_ | with_reducible refine jnK.rt ?_ | with_reducible refine fnK.rt ?_ | with_reducible refine fnK.nx ?_ | with_reducible refine lpK.nx ?_ | with_reducible refine lpK.ct ?_ | with_reducible refine lpK.bk ?_ | with_reducible refine lpK.rt ?_
  | with_reducible refine Wp.addI ?_ | with_reducible refine Wp.subI ?_ | with_reducible refine Wp.iaddI ?_ | with_reducible refine Wp.andI ?_ | ((with_reducible refine Wp.mulI ?_ ?_); first | exact .inl (by decide) | exact .inr (by decide)) | ((with_reducible refine Wp.modI ?_ ?_); exact (by decide)) | ((with_reducible refine Wp.divI ?_ ?_); exact (by decide))
  | with_reducible refine Wp.ltI ?_ | with_reducible refine Wp.leI ?_ | with_reducible refine Wp.gtI ?_ | with_reducible refine Wp.geI ?_ | with_reducible refine Wp.eqI ?_ | with_reducible refine Wp.neI ?_
  | with_reducible refine Wp.ixT0 ?_ | with_reducible refine Wp.ixT1 ?_ | ((with_reducible apply Wp.lenL); walk_at "rd") | with_reducible refine Wp.lenT ?_ | with_reducible refine Wp.lenR ?_
  | with_reducible refine Wp.isiT ?_ | with_reducible refine Wp.isiL ?_ | with_reducible refine Wp.isiI ?_ | with_reducible refine Wp.isiB ?_ | with_reducible refine Wp.isiS ?_ | with_reducible refine Wp.lz ?_ | with_reducible refine Wp.sfor ?_ | with_reducible refine Wp.iAny ?_ | ((with_reducible apply Wp.anyL); walk_at "rd"; try dsimp only [wipeE, List.set_cons_zero, List.set_cons_succ]) | ((with_reducible refine Wp.anyT ?_); try dsimp only [wipeE, List.set_cons_zero, List.set_cons_succ]) | ((with_reducible refine Wp.anyR ?_); try dsimp only [wipeE, List.set_cons_zero, List.set_cons_succ]) | ((with_reducible refine Wp.anyX ?_); try dsimp only [wipeE, List.set_cons_zero, List.set_cons_succ]) | with_reducible refine Wp.lc ?_
  | ((with_reducible apply Wp.tupL); walk_at "rd") | with_reducible refine Wp.tupT ?_ | with_reducible refine Wp.sl ?_ | with_reducible refine Wp.oNo ?_ | with_reducible refine Wp.oSo ?_ | with_reducible refine soK ?_ | with_reducible refine Wp.rg1 ?_ | with_reducible refine Wp.rg2 ?_ | with_reducible refine Wp.zip ?_ | with_reducible refine Wp.enum ?_ | with_reducible refine Wp.rev ?_
  | with_reducible refine Wp.kx ?_ | with_reducible refine Wp.kp ?_ | with_reducible refine Wp.dsp ?_ | with_reducible refine Wp.anC ?_ | with_reducible refine Wp.anN ?_ | with_reducible refine Wp.chain ?_ | with_reducible refine Wp.tch ?_ | with_reducible refine Wp.maxI ?_ | with_reducible refine Wp.absI ?_ | with_reducible refine Wp.isN ?_ | with_reducible refine Wp.isnN ?_ | with_reducible refine Wp.if_ ?_)
set_option hygiene false in
local macro_rules | `(tactic| walk_at "w") => `(tactic| repeat (walk_at "s"))
section
variable {h0 h : Hb} {L F : List (Nat × List D)} {K : D → Hb → Prop}
theorem deal3_wp {ns : List Int} {b : Nat} {bi : Int} (eb : bi = ((b : Nat) : Int)) (hb : b ≤ 1000) (S : Hv.St h0 F h) (k : ∀ n h', SD h0 n F h' → K (.dct dk n) h') : Wp (d_law_deal_3 [.rol (ns.map D.int), .int bi] h) K := by
  subst eb
  unfold d_law_deal_3
  refine Wp.run [some (.rol (ns.map D.int)), some (.int ((b : Nat) : Int)), none, none, none] rfl ?_
  unfold b_law_deal_3
  walk_at "w"
  obtain ⟨ys, e1, l1⟩ := cut_all (b := b) (xs := ns)
  refine Wp.slR S fun c h S => ?_
  rw [e1] at S
  walk_at "w"
  refine Wp.lcM D.int (fun x => .int (if x < 0 - x then 0 - x else x)) ys (fun h' => h' = h) rfl (fun h' e => by rw [e]; walk_at "rd") (fun x hx h' e => ?_) fun h' e => ?_
  · walk_at "w"
    refine ⟨rfl, ?_⟩
    walk_at "w"
    exact ⟨rfl, e⟩
  subst e
  refine Wp.new S (by rw [List.length_map, size_val]; omega) fun c2 h S => ?_
  let zs := ys.map fun x => if x < 0 - x then 0 - x else x
  have ez : ys.map (fun x => D.int (if x < 0 - x then 0 - x else x)) = zs.map D.int := by simp only [zs, List.map_map]; rfl
  have pz : ∀ x ∈ zs, 0 ≤ x := fun x hx => by
    simp only [zs, List.mem_map] at hx
    obtain ⟨y, _, rfl⟩ := hx
    split <;> omega
  have lz : zs.length ≤ 63 := by simp only [zs, List.length_map]; exact l1
  rw [ez] at S
  generalize zs = zs at S pz lz ⊢
  walk_at "w"
  refine Wp.forI D.int zs (fun _ _ ρ h' => ∃ (s : Int) (p : Option D), 0 ≤ s ∧ s < 2147483648 ∧ ρ = [some (.rol (ns.map D.int)), some (.int ((b : Nat) : Int)), some (.lst c2), some (.int s), p] ∧ h' = h) ⟨_, none, by omega, by omega, rfl, rfl⟩ (fun _ _ _ _ ⟨_, _, _, _, _, e⟩ => by rw [e]; walk_at "rd") ?_ ?_
  · rintro as x bs _ _ hx ⟨s, p, s0, s1, rfl, rfl⟩
    walk_at "w"
    exact ⟨_, _, by omega, by omega, rfl, rfl⟩
  rintro _ h ⟨s, p, s0, s1, rfl, rfl⟩
  walk_at "w"
  refine Wp.lr ?_
  walk_at "w"
  refine Wp.lcI D.int (fun x => if (10 : Int) ^ 18 ≤ x then [D.int x] else []) zs (fun h' => h' = h) rfl (fun h' e => by rw [e]; walk_at "rd") (fun x hx h' e => ?_) fun h' e => ?_
  · walk_at "w"
    refine Wp.powI (by decide) ?_
    walk_at "w"
    refine ⟨fun hc => ?_, fun hc => ?_⟩
    · walk_at "w"
      rw [if_pos (show (10 : Int) ^ 18 ≤ x from of_decide_eq_true hc)]
      exact ⟨rfl, e⟩
    · rw [if_neg (show ¬ (10 : Int) ^ 18 ≤ x from of_decide_eq_false hc)]
      exact ⟨rfl, e⟩
  subst e
  obtain ⟨ls, el, pl, ll⟩ : ∃ ls : List Int, zs.flatMap (fun x => if (10 : Int) ^ 18 ≤ x then [D.int x] else []) = ls.map D.int ∧ (∀ x ∈ ls, 0 ≤ x) ∧ ls.length ≤ 63 := by
    refine ⟨zs.filter fun x => decide ((10 : Int) ^ 18 ≤ x), ?_, fun x hx => pz x (List.mem_filter.mp hx).1, Nat.le_trans (List.length_filter_le _ _) lz⟩
    clear S pz lz
    induction zs with
    | nil => rfl
    | cons x xs ih =>
      rw [List.flatMap_cons, ih, List.filter_cons]
      by_cases hx : (10 : Int) ^ 18 ≤ x
      · rw [if_pos hx, if_pos (decide_eq_true hx)]; rfl
      · rw [if_neg hx, if_neg (by simpa using hx)]; rfl
  rw [el]
  refine Wp.new S (by rw [List.length_map, size_val]; omega) fun c3 h S => ?_
  walk_at "w"
  refine ⟨_, by show h[c3]? = _; walk_at "rd", ?_⟩
  refine Wp.new' S fun c4 h S => ?_
  walk_at "w"
  refine Wp.newD S (by decide) fun n h S => ?_
  walk_at "w"
  refine k n h ⟨⟨c4, s, 0, ls.reverse⟩, ⟨s0, s1, Int.le_refl _, fun x hx => pl x (by simpa using hx)⟩, ?_⟩
  rw [← List.map_reverse] at S
  exact (S.sub (L' := DC n ⟨c4, s, 0, ls.reverse⟩ ++ F) (.cons₂ _ (.cons₂ _ (.cons _ (.cons _ (.cons _ (List.Sublist.refl _))))))).perm List.perm_append_comm
theorem draw3_wp {n many : Nat} {mi : Int} (em : mi = ((many : Nat) : Int)) (hm : 0 < many) {b : Nat} (hb : ((many : Nat) : Int) < 2 ^ b) (hb2 : b ≤ 9000) (S : SD h0 n F h) (k : ∀ v : Nat, v < many → ∀ h', SD h0 n F h' → K (.int ((v : Nat) : Int)) h') : Wp (d_law_draw_3 [.dct dk n, .int mi] h) K := by
  subst em
  obtain ⟨q, ok, S⟩ := S
  replace S := S.perm (L' := DC n q ++ F) List.perm_append_comm
  have fin : ∀ (i : Int), ∃ v : Nat, v < many ∧ i % ((many : Nat) : Int) = ((v : Nat) : Int) := fun i => ⟨(i % ((many : Nat) : Int)).toNat, by have := Int.emod_lt_of_pos i (b := ((many : Nat) : Int)) (by omega); have := Int.emod_nonneg i (b := ((many : Nat) : Int)) (by omega); omega, by have := Int.emod_nonneg i (b := ((many : Nat) : Int)) (by omega); omega⟩
  unfold d_law_draw_3
  refine Wp.run [some (.dct dk n), some (.int ((many : Nat) : Int)), none, none, none] rfl ?_
  unfold b_law_draw_3
  walk_at "w"
  refine Wp.whl (fun m ρ h' => ∃ q : Dq, DOk q ∧ m = q.left.length ∧ ρ = [some (.dct dk n), some (.int ((many : Nat) : Int)), none, none, none] ∧ Hv.St h0 (DC n q ++ F) h') q.left.length ⟨q, ok, rfl, rfl, S⟩ ?_
  rintro m _ h ⟨q, ok, rfl, rfl, S⟩
  walk_at "w"
  refine Wp.ixK (S.get (i := 0) rfl) dk1 rfl ?_
  walk_at "w"
  have stop : ∀ h, Hv.St h0 (DC n q ++ F) h → sqK (sSeq (sAsg (dKx (dVar 0) "number") (gNm 2))
      (sSeq (sIf (tCm oGt (dVar 2) (dC (.int 0))) (sSeq (sKp (dVar 0) "number" (dBin oDiv (dVar 2) (dVar 1))) (sRet (dBin oMod (dVar 2) (dVar 1)))) sNx)
      (sSeq (sAsg (dBin oMod (dBin oAdd (dBin oMul (dKx (dVar 0) "seed") (dC (.int 48271))) (dC (.int 5003))) (dC (.int 2147483647))) (gNm 3))
      (sSeq (sKp (dVar 0) "seed" (dBin oMod (dBin oAdd (dBin oMul (dVar 3) (dC (.int 39373))) (dC (.int 60013))) (dC (.int 2147483587))))
      (sSeq (sAsg (dBin oMod (dBin oMul (dKx (dVar 0) "seed") (dKx (dVar 0) "seed")) (dC (.int 2147483549))) (gNm 4))
      (sRet (dBin oMod (dBin oAdd (dBin oMul (dBin oMod (dBin oMul (dVar 3) (dVar 3)) (dC (.int 2147483563))) (dC (.int 2147483549))) (dVar 4)) (dVar 1)))))))) (fnK K) (.nx [some (.dct dk n), some (.int ((many : Nat) : Int)), none, none, none]) h := by
    intro h S
    walk_at "w"
    refine Wp.ixK (S.get (i := 0) rfl) dk1 rfl ?_
    walk_at "w"
    refine ⟨fun hc => ?_, fun hc => ?_⟩
    · walk_at "w"
      refine Wp.divB (k := b) (by omega) hb hb2 ?_
      walk_at "w"
      refine Wp.puK (i := 0) S rfl dk1 dk_ok fun h S => ?_
      walk_at "w"
      refine Wp.modI (by omega) ?_
      walk_at "w"
      obtain ⟨v, hv, ev⟩ := fin q.number
      rw [ev]
      exact k v hv h (.of (q := ⟨q.m, q.seed, q.number / ((many : Nat) : Int), q.left⟩) ⟨ok.s0, ok.s1, Int.ediv_nonneg ok.n0 (by omega), ok.l0⟩ S)
    · walk_at "w"
      refine Wp.ixK (S.get (i := 0) rfl) dk0 rfl ?_
      walk_at "w"
      refine Wp.puK (i := 0) S rfl dk0 dk_ok fun h S => ?_
      walk_at "w"
      refine Wp.ixK (S.get (i := 0) rfl) dk0 rfl ?_
      walk_at "w"
      refine Wp.ixK (S.get (i := 0) rfl) dk0 rfl ?_
      walk_at "w"
      generalize hw : ((q.seed * 48271 + 5003) % 2147483647) = w at S ⊢
      have w0 : 0 ≤ w ∧ w < 2147483648 := by omega
      generalize hw' : (w * 39373 + 60013) % 2147483587 = w' at S ⊢
      have w1 : 0 ≤ w' ∧ w' < 2147483648 := by omega
      refine Wp.mulI (.inl (by omega)) ?_
      walk_at "w"
      refine Wp.mulI (.inl (by omega)) ?_
      walk_at "w"
      refine Wp.modI (by omega) ?_
      walk_at "w"
      obtain ⟨v, hv, ev⟩ := fin (w * w % 2147483563 * 2147483549 + w' * w' % 2147483549)
      rw [ev]
      exact k v hv h (.of (q := ⟨q.m, w', q.number, q.left⟩) ⟨w1.1, w1.2, ok.n0, ok.l0⟩ S)
  refine ⟨fun hc => ?_, fun hc => ?_⟩
  · walk_at "w"
    refine Wp.ixK (S.get (i := 0) rfl) dk2 rfl ?_
    walk_at "w"
    refine ⟨fun hc2 => ?_, fun hc2 => ?_⟩
    · have hl : q.left ≠ [] := fun z => by rw [z] at hc2; simp at hc2
      have es : q.left = q.left.dropLast ++ [q.left.getLast hl] := (List.dropLast_concat_getLast hl).symm
      have ed : q.left.map D.int = q.left.dropLast.map D.int ++ [.int (q.left.getLast hl)] := by
        have := congrArg (List.map D.int) es
        rw [List.map_append] at this
        exact this
      walk_at "w"
      refine Wp.ixK (S.get (i := 0) rfl) dk2 rfl ?_
      walk_at "w"
      refine Wp.pop (i := 1) (xs := q.left.dropLast.map D.int) (d := .int (q.left.getLast hl)) S (by show some (q.m, q.left.map D.int) = _; rw [ed]) fun h S => ?_
      walk_at "w"
      refine Wp.puK (i := 0) S rfl dk1 dk_ok fun h S => ?_
      walk_at "w"
      refine ⟨q.left.dropLast.length, by rw [List.length_dropLast]; have := List.length_pos_iff.mpr hl; omega, ⟨q.m, q.seed, q.left.getLast hl, q.left.dropLast⟩, ⟨ok.s0, ok.s1, ok.l0 _ (List.getLast_mem hl), fun x hx => ok.l0 x (List.dropLast_subset _ hx)⟩, rfl, rfl, S⟩
    · exact stop h S
  · exact brF (stop h S)
end
end C

set_option Elab.async false
set_option linter.all false
set_option maxRecDepth 100000
set_option maxHeartbeats 4000000
namespace C
open PySem L2 Hv
local macro_rules | `(tactic| walk_at "sl") => `(tactic| repeat (first | exact List.nil_sublist _ | (with_reducible exact List.Sublist.refl _) | (with_reducible refine List.Sublist.cons₂ _ ?_) | (refine List.Sublist.cons _ ?_)))
set_option hygiene false in
local macro_rules | `(tactic| walk_at "rd") => `(tactic| first | exact S.get (i := 0) rfl | exact S.get (i := 1) rfl | exact S.get (i := 2) rfl | exact S.get (i := 3) rfl | exact S.get (i := 4) rfl | exact S.get (i := 5) rfl | assumption | exact S.old (by assumption))
set_option hygiene false in
local macro_rules | `(tactic| walk_at "s") => `(tactic| first
  | with_reducible refine Wp.seq ?_ | with_reducible refine sqK.nx ?_ | with_reducible refine sqK.rt ?_ | with_reducible refine Wp.asg ?_
  | ((with_reducible apply Wp.var); exact rfl) | with_reducible refine Wp.con ?_ | with_reducible refine Wp.bin ?_ | with_reducible refine Wp.call ?_ | with_reducible refine Wp.acons ?_ | with_reducible refine Wp.anil ?_
  | ((with_reducible refine Wp.gNm ?_); try dsimp only [List.set_cons_zero, List.set_cons_succ]) | with_reducible refine Wp.gTp ?_ | with_reducible refine Wp.gsC ?_ | with_reducible refine Wp.gsN ?_ | with_reducible refine Wp.gIx ?_ | with_reducible refine Wp.gSl ?_
  | with_reducible refine Wp.sif ?_ | with_reducible refine Wp.tCm ?_ | with_reducible refine exB ?_ | with_reducible refine brT ?_ | with_reducible refine brF ?_ | with_reducible refine brNT ?_ | with_reducible refine brNF ?_ | with_reducible refine Wp.tT ?_ | with_reducible refine truB ?_ | with_reducible refine truI ?_ | with_reducible refine truT ?_ | with_reducible refine truN ?_
  | ((with_reducible apply truL); walk_at "rd") | with_reducible refine Wp.tNt ?_ | with_reducible refine Wp.tAn ?_ | with_reducible refine Wp.tOr ?_ | with_reducible refine Wp.tYs ?_
  | with_reducible refine Wp.sret ?_ | with_reducible refine Wp.ex ?_ | with_reducible refine Wp.nx ?_ | with_reducible refine Wp.sbk ?_ | with_reducible refine Wp.sct ?_ | (with_reducible refine Wp.aug ?_) | (with_reducible refine Wp.par ?_) | with_reducible refine parK ?_
  | (with_reducible refine Wp.tup ?_) | ((with_reducible refine tupK ?_ ?_); exact Nat.le_of_ble_eq_true rfl) | with_reducible refine Wp.lst ?_ | with_reducible refine Wp.m ?_ | with_reducible refine Wp.mlst ?_ | with_reducible refine Wp.andT ?_ | with_reducible refine Wp.orT ?_ | with_reducible refine Wp.if_ ?_
  | with_reducible refine Wp.un ?_ | with_reducible refine negK ?_ | with_reducible refine notK ?_
  | with_reducible refine jnK.nx ?_ | with_reducible refine jnK.rt ?_ | with_reducible refine fnK.rt ?_ | with_reducible refine fnK.nx ?_ | with_reducible refine lpK.nx ?_ | with_reducible refine lpK.ct ?_ | with_reducible refine lpK.bk ?_ | with_reducible refine lpK.rt ?_
  | with_reducible refine Wp.addI ?_ | with_reducible refine Wp.subI ?_ | with_reducible refine Wp.iaddI ?_ | with_reducible refine Wp.andI ?_ | ((with_reducible refine Wp.mulI ?_ ?_); first | exact .inl (by decide) | exact .inr (by decide)) | ((with_reducible refine Wp.modI ?_ ?_); exact (by decide)) | ((with_reducible refine Wp.divI ?_ ?_); exact (by decide))
  | with_reducible refine Wp.ltI ?_ | with_reducible refine Wp.leI ?_ | with_reducible refine Wp.gtI ?_ | with_reducible refine Wp.geI ?_ | with_reducible refine Wp.eqI ?_ | with_reducible refine Wp.neI ?_
  | with_reducible refine Wp.ixT0 ?_ | with_reducible refine Wp.ixT1 ?_ | ((with_reducible apply Wp.lenL); walk_at "rd") | with_reducible refine Wp.lenT ?_ | with_reducible refine Wp.lenR ?_
  | with_reducible refine Wp.isiT ?_ | with_reducible refine Wp.isiL ?_ | with_reducible refine Wp.isiI ?_ | with_reducible refine Wp.isiB ?_ | with_reducible refine Wp.isiS ?_ | with_reducible refine Wp.lz ?_ | with_reducible refine Wp.sfor ?_ | with_reducible refine Wp.iAny ?_ | ((with_reducible apply Wp.anyL); walk_at "rd"; try dsimp only [wipeE, List.set_cons_zero, List.set_cons_succ]) | ((with_reducible refine Wp.anyT ?_); try dsimp only [wipeE, List.set_cons_zero, List.set_cons_succ]) | ((with_reducible refine Wp.anyR ?_); try dsimp only [wipeE, List.set_cons_zero, List.set_cons_succ]) | ((with_reducible refine Wp.anyX ?_); try dsimp only [wipeE, List.set_cons_zero, List.set_cons_succ]) | with_reducible refine Wp.lc ?_
  | ((with_reducible apply Wp.tupL); walk_at "rd") | with_reducible refine Wp.tupT ?_ | with_reducible refine Wp.sl ?_ | with_reducible refine Wp.oNo ?_ | with_reducible refine Wp.oSo ?_ | with_reducible refine soK ?_ | with_reducible refine Wp.rg1 ?_ | with_reducible refine Wp.rg2 ?_ | with_reducible refine Wp.zip ?_ | with_reducible refine Wp.enum ?_ | with_reducible refine Wp.rev ?_
  | with_reducible refine Wp.kx ?_ | with_reducible refine Wp.kp ?_ | with_reducible refine Wp.dsp ?_ | with_reducible refine Wp.anC ?_ | with_reducible refine Wp.anN ?_ | with_reducible refine Wp.chain ?_ | with_reducible refine Wp.tch ?_ | with_reducible refine Wp.maxI ?_ | with_reducible refine Wp.absI ?_ | with_reducible refine Wp.isN ?_ | with_reducible refine Wp.isnN ?_ | with_reducible refine Wp.if_ ?_)
set_option hygiene false in
local macro_rules | `(tactic| walk_at "w") => `(tactic| repeat (walk_at "s"))
section
variable {h0 h : Hb} {L F : List (Nat × List D)} {K : D → Hb → Prop} {n : Nat}
def wS (u : Ad) : D := .str (wayS u)
theorem Wp.ixX {z : Str} {i : Int} {c : Nat} (hl : z.length ≤ 1000000) (e : atI z.cps.toList i = some c) (k : K (.str ⟨#[c]⟩) h) : Wp (oIx (.str z) (.int i) h) K := .of (a := .str ⟨#[c]⟩) (by unfold oIx; simp only [if_pos (show z.length ≤ sizeLine by rw [size_val]; omega), e]; rfl) k
def wb (x : Ad × Bool) : D := .str (wayS (x.1 ++ [x.2]))
def wF (b : Bool) (x : Ad × Bool) : List D := if x.2 = b then [.str (wayS x.1)] else []
def wxs (l r : Tr) : List (Ad × Bool) := (adr l []).map (fun u => (u, false)) ++ (adr r []).map (fun u => (u, true))
theorem wxs_all (l r : Tr) : (adr (.node l r) []).map wS = (wxs l r).map wb := by
  unfold wxs
  rw [adr, adr_top l [false], adr_top r [true], List.map_append, List.map_append, List.map_map, List.map_map, List.map_map, List.map_map]
  rfl
theorem wF_map (b c : Bool) (us : List Ad) : (us.map fun u => (u, c)).flatMap (wF b) = if c = b then us.map wS else [] := by
  induction us with
  | nil => simp
  | cons u us ih =>
    rw [List.map_cons, List.flatMap_cons, ih]
    unfold wF
    by_cases e : c = b
    · simp only [if_pos e]; rfl
    · simp only [if_neg e]; rfl
theorem wxs_l (l r : Tr) : (wxs l r).flatMap (wF false) = (adr l []).map wS := by
  unfold wxs
  rw [List.flatMap_append, wF_map, wF_map]
  simp
theorem wxs_r (l r : Tr) : (wxs l r).flatMap (wF true) = (adr r []).map wS := by
  unfold wxs
  rw [List.flatMap_append, wF_map, wF_map]
  simp
theorem wxs_len {l r : Tr} {x : Ad × Bool} (h : x ∈ wxs l r) : x.1.length + 1 < l.lvs + r.lvs + 1 := by
  have h1 := Tr.hgt_lt l
  have h2 := Tr.hgt_lt r
  simp only [wxs, List.mem_append, List.mem_map] at h
  rcases h with ⟨u, hu, rfl⟩ | ⟨u, hu, rfl⟩
  · have := adr_hl l [] hu; simp at this ⊢; omega
  · have := adr_hl r [] hu; simp at this ⊢; omega
theorem eqv_words (us vs : List Ad) : PyData.eqv (.list (us.map fun u => .str (wayS u))) (.list (vs.map fun u => .str (wayS u))) = decide (us = vs) := by
  rw [PyData.eqv]
  induction us generalizing vs with
  | nil => cases vs <;> simp [PyData.eqvAll]
  | cons u us ih =>
    cases vs with
    | nil => simp [PyData.eqvAll]
    | cons v vs =>
      simp only [List.map_cons, PyData.eqvAll, ih vs, eqv_str, way_eq]
      by_cases e1 : u = v <;> by_cases e2 : us = vs <;> simp [e1, e2]
theorem datW {m : Nat} {us : List Ad} (e : h[m]? = some (us.map wS)) : datF h 1000 (.lst m) = some (.list (us.map fun u => .str (wayS u))) :=
  datL (m := 999) e (datStrs (m := 998) (fun u : Ad => wayS u) us fun x _ => wayS_ok _)
theorem fil_wp {l r : Tr} {n : Nat} {ρ : En} {b : Bool} {bs : Str} {KL : List D → Hb → Prop} (hbs : bs = wayS [b]) (hl : (Tr.node l r).lvs ≤ 900) (hn : h[n]? = some ((adr (.node l r) []).map wS)) (eρ : ∃ p q, ρ = [p, q, none]) (k : KL (if b = false then (adr l []).map wS else (adr r []).map wS) h) :
    Wp (lcGo (fun h' => h'[n]? = some ((adr (.node l r) []).map wS)) (gNm 2) (tCm oEq (dBin oIx (dVar 2) (dC (.int 0))) (dC (.str bs))) (dSlL (dVar 2) (oSo (dC (.int 1))) oNo) ρ ((adr (.node l r) []).map wS) h) KL := by
  obtain ⟨p, q, rfl⟩ := eρ
  have hl' : l.lvs + r.lvs ≤ 900 := hl
  have hn' := hn
  rw [wxs_all] at hn'
  have e : (adr (.node l r) []).map wS = (wxs l r).map wb := wxs_all l r
  rw [e]
  refine Wp.lcI wb (wF b) (wxs l r) (fun h' => h' = h) rfl (fun h' e => by rw [e]; exact hn') (fun x hx h' e => ?_) fun h' e => ?_
  · have sx := wxs_len hx
    obtain ⟨u, c⟩ := x
    simp only at sx
    rw [show wb (u, c) = .str (wayS (u ++ [c])) from rfl]
    walk_at "w"
    refine Wp.ixX (c := sg c) (by rw [wayS_len, List.length_append, List.length_singleton]; omega) (by
      rw [wayS_tl, List.reverse_append]
      exact atI_nat (j := 0) (xs := ([c] ++ u.reverse).map sg) rfl) ?_
    walk_at "w"
    rw [show (⟨#[sg c]⟩ : Str) = wayS [c] from rfl, hbs]
    refine Wp.eqX (wayS_ok _) (wayS_ok _) ?_
    rw [way_eq]
    walk_at "w"
    unfold wF
    refine ⟨fun hc => ?_, fun hc => ?_⟩
    · have : c = b := by simpa using hc
      subst this
      walk_at "w"
      refine Wp.slX (by rw [wayS_len, List.length_append, List.length_singleton]; omega) ?_
      have := cut_rest u [c]
      rw [show (([c].length : Nat) : Int) = 1 from rfl] at this
      rw [this]
      exact ⟨by simp, e⟩
    · have : ¬ c = b := by simpa using hc
      exact ⟨by simp [this], e⟩
  subst e
  cases b with
  | false => rw [wxs_l]; exact k
  | true => rw [wxs_r]; exact k
theorem tree5_raw : ∀ (fuel : Nat) (t : Tr) (n : Nat) {h0 h : Hb} {L : List (Nat × List D)}, t.hgt < fuel → t.lvs ≤ 900 → h[n]? = some ((adr t []).map wS) → Hv.St h0 L h →
    Wp (recN fuel (fun self => runD 3 (b_law_tree_5 self)) [.lst n] h) fun r h' => r = t.d ∧ Hv.St h0 L h'
  | 0, t, n, h0, h, L, h1, _, _, _ => by omega
  | fuel + 1, .leaf, n, h0, h, L, h1, h2, hn, S => by
    show Wp (runD 3 (b_law_tree_5 (recN fuel (fun self => runD 3 (b_law_tree_5 self)))) _ h) _
    refine Wp.run [some (.lst n), none, none] rfl ?_
    unfold b_law_tree_5
    have T : Hv.St h [] h := .nil
    walk_at "w"
    refine Wp.new T (line8 (Nat.le_of_ble_eq_true rfl)) fun c h T => ?_
    have hn1 := T.old hn
    have hc : h[c]? = some ([[]].map wS) := T.get (i := 0) rfl
    refine Wp.eqS (datW hn1) (datW hc) ?_
    walk_at "w"
    exact ⟨rfl, S.call0 T.less⟩
  | fuel + 1, .node l r, n, h0, h, L, h1, h2, hn, S => by
    have g1 : l.hgt + 1 ≤ (Tr.node l r).hgt := by simp only [Tr.hgt]; omega
    have g2 : r.hgt + 1 ≤ (Tr.node l r).hgt := by simp only [Tr.hgt]; omega
    have q1 : (Tr.node l r).lvs = l.lvs + r.lvs := rfl
    have p1 := Tr.pos l
    have p2 := Tr.pos r
    show Wp (runD 3 (b_law_tree_5 (recN fuel (fun self => runD 3 (b_law_tree_5 self)))) _ h) _
    refine Wp.run [some (.lst n), none, none] rfl ?_
    unfold b_law_tree_5
    have T : Hv.St h [] h := .nil
    walk_at "w"
    refine Wp.new T (line8 (Nat.le_of_ble_eq_true rfl)) fun c h1 T => ?_
    have hn1 := T.old hn
    have hc : h1[c]? = some ([[]].map wS) := T.get (i := 0) rfl
    refine Wp.eqP (datW hn1) (datW hc) ?_
    rw [eqv_words, decide_eq_false (by
      intro z
      have := congrArg List.length z
      rw [adr_length] at this
      simp at this
      omega)]
    walk_at "w"
    refine fil_wp (b := false) (by decide) h2 hn1 ⟨_, _, rfl⟩ ?_
    rw [if_pos rfl]
    refine Wp.new T (by rw [List.length_map, adr_length, size_val]; omega) fun c2 h2' T => ?_
    walk_at "w"
    refine (tree5_raw fuel l c2 (by omega) (by omega) (T.get (i := 0) rfl) T).mono fun x h3 ⟨ex, T⟩ => ?_
    subst ex
    have hn2 := T.old hn
    walk_at "w"
    refine fil_wp (b := true) (by decide) h2 hn2 ⟨_, _, rfl⟩ ?_
    rw [if_neg (by decide)]
    refine Wp.new T (by rw [List.length_map, adr_length, size_val]; omega) fun c3 h4 T => ?_
    walk_at "w"
    refine (tree5_raw fuel r c3 (by omega) (by omega) (T.get (i := 0) rfl) T).mono fun x h5 ⟨ex, T⟩ => ?_
    subst ex
    walk_at "w"
    exact ⟨rfl, S.call0 T.less⟩
theorem pair2_wp {f : Tr × Tr} {n : Nat} (e : Ok f) (hn : h[n]? = some (wl f)) (hl : f.1.lvs ≤ 64) (S : Hv.St h0 L h) (k : ∀ h', Hv.St h0 L h' → K (mD f) h') : Wp (d_law_pair_2 [.lst n] h) K := by
  have lp := pa_length e
  have e' : f.1.lvs = f.2.lvs := e
  have g1 := Tr.hgt_lt f.1
  have g2 := Tr.hgt_lt f.2
  unfold d_law_pair_2
  refine Wp.run [some (.lst n), none, none] rfl ?_
  unfold b_law_pair_2
  have T : Hv.St h [] h := .nil
  walk_at "w"
  refine Wp.lcM w2 (fun x => wS x.1) (pa f.1 f.2) (fun h' => h' = h) rfl (fun h' e => by rw [e]; exact hn) (fun x _ h' e => ?_) fun h' e => ?_
  · rw [show w2 x = .tup [.str (wayS x.1), .str (wayS x.2)] from rfl]
    walk_at "w"
    refine ⟨rfl, ?_⟩
    walk_at "w"
    exact ⟨rfl, e⟩
  subst e
  rw [show (pa f.1 f.2).map (fun x => wS x.1) = (adr f.1 []).map wS by rw [← pa_fst e', List.map_map]; rfl]
  refine Wp.new T (by rw [List.length_map, adr_length, size_val]; omega) fun c h1 T => ?_
  walk_at "w"
  refine (tree5_raw 64 f.1 c (by omega) (by omega) (T.get (i := 0) rfl) T).mono fun x h2 ⟨ex, T⟩ => ?_
  subst ex
  have hn2 := T.old hn
  walk_at "w"
  refine Wp.lcM w2 (fun x => wS x.2) (pa f.1 f.2) (fun h' => h' = h2) rfl (fun h' e => by rw [e]; exact hn2) (fun x _ h' e => ?_) fun h' e => ?_
  · rw [show w2 x = .tup [.str (wayS x.1), .str (wayS x.2)] from rfl]
    walk_at "w"
    refine ⟨rfl, ?_⟩
    walk_at "w"
    exact ⟨rfl, e⟩
  subst e
  rw [show (pa f.1 f.2).map (fun x => wS x.2) = (adr f.2 []).map wS by rw [← pa_snd e', List.map_map]; rfl]
  refine Wp.new T (by rw [List.length_map, adr_length, size_val]; omega) fun c h1 T => ?_
  walk_at "w"
  refine (tree5_raw 64 f.2 c (by omega) (by omega) (T.get (i := 0) rfl) T).mono fun x h2 ⟨ex, T⟩ => ?_
  subst ex
  walk_at "w"
  exact k _ (S.call0 T.less)
end
end C

set_option Elab.async false
set_option linter.all false
set_option maxRecDepth 100000
set_option maxHeartbeats 4000000
namespace C
open PySem L2 Hv
local macro_rules | `(tactic| walk_at "sl") => `(tactic| repeat (first | exact List.nil_sublist _ | (with_reducible exact List.Sublist.refl _) | (with_reducible refine List.Sublist.cons₂ _ ?_) | (refine List.Sublist.cons _ ?_)))
set_option hygiene false in
local macro_rules | `(tactic| walk_at "rd") => `(tactic| first | exact S.get (i := 0) rfl | exact S.get (i := 1) rfl | exact S.get (i := 2) rfl | exact S.get (i := 3) rfl | exact S.get (i := 4) rfl | exact S.get (i := 5) rfl | assumption | exact S.old (by assumption))
set_option hygiene false in
local macro_rules | `(tactic| walk_at "s") => `(tactic| first
  | with_reducible refine Wp.seq ?_ | with_reducible refine sqK.nx ?_ | with_reducible refine sqK.rt ?_ | with_reducible refine Wp.asg ?_
  | ((with_reducible apply Wp.var); exact rfl) | with_reducible refine Wp.con ?_ | with_reducible refine Wp.bin ?_ | with_reducible refine Wp.call ?_ | with_reducible refine Wp.acons ?_ | with_reducible refine Wp.anil ?_
  | ((with_reducible refine Wp.gNm ?_); try dsimp only [List.set_cons_zero, List.set_cons_succ]) | with_reducible refine Wp.gTp ?_ | with_reducible refine Wp.gsC ?_ | with_reducible refine Wp.gsN ?_ | with_reducible refine Wp.gIx ?_ | with_reducible refine Wp.gSl ?_
  | with_reducible refine Wp.sif ?_ | with_reducible refine Wp.tCm ?_ | with_reducible refine exB ?_ | with_reducible refine brT ?_ | with_reducible refine brF ?_ | with_reducible refine brNT ?_ | with_reducible refine brNF ?_ | with_reducible refine Wp.tT ?_ | with_reducible refine truB ?_ | with_reducible refine truI ?_ | with_reducible refine truT ?_ | with_reducible refine truN ?_
  | ((with_reducible apply truL); walk_at "rd") | with_reducible refine Wp.tNt ?_ | with_reducible refine Wp.tAn ?_ | with_reducible refine Wp.tOr ?_ | with_reducible refine Wp.tYs ?_
  | with_reducible refine Wp.sret ?_ | with_reducible refine Wp.ex ?_ | with_reducible refine Wp.nx ?_ | with_reducible refine Wp.sbk ?_ | with_reducible refine Wp.sct ?_ | (with_reducible refine Wp.aug ?_) | (with_reducible refine Wp.par ?_) | with_reducible refine parK ?_
  | (with_reducible refine Wp.tup ?_) | ((with_reducible refine tupK ?_ ?_); exact Nat.le_of_ble_eq_true rfl) | with_reducible refine Wp.lst ?_ | with_reducible refine Wp.m ?_ | with_reducible refine Wp.mlst ?_ | with_reducible refine Wp.andT ?_ | with_reducible refine Wp.orT ?_ | with_reducible refine Wp.if_ ?_
  | with_reducible refine Wp.un ?_ | with_reducible refine negK ?_ | with_reducible refine notK ?_
  | with_reducible refine jnK.nx ?_ | with_reducible refine jnK.rt ?_ | with_reducible refine fnK.rt ?_ | with_reducible refine fnK.nx ?_ | with_reducible refine lpK.nx ?_ | with_reducible refine lpK.ct ?_ | with_reducible refine lpK.bk ?_ | with_reducible refine lpK.rt ?_
  | with_reducible refine Wp.addI ?_ | with_reducible refine Wp.subI ?_ | with_reducible refine Wp.iaddI ?_ | with_reducible refine Wp.andI ?_ | ((with_reducible refine Wp.mulI ?_ ?_); first | exact .inl (by decide) | exact .inr (by decide)) | ((with_reducible refine Wp.modI ?_ ?_); exact (by decide)) | ((with_reducible refine Wp.divI ?_ ?_); exact (by decide))
  | with_reducible refine Wp.ltI ?_ | with_reducible refine Wp.leI ?_ | with_reducible refine Wp.gtI ?_ | with_reducible refine Wp.geI ?_ | with_reducible refine Wp.eqI ?_ | with_reducible refine Wp.neI ?_
  | with_reducible refine Wp.ixT0 ?_ | with_reducible refine Wp.ixT1 ?_ | ((with_reducible apply Wp.lenL); walk_at "rd") | with_reducible refine Wp.lenT ?_ | with_reducible refine Wp.lenR ?_
  | with_reducible refine Wp.isiT ?_ | with_reducible refine Wp.isiL ?_ | with_reducible refine Wp.isiI ?_ | with_reducible refine Wp.isiB ?_ | with_reducible refine Wp.isiS ?_ | with_reducible refine Wp.lz ?_ | with_reducible refine Wp.sfor ?_ | with_reducible refine Wp.iAny ?_ | ((with_reducible apply Wp.anyL); walk_at "rd"; try dsimp only [wipeE, List.set_cons_zero, List.set_cons_succ]) | ((with_reducible refine Wp.anyT ?_); try dsimp only [wipeE, List.set_cons_zero, List.set_cons_succ]) | ((with_reducible refine Wp.anyR ?_); try dsimp only [wipeE, List.set_cons_zero, List.set_cons_succ]) | ((with_reducible refine Wp.anyX ?_); try dsimp only [wipeE, List.set_cons_zero, List.set_cons_succ]) | with_reducible refine Wp.lc ?_
  | ((with_reducible apply Wp.tupL); walk_at "rd") | with_reducible refine Wp.tupT ?_ | with_reducible refine Wp.sl ?_ | with_reducible refine Wp.oNo ?_ | with_reducible refine Wp.oSo ?_ | with_reducible refine soK ?_ | with_reducible refine Wp.rg1 ?_ | with_reducible refine Wp.rg2 ?_ | with_reducible refine Wp.zip ?_ | with_reducible refine Wp.enum ?_ | with_reducible refine Wp.rev ?_
  | with_reducible refine Wp.kx ?_ | with_reducible refine Wp.kp ?_ | with_reducible refine Wp.dsp ?_ | with_reducible refine Wp.anC ?_ | with_reducible refine Wp.anN ?_ | with_reducible refine Wp.chain ?_ | with_reducible refine Wp.tch ?_ | with_reducible refine Wp.maxI ?_ | with_reducible refine Wp.absI ?_ | with_reducible refine Wp.isN ?_ | with_reducible refine Wp.isnN ?_ | with_reducible refine Wp.if_ ?_)
set_option hygiene false in
local macro_rules | `(tactic| walk_at "w") => `(tactic| repeat (walk_at "s"))
section
variable {h0 h : Hb} {L F : List (Nat × List D)} {K : D → Hb → Prop} {n : Nat}
theorem words_raw : ∀ (fuel many : Nat) (c : Ad) {h : Hb} {F : List (Nat × List D)}, many ≤ fuel → 1 ≤ many → c.length + many ≤ 1000 → SD h0 n F h →
    Wp (recN fuel (fun self => runD 4 (b_law_words self)) [.dct dk n, .int ((many : Nat) : Int), .str (wayS c)] h) fun r h' => ∃ (t : Tr) (m : Nat), t.lvs = many ∧ r = .lst m ∧ SD h0 n ((m, (adr t c).map wS) :: F) h'
  | 0, many, c, h, F, h1, h2, _, _ => by omega
  | fuel + 1, many, c, h, F, h1, h2, h3, S => by
    show Wp (runD 4 (b_law_words (recN fuel (fun self => runD 4 (b_law_words self)))) _ h) _
    refine Wp.run [some (.dct dk n), some (.int ((many : Nat) : Int)), some (.str (wayS c)), none] rfl ?_
    unfold b_law_words
    walk_at "w"
    refine ⟨fun hc => ?_, fun hc => ?_⟩
    · have : many = 1 := by simp at hc; omega
      walk_at "w"
      obtain ⟨q, ok, S⟩ := S
      refine Wp.new S (line8 (Nat.le_of_ble_eq_true rfl)) fun m h S => ?_
      walk_at "w"
      exact ⟨.leaf, m, by rw [this]; rfl, rfl, q, ok, S⟩
    · have hm : 2 ≤ many := by simp at hc; omega
      walk_at "w"
      refine draw3_wp (many := many - 1) (by omega) (by omega) (b := 10) (by omega) (by decide) S fun v hv h S => ?_
      walk_at "w"
      obtain ⟨q, ok, S⟩ := S
      refine Wp.new S (line8 (Nat.le_of_ble_eq_true rfl)) fun l4 h S => ?_
      walk_at "w"
      refine draw3_wp (F := (l4, _) :: F) (many := 4) rfl (by decide) (b := 10) (by decide) (by decide) ⟨q, ok, S⟩ fun v4 hv4 h S => ?_
      obtain ⟨q, ok, S⟩ := S
      obtain ⟨x, ex, ox⟩ := ix_four' (a := 1) (b := ((many : Nat) : Int) - 1) (c := ((many : Nat) : Int) / 2) (d := 1 + ((v : Nat) : Int)) hv4
      refine Wp.ixL (S.get (i := 0) rfl) ex ?_
      replace S : SD h0 n F h := ⟨q, ok, S.sub (.cons _ (List.Sublist.refl _))⟩
      obtain ⟨y, ey, y1, y2⟩ : ∃ y : Nat, x = ((y : Nat) : Int) ∧ 1 ≤ y ∧ y < many := ⟨x.toNat, by omega, by omega, by omega⟩
      subst ey
      walk_at "w"
      refine Wp.addS (by rw [wayS_len]; show _ + 1 ≤ _; omega) ?_
      rw [s0, ← wayS_cons]
      walk_at "w"
      refine (words_raw fuel y (false :: c) (by omega) (by omega) (by rw [List.length_cons]; omega) S).mono fun r h ⟨t, m1, lt, er, S⟩ => ?_
      subst er
      walk_at "w"
      refine Wp.addS (by rw [wayS_len]; show _ + 1 ≤ _; omega) ?_
      rw [s1, ← wayS_cons]
      walk_at "w"
      rw [show ((many : Nat) : Int) - ((y : Nat) : Int) = ((many - y : Nat) : Int) by omega]
      refine (words_raw fuel (many - y) (true :: c) (by omega) (by omega) (by rw [List.length_cons]; omega) S).mono fun r h ⟨t', m2, lt', er, S⟩ => ?_
      subst er
      obtain ⟨q, ok, S⟩ := S
      refine Wp.addL S (S.get (i := 1) rfl) (S.get (i := 0) rfl) (by rw [List.length_map, List.length_map, adr_length, adr_length]; omega) fun m3 h S => ?_
      walk_at "w"
      refine ⟨.node t t', m3, by rw [Tr.lvs, lt, lt']; omega, rfl, q, ok, ?_⟩
      rw [← List.map_append] at S
      exact S.sub (.cons₂ _ (.cons _ (.cons _ (List.Sublist.refl _))))
theorem words_wp {many : Nat} {mi : Int} {s : Str} (em : mi = ((many : Nat) : Int)) (es : s = wayS []) (h1 : 1 ≤ many) (h2 : many ≤ 64) (S : SD h0 n F h) (k : ∀ (t : Tr) (m : Nat), t.lvs = many → ∀ h', SD h0 n ((m, (adr t []).map wS) :: F) h' → K (.lst m) h') : Wp (d_law_words [.dct dk n, .int mi, .str s] h) K := by
  subst em es
  exact (words_raw 64 many [] h2 h1 (by rw [List.length_nil]; omega) S).mono fun r h ⟨t, m, lt, er, S⟩ => by rw [er]; exact k t m lt h S
theorem zip_words : ∀ us vs : List Ad, zipD (us.map wS) (vs.map wS) = (us.zip vs).map w2
  | [], _ => by simp [zipD]
  | _ :: _, [] => by simp [zipD]
  | u :: us, v :: vs => by
    rw [List.map_cons, List.map_cons, zipD, zip_words us vs]
    rfl
/-- two maps side by side -/
def sbs (f g : Tr × Tr) : Tr × Tr := (.node f.1 g.1, .node f.2 g.2)
theorem sbs_ok {f g : Tr × Tr} (ef : Ok f) (eg : Ok g) : Ok (sbs f g) := by
  have h1 : f.1.lvs = f.2.lvs := ef
  have h2 : g.1.lvs = g.2.lvs := eg
  show f.1.lvs + g.1.lvs = f.2.lvs + g.2.lvs
  omega
def ext2 (b : Bool) (p : Pa) : Pa := (p.1 ++ [b], p.2 ++ [b])
theorem zip_mm {α β : Type} (f : α → β) : ∀ (xs ys : List α), (xs.map f).zip (ys.map f) = (xs.zip ys).map fun p => (f p.1, f p.2)
  | [], _ => by simp
  | _ :: _, [] => by simp
  | x :: xs, y :: ys => by simp [zip_mm f xs ys]
theorem pa_sbs {f g : Tr × Tr} (ef : Ok f) : pa (sbs f g).1 (sbs f g).2 = (pa f.1 f.2).map (ext2 false) ++ (pa g.1 g.2).map (ext2 true) := by
  have h1 : f.1.lvs = f.2.lvs := ef
  show (adr f.1 [false] ++ adr g.1 [true]).zip (adr f.2 [false] ++ adr g.2 [true]) = _
  rw [List.zip_append (by rw [adr_length, adr_length, h1]), adr_top f.1 [false], adr_top f.2 [false], adr_top g.1 [true], adr_top g.2 [true], zip_mm, zip_mm]
  rfl
theorem wl_sbs {f g : Tr × Tr} (ef : Ok f) : wl (sbs f g) = (pa f.1 f.2).map (fun p => w2 (ext2 false p)) ++ (pa g.1 g.2).map (fun p => w2 (ext2 true p)) := by
  unfold wl
  rw [pa_sbs ef, List.map_append, List.map_map, List.map_map]
  rfl
def aT : Tr × Tr := (.node (.node .leaf .leaf) .leaf, .node .leaf (.node .leaf .leaf))
def bT : Tr × Tr := sbs oneT aT
theorem wl_a : wl aT = [.tup [.str "00", .str "0"], .tup [.str "01", .str "10"], .tup [.str "1", .str "11"]] := by
  rw [show (("00" : Str)) = wayS [false, false] by decide, show (("0" : Str)) = wayS [false] by decide, show (("01" : Str)) = wayS [true, false] by decide, show (("10" : Str)) = wayS [false, true] by decide, show (("1" : Str)) = wayS [true] by decide, show (("11" : Str)) = wayS [true, true] by decide]
  rfl
theorem wl_b : wl bT = [.tup [.str "0", .str "0"]] ++ (pa aT.1 aT.2).map (fun p => w2 (ext2 true p)) := by
  rw [bT, wl_sbs (f := oneT) rfl, show (("0" : Str)) = wayS [false] by decide]
  rfl
theorem wl_one : wl oneT = [.tup [.str "", .str ""]] := by
  rw [show (("" : Str)) = wayS [] by decide]
  rfl
/-- a bit ahead of each word -/
theorem ahead_wp {f : Tr × Tr} {m i j : Nat} {ρ : En} {b : Bool} {bs : Str} {KL : List D → Hb → Prop} (hbs : bs = wayS [b]) (e : Ok f) (hl : f.1.lvs ≤ 900) (hm : h[m]? = some (wl f)) (hij : i ≠ j) (hi : i < ρ.length) (hj : j < ρ.length) (k : KL ((pa f.1 f.2).map (fun p => w2 (ext2 b p))) h) :
    Wp (lcGo (fun h' => h'[m]? = some (wl f)) (gTp (gsCons (gNm i) (gsCons (gNm j) gsNil))) tYs (dTup (aCons (dBin oAdd (dC (.str bs)) (dVar i)) (aCons (dBin oAdd (dC (.str bs)) (dVar j)) aNil))) ρ (wl f) h) KL := by
  have e' : f.1.lvs = f.2.lvs := e
  refine Wp.lcM w2 (fun p => w2 (ext2 b p)) (pa f.1 f.2) (fun h' => h' = h) rfl (fun h' e => by rw [e]; exact hm) (fun x hx h' e => ?_) fun h' e => ?_
  · have sx := pa_short hx
    rw [show w2 x = .tup [.str (wayS x.1), .str (wayS x.2)] from rfl]
    refine Wp.gTp (Wp.gsC (Wp.gNm (Wp.gsC (Wp.gNm (Wp.gsN (Wp.tYs ⟨rfl, ?_⟩))))))
    have q1 : ((ρ.set i (some (D.str (wayS x.1)))).set j (some (D.str (wayS x.2))))[i]? = some (some (.str (wayS x.1))) := by
      rw [List.getElem?_set_ne (Ne.symm hij), List.getElem?_set_self hi]
    have q2 : ((ρ.set i (some (D.str (wayS x.1)))).set j (some (D.str (wayS x.2))))[j]? = some (some (.str (wayS x.2))) := by
      rw [List.getElem?_set_self (by rw [List.length_set]; exact hj)]
    refine Wp.tup (Wp.acons (Wp.bin (Wp.con (Wp.var q1 ?_))))
    rw [hbs]
    refine Wp.addS (by rw [wayS_len, wayS_len]; show 1 + _ ≤ _; omega) ?_
    rw [wayS_app]
    refine Wp.acons (Wp.bin (Wp.con (Wp.var q2 ?_)))
    refine Wp.addS (by rw [wayS_len, wayS_len]; show 1 + _ ≤ _; omega) ?_
    rw [wayS_app]
    exact Wp.anil (tupK (Nat.le_of_ble_eq_true rfl) ⟨rfl, e⟩)
  · subst e
    exact k
/-- one of the four moves -/
def mvT (v : Nat) : Tr × Tr := if v = 0 then aT else if v = 1 then bT else if v = 2 then bck aT else bck bT
theorem mvT_ok (v : Nat) : Ok (mvT v) ∧ (mvT v).1.lvs ≤ 4 := by
  unfold mvT
  split
  · exact ⟨rfl, by decide⟩
  split
  · exact ⟨rfl, by decide⟩
  split
  · exact ⟨rfl, by decide⟩
  · exact ⟨rfl, by decide⟩
theorem some_raw : ∀ (fuel most : Nat) {h : Hb} {F : List (Nat × List D)}, most ≤ fuel → 1 ≤ most → most ≤ 64 → SD h0 n F h →
    Wp (recN fuel (fun self => runD 12 (b_law_some self)) [.dct dk n, .int ((most : Nat) : Int)] h) fun r h' => ∃ (f : Tr × Tr) (m : Nat), Ok f ∧ f.1.lvs ≤ most ∧ r = .lst m ∧ SD h0 n ((m, wl f) :: F) h'
  | 0, most, h, F, h1, h2, _, _ => by omega
  | fuel + 1, most, h, F, h1, h2, h3, S => by
    show Wp (runD 12 (b_law_some (recN fuel (fun self => runD 12 (b_law_some self)))) _ h) _
    refine Wp.run [some (.dct dk n), some (.int ((most : Nat) : Int)), none, none, none, none, none, none, none, none, none, none] rfl ?_
    unfold b_law_some
    walk_at "w"
    refine draw3_wp (many := 4) rfl (by decide) (b := 10) (by decide) (by decide) S fun v hv h S => ?_
    walk_at "w"
    have one : ∀ {h : Hb} {b : Sn}, SD h0 n F h → Wp (sSeq (sAsg (dBin oIx (dLst (aCons (dVar 1) (aCons (dBin oAdd (dC (.int 1)) (dCall d_law_draw_3 (aCons (dVar 0) (aCons (dVar 1) aNil)))) aNil))) (dCall d_law_draw_3 (aCons (dVar 0) (aCons (dC (.int 2)) aNil)))) (gNm 3))
        (sRet (dCall d_law_trim (aCons (dLz (aCons (dCall d_law_words (aCons (dVar 0) (aCons (dVar 3) (aCons (dC (.str "")) aNil)))) (aCons (dCall d_law_words (aCons (dVar 0) (aCons (dVar 3) (aCons (dC (.str "")) aNil)))) aNil))) aNil)))
        [some (.dct dk n), some (.int ((most : Nat) : Int)), some (.int ((v : Nat) : Int)), none, none, none, none, none, none, none, none, none] h) (sqK b (fnK fun r h' => ∃ (f : Tr × Tr) (m : Nat), Ok f ∧ f.1.lvs ≤ most ∧ r = .lst m ∧ SD h0 n ((m, wl f) :: F) h')) := by
      intro h b S
      walk_at "w"
      refine draw3_wp (many := most) rfl (by omega) (b := 10) (by omega) (by decide) S fun v1 hv1 h S => ?_
      walk_at "w"
      obtain ⟨q, ok, S⟩ := S
      refine Wp.new S (line8 (Nat.le_of_ble_eq_true rfl)) fun l2 h S => ?_
      walk_at "w"
      refine draw3_wp (F := (l2, _) :: F) (many := 2) rfl (by decide) (b := 10) (by decide) (by decide) ⟨q, ok, S⟩ fun v2 hv2 h S => ?_
      obtain ⟨q, ok, S⟩ := S
      obtain ⟨y, ey, y1, y2⟩ : ∃ y : Nat, [D.int ((most : Nat) : Int), .int (1 + ((v1 : Nat) : Int))][v2]? = some (.int ((y : Nat) : Int)) ∧ 1 ≤ y ∧ y ≤ most := by
        match v2, hv2 with
        | 0, _ => exact ⟨most, rfl, h2, Nat.le_refl _⟩
        | 1, _ => exact ⟨1 + v1, by show some (D.int (1 + ((v1 : Nat) : Int))) = _; rw [show 1 + ((v1 : Nat) : Int) = ((1 + v1 : Nat) : Int) by omega], by omega, by omega⟩
      refine Wp.ixL (S.get (i := 0) rfl) ey ?_
      replace S : SD h0 n F h := ⟨q, ok, S.sub (.cons _ (List.Sublist.refl _))⟩
      walk_at "w"
      refine words_wp rfl (by decide) y1 (by omega) S fun t m1 lt h S => ?_
      walk_at "w"
      refine words_wp rfl (by decide) y1 (by omega) S fun t' m2 lt' h S => ?_
      walk_at "w"
      obtain ⟨q, ok, S⟩ := S
      refine ⟨.lst m1, .lst m2, _, _, rfl, S.get (i := 1) rfl, S.get (i := 0) rfl, ?_⟩
      rw [zip_words]
      refine Wp.new' S fun m3 h S => ?_
      walk_at "w"
      refine ltrim_wp (f := (t, t')) (by show t.lvs = t'.lvs; rw [lt, lt']) (S.get (i := 0) rfl) (by show t.lvs ≤ 900; omega) S fun m4 h S => ?_
      walk_at "w"
      have eo : Ok (t, t') := by show t.lvs = t'.lvs; rw [lt, lt']
      refine ⟨trim (t, t'), m4, trim_lvs eo, Nat.le_trans (trim_le eo) (by show t.lvs ≤ most; omega), rfl, q, ok, ?_⟩
      exact S.sub (.cons₂ _ (.cons _ (.cons _ (.cons _ (List.Sublist.refl _)))))
    refine ⟨fun hc => ?_, fun hc => ?_⟩
    · exact brT (one S)
    walk_at "w"
    refine ⟨fun hc2 => ?_, fun hc2 => ?_⟩
    · exact one S
    clear one
    have h4 : 4 ≤ most := by simp at hc2; omega
    walk_at "w"
    refine ⟨fun hc3 => ?_, fun hc3 => ?_⟩
    · walk_at "w"
      obtain ⟨q, ok, S⟩ := S
      refine Wp.new S (line8 (Nat.le_of_ble_eq_true rfl)) fun ca h S => ?_
      rw [← wl_a] at S
      walk_at "w"
      refine Wp.new S (line8 (Nat.le_of_ble_eq_true rfl)) fun c0 h S => ?_
      have hca := S.get (i := 1) rfl
      walk_at "w"
      refine ahead_wp (f := aT) (b := true) (by decide) rfl (by decide) hca (by decide) (by show 10 < 12; decide) (by show 11 < 12; decide) ?_
      refine Wp.new S (by rw [List.length_map, size_val]; decide) fun c1 h S => ?_
      refine Wp.addL S (S.get (i := 1) rfl) (S.get (i := 0) rfl) (by rw [List.length_map]; decide) fun cb h S => ?_
      rw [← wl_b] at S
      replace S := S.sub (L' := (cb, wl bT) :: (ca, wl aT) :: (F ++ DC n q)) (.cons₂ _ (.cons _ (.cons _ (List.Sublist.refl _))))
      walk_at "w"
      refine Wp.new S (line8 (Nat.le_of_ble_eq_true rfl)) fun cf h S => ?_
      rw [← wl_one] at S
      walk_at "w"
      refine draw3_wp (F := (cf, wl oneT) :: (cb, wl bT) :: (ca, wl aT) :: F) (many := most) rfl (by omega) (b := 10) (by omega) (by decide) ⟨q, ok, S⟩ fun v1 hv1 h S => ?_
      walk_at "w"
      refine ⟨1 + v1, congrArg D.int (by omega), by omega, ?_⟩
      rw [rangeD_zero]
      refine Wp.forI (fun k : Nat => D.int ((k : Nat) : Int)) (List.range (1 + v1)) (fun _ _ ρ h' => ∃ (p7 p8 : Option D) (f : Tr × Tr) (cf : Nat), Ok f ∧ f.1.lvs ≤ most ∧ ρ = [some (.dct dk n), some (.int ((most : Nat) : Int)), some (.int ((v : Nat) : Int)), none, some (.lst ca), some (.lst cb), some (.lst cf), p7, p8, none, none, none] ∧ SD h0 n ((cf, wl f) :: (cb, wl bT) :: (ca, wl aT) :: F) h') ⟨_, _, oneT, cf, rfl, by show 1 ≤ most; omega, rfl, S⟩ (fun _ _ _ _ _ => trivial) ?_ ?_
      · rintro as k bs _ h hk ⟨p7, p8, f, cf, ef, lf, rfl, S⟩
        obtain ⟨q, ok, S⟩ := S
        walk_at "w"
        refine lback_wp (f := aT) (S.get (i := 2) rfl) (by decide) S fun m1 h S => ?_
        walk_at "w"
        refine lback_wp (f := bT) (S.get (i := 2) rfl) (by decide) S fun m2 h S => ?_
        walk_at "w"
        refine Wp.new S (line8 (Nat.le_of_ble_eq_true rfl)) fun m3 h S => ?_
        walk_at "w"
        refine draw3_wp (F := (m3, _) :: (m2, wl (bck bT)) :: (m1, wl (bck aT)) :: (cf, wl f) :: (cb, wl bT) :: (ca, wl aT) :: F) (many := 4) rfl (by decide) (b := 10) (by decide) (by decide) ⟨q, ok, S⟩ fun v4 hv4 h S => ?_
        obtain ⟨q, ok, S⟩ := S
        obtain ⟨cg, e1, e2⟩ : ∃ cg : Nat, [D.lst ca, .lst cb, .lst m1, .lst m2][v4]? = some (.lst cg) ∧ h[cg]? = some (wl (mvT v4)) := by
          match v4, hv4 with
          | 0, _ => exact ⟨ca, rfl, S.get (i := 5) rfl⟩
          | 1, _ => exact ⟨cb, rfl, S.get (i := 4) rfl⟩
          | 2, _ => exact ⟨m1, rfl, S.get (i := 2) rfl⟩
          | 3, _ => exact ⟨m2, rfl, S.get (i := 1) rfl⟩
        refine Wp.ixL (S.get (i := 0) rfl) e1 ?_
        have mo := mvT_ok v4
        walk_at "w"
        refine lthen_wp ef mo.1 (S.get (i := 3) rfl) e2 (by omega) (by omega) S fun m5 h S => ?_
        walk_at "w"
        refine Wp.new S (line8 (Nat.le_of_ble_eq_true rfl)) fun m6 h S => ?_
        have eo := cmp_lvs ef mo.1
        have lc : (wl (cmp f (mvT v4))).length = (cmp f (mvT v4)).1.lvs := by unfold wl; rw [List.length_map, pa_length eo]
        walk_at "w"
        rw [lc]
        refine Wp.int1C ?_
        by_cases hle : (cmp f (mvT v4)).1.lvs ≤ most
        · rw [decide_eq_true (by omega), if_pos rfl]
          refine Wp.ixL (j := 1) (S.get (i := 0) rfl) rfl ?_
          walk_at "w"
          exact ⟨_, _, cmp f (mvT v4), m5, eo, hle, rfl, q, ok, S.sub (.cons _ (.cons₂ _ (.cons _ (.cons _ (.cons _ (.cons _ (List.Sublist.refl _)))))))⟩
        · rw [decide_eq_false (by omega), if_neg (by decide)]
          refine Wp.ixL (j := 0) (S.get (i := 0) rfl) rfl ?_
          walk_at "w"
          exact ⟨_, _, f, cf, ef, lf, rfl, q, ok, S.sub (.cons _ (.cons _ (.cons _ (.cons _ (.cons _ (List.Sublist.refl _))))))⟩
      · rintro _ h ⟨p7, p8, f, cf, ef, lf, rfl, S⟩
        walk_at "w"
        obtain ⟨q, ok, S⟩ := S
        exact ⟨f, cf, ef, lf, rfl, q, ok, S.sub (.cons₂ _ (.cons _ (.cons _ (List.Sublist.refl _))))⟩
    · walk_at "w"
      rw [show ((most : Nat) : Int) / 2 = ((most / 2 : Nat) : Int) by omega]
      refine (some_raw fuel (most / 2) (by omega) (by omega) (by omega) S).mono fun r h ⟨f, m1, ef, lf, er, S⟩ => ?_
      subst er
      obtain ⟨q, ok, S⟩ := S
      have hm1 := S.get (i := 0) rfl
      walk_at "w"
      refine ahead_wp (f := f) (b := false) (by decide) ef (by omega) hm1 (by decide) (by show 10 < 12; decide) (by show 11 < 12; decide) ?_
      refine Wp.new S (by rw [List.length_map, size_val, pa_length ef]; omega) fun m2 h S => ?_
      clear hm1
      walk_at "w"
      rw [show ((most : Nat) : Int) / 2 = ((most / 2 : Nat) : Int) by omega]
      refine (some_raw (F := (m2, _) :: (m1, wl f) :: F) fuel (most / 2) (by omega) (by omega) (by omega) ⟨q, ok, S⟩).mono fun r h ⟨g, m3, eg, lg, er, S⟩ => ?_
      subst er
      obtain ⟨q, ok, S⟩ := S
      have hm1 := S.get (i := 0) rfl
      walk_at "w"
      refine ahead_wp (f := g) (b := true) (by decide) eg (by omega) hm1 (by decide) (by show 10 < 12; decide) (by show 11 < 12; decide) ?_
      refine Wp.new S (by rw [List.length_map, size_val, pa_length eg]; omega) fun m4 h S => ?_
      refine Wp.addL S (S.get (i := 2) rfl) (S.get (i := 0) rfl) (by rw [List.length_map, List.length_map, pa_length ef, pa_length eg]; omega) fun m5 h S => ?_
      rw [← wl_sbs ef] at S
      walk_at "w"
      have eo := sbs_ok ef eg
      have lo : (sbs f g).1.lvs = f.1.lvs + g.1.lvs := rfl
      refine ltrim_wp eo (S.get (i := 0) rfl) (by omega) S fun m6 h S => ?_
      walk_at "w"
      exact ⟨trim (sbs f g), m6, trim_lvs eo, Nat.le_trans (trim_le eo) (by omega), rfl, q, ok, S.sub (.cons₂ _ (.cons _ (.cons _ (.cons _ (.cons _ (.cons _ (List.Sublist.refl _)))))))⟩
theorem some_wp {most : Nat} {mi : Int} (em : mi = ((most : Nat) : Int)) (h1 : 1 ≤ most) (h2 : most ≤ 64) (S : SD h0 n F h) (k : ∀ (f : Tr × Tr) (m : Nat), Ok f → f.1.lvs ≤ most → ∀ h', SD h0 n ((m, wl f) :: F) h' → K (.lst m) h') : Wp (d_law_some [.dct dk n, .int mi] h) K := by
  subst em
  exact (some_raw 64 most h2 h1 h2 S).mono fun r h ⟨f, m, ef, lf, er, S⟩ => by rw [er]; exact k f m ef lf h S
end
end C

set_option Elab.async false
set_option linter.all false
set_option maxRecDepth 100000
set_option maxHeartbeats 4000000
namespace C
open PySem L2 Hv
local macro_rules | `(tactic| walk_at "sl") => `(tactic| repeat (first | exact List.nil_sublist _ | (with_reducible exact List.Sublist.refl _) | (with_reducible refine List.Sublist.cons₂ _ ?_) | (refine List.Sublist.cons _ ?_)))
set_option hygiene false in
local macro_rules | `(tactic| walk_at "rd") => `(tactic| first | exact S.get (i := 0) rfl | exact S.get (i := 1) rfl | exact S.get (i := 2) rfl | exact S.get (i := 3) rfl | exact S.get (i := 4) rfl | exact S.get (i := 5) rfl | assumption | exact S.old (by assumption))
set_option hygiene false in
local macro_rules | `(tactic| walk_at "s") => `(tactic| first
  | with_reducible refine Wp.seq ?_ | with_reducible refine sqK.nx ?_ | with_reducible refine sqK.rt ?_ | with_reducible refine Wp.asg ?_
  | ((with_reducible apply Wp.var); exact rfl) | with_reducible refine Wp.con ?_ | with_reducible refine Wp.bin ?_ | with_reducible refine Wp.call ?_ | with_reducible refine Wp.acons ?_ | with_reducible refine Wp.anil ?_
  | ((with_reducible refine Wp.gNm ?_); try dsimp only [List.set_cons_zero, List.set_cons_succ]) | with_reducible refine Wp.gTp ?_ | with_reducible refine Wp.gsC ?_ | with_reducible refine Wp.gsN ?_ | with_reducible refine Wp.gIx ?_ | with_reducible refine Wp.gSl ?_
  | with_reducible refine Wp.sif ?_ | with_reducible refine Wp.tCm ?_ | with_reducible refine exB ?_ | with_reducible refine brT ?_ | with_reducible refine brF ?_ | with_reducible refine brNT ?_ | with_reducible refine brNF ?_ | with_reducible refine Wp.tT ?_ | with_reducible refine truB ?_ | with_reducible refine truI ?_ | with_reducible refine truT ?_ | with_reducible refine truN ?_
  | ((with_reducible apply truL); walk_at "rd") | with_reducible refine Wp.tNt ?_ | with_reducible refine Wp.tAn ?_ | with_reducible refine Wp.tOr ?_ | with_reducible refine Wp.tYs ?_
  | with_reducible refine Wp.sret ?_ | with_reducible refine Wp.ex ?_ | with_reducible refine Wp.nx ?_ | with_reducible refine Wp.sbk ?_ | with_reducible refine Wp.sct ?_ | (with_reducible refine Wp.aug ?_) | (with_reducible refine Wp.par ?_) | with_reducible refine parK ?_
  | (with_reducible refine Wp.tup ?_) | ((with_reducible refine tupK ?_ ?_); exact Nat.le_of_ble_eq_true rfl) | with_reducible refine Wp.lst ?_ | with_reducible refine Wp.m ?_ | with_reducible refine Wp.mlst ?_ | with_reducible refine Wp.andT ?_ | with_reducible refine Wp.orT ?_ | with_reducible refine Wp.if_ ?_
  | with_reducible refine Wp.un ?_ | with_reducible refine negK ?_ | with_reducible refine notK ?_
  | with_reducible refine jnK.nx ?_ | with_reducible refine jnK.rt ?_ | with_reducible refine fnK.rt ?_ | with_reducible refine fnK.nx ?_ | with_reducible refine lpK.nx ?_ | with_reducible refine lpK.ct ?_ | with_reducible refine lpK.bk ?_ | with_reducible refine lpK.rt ?_
  | with_reducible refine Wp.addI ?_ | with_reducible refine Wp.subI ?_ | with_reducible refine Wp.iaddI ?_ | with_reducible refine Wp.andI ?_ | ((with_reducible refine Wp.mulI ?_ ?_); first | exact .inl (by decide) | exact .inr (by decide)) | ((with_reducible refine Wp.modI ?_ ?_); exact (by decide)) | ((with_reducible refine Wp.divI ?_ ?_); exact (by decide))
  | with_reducible refine Wp.ltI ?_ | with_reducible refine Wp.leI ?_ | with_reducible refine Wp.gtI ?_ | with_reducible refine Wp.geI ?_ | with_reducible refine Wp.eqI ?_ | with_reducible refine Wp.neI ?_
  | with_reducible refine Wp.ixT0 ?_ | with_reducible refine Wp.ixT1 ?_ | ((with_reducible apply Wp.lenL); walk_at "rd") | with_reducible refine Wp.lenT ?_ | with_reducible refine Wp.lenR ?_
  | with_reducible refine Wp.isiT ?_ | with_reducible refine Wp.isiL ?_ | with_reducible refine Wp.isiI ?_ | with_reducible refine Wp.isiB ?_ | with_reducible refine Wp.isiS ?_ | with_reducible refine Wp.lz ?_ | with_reducible refine Wp.sfor ?_ | with_reducible refine Wp.iAny ?_ | ((with_reducible apply Wp.anyL); walk_at "rd"; try dsimp only [wipeE, List.set_cons_zero, List.set_cons_succ]) | ((with_reducible refine Wp.anyT ?_); try dsimp only [wipeE, List.set_cons_zero, List.set_cons_succ]) | ((with_reducible refine Wp.anyR ?_); try dsimp only [wipeE, List.set_cons_zero, List.set_cons_succ]) | ((with_reducible refine Wp.anyX ?_); try dsimp only [wipeE, List.set_cons_zero, List.set_cons_succ]) | with_reducible refine Wp.lc ?_
  | ((with_reducible apply Wp.tupL); walk_at "rd") | with_reducible refine Wp.tupT ?_ | with_reducible refine Wp.sl ?_ | with_reducible refine Wp.oNo ?_ | with_reducible refine Wp.oSo ?_ | with_reducible refine soK ?_ | with_reducible refine Wp.rg1 ?_ | with_reducible refine Wp.rg2 ?_ | with_reducible refine Wp.zip ?_ | with_reducible refine Wp.enum ?_ | with_reducible refine Wp.rev ?_
  | with_reducible refine Wp.kx ?_ | with_reducible refine Wp.kp ?_ | with_reducible refine Wp.dsp ?_ | with_reducible refine Wp.anC ?_ | with_reducible refine Wp.anN ?_ | with_reducible refine Wp.chain ?_ | with_reducible refine Wp.tch ?_ | with_reducible refine Wp.maxI ?_ | with_reducible refine Wp.absI ?_ | with_reducible refine Wp.isN ?_ | with_reducible refine Wp.isnN ?_ | with_reducible refine Wp.if_ ?_)
set_option hygiene false in
local macro_rules | `(tactic| walk_at "w") => `(tactic| repeat (walk_at "s"))
section
variable {h0 h : Hb} {L : List (Nat × List D)} {K : D → Hb → Prop} {ns : List Int}
/-- no leaf deeper -/
def Dp (n : Nat) (t : Tr) : Prop := ∀ d ∈ dps t 0, d ≤ n
end
end C

set_option Elab.async false
set_option linter.all false
set_option maxRecDepth 100000
set_option maxHeartbeats 4000000
namespace C
open PySem L2 Hv
local macro_rules | `(tactic| walk_at "sl") => `(tactic| repeat (first | exact List.nil_sublist _ | (with_reducible exact List.Sublist.refl _) | (with_reducible refine List.Sublist.cons₂ _ ?_) | (refine List.Sublist.cons _ ?_)))
set_option hygiene false in
local macro_rules | `(tactic| walk_at "rd") => `(tactic| first | exact S.get (i := 0) rfl | exact S.get (i := 1) rfl | exact S.get (i := 2) rfl | exact S.get (i := 3) rfl | exact S.get (i := 4) rfl | exact S.get (i := 5) rfl | assumption | exact S.old (by assumption))
set_option hygiene false in
local macro_rules | `(tactic| walk_at "s") => `(tactic| first
  | with_reducible refine Wp.seq ?_ | with_reducible refine sqK.nx ?_ | with_reducible refine sqK.rt ?_ | with_reducible refine Wp.asg ?_
  | ((with_reducible apply Wp.var); exact rfl) | with_reducible refine Wp.con ?_ | with_reducible refine Wp.bin ?_ | with_reducible refine Wp.call ?_ | with_reducible refine Wp.acons ?_ | with_reducible refine Wp.anil ?_
  | ((with_reducible refine Wp.gNm ?_); try dsimp only [List.set_cons_zero, List.set_cons_succ]) | with_reducible refine Wp.gTp ?_ | with_reducible refine Wp.gsC ?_ | with_reducible refine Wp.gsN ?_ | with_reducible refine Wp.gIx ?_ | with_reducible refine Wp.gSl ?_
  | with_reducible refine Wp.sif ?_ | with_reducible refine Wp.tCm ?_ | with_reducible refine exB ?_ | with_reducible refine brT ?_ | with_reducible refine brF ?_ | with_reducible refine brNT ?_ | with_reducible refine brNF ?_ | with_reducible refine Wp.tT ?_ | with_reducible refine truB ?_ | with_reducible refine truI ?_ | with_reducible refine truT ?_ | with_reducible refine truN ?_
  | ((with_reducible apply truL); walk_at "rd") | with_reducible refine Wp.tNt ?_ | with_reducible refine Wp.tAn ?_ | with_reducible refine Wp.tOr ?_ | with_reducible refine Wp.tYs ?_
  | with_reducible refine Wp.sret ?_ | with_reducible refine Wp.ex ?_ | with_reducible refine Wp.nx ?_ | with_reducible refine Wp.sbk ?_ | with_reducible refine Wp.sct ?_ | (with_reducible refine Wp.aug ?_) | (with_reducible refine Wp.par ?_) | with_reducible refine parK ?_
  | (with_reducible refine Wp.tup ?_) | ((with_reducible refine tupK ?_ ?_); exact Nat.le_of_ble_eq_true rfl) | with_reducible refine Wp.lst ?_ | with_reducible refine Wp.m ?_ | with_reducible refine Wp.mlst ?_ | with_reducible refine Wp.andT ?_ | with_reducible refine Wp.orT ?_ | with_reducible refine Wp.if_ ?_
  | with_reducible refine Wp.un ?_ | with_reducible refine negK ?_ | with_reducible refine notK ?_
  | with_reducible refine jnK.nx ?_ | with_reducible refine jnK.rt ?_ | with_reducible refine fnK.rt ?_ | with_reducible refine fnK.nx ?_ | with_reducible refine lpK.nx ?_ | with_reducible refine lpK.ct ?_ | with_reducible refine lpK.bk ?_ | with_reducible refine lpK.rt ?_
  | with_reducible refine Wp.addI ?_ | with_reducible refine Wp.subI ?_ | with_reducible refine Wp.iaddI ?_ | with_reducible refine Wp.andI ?_ | ((with_reducible refine Wp.mulI ?_ ?_); first | exact .inl (by decide) | exact .inr (by decide)) | ((with_reducible refine Wp.modI ?_ ?_); exact (by decide)) | ((with_reducible refine Wp.divI ?_ ?_); exact (by decide))
  | with_reducible refine Wp.ltI ?_ | with_reducible refine Wp.leI ?_ | with_reducible refine Wp.gtI ?_ | with_reducible refine Wp.geI ?_ | with_reducible refine Wp.eqI ?_ | with_reducible refine Wp.neI ?_
  | with_reducible refine Wp.ixT0 ?_ | with_reducible refine Wp.ixT1 ?_ | ((with_reducible apply Wp.lenL); walk_at "rd") | with_reducible refine Wp.lenT ?_ | with_reducible refine Wp.lenR ?_
  | with_reducible refine Wp.isiT ?_ | with_reducible refine Wp.isiL ?_ | with_reducible refine Wp.isiI ?_ | with_reducible refine Wp.isiB ?_ | with_reducible refine Wp.isiS ?_ | with_reducible refine Wp.lz ?_ | with_reducible refine Wp.sfor ?_ | with_reducible refine Wp.iAny ?_ | ((with_reducible apply Wp.anyL); walk_at "rd"; try dsimp only [wipeE, List.set_cons_zero, List.set_cons_succ]) | ((with_reducible refine Wp.anyT ?_); try dsimp only [wipeE, List.set_cons_zero, List.set_cons_succ]) | ((with_reducible refine Wp.anyR ?_); try dsimp only [wipeE, List.set_cons_zero, List.set_cons_succ]) | ((with_reducible refine Wp.anyX ?_); try dsimp only [wipeE, List.set_cons_zero, List.set_cons_succ]) | with_reducible refine Wp.lc ?_
  | ((with_reducible apply Wp.tupL); walk_at "rd") | with_reducible refine Wp.tupT ?_ | with_reducible refine Wp.sl ?_ | with_reducible refine Wp.oNo ?_ | with_reducible refine Wp.oSo ?_ | with_reducible refine soK ?_ | with_reducible refine Wp.rg1 ?_ | with_reducible refine Wp.rg2 ?_ | with_reducible refine Wp.zip ?_ | with_reducible refine Wp.enum ?_ | with_reducible refine Wp.rev ?_
  | with_reducible refine Wp.kx ?_ | with_reducible refine Wp.kp ?_ | with_reducible refine Wp.dsp ?_ | with_reducible refine Wp.anC ?_ | with_reducible refine Wp.anN ?_ | with_reducible refine Wp.chain ?_ | with_reducible refine Wp.tch ?_ | with_reducible refine Wp.maxI ?_ | with_reducible refine Wp.absI ?_ | with_reducible refine Wp.isN ?_ | with_reducible refine Wp.isnN ?_ | with_reducible refine Wp.if_ ?_)
set_option hygiene false in
local macro_rules | `(tactic| walk_at "w") => `(tactic| repeat (walk_at "s"))
section
variable {h0 h : Hb} {L : List (Nat × List D)} {K : D → Hb → Prop} {ns : List Int}
theorem Wp.minI {i j : Int} (k : K (.int (if j < i then j else i)) h) : Wp (oMin [.int i, .int j] h) K := .ret k
end
end C

set_option Elab.async false
set_option linter.all false
set_option maxRecDepth 100000
set_option maxHeartbeats 4000000
namespace C
open PySem L2 Hv
local macro_rules | `(tactic| walk_at "sl") => `(tactic| repeat (first | exact List.nil_sublist _ | (with_reducible exact List.Sublist.refl _) | (with_reducible refine List.Sublist.cons₂ _ ?_) | (refine List.Sublist.cons _ ?_)))
set_option hygiene false in
local macro_rules | `(tactic| walk_at "rd") => `(tactic| first | exact S.get (i := 0) rfl | exact S.get (i := 1) rfl | exact S.get (i := 2) rfl | exact S.get (i := 3) rfl | exact S.get (i := 4) rfl | exact S.get (i := 5) rfl | assumption | exact S.old (by assumption))
set_option hygiene false in
local macro_rules | `(tactic| walk_at "s") => `(tactic| first
  | with_reducible refine Wp.seq ?_ | with_reducible refine sqK.nx ?_ | with_reducible refine sqK.rt ?_ | with_reducible refine Wp.asg ?_
  | ((with_reducible apply Wp.var); exact rfl) | with_reducible refine Wp.con ?_ | with_reducible refine Wp.bin ?_ | with_reducible refine Wp.call ?_ | with_reducible refine Wp.acons ?_ | with_reducible refine Wp.anil ?_
  | ((with_reducible refine Wp.gNm ?_); try dsimp only [List.set_cons_zero, List.set_cons_succ]) | with_reducible refine Wp.gTp ?_ | with_reducible refine Wp.gsC ?_ | with_reducible refine Wp.gsN ?_ | with_reducible refine Wp.gIx ?_ | with_reducible refine Wp.gSl ?_
  | with_reducible refine Wp.sif ?_ | with_reducible refine Wp.tCm ?_ | with_reducible refine exB ?_ | with_reducible refine brT ?_ | with_reducible refine brF ?_ | with_reducible refine brNT ?_ | with_reducible refine brNF ?_ | with_reducible refine Wp.tT ?_ | with_reducible refine truB ?_ | with_reducible refine truI ?_ | with_reducible refine truT ?_ | with_reducible refine truN ?_
  | ((with_reducible apply truL); walk_at "rd") | with_reducible refine Wp.tNt ?_ | with_reducible refine Wp.tAn ?_ | with_reducible refine Wp.tOr ?_ | with_reducible refine Wp.tYs ?_
  | with_reducible refine Wp.sret ?_ | with_reducible refine Wp.ex ?_ | with_reducible refine Wp.nx ?_ | with_reducible refine Wp.sbk ?_ | with_reducible refine Wp.sct ?_ | (with_reducible refine Wp.aug ?_) | (with_reducible refine Wp.par ?_) | with_reducible refine parK ?_
  | (with_reducible refine Wp.tup ?_) | ((with_reducible refine tupK ?_ ?_); exact Nat.le_of_ble_eq_true rfl) | with_reducible refine Wp.lst ?_ | with_reducible refine Wp.m ?_ | with_reducible refine Wp.mlst ?_ | with_reducible refine Wp.andT ?_ | with_reducible refine Wp.orT ?_ | with_reducible refine Wp.if_ ?_
  | with_reducible refine Wp.un ?_ | with_reducible refine negK ?_ | with_reducible refine notK ?_
  | with_reducible refine jnK.nx ?_ | with_reducible refine jnK.rt ?_ | with_reducible refine fnK.rt ?_ | with_reducible refine fnK.nx ?_ | with_reducible refine lpK.nx ?_ | with_reducible refine lpK.ct ?_ | with_reducible refine lpK.bk ?_ | with_reducible refine lpK.rt ?_
  | with_reducible refine Wp.addI ?_ | with_reducible refine Wp.subI ?_ | with_reducible refine Wp.iaddI ?_ | with_reducible refine Wp.andI ?_ | ((with_reducible refine Wp.mulI ?_ ?_); first | exact .inl (by decide) | exact .inr (by decide)) | ((with_reducible refine Wp.modI ?_ ?_); exact (by decide)) | ((with_reducible refine Wp.divI ?_ ?_); exact (by decide))
  | with_reducible refine Wp.ltI ?_ | with_reducible refine Wp.leI ?_ | with_reducible refine Wp.gtI ?_ | with_reducible refine Wp.geI ?_ | with_reducible refine Wp.eqI ?_ | with_reducible refine Wp.neI ?_
  | with_reducible refine Wp.ixT0 ?_ | with_reducible refine Wp.ixT1 ?_ | ((with_reducible apply Wp.lenL); walk_at "rd") | with_reducible refine Wp.lenT ?_ | with_reducible refine Wp.lenR ?_
  | with_reducible refine Wp.isiT ?_ | with_reducible refine Wp.isiL ?_ | with_reducible refine Wp.isiI ?_ | with_reducible refine Wp.isiB ?_ | with_reducible refine Wp.isiS ?_ | with_reducible refine Wp.lz ?_ | with_reducible refine Wp.sfor ?_ | with_reducible refine Wp.iAny ?_ | ((with_reducible apply Wp.anyL); walk_at "rd"; try dsimp only [wipeE, List.set_cons_zero, List.set_cons_succ]) | ((with_reducible refine Wp.anyT ?_); try dsimp only [wipeE, List.set_cons_zero, List.set_cons_succ]) | ((with_reducible refine Wp.anyR ?_); try dsimp only [wipeE, List.set_cons_zero, List.set_cons_succ]) | ((with_reducible refine Wp.anyX ?_); try dsimp only [wipeE, List.set_cons_zero, List.set_cons_succ]) | with_reducible refine Wp.lc ?_
  | ((with_reducible apply Wp.tupL); walk_at "rd") | with_reducible refine Wp.tupT ?_ | with_reducible refine Wp.sl ?_ | with_reducible refine Wp.oNo ?_ | with_reducible refine Wp.oSo ?_ | with_reducible refine soK ?_ | with_reducible refine Wp.rg1 ?_ | with_reducible refine Wp.rg2 ?_ | with_reducible refine Wp.zip ?_ | with_reducible refine Wp.enum ?_ | with_reducible refine Wp.rev ?_
  | with_reducible refine Wp.kx ?_ | with_reducible refine Wp.kp ?_ | with_reducible refine Wp.dsp ?_ | with_reducible refine Wp.anC ?_ | with_reducible refine Wp.anN ?_ | with_reducible refine Wp.chain ?_ | with_reducible refine Wp.tch ?_ | with_reducible refine Wp.maxI ?_ | with_reducible refine Wp.absI ?_ | with_reducible refine Wp.isN ?_ | with_reducible refine Wp.isnN ?_ | with_reducible refine Wp.if_ ?_)
set_option hygiene false in
local macro_rules | `(tactic| walk_at "w") => `(tactic| repeat (walk_at "s"))
/-! ### a leaf cut in both trees -/
def chry : Tr := .node .leaf .leaf
def cutL (m k : Nat) : List Tr := List.replicate k .leaf ++ chry :: List.replicate (m - k - 1) .leaf
theorem flat_leaves : ∀ (xs : List Pa) (m : Nat), xs.length = m → (xs.zip (List.replicate m Tr.leaf)).flatMap (fun x => exq x.2 x.1) = xs
  | [], _, h => by subst h; rfl
  | x :: xs, 0, h => by cases h
  | x :: xs, m + 1, h => by
    rw [List.replicate_succ, List.zip_cons_cons, List.flatMap_cons, flat_leaves xs m (by simpa using h)]
    rfl
theorem pa_cut {f : Tr × Tr} (e : Ok f) {k : Nat} {x : Pa} (hx : (pa f.1 f.2)[k]? = some x) :
    Ok (graft f.1 (cutL f.1.lvs k), graft f.2 (cutL f.1.lvs k)) ∧ Ex f (graft f.1 (cutL f.1.lvs k), graft f.2 (cutL f.1.lvs k)) ∧
    pa (graft f.1 (cutL f.1.lvs k)) (graft f.2 (cutL f.1.lvs k)) = (pa f.1 f.2).take k ++ [(false :: x.1, false :: x.2), (true :: x.1, true :: x.2)] ++ (pa f.1 f.2).drop (k + 1) := by
  have hl := pa_length e
  have hk : k < f.1.lvs := by rw [← hl]; exact (List.getElem?_eq_some_iff.mp hx).1
  have lc : (cutL f.1.lvs k).length = f.1.lvs := by simp [cutL]; omega
  have ex : Ex f (graft f.1 (cutL f.1.lvs k), graft f.2 (cutL f.1.lvs k)) := ⟨_, lc, rfl⟩
  refine ⟨(ex.lvs e).1, ex, ?_⟩
  rw [pa_graft e lc]
  have es : pa f.1 f.2 = (pa f.1 f.2).take k ++ x :: (pa f.1 f.2).drop (k + 1) := by
    obtain ⟨h1, h2⟩ := List.getElem?_eq_some_iff.mp hx
    conv => lhs; rw [← List.take_append_drop k (pa f.1 f.2), List.drop_eq_getElem_cons h1, h2]
  conv => lhs; rw [es]
  unfold cutL
  rw [List.zip_append (by rw [List.length_take, hl, List.length_replicate]; omega), List.flatMap_append, flat_leaves _ _ (by rw [List.length_take, hl]; omega)]
  rw [List.zip_cons_cons, List.flatMap_cons, flat_leaves _ _ (by rw [List.length_drop, hl]; omega), List.append_assoc]
  rfl
/-! ### the ends -/
def lfD : Tr → Nat
  | .leaf => 0
  | .node l _ => lfD l + 1
def rgt : Tr → Nat
  | .leaf => 0
  | .node _ r => rgt r + 1
theorem adr_lfD : ∀ (t : Tr) (c : Ad), ∃ u r, adr t c = u :: r ∧ u.length = c.length + lfD t
  | .leaf, c => ⟨c, [], rfl, rfl⟩
  | .node l r, c => by
    obtain ⟨u, q, e1, e2⟩ := adr_lfD l (false :: c)
    exact ⟨u, q ++ adr r (true :: c), by rw [adr, e1]; rfl, by rw [e2, lfD, List.length_cons]; omega⟩
theorem adr_rgt : ∀ (t : Tr) (c : Ad), ∃ u r, adr t c = r ++ [u] ∧ u.length = c.length + rgt t
  | .leaf, c => ⟨c, [], rfl, rfl⟩
  | .node l r, c => by
    obtain ⟨u, q, e1, e2⟩ := adr_rgt r (true :: c)
    exact ⟨u, adr l (false :: c) ++ q, by rw [adr, e1, List.append_assoc], by rw [e2, rgt, List.length_cons]; omega⟩
theorem lfD_graft : ∀ (t : Tr) (ps : List Tr), lfD (graft t ps) = lfD t + lfD (ps.headD .leaf)
  | .leaf, ps => by rw [graft, lfD, Nat.zero_add]
  | .node l r, ps => by
    rw [graft, lfD, lfD, lfD_graft l]
    have : (ps.take l.lvs).headD .leaf = ps.headD .leaf := by
      have := Tr.pos l
      cases ps with
      | nil => simp
      | cons p ps =>
        obtain ⟨m, hm⟩ : ∃ m, l.lvs = m + 1 := ⟨l.lvs - 1, by omega⟩
        rw [hm]; rfl
    rw [this]
    omega
theorem rgt_graft : ∀ (t : Tr) (ps : List Tr), ps.length = t.lvs → rgt (graft t ps) = rgt t + rgt ((ps.getLast?).getD .leaf)
  | .leaf, ps, h => by
    obtain ⟨p, rfl⟩ := List.length_eq_one_iff.mp (show ps.length = 1 from h)
    rw [graft, rgt, Nat.zero_add]; rfl
  | .node l r, ps, h => by
    have h' : ps.length = l.lvs + r.lvs := h
    have hr := Tr.pos r
    rw [graft, rgt, rgt, rgt_graft r _ (by rw [List.length_drop]; omega)]
    have : (ps.drop l.lvs).getLast? = ps.getLast? := by
      rw [List.getLast?_drop, if_neg (by omega)]
    rw [this]
    omega
def en0 (f : Tr × Tr) : Int := (lfD f.1 : Int) - lfD f.2
def en1 (f : Tr × Tr) : Int := (rgt f.1 : Int) - rgt f.2
theorem Ex.ends {f g : Tr × Tr} (e : Ok f) (h : Ex f g) : en0 g = en0 f ∧ en1 g = en1 f := by
  obtain ⟨ps, hl, rfl⟩ := h
  have e' : f.1.lvs = f.2.lvs := e
  unfold en0 en1
  rw [lfD_graft, lfD_graft, rgt_graft _ _ hl, rgt_graft _ _ (by rw [hl, e'])]
  omega
theorem trim_ends {f : Tr × Tr} (e : Ok f) : en0 (trim f) = en0 f ∧ en1 (trim f) = en1 f := by
  have := (trim_Ex e).ends (trim_lvs e)
  exact ⟨this.1.symm, this.2.symm⟩
theorem cmp_ends {f g : Tr × Tr} (ef : Ok f) (eg : Ok g) : en0 (cmp f g) = en0 f + en0 g ∧ en1 (cmp f g) = en1 f + en1 g := by
  obtain ⟨A, M, N, B, x1, x2, _⟩ := fit3 ef eg ok_one
  rw [cmp_of ef eg x1 x2]
  have o1 := (x1.lvs ef).1
  have o2 := (x2.lvs eg).1
  have a1 := x1.ends ef
  have a2 := x2.ends eg
  have t := trim_ends (f := (A, N)) (o1.trans o2)
  rw [t.1, t.2, ← a1.1, ← a1.2, ← a2.1, ← a2.2]
  unfold en0 en1
  simp only
  omega
theorem pa_fl {f : Tr × Tr} (e : Ok f) : ∃ (x y : Pa) (r r' : List Pa), pa f.1 f.2 = x :: r ∧ pa f.1 f.2 = r' ++ [y] ∧ (x.1.length : Int) - x.2.length = en0 f ∧ (y.1.length : Int) - y.2.length = en1 f := by
  have e' : f.1.lvs = f.2.lvs := e
  obtain ⟨u1, r1, a1, b1⟩ := adr_lfD f.1 []
  obtain ⟨u2, r2, a2, b2⟩ := adr_lfD f.2 []
  obtain ⟨v1, s1, c1, d1⟩ := adr_rgt f.1 []
  obtain ⟨v2, s2, c2, d2⟩ := adr_rgt f.2 []
  have l1 := congrArg List.length c1
  have l2 := congrArg List.length c2
  rw [adr_length, List.length_append] at l1 l2
  simp only [List.length_singleton] at l1 l2
  refine ⟨(u1, u2), (v1, v2), r1.zip r2, s1.zip s2, ?_, ?_, ?_, ?_⟩
  · rw [pa, a1, a2, List.zip_cons_cons]
  · rw [pa, c1, c2, List.zip_append (by omega)]; rfl
  · simp only [en0, b1, b2, List.length_nil]; omega
  · simp only [en1, d1, d2, List.length_nil]; omega
section
variable {h0 h : Hb} {L F : List (Nat × List D)} {K : D → Hb → Prop} {n : Nat}
theorem more3_wp {f : Tr × Tr} {c most : Nat} {mi : Int} (em : mi = ((most : Nat) : Int)) (ef : Ok f) (hc : h[c]? = some (wl f)) (lf : f.1.lvs ≤ most) (hm : most ≤ 64) (S : SD h0 n F h) (k : ∀ (g : Tr × Tr) (m : Nat), Ok g → Ex f g → g.1.lvs ≤ most → ∀ h', SD h0 n ((m, wl g) :: F) h' → K (.lst m) h') : Wp (d_law_more_2 [.dct dk n, .lst c, .int mi] h) K := by
  subst em
  unfold d_law_more_2
  refine Wp.run [some (.dct dk n), some (.lst c), some (.int ((most : Nat) : Int)), none, none, none, none] rfl ?_
  unfold b_law_more_2
  obtain ⟨q, ok, S⟩ := S
  walk_at "w"
  refine Wp.listL S hc fun m h S => ?_
  walk_at "w"
  refine draw3_wp (F := (m, wl f) :: F) (many := 4) rfl (by decide) (b := 10) (by decide) (by decide) ⟨q, ok, S⟩ fun v hv h S => ?_
  obtain ⟨q, ok, S⟩ := S
  have lw : ∀ {g : Tr × Tr}, Ok g → (wl g).length = g.1.lvs := fun e => by unfold wl; rw [List.length_map, pa_length e]
  walk_at "w"
  rw [lw ef]
  refine Wp.minI ?_
  walk_at "w"
  obtain ⟨j, ej, jl⟩ : ∃ j : Nat, (if ((most : Nat) : Int) - ((f.1.lvs : Nat) : Int) < ((v : Nat) : Int) then ((most : Nat) : Int) - ((f.1.lvs : Nat) : Int) else ((v : Nat) : Int)) = ((j : Nat) : Int) ∧ f.1.lvs + j ≤ most := by
    refine ⟨min (most - f.1.lvs) v, ?_, by omega⟩
    split <;> omega
  refine ⟨j, congrArg D.int ej, by omega, ?_⟩
  rw [rangeD_zero]
  refine Wp.forI (fun k : Nat => D.int ((k : Nat) : Int)) (List.range j) (fun as bs ρ h' => ∃ (p3 p4 p5 p6 : Option D) (g : Tr × Tr), Ok g ∧ Ex f g ∧ g.1.lvs = f.1.lvs + as.length ∧ ρ = [some (.dct dk n), some (.lst m), some (.int ((most : Nat) : Int)), p3, p4, p5, p6] ∧ SD h0 n ((m, wl g) :: F) h') ⟨_, _, _, _, f, ef, .refl f, rfl, rfl, q, ok, S⟩ (fun _ _ _ _ _ => trivial) ?_ ?_
  · rintro as i bs _ h hi ⟨p3, p4, p5, p6, g, eg, xg, lg, rfl, S⟩
    have hl : as.length < j := by have := congrArg List.length hi; simp at this; omega
    have lgw := lw eg
    have gp := Tr.pos g.1
    obtain ⟨q, ok, S⟩ := S
    walk_at "w"
    rw [lgw]
    refine draw3_wp (F := (m, wl g) :: F) (many := g.1.lvs) rfl (by omega) (b := 10) (by omega) (by decide) ⟨q, ok, S⟩ fun w hw h S => ?_
    obtain ⟨q, ok, S⟩ := S
    have hx : (pa g.1 g.2)[w]? = some ((pa g.1 g.2)[w]'(by rw [pa_length eg]; exact hw)) := List.getElem?_eq_getElem _
    generalize (pa g.1 g.2)[w]'(by rw [pa_length eg]; exact hw) = x at hx
    have sx := pa_short (List.mem_of_getElem? hx)
    have eg' : g.1.lvs = g.2.lvs := eg
    walk_at "w"
    refine Wp.ixL (S.get (i := 0) rfl) (d := w2 x) (by unfold wl; rw [List.getElem?_map, hx]; rfl) ?_
    rw [show w2 x = .tup [.str (wayS x.1), .str (wayS x.2)] from rfl]
    walk_at "w"
    refine Wp.addS (by rw [wayS_len]; show _ + 1 ≤ _; omega) ?_
    rw [s0, ← wayS_cons]
    walk_at "w"
    refine Wp.addS (by rw [wayS_len]; show _ + 1 ≤ _; omega) ?_
    rw [← wayS_cons]
    walk_at "w"
    refine Wp.addS (by rw [wayS_len]; show _ + 1 ≤ _; omega) ?_
    rw [s1, ← wayS_cons]
    walk_at "w"
    refine Wp.addS (by rw [wayS_len]; show _ + 1 ≤ _; omega) ?_
    rw [← wayS_cons]
    walk_at "w"
    refine Wp.new S (line8 (Nat.le_of_ble_eq_true rfl)) fun m2 h S => ?_
    walk_at "w"
    refine Wp.putS (i := 1) (i' := 0) S rfl rfl (by decide) (by omega) (by omega) (by rw [lgw]; omega) (by rw [lgw]; show _ + 2 ≤ _; omega) fun h S => ?_
    walk_at "w"
    obtain ⟨o2, x2, p2⟩ := pa_cut eg hx
    refine ⟨_, _, _, _, _, o2, xg.trans ef x2, ?_, rfl, q, ok, ?_⟩
    · have := congrArg List.length p2
      rw [pa_length o2] at this
      simp only [List.length_append, List.length_take, List.length_drop, List.length_cons, List.length_nil, pa_length eg] at this ⊢
      omega
    · have ee : wl (graft g.1 (cutL g.1.lvs w), graft g.2 (cutL g.1.lvs w)) = (wl g).take w ++ [.tup [.str (wayS (false :: x.1)), .str (wayS (false :: x.2))], .tup [.str (wayS (true :: x.1)), .str (wayS (true :: x.2))]] ++ (wl g).drop (w + 1) := by
        unfold wl
        simp only
        rw [p2, List.map_append, List.map_append, List.map_take, List.map_drop]
        rfl
      rw [ee]
      have S' := S.sub (.cons _ (List.Sublist.refl _))
      rw [show (((w : Nat) : Int)).toNat = w by omega, show (((w : Nat) : Int) + 1).toNat = w + 1 by omega] at S'
      exact S'
  · rintro _ h ⟨p3, p4, p5, p6, g, eg, xg, lg, rfl, S⟩
    walk_at "w"
    rw [List.length_range] at lg
    exact k g m eg xg (by omega) h S
theorem due2_wp {f : Tr × Tr} {m : Nat} (e : Ok f) (hm : h[m]? = some (wl f)) (hl : f.1.lvs ≤ 900) (k : K (.tup [.int (en0 f), .int (en1 f)]) h) : Wp (d_law_due_2 [.lst m] h) K := by
  obtain ⟨x, y, r, r', e1, e2, e3, e4⟩ := pa_fl e
  have e' : f.1.lvs = f.2.lvs := e
  have sx := pa_short (a := f.1) (b := f.2) (p := x) (by rw [e1]; simp)
  have sy := pa_short (a := f.1) (b := f.2) (p := y) (by rw [e2]; simp)
  have w1 : wl f = w2 x :: r.map w2 := by unfold wl; rw [e1]; rfl
  have w3 : wl f = r'.map w2 ++ [w2 y] := by unfold wl; rw [e2, List.map_append]; rfl
  unfold d_law_due_2
  refine Wp.run [some (.lst m)] rfl ?_
  unfold b_law_due_2
  walk_at "w"
  refine Wp.ixL (j := 0) hm (d := w2 x) (by rw [w1]; rfl) ?_
  rw [show w2 x = .tup [.str (wayS x.1), .str (wayS x.2)] from rfl]
  walk_at "w"
  refine Wp.lenX (by rw [wayS_len]; omega) ?_
  walk_at "w"
  refine Wp.ixL (j := 0) hm (d := w2 x) (by rw [w1]; rfl) ?_
  rw [show w2 x = .tup [.str (wayS x.1), .str (wayS x.2)] from rfl]
  walk_at "w"
  refine Wp.lenX (by rw [wayS_len]; omega) ?_
  walk_at "w"
  refine Wp.ixLast (by rw [hm, w3]) ?_
  rw [show w2 y = .tup [.str (wayS y.1), .str (wayS y.2)] from rfl]
  walk_at "w"
  refine Wp.lenX (by rw [wayS_len]; omega) ?_
  walk_at "w"
  refine Wp.ixLast (by rw [hm, w3]) ?_
  rw [show w2 y = .tup [.str (wayS y.1), .str (wayS y.2)] from rfl]
  walk_at "w"
  refine Wp.lenX (by rw [wayS_len]; omega) ?_
  walk_at "w"
  rw [wayS_len, wayS_len, wayS_len, wayS_len, e3, e4]
  exact k
theorem ends_wp {f : Tr × Tr} (e : Ok f) (hl : f.1.lvs ≤ 900) (S : Hv.St h0 L h) (k : ∀ h', Hv.St h0 L h' → K (.tup [.int (en0 f), .int (en1 f)]) h') : Wp (d_ends [mD f] h) K := by
  obtain ⟨x, y, r, r', e1, e2, e3, e4⟩ := pa_fl e
  have e' : f.1.lvs = f.2.lvs := e
  unfold d_ends
  refine Wp.run [some (mD f), none] rfl ?_
  unfold b_ends
  have T : Hv.St h [] h := .nil
  walk_at "w"
  refine pieces_wp (a := f.1) (b := f.2) hl (by omega) T fun n h1 T => ?_
  rw [pcsD] at T
  have w1 : (pa f.1 f.2).map pD = pD x :: r.map pD := by rw [e1]; rfl
  have w3 : (pa f.1 f.2).map pD = r'.map pD ++ [pD y] := by rw [e2, List.map_append]; rfl
  walk_at "w"
  refine Wp.ixL (j := 0) (T.get (i := 0) rfl) (d := pD x) (by rw [w1]; rfl) ?_
  walk_at "w"
  refine pD_growth ?_
  walk_at "w"
  refine Wp.ixLast (by rw [T.get (i := 0) rfl, w3]) ?_
  walk_at "w"
  refine pD_growth ?_
  walk_at "w"
  rw [show grw x = en0 f from e3, show grw y = en1 f from e4]
  exact k _ (S.call0 T.less)
theorem datI2 (a b : Int) : datF h 1000 (.tup [.int a, .int b]) = some (.tuple [.int a, .int b]) := id rfl
theorem is_right_wp {a b : Int} (k : K (.bl true) h) : Wp (d_law_is_right [.tup [.int a, .int b], .tup [.int a, .int b]] h) K := by
  unfold d_law_is_right
  refine Wp.run [some (.tup [.int a, .int b]), some (.tup [.int a, .int b])] rfl ?_
  unfold b_law_is_right
  walk_at "w"
  refine brF ?_
  walk_at "w"
  refine .of (d_whole_int a h) ?_
  walk_at "w"
  refine .of (d_whole_int b h) ?_
  walk_at "w"
  refine Wp.eqS (datI2 a b) (datI2 a b) ?_
  walk_at "w"
  exact k
end
end C

set_option Elab.async false
set_option linter.all false
set_option maxRecDepth 100000
set_option maxHeartbeats 4000000
namespace C
open PySem L2 Hv
local macro_rules | `(tactic| walk_at "sl") => `(tactic| repeat (first | exact List.nil_sublist _ | (with_reducible exact List.Sublist.refl _) | (with_reducible refine List.Sublist.cons₂ _ ?_) | (refine List.Sublist.cons _ ?_)))
set_option hygiene false in
local macro_rules | `(tactic| walk_at "rd") => `(tactic| first | exact S.get (i := 0) rfl | exact S.get (i := 1) rfl | exact S.get (i := 2) rfl | exact S.get (i := 3) rfl | exact S.get (i := 4) rfl | exact S.get (i := 5) rfl | assumption | exact S.old (by assumption))
set_option hygiene false in
local macro_rules | `(tactic| walk_at "s") => `(tactic| first
  | with_reducible refine Wp.seq ?_ | with_reducible refine sqK.nx ?_ | with_reducible refine sqK.rt ?_ | with_reducible refine Wp.asg ?_
  | ((with_reducible apply Wp.var); exact rfl) | with_reducible refine Wp.con ?_ | with_reducible refine Wp.bin ?_ | with_reducible refine Wp.call ?_ | with_reducible refine Wp.acons ?_ | with_reducible refine Wp.anil ?_
  | ((with_reducible refine Wp.gNm ?_); try dsimp only [List.set_cons_zero, List.set_cons_succ]) | with_reducible refine Wp.gTp ?_ | with_reducible refine Wp.gsC ?_ | with_reducible refine Wp.gsN ?_ | with_reducible refine Wp.gIx ?_ | with_reducible refine Wp.gSl ?_
  | with_reducible refine Wp.sif ?_ | with_reducible refine Wp.tCm ?_ | with_reducible refine exB ?_ | with_reducible refine brT ?_ | with_reducible refine brF ?_ | with_reducible refine brNT ?_ | with_reducible refine brNF ?_ | with_reducible refine Wp.tT ?_ | with_reducible refine truB ?_ | with_reducible refine truI ?_ | with_reducible refine truT ?_ | with_reducible refine truN ?_
  | ((with_reducible apply truL); walk_at "rd") | with_reducible refine Wp.tNt ?_ | with_reducible refine Wp.tAn ?_ | with_reducible refine Wp.tOr ?_ | with_reducible refine Wp.tYs ?_
  | with_reducible refine Wp.sret ?_ | with_reducible refine Wp.ex ?_ | with_reducible refine Wp.nx ?_ | with_reducible refine Wp.sbk ?_ | with_reducible refine Wp.sct ?_ | (with_reducible refine Wp.aug ?_) | (with_reducible refine Wp.par ?_) | with_reducible refine parK ?_
  | (with_reducible refine Wp.tup ?_) | ((with_reducible refine tupK ?_ ?_); exact Nat.le_of_ble_eq_true rfl) | with_reducible refine Wp.lst ?_ | with_reducible refine Wp.m ?_ | with_reducible refine Wp.mlst ?_ | with_reducible refine Wp.andT ?_ | with_reducible refine Wp.orT ?_ | with_reducible refine Wp.if_ ?_
  | with_reducible refine Wp.un ?_ | with_reducible refine negK ?_ | with_reducible refine notK ?_
  | with_reducible refine jnK.nx ?_ | with_reducible refine jnK.rt ?_ | with_reducible refine fnK.rt ?_ | with_reducible refine fnK.nx ?_ | with_reducible refine lpK.nx ?_ | with_reducible refine lpK.ct ?_ | with_reducible refine lpK.bk ?_ | with_reducible refine lpK.rt ?_
  | with_reducible refine Wp.addI ?_ | with_reducible refine Wp.subI ?_ | with_reducible refine Wp.iaddI ?_ | with_reducible refine Wp.andI ?_ | ((with_reducible refine Wp.mulI ?_ ?_); first | exact .inl (by decide) | exact .inr (by decide)) | ((with_reducible refine Wp.modI ?_ ?_); exact (by decide)) | ((with_reducible refine Wp.divI ?_ ?_); exact (by decide))
  | with_reducible refine Wp.ltI ?_ | with_reducible refine Wp.leI ?_ | with_reducible refine Wp.gtI ?_ | with_reducible refine Wp.geI ?_ | with_reducible refine Wp.eqI ?_ | with_reducible refine Wp.neI ?_
  | with_reducible refine Wp.ixT0 ?_ | with_reducible refine Wp.ixT1 ?_ | ((with_reducible apply Wp.lenL); walk_at "rd") | with_reducible refine Wp.lenT ?_ | with_reducible refine Wp.lenR ?_
  | with_reducible refine Wp.isiT ?_ | with_reducible refine Wp.isiL ?_ | with_reducible refine Wp.isiI ?_ | with_reducible refine Wp.isiB ?_ | with_reducible refine Wp.isiS ?_ | with_reducible refine Wp.lz ?_ | with_reducible refine Wp.sfor ?_ | with_reducible refine Wp.iAny ?_ | ((with_reducible apply Wp.anyL); walk_at "rd"; try dsimp only [wipeE, List.set_cons_zero, List.set_cons_succ]) | ((with_reducible refine Wp.anyT ?_); try dsimp only [wipeE, List.set_cons_zero, List.set_cons_succ]) | ((with_reducible refine Wp.anyR ?_); try dsimp only [wipeE, List.set_cons_zero, List.set_cons_succ]) | ((with_reducible refine Wp.anyX ?_); try dsimp only [wipeE, List.set_cons_zero, List.set_cons_succ]) | with_reducible refine Wp.lc ?_
  | ((with_reducible apply Wp.tupL); walk_at "rd") | with_reducible refine Wp.tupT ?_ | with_reducible refine Wp.sl ?_ | with_reducible refine Wp.oNo ?_ | with_reducible refine Wp.oSo ?_ | with_reducible refine soK ?_ | with_reducible refine Wp.rg1 ?_ | with_reducible refine Wp.rg2 ?_ | with_reducible refine Wp.zip ?_ | with_reducible refine Wp.enum ?_ | with_reducible refine Wp.rev ?_
  | with_reducible refine Wp.kx ?_ | with_reducible refine Wp.kp ?_ | with_reducible refine Wp.dsp ?_ | with_reducible refine Wp.anC ?_ | with_reducible refine Wp.anN ?_ | with_reducible refine Wp.chain ?_ | with_reducible refine Wp.tch ?_ | with_reducible refine Wp.maxI ?_ | with_reducible refine Wp.absI ?_ | with_reducible refine Wp.isN ?_ | with_reducible refine Wp.isnN ?_ | with_reducible refine Wp.if_ ?_)
set_option hygiene false in
local macro_rules | `(tactic| walk_at "w") => `(tactic| repeat (walk_at "s"))
section
variable {h0 h : Hb} {L F : List (Nat × List D)} {K : D → Hb → Prop} {n : Nat}
theorem neI2 {a b c d : Int} (e1 : a = c) (e2 : b = d) (k : K (.bl false) h) : Wp (oNe (.tup [.int a, .int b]) (.tup [.int c, .int d]) h) K := by
  subst e1 e2
  exact Wp.neS (datI2 a b) (datI2 a b) k
theorem two_wp {a b : Nat} {v : Nat} (hv : v < 2) : ∃ y : Nat, [D.int ((a : Nat) : Int), .int ((b : Nat) : Int)][v]? = some (.int ((y : Nat) : Int)) ∧ (y = a ∨ y = b) := by
  match v, hv with
  | 0, _ => exact ⟨a, rfl, .inl rfl⟩
  | 1, _ => exact ⟨b, rfl, .inr rfl⟩
theorem law_k65 (ns : List Int) : Wp (d_law_14 [.rol (ns.map D.int)] []) fun r _ => r = .bl true := by
  unfold d_law_14
  refine Wp.run [some (.rol (ns.map D.int)), none, none, none, none, none, none, none, none, none] rfl ?_
  unfold b_law_14
  walk_at "w"
  refine deal3_wp (b := 0) rfl (by decide) .nil fun n h S => ?_
  walk_at "w"
  obtain ⟨q, ok, S⟩ := S
  refine Wp.new S (line8 (Nat.le_of_ble_eq_true rfl)) fun l1 h S => ?_
  walk_at "w"
  refine draw3_wp (F := [(l1, _)]) (many := 2) rfl (by decide) (b := 10) (by decide) (by decide) ⟨q, ok, S⟩ fun v hv h S => ?_
  obtain ⟨q, ok, S⟩ := S
  obtain ⟨y, ey, y1⟩ := two_wp (a := 6) (b := 24) hv
  refine Wp.ixL (S.get (i := 0) rfl) ey ?_
  replace S : SD [] n [] h := ⟨q, ok, S.sub (.cons _ (List.Sublist.refl _))⟩
  walk_at "w"
  refine some_wp rfl (by omega) (by omega) S fun f cf ef lf h S => ?_
  clear ey
  have lf : f.1.lvs ≤ 24 := by omega
  walk_at "w"
  obtain ⟨q, ok, S⟩ := S
  refine Wp.new S (line8 (Nat.le_of_ble_eq_true rfl)) fun l1 h S => ?_
  walk_at "w"
  refine draw3_wp (F := [(l1, _), (cf, wl f)]) (many := 2) rfl (by decide) (b := 10) (by decide) (by decide) ⟨q, ok, S⟩ fun v hv h S => ?_
  obtain ⟨q, ok, S⟩ := S
  obtain ⟨y, ey, y1⟩ := two_wp (a := 6) (b := 24) hv
  refine Wp.ixL (S.get (i := 0) rfl) ey ?_
  replace S : SD [] n [(cf, wl f)] h := ⟨q, ok, S.sub (.cons _ (List.Sublist.refl _))⟩
  walk_at "w"
  refine some_wp rfl (by omega) (by omega) S fun g cg eg lg h S => ?_
  clear ey
  have lg : g.1.lvs ≤ 24 := by omega
  walk_at "w"
  refine more3_wp (F := [(cg, wl g), (cf, wl f)]) (most := 24) rfl ef (by obtain ⟨q, ok, S⟩ := S; exact S.get (i := 1) rfl) lf (by decide) S fun fm cm efm xm lm h S => ?_
  obtain ⟨q, ok, S⟩ := S
  replace S := S.sub (L' := [(cm, wl fm), (cg, wl g), (cf, wl f)]) (.cons₂ _ (.cons₂ _ (.cons₂ _ (List.nil_sublist _))))
  walk_at "w"
  refine pair2_wp efm (S.get (i := 0) rfl) (by omega) S fun h S => ?_
  walk_at "w"
  refine ends_wp efm (by omega) S fun h S => ?_
  walk_at "w"
  refine lback_wp (S.get (i := 2) rfl) (by rw [pa_length ef]; omega) S fun cbf h S => ?_
  walk_at "w"
  refine lback_wp (S.get (i := 2) rfl) (by rw [pa_length eg]; omega) S fun cbg h S => ?_
  walk_at "w"
  refine Wp.new S (line8 (Nat.le_of_ble_eq_true rfl)) fun cms h S => ?_
  walk_at "w"
  refine lthen_wp ef eg (S.get (i := 5) rfl) (S.get (i := 4) rfl) (by omega) (by omega) S fun cb h S => ?_
  have eb := cmp_lvs ef eg
  have lb : (wl (cmp f g)).length = (cmp f g).1.lvs := by unfold wl; rw [List.length_map, pa_length eb]
  have xe := xm.ends ef
  have ce := cmp_ends ef eg
  walk_at "w"
  rw [lb]
  refine brJ (fun ρ h' => ∃ (p8 : Option D) (xs : List (Nat × (Tr × Tr))), ρ = [some (.rol (ns.map D.int)), some (.dct dk n), some (.lst cf), some (.lst cg), some (.lst cm), some (.tup [.int (en0 fm), .int (en1 fm)]), some (.lst cms), some (.lst cb), p8, none] ∧ h'[cms]? = some (xs.map fun x => D.lst x.1) ∧ (∀ x ∈ xs, Ok x.2 ∧ x.2.1.lvs ≤ 24 ∧ h'[x.1]? = some (wl x.2)) ∧ h'[cf]? = some (wl f) ∧ h'[cm]? = some (wl fm)) (fun hc => ?_) (fun hc => ?_) ?_
  · have hb : (cmp f g).1.lvs ≤ 24 := by simp at hc; omega
    walk_at "w"
    refine Wp.app (i := 1) S rfl (by show 4 < 1000000; decide) fun h S => ?_
    walk_at "w"
    refine due2_wp eb (S.get (i := 0) rfl) (by omega) ?_
    walk_at "w"
    refine due2_wp ef (S.get (i := 6) rfl) (by omega) ?_
    walk_at "w"
    refine due2_wp eg (S.get (i := 5) rfl) (by omega) ?_
    walk_at "w"
    refine due2_wp ef (S.get (i := 6) rfl) (by omega) ?_
    walk_at "w"
    refine due2_wp eg (S.get (i := 5) rfl) (by omega) ?_
    walk_at "w"
    refine neI2 ce.1 ce.2 ?_
    walk_at "w"
    refine ⟨_, [(cbf, bck f), (cg, g), (cbg, bck g), (cf, f), (cb, cmp f g)], rfl, S.get (i := 1) rfl, ?_, S.get (i := 6) rfl, S.get (i := 4) rfl⟩
    intro x hx
    have ef' : f.1.lvs = f.2.lvs := ef
    have eg' : g.1.lvs = g.2.lvs := eg
    simp only [List.mem_cons, List.not_mem_nil, or_false] at hx
    rcases hx with rfl | rfl | rfl | rfl | rfl
    · exact ⟨ef'.symm, by show f.2.lvs ≤ 24; omega, S.get (i := 3) rfl⟩
    · exact ⟨eg, lg, S.get (i := 5) rfl⟩
    · exact ⟨eg'.symm, by show g.2.lvs ≤ 24; omega, S.get (i := 2) rfl⟩
    · exact ⟨ef, lf, S.get (i := 6) rfl⟩
    · exact ⟨eb, hb, S.get (i := 0) rfl⟩
  · walk_at "w"
    refine ⟨_, [(cbf, bck f), (cg, g), (cbg, bck g), (cf, f)], rfl, S.get (i := 1) rfl, ?_, S.get (i := 6) rfl, S.get (i := 4) rfl⟩
    intro x hx
    have ef' : f.1.lvs = f.2.lvs := ef
    have eg' : g.1.lvs = g.2.lvs := eg
    simp only [List.mem_cons, List.not_mem_nil, or_false] at hx
    rcases hx with rfl | rfl | rfl | rfl
    · exact ⟨ef'.symm, by show f.2.lvs ≤ 24; omega, S.get (i := 3) rfl⟩
    · exact ⟨eg, lg, S.get (i := 5) rfl⟩
    · exact ⟨eg'.symm, by show g.2.lvs ≤ 24; omega, S.get (i := 2) rfl⟩
    · exact ⟨ef, lf, S.get (i := 6) rfl⟩
  clear S
  rintro _ hb ⟨p8, xs, rfl, r1, r2, r3, r4⟩
  have T : Hv.St hb [] hb := .nil
  walk_at "w"
  refine Wp.forI (fun x : Nat × (Tr × Tr) => D.lst x.1) xs (fun _ _ ρ h' => ∃ p9 : Option D, ρ = [some (.rol (ns.map D.int)), some (.dct dk n), some (.lst cf), some (.lst cg), some (.lst cm), some (.tup [.int (en0 fm), .int (en1 fm)]), some (.lst cms), some (.lst cb), p8, p9] ∧ Hv.St hb [] h') ⟨_, rfl, T⟩ (fun _ _ _ _ ⟨_, _, T⟩ => T.old r1) ?_ ?_
  · rintro as x bs _ h hx ⟨p9, rfl, T⟩
    obtain ⟨o1, o2, o3⟩ := r2 x (by rw [hx]; simp)
    walk_at "w"
    refine pair2_wp o1 (T.old o3) (by omega) T fun h T => ?_
    walk_at "w"
    refine ends_wp o1 (by omega) T fun h T => ?_
    walk_at "w"
    refine due2_wp o1 (T.old o3) (by omega) ?_
    walk_at "w"
    refine is_right_wp ?_
    walk_at "w"
    exact ⟨_, rfl, T⟩
  · rintro _ h ⟨p9, rfl, T⟩
    walk_at "w"
    refine due2_wp ef (T.old r3) (by omega) ?_
    walk_at "w"
    rw [xe.1, xe.2]
    refine is_right_wp ?_
    walk_at "w"
    refine pair2_wp efm (T.old r4) (by omega) T fun h T => ?_
    walk_at "w"
    refine ends_wp efm (by omega) T fun h T => ?_
    walk_at "w"
    rw [xe.1, xe.2]
    refine Wp.eqS (datI2 _ _) (datI2 _ _) ?_
    rfl
end
end C

namespace G
open PySem L2 Hv C
theorem law_true : ∀ ns : List Int, ns.length ≤ 63 → ∃ h', d_law_14 [.rol (ns.map D.int)] [] = some (.bl true, h') := fun ns _ => by
  obtain ⟨r, h, e, rfl⟩ := law_k65 ns
  exact ⟨h, e⟩
end G

set_option Elab.async false
set_option linter.all false
set_option maxRecDepth 100000
set_option maxHeartbeats 4000000
namespace G
open PySem L2 Hv C
theorem all_mk {l : PySem.W.OpenLaw} {w : World} {K : PySem.W.Frag} {h : Heap} {mg : Str → Option Value} {fa : Addr} (X : K.In h) (G : h.Ns mainGlobals mg) (hfa : mg "law" = some (.ref fa))
    {f0 : Addr} {od0 an0 : Option Addr} {sl0 : Array (Option Value)} {oc0 kV0 dc0 pm0 cd0 ct0 : Value} {f1 : Addr} {od1 an1 : Option Addr} {sl1 : Array (Option Value)} {oc1 kV1 dc1 pm1 cd1 ct1 : Value} {f2 : Addr} {od2 an2 : Option Addr} {sl2 : Array (Option Value)} {oc2 kV2 dc2 pm2 cd2 ct2 : Value} {f3 : Addr} {od3 an3 : Option Addr} {sl3 : Array (Option Value)} {oc3 kV3 dc3 pm3 cd3 ct3 : Value} {f4 : Addr} {od4 an4 : Option Addr} {sl4 : Array (Option Value)} {oc4 kV4 dc4 pm4 cd4 ct4 : Value} {f5 : Addr} {od5 an5 : Option Addr} {sl5 : Array (Option Value)} {oc5 kV5 dc5 pm5 cd5 ct5 : Value} {f6 : Addr} {od6 an6 : Option Addr} {sl6 : Array (Option Value)} {oc6 kV6 dc6 pm6 cd6 ct6 : Value} {f7 : Addr} {od7 an7 : Option Addr} {sl7 : Array (Option Value)} {oc7 kV7 dc7 pm7 cd7 ct7 : Value} {f8 : Addr} {od8 an8 : Option Addr} {sl8 : Array (Option Value)} {oc8 kV8 dc8 pm8 cd8 ct8 : Value} {f9 : Addr} {od9 an9 : Option Addr} {sl9 : Array (Option Value)} {oc9 kV9 dc9 pm9 cd9 ct9 : Value} {f10 : Addr} {od10 an10 : Option Addr} {sl10 : Array (Option Value)} {oc10 kV10 dc10 pm10 cd10 ct10 : Value} {f11 : Addr} {od11 an11 : Option Addr} {sl11 : Array (Option Value)} {oc11 kV11 dc11 pm11 cd11 ct11 : Value} {f12 : Addr} {od12 an12 : Option Addr} {sl12 : Array (Option Value)} {oc12 kV12 dc12 pm12 cd12 ct12 : Value} {f13 : Addr} {od13 an13 : Option Addr} {sl13 : Array (Option Value)} {oc13 kV13 dc13 pm13 cd13 ct13 : Value} {f14 : Addr} {od14 an14 : Option Addr} {sl14 : Array (Option Value)} {oc14 kV14 dc14 pm14 cd14 ct14 : Value} {f15 : Addr} {od15 an15 : Option Addr} {sl15 : Array (Option Value)} {oc15 kV15 dc15 pm15 cd15 ct15 : Value} {f16 : Addr} {od16 an16 : Option Addr} {sl16 : Array (Option Value)} {oc16 kV16 dc16 pm16 cd16 ct16 : Value} {f17 : Addr} {od17 an17 : Option Addr} {sl17 : Array (Option Value)} {oc17 kV17 dc17 pm17 cd17 ct17 : Value} {f18 : Addr} {od18 an18 : Option Addr} {sl18 : Array (Option Value)} {oc18 kV18 dc18 pm18 cd18 ct18 : Value}
    (a0 : PySem.W.nsIn K mainGlobals "stretches" = some (some (.ref f0))) (l0 : K.lookup f0 = some ⟨oc0, od0, .func (PySem.W.fnOf "stretches" "stretches" (defArgs s_stretches) (defBody s_stretches) (defScope s_stretches) .none kV0 dc0 pm0 an0 cd0 ct0), sl0⟩) (c0 : PySem.W.codeIn K cd0 "stretches" = true) (k0 : PySem.W.keepIn K (.ref f0) = true)
    (a1 : PySem.W.nsIn K mainGlobals "pieces" = some (some (.ref f1))) (l1 : K.lookup f1 = some ⟨oc1, od1, .func (PySem.W.fnOf "pieces" "pieces" (defArgs s_pieces) (defBody s_pieces) (defScope s_pieces) .none kV1 dc1 pm1 an1 cd1 ct1), sl1⟩) (c1 : PySem.W.codeIn K cd1 "pieces" = true) (k1 : PySem.W.keepIn K (.ref f1) = true)
    (a2 : PySem.W.nsIn K mainGlobals "growth" = some (some (.ref f2))) (l2 : K.lookup f2 = some ⟨oc2, od2, .func (PySem.W.fnOf "growth" "growth" (defArgs s_growth) (defBody s_growth) (defScope s_growth) .none kV2 dc2 pm2 an2 cd2 ct2), sl2⟩) (c2 : PySem.W.codeIn K cd2 "growth" = true) (k2 : PySem.W.keepIn K (.ref f2) = true)
    (a3 : PySem.W.nsIn K mainGlobals "ends" = some (some (.ref f3))) (l3 : K.lookup f3 = some ⟨oc3, od3, .func (PySem.W.fnOf "ends" "ends" (defArgs s_ends) (defBody s_ends) (defScope s_ends) .none kV3 dc3 pm3 an3 cd3 ct3), sl3⟩) (c3 : PySem.W.codeIn K cd3 "ends" = true) (k3 : PySem.W.keepIn K (.ref f3) = true)
    (a4 : PySem.W.nsIn K mainGlobals "_law_deal" = some (some (.ref f4))) (l4 : K.lookup f4 = some ⟨oc4, od4, .func (PySem.W.fnOf "_law_deal" "_law_deal" (defArgs s_law_deal) (defBody s_law_deal) (defScope s_law_deal) .none kV4 dc4 pm4 an4 cd4 ct4), sl4⟩) (c4 : PySem.W.codeIn K cd4 "_law_deal" = true) (k4 : PySem.W.keepIn K (.ref f4) = true)
    (a5 : PySem.W.nsIn K mainGlobals "_law_draw" = some (some (.ref f5))) (l5 : K.lookup f5 = some ⟨oc5, od5, .func (PySem.W.fnOf "_law_draw" "_law_draw" (defArgs s_law_draw) (defBody s_law_draw) (defScope s_law_draw) .none kV5 dc5 pm5 an5 cd5 ct5), sl5⟩) (c5 : PySem.W.codeIn K cd5 "_law_draw" = true) (k5 : PySem.W.keepIn K (.ref f5) = true)
    (a6 : PySem.W.nsIn K mainGlobals "_law_words" = some (some (.ref f6))) (l6 : K.lookup f6 = some ⟨oc6, od6, .func (PySem.W.fnOf "_law_words" "_law_words" (defArgs s_law_words) (defBody s_law_words) (defScope s_law_words) .none kV6 dc6 pm6 an6 cd6 ct6), sl6⟩) (c6 : PySem.W.codeIn K cd6 "_law_words" = true) (k6 : PySem.W.keepIn K (.ref f6) = true)
    (a7 : PySem.W.nsIn K mainGlobals "_law_halves" = some (some (.ref f7))) (l7 : K.lookup f7 = some ⟨oc7, od7, .func (PySem.W.fnOf "_law_halves" "_law_halves" (defArgs s_law_halves) (defBody s_law_halves) (defScope s_law_halves) .none kV7 dc7 pm7 an7 cd7 ct7), sl7⟩) (c7 : PySem.W.codeIn K cd7 "_law_halves" = true) (k7 : PySem.W.keepIn K (.ref f7) = true)
    (a8 : PySem.W.nsIn K mainGlobals "_law_trim" = some (some (.ref f8))) (l8 : K.lookup f8 = some ⟨oc8, od8, .func (PySem.W.fnOf "_law_trim" "_law_trim" (defArgs s_law_trim) (defBody s_law_trim) (defScope s_law_trim) .none kV8 dc8 pm8 an8 cd8 ct8), sl8⟩) (c8 : PySem.W.codeIn K cd8 "_law_trim" = true) (k8 : PySem.W.keepIn K (.ref f8) = true)
    (a9 : PySem.W.nsIn K mainGlobals "_law_then" = some (some (.ref f9))) (l9 : K.lookup f9 = some ⟨oc9, od9, .func (PySem.W.fnOf "_law_then" "_law_then" (defArgs s_law_then) (defBody s_law_then) (defScope s_law_then) .none kV9 dc9 pm9 an9 cd9 ct9), sl9⟩) (c9 : PySem.W.codeIn K cd9 "_law_then" = true) (k9 : PySem.W.keepIn K (.ref f9) = true)
    (a10 : PySem.W.nsIn K mainGlobals "_law_back" = some (some (.ref f10))) (l10 : K.lookup f10 = some ⟨oc10, od10, .func (PySem.W.fnOf "_law_back" "_law_back" (defArgs s_law_back) (defBody s_law_back) (defScope s_law_back) .none kV10 dc10 pm10 an10 cd10 ct10), sl10⟩) (c10 : PySem.W.codeIn K cd10 "_law_back" = true) (k10 : PySem.W.keepIn K (.ref f10) = true)
    (a11 : PySem.W.nsIn K mainGlobals "_law_tree" = some (some (.ref f11))) (l11 : K.lookup f11 = some ⟨oc11, od11, .func (PySem.W.fnOf "_law_tree" "_law_tree" (defArgs s_law_tree) (defBody s_law_tree) (defScope s_law_tree) .none kV11 dc11 pm11 an11 cd11 ct11), sl11⟩) (c11 : PySem.W.codeIn K cd11 "_law_tree" = true) (k11 : PySem.W.keepIn K (.ref f11) = true)
    (a12 : PySem.W.nsIn K mainGlobals "_law_pair" = some (some (.ref f12))) (l12 : K.lookup f12 = some ⟨oc12, od12, .func (PySem.W.fnOf "_law_pair" "_law_pair" (defArgs s_law_pair) (defBody s_law_pair) (defScope s_law_pair) .none kV12 dc12 pm12 an12 cd12 ct12), sl12⟩) (c12 : PySem.W.codeIn K cd12 "_law_pair" = true) (k12 : PySem.W.keepIn K (.ref f12) = true)
    (a13 : PySem.W.nsIn K mainGlobals "_law_some" = some (some (.ref f13))) (l13 : K.lookup f13 = some ⟨oc13, od13, .func (PySem.W.fnOf "_law_some" "_law_some" (defArgs s_law_some) (defBody s_law_some) (defScope s_law_some) .none kV13 dc13 pm13 an13 cd13 ct13), sl13⟩) (c13 : PySem.W.codeIn K cd13 "_law_some" = true) (k13 : PySem.W.keepIn K (.ref f13) = true)
    (a14 : PySem.W.nsIn K mainGlobals "_law_more" = some (some (.ref f14))) (l14 : K.lookup f14 = some ⟨oc14, od14, .func (PySem.W.fnOf "_law_more" "_law_more" (defArgs s_law_more) (defBody s_law_more) (defScope s_law_more) .none kV14 dc14 pm14 an14 cd14 ct14), sl14⟩) (c14 : PySem.W.codeIn K cd14 "_law_more" = true) (k14 : PySem.W.keepIn K (.ref f14) = true)
    (a15 : PySem.W.nsIn K mainGlobals "_law_whole" = some (some (.ref f15))) (l15 : K.lookup f15 = some ⟨oc15, od15, .func (PySem.W.fnOf "_law_whole" "_law_whole" (defArgs s_law_whole) (defBody s_law_whole) (defScope s_law_whole) .none kV15 dc15 pm15 an15 cd15 ct15), sl15⟩) (c15 : PySem.W.codeIn K cd15 "_law_whole" = true) (k15 : PySem.W.keepIn K (.ref f15) = true)
    (a16 : PySem.W.nsIn K mainGlobals "_law_due" = some (some (.ref f16))) (l16 : K.lookup f16 = some ⟨oc16, od16, .func (PySem.W.fnOf "_law_due" "_law_due" (defArgs s_law_due) (defBody s_law_due) (defScope s_law_due) .none kV16 dc16 pm16 an16 cd16 ct16), sl16⟩) (c16 : PySem.W.codeIn K cd16 "_law_due" = true) (k16 : PySem.W.keepIn K (.ref f16) = true)
    (a17 : PySem.W.nsIn K mainGlobals "_law_is_right" = some (some (.ref f17))) (l17 : K.lookup f17 = some ⟨oc17, od17, .func (PySem.W.fnOf "_law_is_right" "_law_is_right" (defArgs s_law_is_right) (defBody s_law_is_right) (defScope s_law_is_right) .none kV17 dc17 pm17 an17 cd17 ct17), sl17⟩) (c17 : PySem.W.codeIn K cd17 "_law_is_right" = true) (k17 : PySem.W.keepIn K (.ref f17) = true)
    (a18 : PySem.W.nsIn K mainGlobals "law" = some (some (.ref f18))) (l18 : K.lookup f18 = some ⟨oc18, od18, .func (PySem.W.fnOf "law" "law" (defArgs s_law) (defBody s_law) (defScope s_law) .none kV18 dc18 pm18 an18 cd18 ct18), sl18⟩) (c18 : PySem.W.codeIn K cd18 "law" = true) (k18 : PySem.W.keepIn K (.ref f18) = true)
    (z_list : PySem.W.nsIn K mainGlobals "list" = some none)
    (z_zip : PySem.W.nsIn K mainGlobals "zip" = some none)
    (z_max : PySem.W.nsIn K mainGlobals "max" = some none)
    (z_reversed : PySem.W.nsIn K mainGlobals "reversed" = some none)
    (z_len : PySem.W.nsIn K mainGlobals "len" = some none)
    (z_int : PySem.W.nsIn K mainGlobals "int" = some none)
    (z_range : PySem.W.nsIn K mainGlobals "range" = some none)
    (z_min : PySem.W.nsIn K mainGlobals "min" = some none)
    (z_isinstance : PySem.W.nsIn K mainGlobals "isinstance" = some none)
    (z_bool : PySem.W.nsIn K mainGlobals "bool" = some none)
    (z_tuple : PySem.W.nsIn K mainGlobals "tuple" = some none) :
    ∃ fd : FuncData, (∀ (s : Shared) (v : Value), BindsTo s fd ⟨[v], []⟩ [("_law_script", v)]) ∧ ∀ base : Heap, K.In base → base.Ns mainGlobals mg → FnOk l.prog w K mg base CX0 200 fa fd ["_law_script"] (spD K 1 d_law_14) := by
  have e := hfa.symm.trans (PySem.W.mg_of X G a18)
  cases e
  have m_list := PySem.W.mg_none_of X G z_list
  have m_zip := PySem.W.mg_none_of X G z_zip
  have m_max := PySem.W.mg_none_of X G z_max
  have m_reversed := PySem.W.mg_none_of X G z_reversed
  have m_len := PySem.W.mg_none_of X G z_len
  have m_int := PySem.W.mg_none_of X G z_int
  have m_range := PySem.W.mg_none_of X G z_range
  have m_min := PySem.W.mg_none_of X G z_min
  have m_isinstance := PySem.W.mg_none_of X G z_isinstance
  have m_bool := PySem.W.mg_none_of X G z_bool
  have m_tuple := PySem.W.mg_none_of X G z_tuple
  refine ⟨PySem.W.fnOf "law" "law" (defArgs s_law) (defBody s_law) (defScope s_law) .none kV18 dc18 pm18 an18 cd18 ct18, fun s v => .of_eq rfl, fun base _ _ => ?_⟩
  have U0 := fun_mk (st := s_stretches) l0 c0 k0
  have F_stretches : Fd l.prog w K mg base 71 "stretches" 1 d_stretches := ⟨f0, _, ["tree"], rfl, ok_stretches U0, PySem.W.mg_of X G a0, k0, U0.binds (ps := ["tree"]) fun _ _ _ _ _ _ us hl => match us, hl with | [_], _ => rfl⟩
  have U1 := fun_mk (st := s_pieces) l1 c1 k1
  have F_pieces : Fd l.prog w K mg base 72 "pieces" 1 d_pieces := ⟨f1, _, ["mapped"], rfl, ok_pieces U1 F_stretches m_list m_zip, PySem.W.mg_of X G a1, k1, U1.binds (ps := ["mapped"]) fun _ _ _ _ _ _ us hl => match us, hl with | [_], _ => rfl⟩
  have U2 := fun_mk (st := s_growth) l2 c2 k2
  have F_growth : Fd l.prog w K mg base 71 "growth" 1 d_growth := ⟨f2, _, ["piece"], rfl, ok_growth U2, PySem.W.mg_of X G a2, k2, U2.binds (ps := ["piece"]) fun _ _ _ _ _ _ us hl => match us, hl with | [_], _ => rfl⟩
  have U3 := fun_mk (st := s_ends) l3 c3 k3
  have F_ends : Fd l.prog w K mg base 73 "ends" 1 d_ends := ⟨f3, _, ["mapped"], rfl, ok_ends U3 F_pieces F_growth, PySem.W.mg_of X G a3, k3, U3.binds (ps := ["mapped"]) fun _ _ _ _ _ _ us hl => match us, hl with | [_], _ => rfl⟩
  have U4 := fun_mk (st := s_law_deal) l4 c4 k4
  have F_law_deal : Fd l.prog w K mg base 71 "_law_deal" 2 d_law_deal_3 := ⟨f4, _, ["_law_script", "_law_base"], rfl, ok_law_deal U4 m_max m_list m_reversed, PySem.W.mg_of X G a4, k4, U4.binds (ps := ["_law_script", "_law_base"]) fun _ _ _ _ _ _ us hl => match us, hl with | [_, _], _ => rfl⟩
  have U5 := fun_mk (st := s_law_draw) l5 c5 k5
  have F_law_draw : Fd l.prog w K mg base 71 "_law_draw" 2 d_law_draw_3 := ⟨f5, _, ["_law_deal_here", "_law_many"], rfl, ok_law_draw U5 m_len, PySem.W.mg_of X G a5, k5, U5.binds (ps := ["_law_deal_here", "_law_many"]) fun _ _ _ _ _ _ us hl => match us, hl with | [_, _], _ => rfl⟩
  have U6 := fun_mk (st := s_law_words) l6 c6 k6
  have F_law_words : Fd l.prog w K mg base 135 "_law_words" 3 d_law_words := ⟨f6, _, ["_law_deal_here", "_law_many", "_law_way"], rfl, ok_law_words U6 F_law_draw (PySem.W.mg_of X G a6) k6, PySem.W.mg_of X G a6, k6, U6.binds (ps := ["_law_deal_here", "_law_many", "_law_way"]) fun _ _ _ _ _ _ us hl => match us, hl with | [_, _, _], _ => rfl⟩
  have U7 := fun_mk (st := s_law_halves) l7 c7 k7
  have F_law_halves : Fd l.prog w K mg base 71 "_law_halves" 2 d_law_halves := ⟨f7, _, ["_law_first", "_law_second"], rfl, ok_law_halves U7 m_zip, PySem.W.mg_of X G a7, k7, U7.binds (ps := ["_law_first", "_law_second"]) fun _ _ _ _ _ _ us hl => match us, hl with | [_, _], _ => rfl⟩
  have U8 := fun_mk (st := s_law_trim) l8 c8 k8
  have F_law_trim : Fd l.prog w K mg base 72 "_law_trim" 1 d_law_trim := ⟨f8, _, ["_law_pairs"], rfl, ok_law_trim U8 F_law_halves m_len, PySem.W.mg_of X G a8, k8, U8.binds (ps := ["_law_pairs"]) fun _ _ _ _ _ _ us hl => match us, hl with | [_], _ => rfl⟩
  have U9 := fun_mk (st := s_law_then) l9 c9 k9
  have F_law_then : Fd l.prog w K mg base 73 "_law_then" 2 d_law_then := ⟨f9, _, ["_law_f", "_law_g"], rfl, ok_law_then U9 F_law_trim m_len m_int, PySem.W.mg_of X G a9, k9, U9.binds (ps := ["_law_f", "_law_g"]) fun _ _ _ _ _ _ us hl => match us, hl with | [_, _], _ => rfl⟩
  have U10 := fun_mk (st := s_law_back) l10 c10 k10
  have F_law_back : Fd l.prog w K mg base 71 "_law_back" 1 d_law_back := ⟨f10, _, ["_law_f"], rfl, ok_law_back U10, PySem.W.mg_of X G a10, k10, U10.binds (ps := ["_law_f"]) fun _ _ _ _ _ _ us hl => match us, hl with | [_], _ => rfl⟩
  have U11 := fun_mk (st := s_law_tree) l11 c11 k11
  have F_law_tree : Fd l.prog w K mg base 134 "_law_tree" 1 d_law_tree_5 := ⟨f11, _, ["_law_words_here"], rfl, ok_law_tree U11 (PySem.W.mg_of X G a11) k11, PySem.W.mg_of X G a11, k11, U11.binds (ps := ["_law_words_here"]) fun _ _ _ _ _ _ us hl => match us, hl with | [_], _ => rfl⟩
  have U12 := fun_mk (st := s_law_pair) l12 c12 k12
  have F_law_pair : Fd l.prog w K mg base 135 "_law_pair" 1 d_law_pair_2 := ⟨f12, _, ["_law_f"], rfl, ok_law_pair U12 F_law_tree, PySem.W.mg_of X G a12, k12, U12.binds (ps := ["_law_f"]) fun _ _ _ _ _ _ us hl => match us, hl with | [_], _ => rfl⟩
  have U13 := fun_mk (st := s_law_some) l13 c13 k13
  have F_law_some : Fd l.prog w K mg base 199 "_law_some" 2 d_law_some := ⟨f13, _, ["_law_deal_here", "_law_most"], rfl, ok_law_some U13 F_law_draw F_law_words F_law_trim F_law_back F_law_then m_list m_zip m_range m_len m_int (PySem.W.mg_of X G a13) k13, PySem.W.mg_of X G a13, k13, U13.binds (ps := ["_law_deal_here", "_law_most"]) fun _ _ _ _ _ _ us hl => match us, hl with | [_, _], _ => rfl⟩
  have U14 := fun_mk (st := s_law_more) l14 c14 k14
  have F_law_more : Fd l.prog w K mg base 72 "_law_more" 3 d_law_more_2 := ⟨f14, _, ["_law_deal_here", "_law_f", "_law_most"], rfl, ok_law_more U14 F_law_draw m_list m_range m_len m_min, PySem.W.mg_of X G a14, k14, U14.binds (ps := ["_law_deal_here", "_law_f", "_law_most"]) fun _ _ _ _ _ _ us hl => match us, hl with | [_, _, _], _ => rfl⟩
  have U15 := fun_mk (st := s_law_whole) l15 c15 k15
  have F_law_whole : Fd l.prog w K mg base 71 "_law_whole" 1 d_law_whole := ⟨f15, _, ["_law_number"], rfl, ok_law_whole U15 m_int m_isinstance m_bool, PySem.W.mg_of X G a15, k15, U15.binds (ps := ["_law_number"]) fun _ _ _ _ _ _ us hl => match us, hl with | [_], _ => rfl⟩
  have U16 := fun_mk (st := s_law_due) l16 c16 k16
  have F_law_due : Fd l.prog w K mg base 71 "_law_due" 1 d_law_due_2 := ⟨f16, _, ["_law_f"], rfl, ok_law_due U16 m_len, PySem.W.mg_of X G a16, k16, U16.binds (ps := ["_law_f"]) fun _ _ _ _ _ _ us hl => match us, hl with | [_], _ => rfl⟩
  have U17 := fun_mk (st := s_law_is_right) l17 c17 k17
  have F_law_is_right : Fd l.prog w K mg base 72 "_law_is_right" 2 d_law_is_right := ⟨f17, _, ["_law_found", "_law_due_here"], rfl, ok_law_is_right U17 F_law_whole m_tuple m_isinstance m_len, PySem.W.mg_of X G a17, k17, U17.binds (ps := ["_law_found", "_law_due_here"]) fun _ _ _ _ _ _ us hl => match us, hl with | [_, _], _ => rfl⟩
  have U18 := fun_mk (st := s_law) l18 c18 k18
  exact ok_law U18 F_law_deal F_law_draw F_law_some F_law_more F_law_pair F_ends F_law_back F_law_then F_law_due F_law_is_right m_len
theorem walk {l : PySem.W.OpenLaw} {q : Program} {loose : List Str} {XP : (Str → Option Value) → Heap → Prop} {YP : World → Heap → Prop} {d : DefRec} {K : Params → PySem.W.Frag} (hn : l.most = some 63) (hdf : d.params.defaults = [])
    (hY : ∀ (w : World) (h : Heap), YP w h → (K w.params).In h)
    (F : ∀ (w : World) (mg : Str → Option Value) (fa : Addr) (h : Heap), (K w.params).In h → h.Ns mainGlobals mg → mg d.name = some (.ref fa) →
      ∃ fd : FuncData, (∀ (s : Shared) (u : Value), BindsTo s fd ⟨[u], []⟩ [("_law_script", u)]) ∧ ∀ base : Heap, (K w.params).In base → base.Ns mainGlobals mg → FnOk l.prog w (K w.params) mg base CX0 200 fa fd ["_law_script"] (spD (K w.params) 1 d_law_14))
    (hlaw : ∀ ns : List Int, ns.length ≤ 63 → ∃ h', d_law_14 [.rol (ns.map D.int)] [] = some (.bl true, h')) :
    PySem.W.WalkO q loose XP YP l.row.toRowW d [] (fun f vs => PySem.call f vs) :=
  L2.walk_of (n := 63) (k := 200) (x := "_law_script") (CX := fun _ => CX0) (sp := fun w => spD (K w.params) 1 d_law_14) hn (by decide) hdf ⟨rfl, by decide, by decide⟩ hY F (fun _ _ a ns hl hO hS => let ⟨_, e⟩ := hlaw ns hl; law_sp hO hS e) fun _ _ _ _ _ z => z
end G
open PySem PySem.W PyProof.Rows
set_option maxRecDepth 100000 in
set_option maxHeartbeats 0 in
theorem PySem.Challenge.cw_halvewright_k65_ends_of_maps_holds : PySem.Challenge.rw_halvewright_k65_ends_of_maps.Holds := by
  w_on; o_law; k_head; (case hw => w_witness2)
  k_fill
  refine G.walk (l := PySem.Challenge.rw_halvewright_k65_ends_of_maps) rfl rfl (fun w h Y => PySem.W.kIn_of Y) ?F G.law_true
  case F =>
    intro w mg fa h KX GG hmg
    refine' G.all_mk KX GG hmg ?a0 ?l0 ?c0 ?k0 ?a1 ?l1 ?c1 ?k1 ?a2 ?l2 ?c2 ?k2 ?a3 ?l3 ?c3 ?k3 ?a4 ?l4 ?c4 ?k4 ?a5 ?l5 ?c5 ?k5 ?a6 ?l6 ?c6 ?k6 ?a7 ?l7 ?c7 ?k7 ?a8 ?l8 ?c8 ?k8 ?a9 ?l9 ?c9 ?k9 ?a10 ?l10 ?c10 ?k10 ?a11 ?l11 ?c11 ?k11 ?a12 ?l12 ?c12 ?k12 ?a13 ?l13 ?c13 ?k13 ?a14 ?l14 ?c14 ?k14 ?a15 ?l15 ?c15 ?k15 ?a16 ?l16 ?c16 ?k16 ?a17 ?l17 ?c17 ?k17 ?a18 ?l18 ?c18 ?k18 ?z_list ?z_zip ?z_max ?z_reversed ?z_len ?z_int ?z_range ?z_min ?z_isinstance ?z_bool ?z_tuple
    (case a0 => k_is); (case l0 => k_is); (case c0 => k_is); (case k0 => k_is)
    (case a1 => k_is); (case l1 => k_is); (case c1 => k_is); (case k1 => k_is)
    (case a2 => k_is); (case l2 => k_is); (case c2 => k_is); (case k2 => k_is)
    (case a3 => k_is); (case l3 => k_is); (case c3 => k_is); (case k3 => k_is)
    (case a4 => k_is); (case l4 => k_is); (case c4 => k_is); (case k4 => k_is)
    (case a5 => k_is); (case l5 => k_is); (case c5 => k_is); (case k5 => k_is)
    (case a6 => k_is); (case l6 => k_is); (case c6 => k_is); (case k6 => k_is)
    (case a7 => k_is); (case l7 => k_is); (case c7 => k_is); (case k7 => k_is)
    (case a8 => k_is); (case l8 => k_is); (case c8 => k_is); (case k8 => k_is)
    (case a9 => k_is); (case l9 => k_is); (case c9 => k_is); (case k9 => k_is)
    (case a10 => k_is); (case l10 => k_is); (case c10 => k_is); (case k10 => k_is)
    (case a11 => k_is); (case l11 => k_is); (case c11 => k_is); (case k11 => k_is)
    (case a12 => k_is); (case l12 => k_is); (case c12 => k_is); (case k12 => k_is)
    (case a13 => k_is); (case l13 => k_is); (case c13 => k_is); (case k13 => k_is)
    (case a14 => k_is); (case l14 => k_is); (case c14 => k_is); (case k14 => k_is)
    (case a15 => k_is); (case l15 => k_is); (case c15 => k_is); (case k15 => k_is)
    (case a16 => k_is); (case l16 => k_is); (case c16 => k_is); (case k16 => k_is)
    (case a17 => k_is); (case l17 => k_is); (case c17 => k_is); (case k17 => k_is)
    (case a18 => k_is); (case l18 => k_is); (case c18 => k_is); (case k18 => k_is)
    (case z_list => k_is)
    (case z_zip => k_is)
    (case z_max => k_is)
    (case z_reversed => k_is)
    (case z_len => k_is)
    (case z_int => k_is)
    (case z_range => k_is)
    (case z_min => k_is)
    (case z_isinstance => k_is)
    (case z_bool => k_is)
    (case z_tuple => k_is)

