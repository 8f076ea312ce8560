import PyProof.Rows.All
import Wide.All
import OpenK.AllK
import Wide.FinOn
import Lean
import PyProof.EqAt
import PyProof.EqKinds
import PyProof.TupleCall
import PyProof.NeKinds
import PySem.Challenge.RW_joinback_k17_in_place_of
set_option Elab.async false
set_option linter.all false
set_option maxRecDepth 100000
/-! THE HAND LAYER, for ints, bools, texts, own classes, LISTS and tuples (index, slices, in, append, pop ..), calls, loops. Paste it whole ahead of your own text; what your proof does not reach may be deleted. -/
namespace L2
open PySem PySem.Spec PyProof.Rows

/-- a key: an int or a str -/
abbrev Key := Sum Int Str
def keyIs : Key → Value → Bool
  | .inl k, v => Value.isInt k v
  | .inr x, v => Value.isStrOf x v
def keyH (w : World) : Key → Int
  | .inl k => hashInt k
  | .inr x => hashStr w x
theorem keyIs_shape : ∀ {k : Key} {v : Value}, keyIs k v = true → (∃ i t, k = Sum.inl i ∧ v = Value.int i t) ∨ (∃ x t, k = Sum.inr x ∧ v = Value.str x t)
  | .inl i, v, h => by
    obtain ⟨t, e⟩ := Value.isInt_shape (k := i) (v := v) h
    exact .inl ⟨i, t, rfl, e⟩
  | .inr x, v, h => by
    obtain ⟨t, e⟩ := Value.isStrOf_shape (x := x) (v := v) h
    exact .inr ⟨x, t, rfl, e⟩
theorem keyIs_int (i : Int) (t : Tok) : keyIs (.inl i) (.int i t) = true := by simp [keyIs, Value.isInt]
theorem keyIs_str (x : Str) (t : Tok) : keyIs (.inr x) (.str x t) = true := by simp [keyIs, Value.isStrOf]
theorem key_ll (a b : Int) : decide ((Sum.inl a : Key) = Sum.inl b) = (a == b) := by
  by_cases e : a = b
  · subst e; simp
  · have h : ¬ (Sum.inl a : Key) = Sum.inl b := fun q => e (Sum.inl.inj q)
    rw [decide_eq_false h]
    exact (beq_eq_false_iff_ne.mpr e).symm
theorem key_rr (a b : Str) : decide ((Sum.inr a : Key) = Sum.inr b) = decide (a = b) := by
  by_cases e : a = b
  · subst e; simp
  · have h : ¬ (Sum.inr a : Key) = Sum.inr b := fun q => e (Sum.inr.inj q)
    rw [decide_eq_false h, decide_eq_false e]
theorem key_lr (a : Int) (b : Str) : decide ((Sum.inl a : Key) = Sum.inr b) = false := decide_eq_false (fun q => nomatch q)
theorem key_rl (a : Str) (b : Int) : decide ((Sum.inr a : Key) = Sum.inl b) = false := decide_eq_false (fun q => nomatch q)

def mixKind (prog : Program) (w : World) : PySem.KeyKind prog w Key where
  is := keyIs
  hash := keyH w
  inj := fun v a b ha hb => by
    rcases keyIs_shape ha with ⟨i, t, rfl, rfl⟩ | ⟨x, t, rfl, rfl⟩
    · rcases keyIs_shape hb with ⟨j, u, rfl, e⟩ | ⟨y, u, rfl, e⟩
      · injection e with e1 _; rw [e1]
      · exact nomatch e
    · rcases keyIs_shape hb with ⟨j, u, rfl, e⟩ | ⟨y, u, rfl, e⟩
      · exact nomatch e
      · injection e with e1 _; rw [e1]
  byValue := fun k v h => by
    rcases keyIs_shape h with ⟨i, t, rfl, rfl⟩ | ⟨x, t, rfl, rfl⟩ <;> rfl
  pyHash := fun hv h => by
    rcases keyIs_shape hv with ⟨i, t, rfl, rfl⟩ | ⟨x, t, rfl, rfl⟩
    · exact wpAny_pyHash_int h
    · exact wpAny_pyHash_str h
  eqBool := fun hu hv h => by
    rcases keyIs_shape hu with ⟨i, t, rfl, rfl⟩ | ⟨x, t, rfl, rfl⟩
    · rcases keyIs_shape hv with ⟨j, u, rfl, rfl⟩ | ⟨y, u, rfl, rfl⟩
      · rw [key_ll] at h; exact wpAny_eqBool_int h
      · rw [key_lr] at h; exact SeqAt.EqAt.int_str i t y u _ _ _ _ h
    · rcases keyIs_shape hv with ⟨j, u, rfl, rfl⟩ | ⟨y, u, rfl, rfl⟩
      · rw [key_rl] at h; exact SeqAt.EqAt.str_int x t j u _ _ _ _ h
      · rw [key_rr] at h; exact wpAny_eqBool_str h
  «strs» := fun k x t v h => by
    rcases keyIs_shape h with ⟨i, u, rfl, e⟩ | ⟨y, u, rfl, e⟩
    · exact nomatch e
    · injection e with e1 _
      subst e1
      cases v <;> rfl

theorem mixKind_is (prog : Program) (w : World) (k : Key) (v : Value) : (mixKind prog w).is k v = keyIs k v := rfl
theorem mixKind_int (prog : Program) (w : World) (i : Int) (t : Tok) : (mixKind prog w).is (.inl i) (.int i t) = true := keyIs_int i t
theorem mixKind_str (prog : Program) (w : World) (x : Str) (t : Tok) : (mixKind prog w).is (.inr x) (.str x t) = true := keyIs_str x t
end L2

namespace L2
open PySem PySem.Spec PyProof.Rows

/-- a value, without the heap -/
inductive V where
  | non | bl (b : Bool) | int (i : Int) | str (x : Str) | byt (b : Array UInt8) | flt (b : UInt64) | ref (a : Addr) | ty (n : String)
  deriving DecidableEq

def RelV : V → Value → Prop
  | .non, u => u = Value.none
  | .bl b, u => u = Value.bool b
  | .int i, u => ∃ t, u = Value.int i t
  | .str x, u => ∃ t, u = Value.str x t
  | .byt b, u => ∃ t, u = Value.bytes b t
  | .flt b, u => ∃ t, u = Value.float b t
  | .ref a, u => u = Value.ref a
  | .ty n, u => u = Value.type n

abbrev Vals : List V → List Value → Prop := Paired RelV
theorem Vals.length {xs : List V} {us : List Value} (r : Vals xs us) : xs.length = us.length := Paired.length r
theorem Vals.get : ∀ {xs : List V} {us : List Value} {i : Nat} {x : V}, Vals xs us → xs[i]? = some x → ∃ u, us[i]? = some u ∧ RelV x u
  | _, _, _, _, .nil, e => by simp at e
  | _, _, 0, _, .cons r _, e => by simp at e; subst e; exact ⟨_, rfl, r⟩
  | _, _, i + 1, x, .cons _ t, e => by
    obtain ⟨u, h1, h2⟩ := Vals.get (i := i) (x := x) t (by simpa using e)
    exact ⟨u, by simpa using h1, h2⟩
theorem Vals.set {x : V} {u : Value} (r : RelV x u) : ∀ {xs : List V} {us : List Value} (i : Nat), Vals xs us → Vals (xs.set i x) (us.set i u)
  | _, _, _, .nil => .nil
  | _, _, 0, .cons _ t => .cons r t
  | _, _, i + 1, .cons q t => .cons q (Vals.set r i t)
theorem Vals.append : ∀ {xs ys : List V} {us ws : List Value}, Vals xs us → Vals ys ws → Vals (xs ++ ys) (us ++ ws)
  | _, _, _, _, .nil, s => s
  | _, _, _, _, .cons r t, s => .cons r (Vals.append t s)
theorem Vals.take : ∀ {xs : List V} {us : List Value} (n : Nat), Vals xs us → Vals (xs.take n) (us.take n)
  | _, _, 0, _ => .nil
  | _, _, _ + 1, .nil => .nil
  | _, _, n + 1, .cons r t => .cons r (Vals.take n t)
theorem Vals.drop : ∀ {xs : List V} {us : List Value} (n : Nat), Vals xs us → Vals (xs.drop n) (us.drop n)
  | _, _, 0, r => r
  | _, _, _ + 1, .nil => .nil
  | _, _, n + 1, .cons _ t => Vals.drop n t
theorem Vals.none_of : ∀ {xs : List V} {us : List Value} {i : Nat}, Vals xs us → xs[i]? = none → us[i]? = none := fun {xs us i} r e => by
  have h1 := r.length
  have h2 : xs.length ≤ i := List.getElem?_eq_none_iff.mp e
  exact List.getElem?_eq_none_iff.mpr (by omega)

def RelO : Option V → Option Value → Prop
  | some v, some u => RelV v u
  | none, none => True
  | _, _ => False
def KV {κ : Type} : List (κ × V) → List (κ × Value) → Prop := Paired fun (p : κ × V) (q : κ × Value) => p.1 = q.1 ∧ RelV p.2 q.2

/-- a key of a dict (00_mix): an int or a text -/
def kV : Key → V
  | .inl i => .int i
  | .inr x => .str x

/-- what stands at a tracked address -/
inductive HO where
  /-- a list -/
  | lst (xs : List V)
  /-- a tuple (never changes) -/
  | tup (xs : List V)
  /-- a dict whose keys are ints and texts; one whose keys are tuples of ints and texts (the empty one is both) -/
  | dK (kvs : List (Key × V)) | dT (kvs : List (List Key × V))
  /-- a set of ints: its members, its size -/
  | set (S : Int → Bool) (n : Nat)
  /-- an instance of the class at C, its dict at dx, its attributes -/
  | ins (C dx : Addr) (fs : List (Str × V))
  /-- the dict of the instance at x -/
  | own (x : Addr)
  /-- the dict of an exception -/
  | xd (fs : List (Str × V))
  /-- a bound method, f of x -/
  | met (f x : Addr)
  /-- a range object lo, lo + 1, .. below hi -/
  | rng (lo hi : Int)
  /-- a thing that is known to the object (the script; a dict while a loop walks it): read, never written while it is so -/
  | frz (o : Obj) (u : HO)
  /-- a code object's table -/
  | tbl (ps : Array Value)
  /-- any other thing, by what is true of its one object (a def of one's own: SetO a S n := HO.ext fun h => ..) -/
  | ext (φ : Heap → Prop)

abbrev Hp := Addr → Option HO
def upd (H : Hp) (a : Addr) (o : HO) : Hp := fun b => if b = a then some o else H b
theorem upd_same {H : Hp} {a : Addr} {o : HO} : upd H a o a = some o := by unfold upd; rw [if_pos rfl]
theorem upd_ne {H : Hp} {a b : Addr} {o : HO} (h : b ≠ a) : upd H a o b = H b := by unfold upd; rw [if_neg h]
theorem upd_upd {H : Hp} {a : Addr} {o u : HO} : upd (upd H a o) a u = upd H a u := by
  funext b; unfold upd; split <;> rfl
/-- two objects of different content stand apart -/
theorem ne_of {H : Hp} {a b : Addr} {o u : HO} (h : H a = some o) (h' : H b = some u) (d : o ≠ u) : a ≠ b := by
  intro e; subst e; rw [h] at h'; exact d (Option.some.inj h')
theorem ne_of_none {H : Hp} {a b : Addr} {o : HO} (h : H a = some o) (h' : H b = none) : a ≠ b := by
  intro e; subst e; rw [h] at h'; cases h'

section
variable (P : Program) (w : World)
def ObjOk (H : Hp) (h : Heap) (a : Addr) : HO → Prop
  | .lst xs => xs.length ≤ sizeLine ∧ ∃ (its : List Value) (n : Nat), Vals xs its ∧ h.get? a = some { cls := .type "list", data := .seq its.toArray n }
  | .tup xs => xs.length ≤ sizeLine ∧ ∃ its : List Value, Vals xs its ∧ IsTup h a its.toArray
  | .dK kvs => kvs.length ≤ sizeLine ∧ (a == sysModules) = false ∧ ∃ vs, KV kvs vs ∧ h.DictOf (mixKind P w) a vs
  | .dT kvs => kvs.length ≤ sizeLine ∧ (a == sysModules) = false ∧ ∃ xs : List (List Key × Addr × Value),
      Paired (fun (p : List Key × V) (q : List Key × Addr × Value) => p.1 = q.1 ∧ H q.2.1 = some (.tup (p.1.map kV)) ∧ RelV p.2 q.2.2) kvs xs ∧
      ∃ o es ep, h.get? a = some o ∧ o.ExactDict ∧ o.data = .dict es ep ∧ es.toList = xs.map (entryOfKey (tupleKind (mixKind P w))) ∧ (xs.map (·.1)).Nodup
  | .set S n => h.SetOf (intKind P w) a S n
  | .ins C dx fs => H dx = some (.own a) ∧ fs.length ≤ 1000 ∧ dx ≠ a ∧ h.get? a = some (PySem.W.instObj C dx) ∧
      ∃ mA, h.Ns1 dx mA ∧ (∀ f, RelO (fs.lookup f) (mA f)) ∧ PySem.Within mA (fs.map (·.1))
  | .own _ => ∃ o, h.get? a = some o
  | .xd fs => ∃ mA, h.Ns1 a mA ∧ ∀ f, RelO (fs.lookup f) (mA f)
  | .rng lo hi => ∃ t u v, h.get? a = some { cls := .type "range", data := .fields #[.int lo t, .int hi u, .int 1 v] }
  | .frz o u => h.get? a = some o ∧ ObjOk H h a u
  | .tbl ps => h.get? a = some { cls := .none, data := .fields ps }
  | .met f x => h.get? a = some (PySem.W.methodObj (.ref f) (.ref x))
  | .ext φ => φ h ∧ (∃ o, h.get? a = some o) ∧ ∀ h1 h2 : Heap, φ h1 → (∀ o, h1.get? a = some o → h2.get? a = some o) → φ h2
/-- the abstract heap is held -/
def HOk (H : Hp) (h : Heap) : Prop := ∀ a o, H a = some o → ObjOk P w H h a o
end

section
variable {P : Program} {w : World} {H H' : Hp} {h h' : Heap} {a : Addr} {o : HO}
theorem ObjOk.lt (x : ObjOk P w H h a o) : a < h.objs.size := by
  cases o with
  | lst xs => obtain ⟨_, _, _, _, e⟩ := x; exact Heap.lt_size e
  | tup xs => obtain ⟨_, _, _, p⟩ := x; exact p.lt
  | dK kvs => obtain ⟨_, _, _, _, o, _, _, e, _⟩ := x; exact Heap.lt_size e
  | dT kvs => obtain ⟨_, _, _, _, o, _, _, e, _⟩ := x; exact Heap.lt_size e
  | set S n => obtain ⟨o, _, _, _, e, _⟩ := x; exact Heap.lt_size e
  | ins C dx fs => obtain ⟨_, _, _, e, _⟩ := x; exact Heap.lt_size e
  | own y => obtain ⟨_, e⟩ := x; exact Heap.lt_size e
  | xd fs => obtain ⟨_, ⟨_, _, _, e, _⟩, _⟩ := x; exact Heap.lt_size e
  | rng lo hi => obtain ⟨_, _, _, e⟩ := x; exact Heap.lt_size e
  | frz ob u => obtain ⟨e, _⟩ := x; exact Heap.lt_size e
  | tbl ps => exact Heap.lt_size (show h.get? a = some _ from x)
  | met f y => exact Heap.lt_size (show h.get? a = some _ from x)
  | ext φ => obtain ⟨_, ⟨_, e⟩, _⟩ := x; exact Heap.lt_size e
theorem Paired.mapP {α β : Type} {F G : α → β → Prop} : ∀ {l₁ : List α} {l₂ : List β}, Paired F l₁ l₂ → (∀ a b, F a b → G a b) → Paired G l₁ l₂
  | _, _, .nil, _ => .nil
  | _, _, .cons r t, f => .cons (f _ _ r) (Paired.mapP t f)
theorem Paired.imp' {α β : Type} {F G : α → β → Prop} (f : ∀ a b, F a b → G a b) {l₁ : List α} {l₂ : List β} (r : Paired F l₁ l₂) : Paired G l₁ l₂ := Paired.mapP r f
/-- what an object's description leans on: its own object, its own dict, the tuples -/
theorem ObjOk.stay (x : ObjOk P w H h a o) (k : ∀ b u, (b = a ∨ H b = some (.own a)) → h.get? b = some u → h'.get? b = some u)
    (ho : ∀ b, H b = some (.own a) → H' b = some (.own a)) (ht : ∀ b xs, H b = some (.tup xs) → H' b = some (.tup xs)) : ObjOk P w H' h' a o := by
  induction o with
  | lst xs => obtain ⟨z, its, n, r, e⟩ := x; exact ⟨z, its, n, r, k _ _ (.inl rfl) e⟩
  | tup xs => obtain ⟨z, its, r, ob, e, c⟩ := x; exact ⟨z, its, r, ob, k _ _ (.inl rfl) e, c⟩
  | dK kvs => obtain ⟨z, y, vs, r, ob, es, ep, e, c⟩ := x; exact ⟨z, y, vs, r, ob, es, ep, k _ _ (.inl rfl) e, c⟩
  | dT kvs =>
    obtain ⟨z, y, xs, r, ob, es, ep, e, c⟩ := x
    exact ⟨z, y, xs, Paired.mapP r fun p q z => ⟨z.1, ht _ _ z.2.1, z.2.2⟩, ob, es, ep, k _ _ (.inl rfl) e, c⟩
  | set S n => obtain ⟨ob, es, ep, t, e, c⟩ := x; exact ⟨ob, es, ep, t, k _ _ (.inl rfl) e, c⟩
  | ins C dx fs =>
    obtain ⟨d, z, ne, e, mA, ⟨od, es, ep, e2, c⟩, r⟩ := x
    exact ⟨ho _ d, z, ne, k _ _ (.inl rfl) e, mA, ⟨od, es, ep, k _ _ (.inr d) e2, c⟩, r⟩
  | own y => obtain ⟨ob, e⟩ := x; exact ⟨ob, k _ _ (.inl rfl) e⟩
  | xd fs => obtain ⟨mA, ⟨od, es, ep, e, c⟩, r⟩ := x; exact ⟨mA, ⟨od, es, ep, k _ _ (.inl rfl) e, c⟩, r⟩
  | rng lo hi => obtain ⟨t, u, v, e⟩ := x; exact ⟨t, u, v, k _ _ (.inl rfl) e⟩
  | frz ob u ih => obtain ⟨e, q⟩ := x; exact ⟨k _ _ (.inl rfl) e, ih q⟩
  | tbl ps =>
    have e : h.get? a = some { cls := .none, data := .fields ps } := x
    show h'.get? a = some { cls := .none, data := .fields ps }
    exact k a _ (.inl rfl) e
  | met f y =>
    have e : h.get? a = some (PySem.W.methodObj (.ref f) (.ref y)) := x
    show h'.get? a = some (PySem.W.methodObj (.ref f) (.ref y))
    exact k a _ (.inl rfl) e
  | ext φ => obtain ⟨p, ⟨o, e⟩, st⟩ := x; exact ⟨st _ _ p fun o q => k _ _ (.inl rfl) q, ⟨o, k _ _ (.inl rfl) e⟩, st⟩
theorem HOk.lt (x : HOk P w H h) (e : H a = some o) : a < h.objs.size := (x a o e).lt
theorem HOk.fresh (x : HOk P w H h) (e : h.objs.size ≤ a) : H a = none := by
  cases q : H a with
  | none => rfl
  | some u => exact absurd (Nat.lt_of_lt_of_le (x.lt q) e) (Nat.lt_irrefl _)
/-- every object of the heap is kept -/
theorem HOk.kept (x : HOk P w H h) (k : ∀ b u, h.get? b = some u → h'.get? b = some u) : HOk P w H h' := fun a o e =>
  (x a o e).stay (fun b u _ q => k b u q) (fun _ q => q) fun _ _ q => q
/-- a new object is laid and tracked -/
theorem HOk.laid (x : HOk P w H h) (k : ∀ b u, h.get? b = some u → h'.get? b = some u) (hp : h.objs.size ≤ a) (new : ObjOk P w (upd H a o) h' a o) : HOk P w (upd H a o) h' := fun b u e => by
  have hn := x.fresh hp
  by_cases hb : b = a
  · subst hb; rw [upd_same] at e; cases e; exact new
  · rw [upd_ne hb] at e
    exact (x b u e).stay (fun c v _ q => k c v q) (fun c q => by rw [upd_ne (ne_of_none q hn)]; exact q) fun c xs q => by rw [upd_ne (ne_of_none q hn)]; exact q
end

/-- what may be read as u: it is u, or a known u -/
def Rd (H : Hp) (a : Addr) (u : HO) : Prop := H a = some u ∨ ∃ o, H a = some (.frz o u)
theorem Rd.of {H : Hp} {a : Addr} {u : HO} (h : H a = some u) : Rd H a u := .inl h
theorem Rd.ok {P : Program} {w : World} {H : Hp} {h : Heap} {a : Addr} {u : HO} (r : Rd H a u) (x : HOk P w H h) : ObjOk P w H h a u := by
  rcases r with r | ⟨o, r⟩
  · exact x a u r
  · obtain ⟨_, q⟩ := x a _ r
    exact q
/-- what may be written -/
def Mut : Option HO → Prop
  | some (.lst _) => True
  | some (.dK _) => True
  | some (.dT _) => True
  | some (.set _ _) => True
  | some (.ins _ _ _) => True
  | some (.ext _) => True
  | _ => False
section
variable {P : Program} {w : World} {H : Hp} {h h' : Heap} {x e : Addr} {o' : HO}
/-- the object at e is changed: x itself, or the dict of the instance x -/
theorem HOk.write (ok : HOk P w H h) (mu : Mut (H x)) (he : e = x ∨ H e = some (.own x)) (k : ∀ b u, b ≠ e → h.get? b = some u → h'.get? b = some u) (heo : ∃ u, h'.get? e = some u)
    (new : ObjOk P w (upd H x o') h' x o') : HOk P w (upd H x o') h' := fun b u q => by
  have nown : ∀ c y, H c = some (.own y) → c ≠ x := fun c y r z => by subst z; rw [r] at mu; exact mu
  have ntup : ∀ c xs, H c = some (.tup xs) → c ≠ x := fun c xs r z => by subst z; rw [r] at mu; exact mu
  by_cases hb : b = x
  · subst hb; rw [upd_same] at q; cases q; exact new
  · rw [upd_ne hb] at q
    by_cases hbe : b = e
    · have q' : H b = some (.own x) := by
        rcases he with z | z
        · exact absurd (hbe.trans z) hb
        · rw [hbe]; exact z
      rw [q] at q'; cases q'
      obtain ⟨v, hv⟩ := heo
      exact ⟨v, by rw [hbe]; exact hv⟩
    · refine (ok b u q).stay (fun c v hc r => k c v ?_ r) (fun c r => by rw [upd_ne (nown c b r)]; exact r) fun c xs r => by rw [upd_ne (ntup c xs r)]; exact r
      rcases hc with rfl | hc
      · exact hbe
      · rintro rfl
        rcases he with z | z
        · exact nown c b hc z
        · rw [hc] at z; cases z; exact hb rfl
end

/-! ### kept unless tracked; of the frames at fs (the callers') the slots may change (an exception that passes writes there); of the records at ex (iterators) nothing is said -/
structure Un (fs ex : List Addr) (H H' : Hp) (h h' : Heap) : Prop where
  keep : ∀ b o, h.get? b = some o → H b = none → b ∉ fs → b ∉ ex → h'.get? b = some o
  slot : ∀ b o, h.get? b = some o → H b = none → b ∈ fs → b ∉ ex → ∃ sl, h'.get? b = some { o with slots := sl }
  free : ∀ b o, h.get? b = some o → H b = none → b ∉ ex → H' b = none
  there : ∀ b o, h.get? b = some o → b ∉ ex → ∃ o', h'.get? b = some o'
  tups : ∀ b xs, H b = some (.tup xs) → H' b = some (.tup xs)
  frzs : ∀ b o u, H b = some (.frz o u) → H' b = some (.frz o u)
  tbls : ∀ b ps, H b = some (.tbl ps) → ∃ more, H' b = some (.tbl (ps ++ more))
section
variable {fs fs' ex ex' : List Addr} {H H1 H2 : Hp} {h h1 h2 h' : Heap} {a x e : Addr} {o : HO}
theorem Un.any (u : Un fs ex H H1 h h1) {b : Addr} {ob : Obj} (q : h.get? b = some ob) (n : H b = none) (hx : b ∉ ex) : ∃ sl, h1.get? b = some { ob with slots := sl } := by
  by_cases hb : b ∈ fs
  · exact u.slot b ob q n hb hx
  · exact ⟨ob.slots, u.keep b ob q n hb hx⟩
theorem Un.trans (a : Un fs ex H H1 h h1) (b : Un fs ex H1 H2 h1 h2) : Un fs ex H H2 h h2 where
  keep := fun c ob q n hc hx => b.keep c ob (a.keep c ob q n hc hx) (a.free c ob q n hx) hc hx
  slot := fun c ob q n hc hx => by
    obtain ⟨sl, e1⟩ := a.slot c ob q n hc hx
    obtain ⟨sl', e2⟩ := b.slot c _ e1 (a.free c ob q n hx) hc hx
    exact ⟨sl', e2⟩
  free := fun c ob q n hx => by
    obtain ⟨o', e1⟩ := a.there c ob q hx
    exact b.free c o' e1 (a.free c ob q n hx) hx
  there := fun c ob q hx => by
    obtain ⟨o', e1⟩ := a.there c ob q hx
    exact b.there c o' e1 hx
  tups := fun c xs q => b.tups c xs (a.tups c xs q)
  frzs := fun c ob xs q => b.frzs c ob xs (a.frzs c ob xs q)
  tbls := fun c ps q => by
    obtain ⟨m1, e1⟩ := a.tbls c ps q
    obtain ⟨m2, e2⟩ := b.tbls c _ e1
    exact ⟨m1 ++ m2, by rw [e2, Array.append_assoc]⟩
theorem Un.kept (k : ∀ b u, h.get? b = some u → h'.get? b = some u) : Un fs ex H H h h' :=
  ⟨fun b ob q _ _ _ => k b ob q, fun b ob q _ _ _ => ⟨ob.slots, k b ob q⟩, fun _ _ _ n _ => n, fun b ob q _ => ⟨ob, k b ob q⟩, fun _ _ q => q, fun _ _ _ q => q, fun _ ps q => ⟨#[], by rw [q]; simp⟩⟩
theorem Un.refl : Un fs ex H H h h := Un.kept fun _ _ q => q
theorem Un.laid (k : ∀ b u, h.get? b = some u → h'.get? b = some u) (hp : h.objs.size ≤ a) (hn : H a = none) : Un fs ex H (upd H a o) h h' where
  keep := fun b u q _ _ _ => k b u q
  slot := fun b u q _ _ _ => ⟨u.slots, k b u q⟩
  free := fun b u q n _ => by rw [upd_ne (Nat.ne_of_lt (Nat.lt_of_lt_of_le (Heap.lt_size q) hp))]; exact n
  there := fun b u q _ => ⟨u, k b u q⟩
  tups := fun b xs q => by rw [upd_ne (ne_of_none q hn)]; exact q
  frzs := fun b u xs q => by rw [upd_ne (ne_of_none q hn)]; exact q
  tbls := fun b ps q => ⟨#[], by rw [upd_ne (ne_of_none q hn), q]; simp⟩
theorem Un.write (mu : Mut (H x)) (he : e = x ∨ H e = some (.own x)) (k : ∀ b u, b ≠ e → h.get? b = some u → h'.get? b = some u) (heo : ∃ u, h'.get? e = some u) : Un fs ex H (upd H x o) h h' := by
  have hx : ∀ b, H b = none → b ≠ x := fun b n z => by subst z; rw [n] at mu; exact mu
  have hb : ∀ b, H b = none → b ≠ e := fun b n z => by
    subst z
    rcases he with r | r
    · exact hx b n r
    · rw [n] at r; cases r
  have hm : ∀ b u, H b = some u → ¬ Mut (some u) → b ≠ x := fun b u q nm z => by subst z; rw [q] at mu; exact nm mu
  refine ⟨fun b u q n _ _ => k b u (hb b n) q, fun b u q n _ _ => ⟨u.slots, k b u (hb b n) q⟩, fun b u q n _ => by rw [upd_ne (hx b n)]; exact n, fun b u q _ => ?_,
    fun b xs q => by rw [upd_ne (hm b _ q fun z => z)]; exact q, fun b u xs q => by rw [upd_ne (hm b _ q fun z => z)]; exact q, fun b ps q => ⟨#[], by rw [upd_ne (hm b _ q fun z => z), q]; simp⟩⟩
  by_cases hbe : b = e
  · subst hbe; exact heo
  · exact ⟨u, k b u hbe q⟩
theorem Un.mono (u : Un fs ex H H1 h h1) (hs : ∀ b ∈ fs, b ∈ fs') (hx : ∀ b ∈ ex, b ∈ ex') : Un fs' ex' H H1 h h1 :=
  ⟨fun b ob q n hb he => u.keep b ob q n (fun z => hb (hs b z)) fun z => he (hx b z), fun _ _ q n _ he => u.any q n fun z => he (hx _ z), fun b ob q n he => u.free b ob q n fun z => he (hx b z), fun b ob q he => u.there b ob q fun z => he (hx b z), u.tups, u.frzs, u.tbls⟩
end

/-! ### the heap without what is tracked -/
def trk (h : Heap) (H : Hp) : List Addr := (List.range h.objs.size).filter fun a => (H a).isSome
def hidT (h : Heap) (H : Hp) : Heap := PySem.W.hideAll h (trk h H)
theorem hidT_size (h : Heap) (H : Hp) : (hidT h H).objs.size = h.objs.size := PySem.W.hideAll_size _ _
theorem hidT_get {h : Heap} {H : Hp} {b : Addr} {o : Obj} (e : h.get? b = some o) (n : H b = none) : (hidT h H).get? b = some o :=
  PySem.W.hideAll_get _ e fun hm => by
    have q : (H b).isSome = true := (List.mem_filter.mp hm).2
    rw [n] at q; simp at q
theorem of_hidT {h : Heap} {H : Hp} {b : Addr} {o : Obj} (e : (hidT h H).get? b = some o) : h.get? b = some o ∧ H b = none := by
  have e' : h.get? b = some o := PySem.W.of_hideAll (trk h H) e
  refine ⟨e', ?_⟩
  cases q : H b with
  | none => rfl
  | some x =>
    have hm : b ∈ trk h H := List.mem_filter.mpr ⟨List.mem_range.mpr (Heap.lt_size e'), by simp [q]⟩
    have z : (hidT h H).get? b = none := PySem.W.hideAll_none (trk h H) hm
    rw [z] at e; cases e

/-! ### OpenK's ledger, filled with every new object but one -/
def allNews (g h : Heap) (L : Addr) : List (Addr × Obj) := (List.range h.objs.size).filterMap fun a => if a = L ∨ (g.get? a).isSome = true then none else (h.get? a).map fun o => (a, o)
theorem mem_allNews {g h : Heap} {L a : Addr} {o : Obj} (h1 : a ≠ L) (h2 : g.get? a = none) (h3 : h.get? a = some o) : (a, o) ∈ allNews g h L :=
  List.mem_filterMap.mpr ⟨a, List.mem_range.mpr (Heap.lt_size h3), by simp [h1, h2, h3]⟩
theorem of_mem_allNews {g h : Heap} {L : Addr} {p : Addr × Obj} (hp : p ∈ allNews g h L) : p.1 ≠ L ∧ g.get? p.1 = none ∧ h.get? p.1 = some p.2 := by
  obtain ⟨b, _, e⟩ := List.mem_filterMap.mp hp
  split at e
  · cases e
  · rename_i hn
    cases q : h.get? b with
    | none => rw [q] at e; simp at e
    | some u =>
      rw [q] at e
      simp only [Option.map_some, Option.some.injEq] at e
      subst e
      refine ⟨fun z => hn (.inl z), ?_, q⟩
      show g.get? b = none
      cases r : g.get? b with
      | none => rfl
      | some v => exact (hn (.inr (by simp [r]))).elim
def rest (g h : Heap) (L d : Addr) : List (Addr × Obj) := (allNews g h L).filter fun p => decide (p.1 ≠ d)
theorem rest_ne {g h : Heap} {L d : Addr} : ∀ p ∈ rest g h L d, p.1 ≠ d := fun p hp => of_decide_eq_true (List.mem_filter.mp hp).2
theorem mem_rest {g h : Heap} {L d a : Addr} {o : Obj} (h1 : a ≠ L) (h2 : g.get? a = none) (h3 : h.get? a = some o) (h4 : a ≠ d) : (a, o) ∈ rest g h L d :=
  List.mem_filter.mpr ⟨mem_allNews h1 h2 h3, decide_eq_true h4⟩
theorem news_all {g h : Heap} {L : Addr} : News g L h (allNews g h L) := fun p hp => let ⟨a, b, c⟩ := of_mem_allNews hp; ⟨c, a, b⟩
theorem news_at {g h : Heap} {L d : Addr} {o : Obj} (h1 : d ≠ L) (h2 : g.get? d = none) (h3 : h.get? d = some o) : News g L h ((d, o) :: rest g h L d) := fun p hp => by
  rcases List.mem_cons.mp hp with rfl | hp
  · exact ⟨h3, h1, h2⟩
  · exact news_all p (List.mem_filter.mp hp).1
/-- behind a rule that changed d alone: all else but the frame is kept -/
theorem kept_of_news {g h h' : Heap} {L d : Addr} {m : Str → Option Value} (k : ∀ b o, g.get? b = some o → h.get? b = some o) (F : Fr g L h' m) (N : News g L h' (rest g h L d)) :
    ∀ b o, b ≠ L → b ≠ d → h.get? b = some o → h'.get? b = some o := fun b o h1 h2 e => by
  cases q : g.get? b with
  | some u =>
    have := k b u q
    rw [e] at this; cases this
    exact F.keep b _ q
  | none => exact (N (b, o) (mem_rest h1 q e h2)).1
end L2

namespace L2
open PySem PySem.Spec PyProof.Rows

/-- the module's facts, over the base: the heap at the law's entry without what is tracked there -/
structure Mod (K : PySem.W.Frag) (mg : Str → Option Value) (base : Heap) : Prop where
  kin : K.In base
  glob : base.Ns mainGlobals mg
  blt : ∃ mb, base.Ns builtinsNs mb ∧ ∀ x : Str, x ≠ "__name__" → mb x = bootBuiltins x
  nolimit : base.NoLimit

/-- the context: a def's body (or a comprehension's block) running. base: fixed through the whole law; s₀, H₀: the entry; outer: the frames whose slots others may change (a def's callers); stack: all frames that run;
   ex: iterators that were made ahead of the entry and are walked here (a comprehension's); fn: the names whose cells were made at the entry (a def: all; a comprehension's block: its own); calm: not within an except suite; pn: pins that every state bears; xe: what is wanted of an exception that leaves the code -/
structure Cx where
  prog : Program
  w : World
  K : PySem.W.Frag
  mg : Str → Option Value
  base : Heap
  A : Around
  N : List Str
  s₀ : Shared
  H₀ : Hp
  env : Env
  outer : List Env
  stack : List Env
  ex : List Addr
  fn : Str → Bool
  calm : Bool
  pn : List (Addr × Obj)
  xe : Value → Shared → Prop
/-- the callers' frames -/
def frs (l : List Env) : List Addr := l.filterMap (·.frame)
abbrev Cx.fs (X : Cx) : List Addr := frs X.outer

def Vis (sc : Scope) (x : Str) : Prop := sc.names.lookup x = some .local ∨ sc.names.lookup x = some .cell ∨ sc.names.lookup x = some .free
def Loc (sc : Scope) (x : Str) : Prop := sc.names.lookup x = some .local ∨ sc.names.lookup x = some .cell
def Look (env : Env) (h : Heap) (m : Str → Option Value) (x : Str) (u : Value) : Prop :=
  (env.kindOf x = some .local ∧ m x = some u) ∨ ((env.kindOf x = some .cell ∨ env.kindOf x = some .free) ∧ ∃ c, env.cells.lookup x = some c ∧ h.IsCell c (some u))

structure Cx.Ok (X : Cx) : Prop where
  mod : Mod X.K X.mg X.base
  kind : X.env.scope.kind = .function
  glob : X.env.globals = mainGlobals
  blt : X.env.builtins = builtinsNs
  above : X.s₀.heap.objs.size ≤ X.env.locals
  inj : ∀ x y c, X.env.cells.lookup x = some c → X.env.cells.lookup y = some c → x = y
  has : ∀ x, (X.env.kindOf x = some .cell ∨ X.env.kindOf x = some .free) → ∃ c, X.env.cells.lookup x = some c
  cab : ∀ x c, X.fn x = true → X.env.cells.lookup x = some c → X.s₀.heap.objs.size ≤ c
  hd : X.calm = true → X.A.handled = none
  frames : X.A.frames = some X.stack
  stk : X.stack = X.outer ∨ (X.stack = X.env :: X.outer ∧ X.env.frame = some X.env.locals)
  exf : ∀ b ∈ X.ex, b ≠ X.env.locals ∧ ∀ x c, X.env.cells.lookup x = some c → c ≠ b
  bs : ∀ b o, X.base.get? b = some o → X.s₀.heap.get? b = some o ∧ X.H₀ b = none
  bsz : X.base.objs.size ≤ X.s₀.heap.objs.size
  noex : ∀ b o, X.base.get? b = some o → b ∉ X.ex
  exfs : ∀ b ∈ X.ex, b ∉ X.fs
  funs : X.s₀.heap.FunFrames X.base X.outer
  frf : ∀ b ∈ X.fs, X.H₀ b = none

structure Inv (X : Cx) (pins : List (Addr × Obj)) (σ : List (Option V)) (H : Hp) (s : Shared) : Prop where
  ok : X.Ok
  os : s.os = X.s₀.os
  bare : AllBare s.gens
  base : Un X.fs X.ex X.H₀ H X.s₀.heap s.heap
  loc : ∃ m, s.heap.Ns X.env.locals m ∧ ∀ (i : Nat) (x : Str) (v : V), X.N[i]? = some x → σ[i]? = some (some v) → Vis X.env.scope x → ∃ u, RelV v u ∧ Look X.env s.heap m x u
  cell : ∀ x c, X.env.cells.lookup x = some c → ∃ v, s.heap.IsCell c v
  free : H X.env.locals = none
  freeC : ∀ x c, X.env.cells.lookup x = some c → H c = none
  pin : ∀ p ∈ X.pn ++ pins, s.heap.get? p.1 = some p.2 ∧ H p.1 = none ∧ p.1 ≠ X.env.locals ∧ p.1 ∉ X.fs ∧ ∀ v, p.2.data ≠ .cell v
  hok : HOk X.prog X.w H s.heap
  len : σ.length = X.N.length

section
variable {X : Cx} {pins : List (Addr × Obj)} {σ : List (Option V)} {H H' : Hp} {s : Shared} {h' : Heap}

theorem Cx.Ok.nofr (ok : X.Ok) {b : Addr} {o : Obj} (e : X.base.get? b = some o) : b ∉ X.fs := fun hb => by
  have := (ok.funs.mem hb).1
  rw [e] at this; cases this
theorem Inv.bs (I : Inv X pins σ H s) : ∀ b o, X.base.get? b = some o → s.heap.get? b = some o ∧ H b = none := fun b o e =>
  ⟨I.base.keep b o (I.ok.bs b o e).1 (I.ok.bs b o e).2 (I.ok.nofr e) (I.ok.noex b o e), I.base.free b o (I.ok.bs b o e).1 (I.ok.bs b o e).2 (I.ok.noex b o e)⟩
theorem Inv.bk (I : Inv X pins σ H s) : ∀ b o, X.base.get? b = some o → s.heap.get? b = some o := fun b o e => (I.bs b o e).1
theorem Inv.mod (I : Inv X pins σ H s) : Mod X.K X.mg X.base := I.ok.mod
theorem Inv.kIn (I : Inv X pins σ H s) : X.K.In s.heap := I.ok.mod.kin.keeps I.bk
theorem Inv.nolimit (I : Inv X pins σ H s) : s.heap.NoLimit := I.ok.mod.nolimit.keeps I.bk
/-- the frame over the base: for OpenK's rules (K.In X.base is I.mod.kin) -/
theorem Inv.fr (I : Inv X pins σ H s) : ∃ m, Fr X.base X.env.locals s.heap m :=
  let ⟨m, hn, _⟩ := I.loc
  ⟨m, hn, I.bk, Nat.le_trans I.ok.bsz I.ok.above⟩
theorem Inv.lt (I : Inv X pins σ H s) : X.env.locals < s.heap.objs.size := let ⟨_, hn, _⟩ := I.loc; hn.lt
theorem Inv.sz (I : Inv X pins σ H s) : X.s₀.heap.objs.size ≤ s.heap.objs.size := Nat.le_trans I.ok.above (Nat.le_of_lt I.lt)
theorem Inv.nofs (I : Inv X pins σ H s) {a : Addr} (h : s.heap.objs.size ≤ a) : a ∉ X.fs := fun hb => by
  obtain ⟨_, o, ho, _⟩ := I.ok.funs.mem hb
  exact absurd (Nat.lt_of_lt_of_le (Heap.lt_size ho) (Nat.le_trans I.sz h)) (Nat.lt_irrefl _)
theorem Inv.cne (I : Inv X pins σ H s) : ∀ x c, X.env.cells.lookup x = some c → c ≠ X.env.locals := fun x c e z => by
  obtain ⟨v, o, ho, hd⟩ := I.cell x c e
  obtain ⟨m, ⟨o', es, ep, ho', hd', _⟩, _⟩ := I.loc
  rw [z, ho'] at ho; cases ho; rw [hd'] at hd; cases hd
theorem Inv.funs (I : Inv X pins σ H s) : s.heap.FunFrames X.base X.outer := by
  have all : ∀ (l : List Env), (∀ b ∈ frs l, b ∈ X.fs) → X.s₀.heap.FunFrames X.base l → s.heap.FunFrames X.base l := by
    intro l
    induction l with
    | nil => intro _ _; trivial
    | cons env r ih =>
      intro hs hl
      obtain ⟨hk, ⟨L, o, hf, hn, ho, hd⟩, hr⟩ := hl
      have hL : L ∈ X.fs := hs L (by unfold frs; rw [List.filterMap_cons, hf]; exact List.mem_cons_self)
      obtain ⟨sl, e⟩ := I.base.slot L o ho (I.ok.frf L hL) hL fun z => I.ok.exfs L z hL
      exact ⟨hk, ⟨L, _, hf, hn, e, hd⟩, ih (fun b hb => hs b (by unfold frs; rw [List.filterMap_cons, hf]; exact List.mem_cons_of_mem _ hb)) hr⟩
  exact all X.outer (fun _ hb => hb) I.ok.funs

/-- the frames that run, for a call -/
theorem Inv.stack (I : Inv X pins σ H s) : s.heap.FunFrames X.base X.stack := by
  rcases I.ok.stk with e | ⟨e, hf⟩
  · rw [e]; exact I.funs
  · rw [e]
    obtain ⟨m, hn, _⟩ := I.loc
    refine .cons (by rw [I.ok.kind]; decide) hf hn ?_ I.funs
    exact Heap.get?_none_of_le (Nat.le_trans I.ok.bsz I.ok.above)
theorem Inv.stkSub (I : Inv X pins σ H s) : ∀ b ∈ frs X.stack, b ∈ X.env.locals :: X.fs := fun b hb => by
  rcases I.ok.stk with e | ⟨e, hf⟩
  · rw [e] at hb; exact List.mem_cons_of_mem _ hb
  · rw [e] at hb
    unfold frs at hb
    rw [List.filterMap_cons, hf] at hb
    exact hb
theorem Inv.stkFree (I : Inv X pins σ H s) : ∀ b ∈ frs X.stack, H b = none := fun b hb => by
  rcases List.mem_cons.mp (I.stkSub b hb) with e | hb
  · rw [e]; exact I.free
  · obtain ⟨_, o, ho, _⟩ := I.ok.funs.mem hb
    exact I.base.free b o ho (I.ok.frf b hb) fun z => I.ok.exfs b z hb

/-- THE STEP: the untracked objects but the frame and the records at ch are kept (the callers' frames up to slots), the frame's map is kept, the new abstract heap is held -/
theorem Inv.step {g' : Array GenState} {t' : Nat} {d' : Drawn} {ch : List Addr} (I : Inv X pins σ H s)
    (hch : ∀ b ∈ ch, (b ∈ X.ex ∨ X.s₀.heap.objs.size ≤ b) ∧ b ≠ X.env.locals ∧ (∀ x c, X.env.cells.lookup x = some c → c ≠ b) ∧ ∀ p ∈ X.pn ++ pins, p.1 ≠ b)
    (keep : ∀ b o, b ≠ X.env.locals → b ∉ X.fs → b ∉ ch → s.heap.get? b = some o → H b = none → h'.get? b = some o)
    (slot : ∀ b o, b ≠ X.env.locals → b ∈ X.fs → b ∉ ch → s.heap.get? b = some o → H b = none → ∃ sl, h'.get? b = some { o with slots := sl }) (free : ∀ b o, b ∉ ch → s.heap.get? b = some o → H b = none → H' b = none)
    (there : ∀ b o, b ∉ ch → s.heap.get? b = some o → ∃ o', h'.get? b = some o')
    (tups : ∀ b xs, H b = some (.tup xs) → H' b = some (.tup xs)) (frzs : ∀ b o u, H b = some (.frz o u) → H' b = some (.frz o u)) (tbls : ∀ b ps, H b = some (.tbl ps) → ∃ more, H' b = some (.tbl (ps ++ more)))
    (ns : ∀ m, s.heap.Ns X.env.locals m → h'.Ns X.env.locals m) (hok : HOk X.prog X.w H' h') (hg : AllBare g') :
    Inv X pins σ H' { s with heap := h', gens := g', drawn := d', toks := t' } := by
  have neL : ∀ b o, X.s₀.heap.get? b = some o → b ≠ X.env.locals := fun b o e => Nat.ne_of_lt (Nat.lt_of_lt_of_le (Heap.lt_size e) I.ok.above)
  have neC : ∀ b o, X.s₀.heap.get? b = some o → b ∉ X.ex → b ∉ ch := fun b o e hx hb => by
    rcases (hch b hb).1 with z | z
    · exact hx z
    · exact absurd (Nat.lt_of_lt_of_le (Heap.lt_size e) z) (Nat.lt_irrefl _)
  have cellK : ∀ x c, X.env.cells.lookup x = some c → ∀ v, s.heap.IsCell c v → h'.IsCell c v := fun x c e v ⟨o, ho, hd⟩ => by
    have nch : c ∉ ch := fun z => (hch c z).2.2.1 x c e rfl
    by_cases hc : c ∈ X.fs
    · obtain ⟨sl, q⟩ := slot c o (I.cne x c e) hc nch ho (I.freeC x c e)
      exact ⟨_, q, hd⟩
    · exact ⟨o, keep c o (I.cne x c e) hc nch ho (I.freeC x c e), hd⟩
  refine ⟨I.ok, I.os, hg, ⟨fun b o e n hb hx => ?_, fun b o e n hb hx => ?_, fun b o e n hx => ?_, fun b o e hx => ?_, fun b xs e => tups b xs (I.base.tups b xs e), fun b o xs e => frzs b o xs (I.base.frzs b o xs e), fun b ps e => ?_⟩, ?_, fun x c e => ?_, ?_, fun x c e => ?_, fun p hp => ?_, hok, I.len⟩
  · exact keep b o (neL b o e) hb (neC b o e hx) (I.base.keep b o e n hb hx) (I.base.free b o e n hx)
  · obtain ⟨sl, e1⟩ := I.base.slot b o e n hb hx
    obtain ⟨sl', e2⟩ := slot b _ (neL b o e) hb (neC b o e hx) e1 (I.base.free b o e n hx)
    exact ⟨sl', e2⟩
  · obtain ⟨o', e1⟩ := I.base.there b o e hx
    exact free b o' (neC b o e hx) e1 (I.base.free b o e n hx)
  · obtain ⟨o', e1⟩ := I.base.there b o e hx
    exact there b o' (neC b o e hx) e1
  · obtain ⟨m1, e1⟩ := I.base.tbls b ps e
    obtain ⟨m2, e2⟩ := tbls b _ e1
    exact ⟨m1 ++ m2, by rw [e2, Array.append_assoc]⟩
  · obtain ⟨m, hn, hl⟩ := I.loc
    refine ⟨m, ns m hn, fun i x v e1 e2 e3 => ?_⟩
    obtain ⟨u, r, l⟩ := hl i x v e1 e2 e3
    refine ⟨u, r, ?_⟩
    rcases l with l | ⟨k, c, e, z⟩
    · exact .inl l
    · exact .inr ⟨k, c, e, cellK x c e _ z⟩
  · obtain ⟨v, z⟩ := I.cell x c e
    exact ⟨v, cellK x c e v z⟩
  · obtain ⟨m, ⟨o, _, _, ho, _⟩, _⟩ := I.loc
    exact free _ o (fun z => (hch _ z).2.1 rfl) ho I.free
  · obtain ⟨v, o, ho, hd⟩ := I.cell x c e
    exact free c o (fun z => (hch c z).2.2.1 x c e rfl) ho (I.freeC x c e)
  · obtain ⟨e, n, ne, nf, d⟩ := I.pin p hp
    have nch : p.1 ∉ ch := fun z => (hch p.1 z).2.2.2 p hp rfl
    exact ⟨keep p.1 p.2 ne nf nch e n, free p.1 p.2 nch e n, ne, nf, d⟩
/-- .. where the frame's own object is kept too -/
theorem Inv.un {t' : Nat} (I : Inv X pins σ H s) (u : Un X.fs [] H H' s.heap h') (hok : HOk X.prog X.w H' h') : Inv X pins σ H' { s with heap := h', toks := t' } := by
  obtain ⟨m, ⟨o, es, ep, ho, r⟩, _⟩ := id I.loc
  obtain ⟨sl, hL⟩ := u.any ho I.free (by simp)
  exact I.step (g' := s.gens) (d' := s.drawn) (ch := []) (fun _ z => nomatch z) (fun b o _ hb _ e n => u.keep b o e n hb (by simp)) (fun b o _ hb _ e n => u.slot b o e n hb (by simp)) (fun b o _ e n => u.free b o e n (by simp)) (fun b o _ e => u.there b o e (by simp)) u.tups u.frzs u.tbls (fun m' hm => by
    obtain ⟨o', es', ep', ho', r'⟩ := hm
    rw [ho] at ho'; cases ho'
    exact ⟨_, es', ep', hL, r'⟩) hok I.bare
/-- behind a call (or a comprehension's block): the slots of this frame may have changed too, the records at ch may have turned -/
theorem Inv.call {g' : Array GenState} {t' : Nat} {d' : Drawn} {ch : List Addr} (I : Inv X pins σ H s) (u : Un (frs X.stack) ch H H' s.heap h') (hok : HOk X.prog X.w H' h') (hg : AllBare g')
    (hch : ∀ b ∈ ch, (b ∈ X.ex ∨ X.s₀.heap.objs.size ≤ b) ∧ b ≠ X.env.locals ∧ (∀ x c, X.env.cells.lookup x = some c → c ≠ b) ∧ ∀ p ∈ X.pn ++ pins, p.1 ≠ b) :
    Inv X pins σ H' { s with heap := h', gens := g', drawn := d', toks := t' } := by
  obtain ⟨m, ⟨o, es, ep, ho, r⟩, _⟩ := id I.loc
  obtain ⟨sl, hL⟩ := u.any ho I.free fun z => (hch _ z).2.1 rfl
  exact I.step (ch := ch) hch (fun b o hL hb hc e n => u.keep b o e n (fun z => (List.mem_cons.mp (I.stkSub b z)).elim hL hb) hc) (fun b o _ _ hc e n => u.any e n hc) (fun b o hc e n => u.free b o e n hc) (fun b o hc e => u.there b o e hc) u.tups u.frzs u.tbls (fun m' hm => by
    obtain ⟨o', es', ep', ho', r'⟩ := hm
    rw [ho] at ho'; cases ho'
    exact ⟨_, es', ep', hL, r'⟩) hok hg
/-- an untracked record of ours (an iterator) has turned -/
theorem Inv.turned {t' : Nat} {it : Addr} (I : Inv X pins σ H s) (k : ∀ b o, b ≠ it → s.heap.get? b = some o → h'.get? b = some o) (hn : H it = none) (hL : it ≠ X.env.locals)
    (h1 : it ∈ X.ex ∨ X.s₀.heap.objs.size ≤ it) (h2 : ∀ x c, X.env.cells.lookup x = some c → c ≠ it) (h3 : ∀ p ∈ X.pn ++ pins, p.1 ≠ it) : Inv X pins σ H { s with heap := h', toks := t' } := by
  have nit : ∀ b u, H b = some u → b ≠ it := fun b u e z => by rw [z, hn] at e; cases e
  refine I.step (g' := s.gens) (d' := s.drawn) (ch := [it]) (fun b hb => ?_) (fun b o _ _ hc e _ => k b o (fun z => hc (by simp [z])) e) (fun b o _ _ hc e _ => ⟨o.slots, k b o (fun z => hc (by simp [z])) e⟩) (fun _ _ _ _ n => n)
    (fun b o hc e => ⟨o, k b o (fun z => hc (by simp [z])) e⟩) (fun _ _ e => e) (fun _ _ _ e => e) (fun b ps e => ⟨#[], by rw [e]; simp⟩) (fun m hm => ?_) (fun b u e => ?_) I.bare
  · have e : b = it := by simpa using hb
    subst e
    exact ⟨h1, hL, h2, h3⟩
  · obtain ⟨o, es, ep, ho, r⟩ := hm
    exact ⟨o, es, ep, k _ o (Ne.symm hL) ho, r⟩
  · refine (I.hok b u e).stay (fun c v hc q => k c v ?_ q) (fun _ q => q) fun _ _ q => q
    rcases hc with z | z
    · rw [z]; exact nit b u e
    · exact nit c _ z
theorem Inv.tok (I : Inv X pins σ H s) (t : Nat) : Inv X pins σ H { s with toks := t } := I.un (h' := s.heap) (t' := t) Un.refl I.hok
/-- all objects kept -/
theorem Inv.kept {t' : Nat} (I : Inv X pins σ H s) (k : ∀ b u, s.heap.get? b = some u → h'.get? b = some u) : Inv X pins σ H { s with heap := h', toks := t' } := I.un (Un.kept k) (I.hok.kept k)
/-- a new object laid and tracked -/
theorem Inv.laid {a : Addr} {o : HO} {t' : Nat} (I : Inv X pins σ H s) (k : ∀ b u, s.heap.get? b = some u → h'.get? b = some u) (hp : s.heap.objs.size ≤ a) (new : ObjOk X.prog X.w (upd H a o) h' a o) :
    Inv X pins σ (upd H a o) { s with heap := h', toks := t' } := I.un (Un.laid k hp (I.hok.fresh hp)) (I.hok.laid k hp new)
/-- an object written -/
theorem Inv.write {x e : Addr} {o : HO} {t' : Nat} (I : Inv X pins σ H s) (mu : Mut (H x)) (he : e = x ∨ H e = some (.own x)) (k : ∀ b u, b ≠ e → s.heap.get? b = some u → h'.get? b = some u) (heo : ∃ u, h'.get? e = some u)
    (new : ObjOk X.prog X.w (upd H x o) h' x o) : Inv X pins σ (upd H x o) { s with heap := h', toks := t' } := I.un (Un.write mu he k heo) (I.hok.write mu he k heo new)
/-- forgetting slots, pins -/
theorem Inv.weak {σ' : List (Option V)} (I : Inv X pins σ H s) (hl : σ'.length = σ.length) (w : ∀ (i : Nat) v, σ'[i]? = some (some v) → σ[i]? = some (some v)) : Inv X pins σ' H s :=
  ⟨I.ok, I.os, I.bare, I.base, let ⟨m, hn, hl'⟩ := I.loc; ⟨m, hn, fun i x v e1 e2 e3 => hl' i x v e1 (w i v e2) e3⟩, I.cell, I.free, I.freeC, I.pin, I.hok, hl.trans I.len⟩
theorem Inv.pins_of {pins' : List (Addr × Obj)} (I : Inv X pins σ H s) (h : ∀ p ∈ pins', s.heap.get? p.1 = some p.2 ∧ H p.1 = none ∧ p.1 ≠ X.env.locals ∧ p.1 ∉ X.fs ∧ ∀ v, p.2.data ≠ .cell v) : Inv X pins' σ H s :=
  ⟨I.ok, I.os, I.bare, I.base, I.loc, I.cell, I.free, I.freeC, fun p hp => (List.mem_append.mp hp).elim (fun z => I.pin p (List.mem_append_left _ z)) (h p), I.hok, I.len⟩

theorem nodup_ix {N : List Str} (hN : N.Nodup) {i j : Nat} {x : Str} (a : N[i]? = some x) (b : N[j]? = some x) : i = j := by
  obtain ⟨h1, e1⟩ := List.getElem?_eq_some_iff.mp a
  obtain ⟨h2, e2⟩ := List.getElem?_eq_some_iff.mp b
  exact (List.getElem_inj hN).mp (e1.trans e2.symm)

/-- a name is stored; what changed -/
theorem store_ok2 {M : Model} {A : Around} {E : Value → Shared → Prop} {i : Nat} {x : Str} {v : V} {u : Value} {Q : Unit → Shared → Prop} (I : Inv X pins σ H s) (hN : X.N.Nodup) (hi : X.N[i]? = some x) (hx : Loc X.env.scope x) (r : RelV v u)
    (h : ∀ s', Inv X pins (σ.set i (some v)) H s' → (∃ a, Heap.SameBut a s.heap s'.heap ∧ (a = X.env.locals ∨ X.env.cells.lookup x = some a)) → Q () s') (hf : X.fn x = true ∨ X.env.scope.names.lookup x = some .local := by first | exact .inl rfl | exact .inr rfl | assumption) : wpAny M A (storeName X.env x u) Q E s := by
  obtain ⟨m, hn, hl⟩ := id I.loc
  have hcls : (X.env.scope.kind == .class || (X.env.scope.kind == .module && X.env.locals != X.env.globals)) = false := by rw [I.ok.kind]; rfl
  have hiσ : i < σ.length := by rw [I.len]; exact (List.getElem?_eq_some_iff.mp hi).1
  have cne := I.cne
  have tracked : ∀ {a : Addr} {h' : Heap}, (∃ o, s.heap.get? a = some o ∧ H a = none) → Heap.SameBut a s.heap h' → HOk X.prog X.w H h' := fun {a h'} ha hs b ob e => by
    obtain ⟨_, _, hfree⟩ := ha
    refine (I.hok b ob e).stay (fun c w' hc q => (hs.2 c ?_).trans q) (fun _ q => q) fun _ _ q => q
    rintro rfl
    rcases hc with rfl | hc
    · rw [hfree] at e; cases e
    · rw [hfree] at hc; cases hc
  rcases hx with hk | hk
  · refine wpAny_storeName_local hk hn (fun h' hn' hs => ?_) hcls
    obtain ⟨oL, _, _, hoL, _⟩ := id hn
    refine h _ ⟨I.ok, I.os, I.bare, ⟨fun b o e n hb hx => ?_, fun b o e n hb hx => ?_, I.base.free, fun b o e hx => ?_, I.base.tups, I.base.frzs, I.base.tbls⟩, ⟨_, hn', fun j y v' e1 e2 e3 => ?_⟩, fun y c e => ?_, I.free, I.freeC, fun p hp => ?_, tracked ⟨oL, hoL, I.free⟩ hs, by simpa using I.len⟩ ⟨_, hs, .inl rfl⟩
    · exact (hs.2 b (Nat.ne_of_lt (Nat.lt_of_lt_of_le (Heap.lt_size e) I.ok.above))).trans (I.base.keep b o e n hb hx)
    · obtain ⟨sl, e1⟩ := I.base.slot b o e n hb hx
      exact ⟨sl, (hs.2 b (Nat.ne_of_lt (Nat.lt_of_lt_of_le (Heap.lt_size e) I.ok.above))).trans e1⟩
    · obtain ⟨o', e1⟩ := I.base.there b o e hx
      exact ⟨o', (hs.2 b (Nat.ne_of_lt (Nat.lt_of_lt_of_le (Heap.lt_size e) I.ok.above))).trans e1⟩
    · by_cases hj : j = i
      · subst hj
        rw [hi] at e1; cases e1
        rw [List.getElem?_set_self hiσ] at e2
        cases e2
        exact ⟨u, r, .inl ⟨hk, by simp⟩⟩
      · rw [List.getElem?_set_ne (Ne.symm hj)] at e2
        obtain ⟨u', r', q⟩ := hl j y v' e1 e2 e3
        refine ⟨u', r', ?_⟩
        rcases q with ⟨k, e⟩ | ⟨k, c, e, z⟩
        · refine .inl ⟨k, ?_⟩
          have : y ≠ x := fun e => hj (nodup_ix hN e1 (e ▸ hi))
          simp [this, e]
        · exact .inr ⟨k, c, e, z.sameBut hs (cne y c e)⟩
    · obtain ⟨w', z⟩ := I.cell y c e
      exact ⟨w', z.sameBut hs (cne y c e)⟩
    · obtain ⟨e, n, ne, nf, d⟩ := I.pin p hp
      exact ⟨(hs.2 p.1 ne).trans e, n, ne, nf, d⟩
  · have hfn : X.fn x = true := by
      rcases hf with z | z
      · exact z
      · rw [z] at hk; cases hk
    obtain ⟨c, hc⟩ := I.ok.has x (.inl hk)
    obtain ⟨w', z⟩ := I.cell x c hc
    refine wpAny_storeName_cell I.ok.kind hk hc z (fun h' hc' hs => ?_)
    obtain ⟨oc, hoc, hocd⟩ := id z
    refine h { s with heap := h' } ⟨I.ok, I.os, I.bare, ⟨fun b o e n hb hx => ?_, fun b o e n hb hx => ?_, I.base.free, fun b o e hx => ?_, I.base.tups, I.base.frzs, I.base.tbls⟩, ⟨m, hn.sameBut hs (Ne.symm (cne x c hc)), fun j y v' e1 e2 e3 => ?_⟩, fun y c' e => ?_, I.free, I.freeC, fun p hp => ?_, tracked ⟨oc, hoc, I.freeC x c hc⟩ hs, by simpa using I.len⟩ ⟨c, hs, .inr hc⟩
    · exact (hs.2 b (Nat.ne_of_lt (Nat.lt_of_lt_of_le (Heap.lt_size e) (I.ok.cab x c hfn hc)))).trans (I.base.keep b o e n hb hx)
    · obtain ⟨sl, e1⟩ := I.base.slot b o e n hb hx
      exact ⟨sl, (hs.2 b (Nat.ne_of_lt (Nat.lt_of_lt_of_le (Heap.lt_size e) (I.ok.cab x c hfn hc)))).trans e1⟩
    · obtain ⟨o', e1⟩ := I.base.there b o e hx
      exact ⟨o', (hs.2 b (Nat.ne_of_lt (Nat.lt_of_lt_of_le (Heap.lt_size e) (I.ok.cab x c hfn hc)))).trans e1⟩
    · by_cases hj : j = i
      · subst hj
        rw [hi] at e1; cases e1
        rw [List.getElem?_set_self hiσ] at e2
        cases e2
        exact ⟨u, r, .inr ⟨.inl hk, c, hc, hc'⟩⟩
      · rw [List.getElem?_set_ne (Ne.symm hj)] at e2
        obtain ⟨u', r', q⟩ := hl j y v' e1 e2 e3
        refine ⟨u', r', ?_⟩
        rcases q with q | ⟨k, c', e, z'⟩
        · exact .inl q
        · refine .inr ⟨k, c', e, z'.sameBut hs ?_⟩
          rintro rfl
          exact hj (nodup_ix hN e1 (I.ok.inj _ _ _ e hc ▸ hi))
    · by_cases hcc : c' = c
      · subst hcc; exact ⟨_, hc'⟩
      · obtain ⟨w2, z2⟩ := I.cell y c' e
        exact ⟨w2, z2.sameBut hs hcc⟩
    · obtain ⟨e, n, ne, nf, d⟩ := I.pin p hp
      refine ⟨(hs.2 p.1 ?_).trans e, n, ne, nf, d⟩
      intro q
      rw [q, hoc] at e
      have q' : oc = p.2 := Option.some.inj e
      exact d w' (by rw [← q']; exact hocd)
theorem store_ok {M : Model} {A : Around} {E : Value → Shared → Prop} {i : Nat} {x : Str} {v : V} {u : Value} {Q : Unit → Shared → Prop} (I : Inv X pins σ H s) (hN : X.N.Nodup) (hi : X.N[i]? = some x) (hx : Loc X.env.scope x) (r : RelV v u)
    (h : ∀ s', Inv X pins (σ.set i (some v)) H s' → Q () s') (hf : X.fn x = true ∨ X.env.scope.names.lookup x = some .local := by first | exact .inl rfl | exact .inr rfl | assumption) : wpAny M A (storeName X.env x u) Q E s :=
  store_ok2 I hN hi hx r (fun s' I' _ => h s' I') hf
/-- behind a call or a block, the state as it is -/
theorem Inv.call' {s' : Shared} {ch : List Addr} (I : Inv X pins σ H s) (ho : s'.os = s.os) (u : Un (frs X.stack) ch H H' s.heap s'.heap) (hok : HOk X.prog X.w H' s'.heap) (hg : AllBare s'.gens)
    (hch : ∀ b ∈ ch, (b ∈ X.ex ∨ X.s₀.heap.objs.size ≤ b) ∧ b ≠ X.env.locals ∧ (∀ x c, X.env.cells.lookup x = some c → c ≠ b) ∧ ∀ p ∈ X.pn ++ pins, p.1 ≠ b) : Inv X pins σ H' s' := by
  obtain ⟨h', g', d', t', o'⟩ := s'
  have e : o' = s.os := ho
  subst e
  exact I.call (g' := g') (t' := t') (d' := d') u hok hg hch
end

/-! ### the judgements -/
/-- an exception: its class, its own dict's address (where it has one), the abstract heap behind it -/
abbrev XK := Value → Option Addr → Hp → Prop
abbrev St := List (Option V)
abbrev VK := V → Hp → Prop
/-- an expression's reading; a test's; an argument list's -/
abbrev TE := St → Hp → VK → Prop
abbrev TT := St → Hp → (Bool → Hp → Prop) → Prop
abbrev TA := St → Hp → (List V → Hp → Prop) → Prop
/-- what is wanted behind a statement -/
structure Ends where
  nx : St → Hp → Prop
  rt : VK
  bk : St → Hp → Prop := fun _ _ => False
  ct : St → Hp → Prop := fun _ _ => False
abbrev TS := Ends → St → Hp → Prop

def EP (X : Cx) (pins : List (Addr × Obj)) (σ : St) (Q : VK) (u : Value) (s' : Shared) : Prop := ∃ v H', Inv X pins σ H' s' ∧ RelV v u ∧ Q v H'
def TP (X : Cx) (pins : List (Addr × Obj)) (σ : St) (Q : Bool → Hp → Prop) (b : Bool) (s' : Shared) : Prop := ∃ H', Inv X pins σ H' s' ∧ Q b H'
def AP (X : Cx) (pins : List (Addr × Obj)) (σ : St) (Q : List V → Hp → Prop) (us : List Value) (s' : Shared) : Prop := ∃ vs H', Inv X pins σ H' s' ∧ Vals vs us ∧ Q vs H'
def SP (X : Cx) (pins : List (Addr × Obj)) (D : Ends) (f : Flow) (s' : Shared) : Prop :=
  match f with
  | .next => ∃ σ' H', Inv X pins σ' H' s' ∧ D.nx σ' H'
  | .brk => ∃ σ' H', Inv X pins σ' H' s' ∧ D.bk σ' H'
  | .cont => ∃ σ' H', Inv X pins σ' H' s' ∧ D.ct σ' H'
  | .ret u => ∃ v σ' H', Inv X pins σ' H' s' ∧ RelV v u ∧ D.rt v H'

def PE (X : Cx) (e : Expr) (t : TE) : Prop :=
  ∀ (pins : List (Addr × Obj)) (s : Shared) (σ : St) (H : Hp) (Q : VK), Inv X pins σ H s → t σ H Q → wpAny (model X.prog X.w) X.A (eval e X.env) (EP X pins σ Q) X.xe s
def PT (X : Cx) (e : Expr) (t : TT) : Prop :=
  ∀ (pins : List (Addr × Obj)) (s : Shared) (σ : St) (H : Hp) (Q : Bool → Hp → Prop), Inv X pins σ H s → t σ H Q → wpAny (model X.prog X.w) X.A (isTrue e X.env (eval e X.env)) (TP X pins σ Q) X.xe s
/-- a test whatever its 'whole' is (and, or) -/
def PW (X : Cx) (e : Expr) (t : TT) : Prop :=
  ∀ (whole : Sem Value) (pins : List (Addr × Obj)) (s : Shared) (σ : St) (H : Hp) (Q : Bool → Hp → Prop), Inv X pins σ H s → t σ H Q → wpAny (model X.prog X.w) X.A (isTrue e X.env whole) (TP X pins σ Q) X.xe s
theorem PW.pt {X : Cx} {e : Expr} {t : TT} (h : PW X e t) : PT X e t := h _
/-- an argument list (no star), from the left -/
def PA (X : Cx) (es : List Expr) (t : TA) : Prop :=
  ∀ (pos : Pos) (pins : List (Addr × Obj)) (s : Shared) (σ : St) (H : Hp) (Q : List V → Hp → Prop), Inv X pins σ H s → t σ H Q → wpAny (model X.prog X.w) X.A (spliced (backTo pos (starEach es X.env))) (AP X pins σ Q) X.xe s
def PS (X : Cx) (st : Stmt) (t : TS) : Prop :=
  ∀ (pins : List (Addr × Obj)) (s : Shared) (σ : St) (H : Hp) (D : Ends), Inv X pins σ H s → t D σ H → wpAny (model X.prog X.w) X.A (exec st X.env) (SP X pins D) X.xe s
def PSs (X : Cx) (st : List Stmt) (t : TS) : Prop :=
  ∀ (pins : List (Addr × Obj)) (s : Shared) (σ : St) (H : Hp) (D : Ends), Inv X pins σ H s → t D σ H → wpAny (model X.prog X.w) X.A (execs st X.env) (SP X pins D) X.xe s
/-- weaken the end -/
theorem thn {α : Type} {t : Sem α} {Q Q' : α → Shared → Prop} {M : Model} {A : Around} {E : Value → Shared → Prop} {s : Shared} (h : wpAny M A t Q E s) (hQ : ∀ a s, Q a s → Q' a s) : wpAny M A t Q' E s := wpAny_mono h hQ fun _ _ x => x
end L2

namespace L2
open PySem PySem.Spec PyProof.Rows
section
variable {X : Cx}

/-- two expressions in a row -/
theorem bin {a b : Expr} {ta tb : TE} (ha : PE X a ta) (hb : PE X b tb) {pins : List (Addr × Obj)} {s : Shared} {σ : St} {H : Hp} {R : V → V → Hp → Prop} (I : Inv X pins σ H s) (h : ta σ H fun x H1 => tb σ H1 fun y H2 => R x y H2)
    {α : Type} {Q : α → Shared → Prop} {f : Value → Value → Sem α}
    (hf : ∀ v u s2 x y H2, Inv X pins σ H2 s2 → RelV x v → RelV y u → R x y H2 → wpAny (model X.prog X.w) X.A (f v u) Q X.xe s2) :
    wpAny (model X.prog X.w) X.A (eval a X.env) (fun v s₁ => wpAny (model X.prog X.w) X.A (eval b X.env) (fun u s₂ => wpAny (model X.prog X.w) X.A (f v u) Q X.xe s₂) X.xe s₁) X.xe s := by
  refine thn (ha pins s σ H _ I h) fun v s1 ⟨x, H1, I1, r1, q1⟩ => ?_
  refine thn (hb pins s1 σ H1 _ I1 q1) fun u s2 ⟨y, H2, I2, r2, q2⟩ => ?_
  exact hf v u s2 x y H2 I2 r1 r2 q2

/-! ### names and constants -/
def tVar (i : Nat) : TE := fun σ H Q => ∃ v, σ[i]? = some (some v) ∧ Q v H
def tC (v : V) : TE := fun _ H Q => Q v H
theorem pe_var {i : Nat} {x : Str} {pos : Pos} (hN : X.N[i]? = some x) (hv : Vis X.env.scope x) (hd : (x == ("__debug__" : Str)) = false := by decide) (hcd : (x == ("__classdict__" : Str)) = false := by decide) : PE X (.Name x pos) (tVar i) := by
  intro pins s σ H Q I h
  obtain ⟨v, e, h⟩ := h
  obtain ⟨m, hn, hl⟩ := I.loc
  obtain ⟨u, r, l⟩ := hl i x v hN e hv
  have fin : EP X pins σ Q u s := ⟨v, H, I, r, h⟩
  rcases l with ⟨hk, hm⟩ | ⟨hk, c, hc, hcell⟩
  · exact wpAny_Name (wpAny_loadName_local I.ok.kind hk hn hm fin) hd
  · rcases hk with hk | hk
    · exact wpAny_Name (wpAny_loadName_cell I.ok.kind hk hc hcell fin) hd
    · exact wpAny_Name (wpAny_loadName_free I.ok.kind hk hc hcell fin hcd) hd
theorem pe_int {i j pos} : PE X (.Constant (.int i) j pos) (tC (.int i)) := fun _ _ _ H _ I h => wpAny_Constant_int ⟨.int i, H, I.tok _, ⟨_, rfl⟩, h⟩
theorem pe_bl {b j pos} : PE X (.Constant (.bool b) j pos) (tC (.bl b)) := fun _ _ _ H _ I h => Constant_bool ⟨.bl b, H, I, rfl, h⟩
theorem pe_non {j pos} : PE X (.Constant .none j pos) (tC .non) := fun _ _ _ H _ I h => Constant_none ⟨.non, H, I, rfl, h⟩
theorem pe_str {x j pos} : PE X (.Constant (.str x) j pos) (tC (.str x)) := fun _ _ _ H _ I h => Calls.Constant_str ⟨.str x, H, I.tok _, ⟨_, rfl⟩, h⟩

/-- a global name of the def -/
def Gl (X : Cx) (x : Str) : Prop := X.env.kindOf x = some .globalImplicit
theorem ld_glob {E : Value → Shared → Prop} {pins : List (Addr × Obj)} {s : Shared} {σ : St} {H : Hp} {x : Str} {u : Value} {pos : Pos} {Q : Value → Shared → Prop} (I : Inv X pins σ H s) (hg : Gl X x) (hm : X.mg x = some u) (h : Q u s)
    (hd : (x == ("__debug__" : Str)) = false := by decide) : wpAny (model X.prog X.w) X.A (eval (.Name x pos) X.env) Q E s :=
  Calls.Name_function_global I.ok.kind hg (Calls.loadGlobal_global (by rw [I.ok.glob]; exact I.mod.glob.keeps I.bk) hm h) hd
theorem ld_blt {E : Value → Shared → Prop} {pins : List (Addr × Obj)} {s : Shared} {σ : St} {H : Hp} {x : Str} {u : Value} {pos : Pos} {Q : Value → Shared → Prop} (I : Inv X pins σ H s) (hg : Gl X x) (hm : X.mg x = none) (hv : bootBuiltins x = some u) (h : Q u s)
    (hn : x ≠ "__name__" := by decide) (hd : (x == ("__debug__" : Str)) = false := by decide) : wpAny (model X.prog X.w) X.A (eval (.Name x pos) X.env) Q E s := by
  obtain ⟨mb, h1, h2⟩ := I.mod.blt
  exact Calls.Name_function_global I.ok.kind hg (Calls.loadGlobal_builtin (by rw [I.ok.glob]; exact I.mod.glob.keeps I.bk) hm (by rw [I.ok.blt]; exact h1.keeps I.bk) ((h2 x hn).trans hv) h) hd
/-- a module's constant, a class, a function, as a value -/
theorem pe_glob {x : Str} {v : V} {u : Value} {pos : Pos} (hg : Gl X x) (hm : X.mg x = some u) (r : RelV v u) (hd : (x == ("__debug__" : Str)) = false := by decide) : PE X (.Name x pos) (tC v) :=
  fun _ _ _ H _ I h => ld_glob I hg hm ⟨v, H, I, r, h⟩ hd
theorem pe_bltn {x : Str} {v : V} {u : Value} {pos : Pos} (hg : Gl X x) (hm : X.mg x = none) (hv : bootBuiltins x = some u) (r : RelV v u) (hn : x ≠ "__name__" := by decide) (hd : (x == ("__debug__" : Str)) = false := by decide) : PE X (.Name x pos) (tC v) :=
  fun _ _ _ H _ I h => ld_blt I hg hm hv ⟨v, H, I, r, h⟩ hn hd

/-! ### arithmetic -/
/-- two ints -/
def t2I (ta tb : TE) (k : Int → Int → Hp → Prop) : St → Hp → Prop := fun σ H => ta σ H fun x H1 => tb σ H1 fun y H2 => ∃ i j, x = .int i ∧ y = .int j ∧ k i j H2
def tAdd (ta tb : TE) : TE := fun σ H Q => t2I ta tb (fun i j H2 => Q (.int (i + j)) H2) σ H
def tSub (ta tb : TE) : TE := fun σ H Q => t2I ta tb (fun i j H2 => Q (.int (i - j)) H2) σ H
/-- the left factor below 2^64 -/
def tMul (ta tb : TE) : TE := fun σ H Q => t2I ta tb (fun i j H2 => (-(2 ^ 64) < i ∧ i < 2 ^ 64) ∧ Q (.int (i * j)) H2) σ H
variable {a b : Expr} {ta tb : TE} {pos : Pos}
theorem pe_add (ha : PE X a ta) (hb : PE X b tb) : PE X (.BinOp a .Add b pos) (tAdd ta tb) := by
  intro pins s σ H Q I h
  refine wpAny_BinOp (bin ha hb I h fun v u s2 x y H2 I2 rx ry q => ?_)
  obtain ⟨i, j, rfl, rfl, q⟩ := q
  obtain ⟨t, rfl⟩ := rx
  obtain ⟨t', rfl⟩ := ry
  exact add_int ⟨.int _, H2, I2.tok _, ⟨_, rfl⟩, q⟩
theorem pe_sub (ha : PE X a ta) (hb : PE X b tb) : PE X (.BinOp a .Sub b pos) (tSub ta tb) := by
  intro pins s σ H Q I h
  refine wpAny_BinOp (bin ha hb I h fun v u s2 x y H2 I2 rx ry q => ?_)
  obtain ⟨i, j, rfl, rfl, q⟩ := q
  obtain ⟨t, rfl⟩ := rx
  obtain ⟨t', rfl⟩ := ry
  exact sub_int ⟨.int _, H2, I2.tok _, ⟨_, rfl⟩, q⟩
theorem pe_mul (ha : PE X a ta) (hb : PE X b tb) : PE X (.BinOp a .Mult b pos) (tMul ta tb) := by
  intro pins s σ H Q I h
  refine wpAny_BinOp (bin ha hb I h fun v u s2 x y H2 I2 rx ry q => ?_)
  obtain ⟨i, j, rfl, rfl, ⟨q1, q2⟩, q⟩ := q
  obtain ⟨t, rfl⟩ := rx
  obtain ⟨t', rfl⟩ := ry
  exact mul_int ⟨.int _, H2, I2.tok _, ⟨_, rfl⟩, q⟩ (.of_left (intBits_le_64 q1 q2))

/-! ### comparisons -/
def PC (X : Cx) (op : CmpOp) (a b : Expr) (t : TE) : Prop :=
  ∀ (pins : List (Addr × Obj)) (s : Shared) (σ : St) (H : Hp) (Q : VK), Inv X pins σ H s → t σ H Q →
    wpAny (model X.prog X.w) X.A (eval a X.env) (fun v s₁ => wpAny (model X.prog X.w) X.A (eval b X.env) (fun u s₂ => wpAny (model X.prog X.w) X.A (compareOp op v u) (EP X pins σ Q) X.xe s₂) X.xe s₁) X.xe s
theorem nobehind (b : Expr) {op : CmpOp} (h : op ≠ .In) (h2 : op ≠ .NotIn) : behindInMarks op b = false := by
  have e1 : (op == CmpOp.In) = false := by cases op <;> first | rfl | exact absurd rfl h
  have e2 : (op == CmpOp.NotIn) = false := by cases op <;> first | rfl | exact absurd rfl h2
  cases b <;> simp [behindInMarks, e1, e2]
def tCmp (p : Int → Int → Bool) (ta tb : TE) : TE := fun σ H Q => t2I ta tb (fun i j H2 => Q (.bl (p i j)) H2) σ H
abbrev tLt : TE → TE → TE := tCmp fun i j => decide (i < j)
abbrev tLe : TE → TE → TE := tCmp fun i j => decide (i ≤ j)
abbrev tGt : TE → TE → TE := tCmp fun i j => decide (j < i)
abbrev tGe : TE → TE → TE := tCmp fun i j => decide (j ≤ i)
abbrev tEqI : TE → TE → TE := tCmp fun i j => decide (i = j)
abbrev tNeI : TE → TE → TE := tCmp fun i j => !decide (i = j)
/-- a comparison of two ints, by its rule -/
theorem pc_int {op : CmpOp} {p : Int → Int → Bool} (ha : PE X a ta) (hb : PE X b tb)
    (rule : ∀ (i j : Int) (t u : Tok) (Q : Value → Shared → Prop) (s : Shared), Q (.bool (p i j)) s → wpAny (model X.prog X.w) X.A (compareOp op (.int i t) (.int j u)) Q X.xe s) : PC X op a b (tCmp p ta tb) := by
  intro pins s σ H Q I h
  refine bin ha hb I h fun v u s2 x y H2 I2 rx ry q => ?_
  obtain ⟨i, j, rfl, rfl, q⟩ := q
  obtain ⟨t, rfl⟩ := rx
  obtain ⟨t', rfl⟩ := ry
  exact rule i j t t' _ s2 ⟨.bl _, H2, I2, rfl, q⟩
theorem pc_lt (ha : PE X a ta) (hb : PE X b tb) : PC X .Lt a b (tLt ta tb) := pc_int ha hb fun _ _ _ _ _ _ h => lt_int h
theorem pc_le (ha : PE X a ta) (hb : PE X b tb) : PC X .LtE a b (tLe ta tb) := pc_int ha hb fun _ _ _ _ _ _ h => le_int h
theorem pc_gt (ha : PE X a ta) (hb : PE X b tb) : PC X .Gt a b (tGt ta tb) := pc_int ha hb fun _ _ _ _ _ _ h => gt_int h
theorem pc_ge (ha : PE X a ta) (hb : PE X b tb) : PC X .GtE a b (tGe ta tb) := pc_int ha hb fun _ _ _ _ _ _ h => ge_int h
theorem pc_eqI (ha : PE X a ta) (hb : PE X b tb) : PC X .Eq a b (tEqI ta tb) := pc_int ha hb fun _ _ _ _ _ _ h => eq_int (by rw [Bool.beq_eq_decide_eq]; exact h)
theorem pc_neI (ha : PE X a ta) (hb : PE X b tb) : PC X .NotEq a b (tNeI ta tb) := pc_int ha hb fun _ _ _ _ _ _ h => ne_int (by rw [bne, Bool.beq_eq_decide_eq]; exact h)
/-- is None -/
def tIsN (ta : TE) : TE := fun σ H Q => ta σ H fun x H1 => Q (.bl (decide (x = .non))) H1
def tNotN (ta : TE) : TE := fun σ H Q => ta σ H fun x H1 => Q (.bl (!decide (x = .non))) H1
theorem RelV.none_iff {x : V} {v : Value} (r : RelV x v) : (v == Value.none) = decide (x = .non) := by
  cases x with
  | non => cases r; rfl
  | bl _ => cases r; rfl
  | int _ => obtain ⟨t, rfl⟩ := r; rfl
  | str _ => obtain ⟨t, rfl⟩ := r; rfl
  | byt _ => obtain ⟨t, rfl⟩ := r; rfl
  | flt _ => obtain ⟨t, rfl⟩ := r; rfl
  | ref _ => cases r; rfl
  | ty _ => cases r; rfl
theorem pc_isN {j pos'} (ha : PE X a ta) : PC X .Is a (.Constant .none j pos') (tIsN ta) := by
  intro pins s σ H Q I h
  refine thn (ha pins s σ H _ I h) fun v s1 ⟨x, H1, I1, r1, q1⟩ => ?_
  exact Constant_none (is_none_gen ⟨.bl _, H1, I1, by rw [r1.none_iff]; rfl, q1⟩)
theorem pc_notN {j pos'} (ha : PE X a ta) : PC X .IsNot a (.Constant .none j pos') (tNotN ta) := by
  intro pins s σ H Q I h
  refine thn (ha pins s σ H _ I h) fun v s1 ⟨x, H1, I1, r1, q1⟩ => ?_
  exact Constant_none (isnot_none_gen ⟨.bl _, H1, I1, by rw [r1.none_iff]; rfl, q1⟩)
/-- a comparison as a value, as a test -/
def tB (t : TE) : TT := fun σ H Q => t σ H fun x H1 => ∃ c, x = .bl c ∧ Q c H1
theorem pe_cmp {op : CmpOp} {t : TE} (h : PC X op a b t) (h1 : behindInMarks op b = false := by first | exact nobehind _ (by decide) (by decide) | rfl) : PE X (.Compare a [op] [b] pos) t := fun pins s σ H Q I hw => wpAny_Compare1 (h pins s σ H Q I hw) h1
theorem pt_cmp {op : CmpOp} {t : TE} (h : PC X op a b t) (h1 : behindInMarks op b = false := by first | exact nobehind _ (by decide) (by decide) | rfl) : PT X (.Compare a [op] [b] pos) (tB t) := by
  intro pins s σ H Q I hw
  refine wpAny_isTrue_Compare1 (thn (h pins s σ H _ I hw) fun v s1 h1 => thn h1 fun u s2 h2 => thn h2 fun c s3 ⟨x, H1, I1, r1, q1⟩ => ?_) h1
  obtain ⟨d, rfl, q⟩ := q1
  cases r1
  exact wpAny_truthy_bool ⟨H1, I1, q⟩
/-- an expression whose value is a bool, as a test -/
theorem pt_val {e : Expr} {t : TE} (h : PE X e t) (he : ∀ whole, isTrue e X.env whole = (do let v ← whole; standAt e.pos; holding [v] (truthy v)) := by intro _; rfl) : PT X e (tB t) := by
  intro pins s σ H Q I hw
  refine isTrue_plain (thn (h pins s σ H _ I hw) fun v s1 ⟨x, H1, I1, r1, q1⟩ => ?_) (he _)
  obtain ⟨d, rfl, q⟩ := q1
  cases r1
  exact wpAny_truthy_bool ⟨H1, I1, q⟩

/-! ### and, or, not -/
variable {tA tB' : TT} {rest : List Expr}
def tAnd (t u : TT) : TT := fun σ H Q => t σ H fun c H1 => if c = true then u σ H1 Q else Q false H1
def tOr (t u : TT) : TT := fun σ H Q => t σ H fun c H1 => if c = true then Q true H1 else u σ H1 Q
def tNot (t : TT) : TT := fun σ H Q => t σ H fun c H1 => Q (!c) H1
theorem pw_and1 (ha : PT X a tA) : PW X (.BoolOp .And [a] pos) tA := by
  intro wh pins s σ H Q I h
  refine isTrue_and (thn (ha pins s σ H Q I h) fun c s1 e => ?_)
  cases c with
  | true => exact isTrue_and_nil e
  | false => exact e
theorem pw_or1 (ha : PT X a tA) : PW X (.BoolOp .Or [a] pos) tA := by
  intro wh pins s σ H Q I h
  refine isTrue_or (thn (ha pins s σ H Q I h) fun c s1 e => ?_)
  cases c with
  | false => exact isTrue_or_nil e
  | true => exact e
theorem pw_and (ha : PT X a tA) (hb : PW X (.BoolOp .And (b :: rest) pos) tB') : PW X (.BoolOp .And (a :: b :: rest) pos) (tAnd tA tB') := by
  intro wh pins s σ H Q I h
  refine isTrue_and (thn (ha pins s σ H _ I h) fun c s1 ⟨H1, I1, q1⟩ => ?_)
  cases c with
  | true => exact hb wh pins s1 σ H1 Q I1 q1
  | false => exact ⟨H1, I1, q1⟩
theorem pw_or (ha : PT X a tA) (hb : PW X (.BoolOp .Or (b :: rest) pos) tB') : PW X (.BoolOp .Or (a :: b :: rest) pos) (tOr tA tB') := by
  intro wh pins s σ H Q I h
  refine isTrue_or (thn (ha pins s σ H _ I h) fun c s1 ⟨H1, I1, q1⟩ => ?_)
  cases c with
  | true => exact ⟨H1, I1, q1⟩
  | false => exact hb wh pins s1 σ H1 Q I1 q1
theorem pt_not (ha : PT X a tA) : PT X (.UnaryOp .Not a pos) (tNot tA) := by
  intro pins s σ H Q I h
  exact isTrue_not (ha pins s σ H (fun c H1 => Q (!c) H1) I h)
/-- .. as values (bools) -/
def tAndV (ta tb : TE) : TE := fun σ H Q => ta σ H fun x H1 => ∃ c, x = .bl c ∧ if c = true then tb σ H1 Q else Q (.bl false) H1
def tOrV (ta tb : TE) : TE := fun σ H Q => ta σ H fun x H1 => ∃ c, x = .bl c ∧ if c = true then Q (.bl true) H1 else tb σ H1 Q
def tNotV (ta : TE) : TE := fun σ H Q => ta σ H fun x H1 => ∃ c, x = .bl c ∧ Q (.bl (!c)) H1
theorem pe_one {op} {t : TE} (h : PE X a t) : PE X (.BoolOp op [a] pos) t := fun pins s σ H Q I hw => BoolOp_one (h pins s σ H Q I hw)
theorem pe_and (ha : PE X a ta) (hb : PE X (.BoolOp .And (b :: rest) pos) tb) : PE X (.BoolOp .And (a :: b :: rest) pos) (tAndV ta tb) := by
  intro pins s σ H Q I h
  refine BoolOp_and (thn (ha pins s σ H _ I h) fun v s1 ⟨x, H1, I1, r1, q1⟩ => ?_)
  obtain ⟨c, rfl, q1⟩ := q1
  cases r1
  refine wpAny_truthy_bool ?_
  cases c with
  | true => exact hb pins s1 σ H1 Q I1 q1
  | false => exact ⟨.bl false, H1, I1, rfl, q1⟩
theorem pe_or (ha : PE X a ta) (hb : PE X (.BoolOp .Or (b :: rest) pos) tb) : PE X (.BoolOp .Or (a :: b :: rest) pos) (tOrV ta tb) := by
  intro pins s σ H Q I h
  refine BoolOp_or (thn (ha pins s σ H _ I h) fun v s1 ⟨x, H1, I1, r1, q1⟩ => ?_)
  obtain ⟨c, rfl, q1⟩ := q1
  cases r1
  refine wpAny_truthy_bool ?_
  cases c with
  | false => exact hb pins s1 σ H1 Q I1 q1
  | true => exact ⟨.bl true, H1, I1, rfl, q1⟩
theorem pe_not (ha : PE X a ta) : PE X (.UnaryOp .Not a pos) (tNotV ta) := by
  intro pins s σ H Q I h
  refine UnaryOp_ (thn (ha pins s σ H _ I h) fun v s1 ⟨x, H1, I1, r1, q1⟩ => ?_)
  obtain ⟨c, rfl, q1⟩ := q1
  cases r1
  exact not_of (wpAny_truthy_bool ⟨.bl (!c), H1, I1, rfl, q1⟩)
/-- a if t else b -/
def tIf (t : TT) (ta tb : TE) : TE := fun σ H Q => t σ H fun c H1 => if c = true then ta σ H1 Q else tb σ H1 Q
theorem pe_ifExp {c : Expr} (hc : PT X c tA) (ha : PE X a ta) (hb : PE X b tb) : PE X (.IfExp c a b pos) (tIf tA ta tb) := by
  intro pins s σ H Q I h
  refine wpAny_IfExp (thn (hc pins s σ H _ I h) fun d s1 ⟨H1, I1, q1⟩ => ?_)
  cases d with
  | true => exact ha pins s1 σ H1 Q I1 q1
  | false => exact hb pins s1 σ H1 Q I1 q1
end
end L2

namespace L2
open PySem PySem.Spec PyProof.Rows

/-! ### a list, a tuple that is read: tracked, frozen, or an object of the module -/
def SqL (K : PySem.W.Frag) (H : Hp) (a : Addr) (xs : List V) : Prop :=
  Rd H a (.lst xs) ∨
    ∃ (o : Obj) (its : Array Value) (n : Nat), K.lookup a = some o ∧ o.cls = .type "list" ∧ o.dict = none ∧ o.data = .seq its n ∧ its.size ≤ sizeLine ∧ Vals xs its.toList
def SqT (K : PySem.W.Frag) (H : Hp) (a : Addr) (xs : List V) : Prop :=
  Rd H a (.tup xs) ∨
    ∃ (o : Obj) (its : Array Value) (n : Nat), K.lookup a = some o ∧ o.cls = .type "tuple" ∧ o.data = .seq its n ∧ its.size ≤ sizeLine ∧ Vals xs its.toList
def absV : Value → Option V
  | .none => some .non
  | .bool b => some (.bl b)
  | .int i _ => some (.int i)
  | .str x _ => some (.str x)
  | .bytes b _ => some (.byt b)
  | .float b _ => some (.flt b)
  | .ref a => some (.ref a)
  | .type n => some (.ty n)
  | _ => none
theorem RelV.abs {x : V} {u : Value} (r : RelV x u) : absV u = some x := by
  cases x with
  | non => cases r; rfl
  | bl _ => cases r; rfl
  | int _ => obtain ⟨t, rfl⟩ := r; rfl
  | str _ => obtain ⟨t, rfl⟩ := r; rfl
  | byt _ => obtain ⟨t, rfl⟩ := r; rfl
  | flt _ => obtain ⟨t, rfl⟩ := r; rfl
  | ref _ => cases r; rfl
  | ty _ => cases r; rfl
theorem RelV.inj {x y : V} {u : Value} (r : RelV x u) (q : RelV y u) : x = y := Option.some.inj (r.abs.symm.trans q.abs)
theorem Vals.inj : ∀ {xs ys : List V} {us : List Value}, Vals xs us → Vals ys us → xs = ys
  | _, _, _, .nil, .nil => rfl
  | _, _, _, .cons r t, .cons r' t' => by rw [r.inj r', Vals.inj t t']
section
variable {X : Cx} {pins : List (Addr × Obj)} {σ : St} {H : Hp} {s : Shared} {a : Addr} {xs ys : List V}
theorem SqL.of {K : PySem.W.Frag} (h : H a = some (.lst xs)) : SqL K H a xs := .inl (.inl h)
theorem SqT.of {K : PySem.W.Frag} (h : H a = some (.tup xs)) : SqT K H a xs := .inl (.inl h)
theorem Inv.list (I : Inv X pins σ H s) (h : SqL X.K H a xs) : ∃ its : List Value, Vals xs its ∧ PlainL s.heap a its.toArray ∧ xs.length ≤ sizeLine := by
  rcases h with h | ⟨o, its, n, hk, hc, hd, hs, hz, r⟩
  · obtain ⟨z, its, n, r, e⟩ := h.ok I.hok
    exact ⟨its, r, ⟨_, n, e, rfl, rfl, rfl⟩, z⟩
  · refine ⟨its.toList, r, ⟨o, n, I.kIn a o hk, hc, hd, by simpa using hs⟩, ?_⟩
    have e := r.length
    simp only [Array.length_toList] at e
    omega
theorem Inv.tuple (I : Inv X pins σ H s) (h : SqT X.K H a xs) : ∃ its : List Value, Vals xs its ∧ IsTup s.heap a its.toArray ∧ xs.length ≤ sizeLine := by
  rcases h with h | ⟨o, its, n, hk, hc, hs, hz, r⟩
  · obtain ⟨z, its, r, p⟩ := h.ok I.hok
    exact ⟨its, r, p, z⟩
  · refine ⟨its.toList, r, ⟨o, I.kIn a o hk, hc, n, by simpa using hs⟩, ?_⟩
    have e := r.length
    simp only [Array.length_toList] at e
    omega
theorem Inv.list_inj (I : Inv X pins σ H s) (h : SqL X.K H a xs) (h' : SqL X.K H a ys) : xs = ys := by
  obtain ⟨its, r, ⟨o, n, e, _, _, d⟩, _⟩ := I.list h
  obtain ⟨its', r', ⟨o', n', e', _, _, d'⟩, _⟩ := I.list h'
  rw [e] at e'; cases e'
  rw [d] at d'
  injection d' with d1 _
  have : its = its' := by simpa using congrArg Array.toList d1
  subst this
  exact r.inj r'
theorem Inv.tuple_inj (I : Inv X pins σ H s) (h : SqT X.K H a xs) (h' : SqT X.K H a ys) : xs = ys := by
  obtain ⟨its, r, ⟨o, e, _, n, d⟩, _⟩ := I.tuple h
  obtain ⟨its', r', ⟨o', e', _, n', d'⟩, _⟩ := I.tuple h'
  rw [e] at e'; cases e'
  rw [d] at d'
  injection d' with d1 _
  have : its = its' := by simpa using congrArg Array.toList d1
  subst this
  exact r.inj r'
end

/-! ### another wish about exceptions -/
abbrev Cx.wish (X : Cx) (E : Value → Shared → Prop) : Cx := { X with xe := E }
/-- no exception leaves -/
abbrev Cx.nox (X : Cx) : Cx := X.wish fun _ _ => False
theorem Cx.Ok.wish {X : Cx} (ok : X.Ok) (E : Value → Shared → Prop) : (X.wish E).Ok :=
  ⟨ok.mod, ok.kind, ok.glob, ok.blt, ok.above, ok.inj, ok.has, ok.cab, ok.hd, ok.frames, ok.stk, ok.exf, ok.bs, ok.bsz, ok.noex, ok.exfs, ok.funs, ok.frf⟩
theorem Cx.Ok.unwish {X : Cx} {E : Value → Shared → Prop} (ok : (X.wish E).Ok) : X.Ok :=
  ⟨ok.mod, ok.kind, ok.glob, ok.blt, ok.above, ok.inj, ok.has, ok.cab, ok.hd, ok.frames, ok.stk, ok.exf, ok.bs, ok.bsz, ok.noex, ok.exfs, ok.funs, ok.frf⟩
section
variable {X : Cx} {pins : List (Addr × Obj)} {σ : St} {H : Hp} {s : Shared} {E : Value → Shared → Prop}
theorem Inv.wish (I : Inv X pins σ H s) (E : Value → Shared → Prop) : Inv (X.wish E) pins σ H s := ⟨I.ok.wish E, I.os, I.bare, I.base, I.loc, I.cell, I.free, I.freeC, I.pin, I.hok, I.len⟩
theorem Inv.unwish (I : Inv (X.wish E) pins σ H s) : Inv X pins σ H s := ⟨I.ok.unwish, I.os, I.bare, I.base, I.loc, I.cell, I.free, I.freeC, I.pin, I.hok, I.len⟩
theorem SP.unwish {D : Ends} {f : Flow} {s' : Shared} (h : SP (X.wish E) pins D f s') : SP X pins D f s' := by
  cases f with
  | next => obtain ⟨σ', H', I, q⟩ := h; exact ⟨σ', H', I.unwish, q⟩
  | brk => obtain ⟨σ', H', I, q⟩ := h; exact ⟨σ', H', I.unwish, q⟩
  | cont => obtain ⟨σ', H', I, q⟩ := h; exact ⟨σ', H', I.unwish, q⟩
  | ret u => obtain ⟨v, σ', H', I, r, q⟩ := h; exact ⟨v, σ', H', I.unwish, r, q⟩
theorem PE.nox {e : Expr} {t : TE} (h : PE X.nox e t) : PE X e t := fun pins s σ H Q I hw =>
  wpAny_mono (h pins s σ H Q (I.wish _) hw) (fun _ _ ⟨v, H', I', r, q⟩ => ⟨v, H', I'.unwish, r, q⟩) fun _ _ z => False.elim z
theorem PT.nox {e : Expr} {t : TT} (h : PT X.nox e t) : PT X e t := fun pins s σ H Q I hw =>
  wpAny_mono (h pins s σ H Q (I.wish _) hw) (fun _ _ ⟨H', I', q⟩ => ⟨H', I'.unwish, q⟩) fun _ _ z => False.elim z
theorem PSs.nox {st : List Stmt} {t : TS} (h : PSs X.nox st t) : PSs X st t := fun pins s σ H D I hw =>
  wpAny_mono (h pins s σ H D (I.wish _) hw) (fun _ _ q => q.unwish) fun _ _ z => False.elim z
end

/-! ### blocks and small statements -/
section
variable {X : Cx} {st : Stmt} {rest : List Stmt} {t u : TS} {e : Expr} {te : TE} {pos : Pos}
def tNext : TS := fun D σ H => D.nx σ H
def tSeq (t u : TS) : TS := fun D σ H => t { D with nx := u D } σ H
theorem pss_nil : PSs X [] tNext := fun _ _ σ H _ I h => wpAny_execs_nil ⟨σ, H, I, h⟩
theorem pss_cons (h1 : PS X st t) (h2 : PSs X rest u) : PSs X (st :: rest) (tSeq t u) := by
  intro pins s σ H D I h
  refine wpAny_execs_cons (thn (h1 pins s σ H { D with nx := u D } I h) fun f s1 q => ?_)
  cases f with
  | next =>
    obtain ⟨σ', H', I', q⟩ := q
    exact h2 pins s1 σ' H' D I' q
  | ret v => exact q
  | brk => exact q
  | cont => exact q
theorem pss_one (h1 : PS X st t) : PSs X [st] t := by
  intro pins s σ H D I h
  refine wpAny_execs_cons (thn (h1 pins s σ H D I h) fun f s1 q => ?_)
  cases f with
  | next => exact wpAny_execs_nil q
  | ret v => exact q
  | brk => exact q
  | cont => exact q
def tBreak : TS := fun D σ H => D.bk σ H
def tCont : TS := fun D σ H => D.ct σ H
theorem ps_pass : PS X (.Pass pos) tNext := fun _ _ σ H _ I h => wpAny_Pass ⟨σ, H, I, h⟩
theorem ps_break : PS X (.Break pos) tBreak := fun _ _ σ H _ I h => wpAny_Break ⟨σ, H, I, h⟩
theorem ps_continue : PS X (.Continue pos) tCont := fun _ _ σ H _ I h => wpAny_Continue ⟨σ, H, I, h⟩
/-- in a def's body nothing is shown -/
theorem Inv.quiet {pins : List (Addr × Obj)} {σ : St} {H : Hp} {s : Shared} (I : Inv X pins σ H s) : interactive X.env = false := by simp [interactive, I.ok.kind]
/-- a docstring -/
theorem ps_doc {x j pos pos'} : PS X (.Expr (.Constant (.str x) j pos) pos') tNext := fun _ s σ H _ I h => wpAny_Expr (Calls.Constant_str (show SP X _ _ .next { s with toks := s.toks + 1 } from ⟨σ, H, I.tok _, h⟩)) I.quiet
/-- an expression whose value is dropped -/
def tDrop (te : TE) : TS := fun D σ H => te σ H fun _ H1 => D.nx σ H1
theorem ps_expr (he : PE X e te) (hs : swapsWith e none pos.line X.env = pure false := by rfl) : PS X (.Expr e pos) (tDrop te) := by
  intro pins s σ H D I h
  exact wpAny_Expr_any (thn (he pins s σ H _ I h) fun v s1 ⟨x, H1, I1, r1, q1⟩ => ⟨σ, H1, I1, q1⟩) I.quiet hs
def tRet (te : TE) : TS := fun D σ H => te σ H D.rt
theorem ps_ret (he : PE X e te) : PS X (.Return (some e) pos) (tRet te) := by
  intro pins s σ H D I h
  exact wpAny_Return_some (thn (he pins s σ H _ I h) fun v s1 ⟨x, H1, I1, r1, q1⟩ => ⟨x, σ, H1, I1, r1, q1⟩)
def tRetN : TS := fun D _ H => D.rt .non H
theorem ps_retN : PS X (.Return none pos) tRetN := fun _ _ σ H _ I h => wpAny_Return_none ⟨.non, σ, H, I, rfl, h⟩
def tIfS (c : TT) (t u : TS) : TS := fun D σ H => c σ H fun b H1 => if b = true then t D σ H1 else u D σ H1
theorem ps_if {c : Expr} {a b : List Stmt} {tc : TT} (hc : PT X c tc) (ha : PSs X a t) (hb : PSs X b u) : PS X (.If c a b pos) (tIfS tc t u) := by
  intro pins s σ H D I h
  refine wpAny_If (thn (hc pins s σ H _ I h) fun d s1 ⟨H1, I1, q1⟩ => ?_)
  cases d with
  | true => exact ha pins s1 σ H1 D I1 q1
  | false => exact hb pins s1 σ H1 D I1 q1
/-- code that the proof never comes to -/
def tNever : TS := fun _ _ _ => False
theorem ps_never : PS X st tNever := fun _ _ _ _ _ _ h => h.elim
theorem pss_never {sts : List Stmt} : PSs X sts tNever := fun _ _ _ _ _ _ h => h.elim
end

/-! ### targets -/
abbrev TG := V → St → Hp → (St → Hp → Prop) → Prop
abbrev TGs := List V → St → Hp → (St → Hp → Prop) → Prop
def PG (X : Cx) (target : Expr) (t : TG) : Prop :=
  ∀ (pins : List (Addr × Obj)) (s : Shared) (σ : St) (H : Hp) (v : V) (u : Value) (Q : St → Hp → Prop), Inv X pins σ H s → RelV v u → t v σ H Q →
    wpAny (model X.prog X.w) X.A (assign target X.env u) (fun _ s' => ∃ σ' H', Inv X pins σ' H' s' ∧ Q σ' H') X.xe s
/-- several targets, one after another -/
def PGs (X : Cx) (ts : List Expr) (t : TGs) : Prop :=
  ∀ (pins : List (Addr × Obj)) (s : Shared) (σ : St) (H : Hp) (vs : List V) (us : List Value) (Q : St → Hp → Prop), Inv X pins σ H s → Vals vs us → t vs σ H Q →
    wpAny (model X.prog X.w) X.A (assignInOrder ((assignEach ts X.env).map (·.2)) us) (fun _ s' => ∃ σ' H', Inv X pins σ' H' s' ∧ Q σ' H') X.xe s
/-- o[i] = v, by values -/
abbrev TSet := V → V → V → Hp → (Hp → Prop) → Prop
def PSet (X : Cx) (t : TSet) : Prop :=
  ∀ (pins : List (Addr × Obj)) (s : Shared) (σ : St) (H : Hp) (o i v : V) (ov iv u : Value) (Q : Hp → Prop), Inv X pins σ H s → RelV o ov → RelV i iv → RelV v u → t o i v H Q →
    wpAny (model X.prog X.w) X.A (setItem ov iv u) (fun _ s' => ∃ H', Inv X pins σ H' s' ∧ Q H') X.xe s
/-- a op= b, by values -/
abbrev TIp := V → V → Hp → VK → Prop
def PIp (X : Cx) (op : Operator) (t : TIp) : Prop :=
  ∀ (pins : List (Addr × Obj)) (s : Shared) (σ : St) (H : Hp) (x y : V) (v u : Value) (Q : VK), Inv X pins σ H s → RelV x v → RelV y u → t x y H Q →
    wpAny (model X.prog X.w) X.A (inplaceOp op v u) (EP X pins σ Q) X.xe s
section
variable {X : Cx} {pos : Pos}
def gName (i : Nat) : TG := fun v σ H Q => Q (σ.set i (some v)) H
theorem pg_name {i : Nat} {x : Str} (hN : X.N.Nodup) (hi : X.N[i]? = some x) (hx : Loc X.env.scope x) (hf : X.fn x = true ∨ X.env.scope.names.lookup x = some .local := by first | exact .inl rfl | exact .inr rfl | assumption) : PG X (.Name x pos) (gName i) := by
  intro pins s σ H v u Q I r h
  exact wpAny_assign_Name (store_ok I hN hi hx r (fun s' I' => ⟨_, H, I', h⟩) hf)
def gNil : TGs := fun vs σ H Q => vs = [] ∧ Q σ H
def gCons (t : TG) (u : TGs) : TGs := fun vs σ H Q => ∃ v r, vs = v :: r ∧ t v σ H fun σ' H' => u r σ' H' Q
theorem pgs_nil : PGs X [] gNil := by
  intro pins s σ H vs us Q I r h
  obtain ⟨e, h⟩ := h
  subst e
  cases r
  exact assignInOrder_nil ⟨σ, H, I, h⟩
theorem pgs_cons {e : Expr} {es : List Expr} {t : TG} {u : TGs} (h1 : PG X e t) (h2 : PGs X es u)
    (hs : (assignEach (e :: es) X.env).map (·.2) = assign e X.env :: (assignEach es X.env).map (·.2) := by rfl) : PGs X (e :: es) (gCons t u) := by
  intro pins s σ H vs us Q I r h
  obtain ⟨v, vr, e1, h⟩ := h
  subst e1
  cases r with
  | cons r rr =>
    rw [hs]
    refine assignInOrder_cons (thn (h1 pins s σ H _ _ _ I r h) fun _ s1 ⟨σ1, H1, I1, q1⟩ => ?_)
    exact h2 pins s1 σ1 H1 _ _ Q I1 rr q1
/-- (a, b, ..) = a tuple of that length -/
def gTup (K : PySem.W.Frag) (n : Nat) (t : TGs) : TG := fun v σ H Q => ∃ a xs, v = .ref a ∧ SqT K H a xs ∧ xs.length = n ∧ t xs σ H Q
theorem pg_tup {es : List Expr} {k : Nat} {t : TGs} {n : Nat} (hc : X.calm = true) (h : PGs X es t)
    (hn : (assignEach es X.env).length = n := by rfl) (hst : (assignEach es X.env).findIdx? (·.1) = none := by rfl) : PG X (.Tuple es k pos) (gTup X.K n t) := by
  intro pins s σ H v u Q I r hw
  obtain ⟨a, xs, e1, hq, hl, hw⟩ := hw
  subst e1
  cases r
  obtain ⟨its, rv, ht, hz⟩ := I.tuple hq
  refine assign_Tuple_tuple (I.ok.hd hc) ht (by simp [hn, ← hl, rv.length]) hst fun h' hx => ?_
  have I1 : Inv X pins σ H { s with heap := h' } := I.kept (t' := s.toks) fun b o e => hx b o (Nat.ne_of_lt (Heap.lt_size e)) e
  exact h pins _ σ H xs _ Q I1 (by simpa using rv) hw
/-- o[i] = .. -/
def gSub (to ti : TE) (t : TSet) : TG := fun v σ H Q => to σ H fun o H1 => ti σ H1 fun i H2 => t o i v H2 fun H3 => Q σ H3
theorem pg_sub {o i : Expr} {to ti : TE} {t : TSet} (ho : PE X o to) (hi : PE X i ti) (hs : PSet X t)
    (ha : ∀ v, assign (.Subscript o i pos) X.env v = (do
      let ov ← holding [v] (eval o X.env)
      let iv ← holding [v, ov] (eval i X.env)
      standAt pos
      holding [v, ov, iv] (setItem ov iv v)
      release [v, ov, iv] []) := by intro _; rfl) : PG X (.Subscript o i pos) (gSub to ti t) := by
  intro pins s σ H v u Q I r h
  rw [ha]
  refine wpAny_bind (wpAny_holding (thn (ho pins s σ H _ I h) fun ov s1 ⟨x, H1, I1, r1, q1⟩ => ?_))
  refine wpAny_bind (wpAny_holding (thn (hi pins s1 σ H1 _ I1 q1) fun iv s2 ⟨y, H2, I2, r2, q2⟩ => ?_))
  refine wpAny_bind (wpAny_standAt (wpAny_bind (wpAny_holding (thn (hs pins s2 σ H2 x y v ov iv u _ I2 r1 r2 r q2) fun _ s3 ⟨H3, I3, q3⟩ => ?_))))
  exact wpAny_release ⟨σ, H3, I3, q3⟩
/-- target = value -/
def tAsg (te : TE) (g : TG) : TS := fun D σ H => te σ H fun x H1 => g x σ H1 D.nx
theorem ps_asg {tg e : Expr} {te : TE} {g : TG} (he : PE X e te) (hg : PG X tg g) (hs : swapsWithSole [tg] e pos.line X.env = pure false := by rfl) (hw : swappedStores [tg] e X.env = pure none := by rfl)
    (h1 : (assignEach [tg] X.env).map (·.2) = [assign tg X.env] := by rfl) : PS X (.Assign [tg] e pos) (tAsg te g) := by
  intro pins s σ H D I h
  refine wpAny_Assign_stores (thn (he pins s σ H _ I h) fun v s1 ⟨x, H1, I1, r1, q1⟩ => ?_) hs hw
  rw [h1]
  exact thn (hg pins s1 σ H1 x v _ I1 r1 q1) fun _ s2 q => q
/-- name = value -/
theorem ps_set {i : Nat} {x : Str} {e : Expr} {te : TE} {pos' : Pos} (hN : X.N.Nodup) (hi : X.N[i]? = some x) (hx : Loc X.env.scope x) (he : PE X e te) (hs : swapsWith e (some (.Name x pos')) pos.line X.env = pure false := by rfl) (hf : X.fn x = true ∨ X.env.scope.names.lookup x = some .local := by first | exact .inl rfl | exact .inr rfl | assumption) :
    PS X (.Assign [.Name x pos'] e pos) (tAsg te (gName i)) := by
  intro pins s σ H D I h
  refine wpAny_Assign_Name (thn (he pins s σ H _ I h) fun v s1 ⟨y, H1, I1, r1, q1⟩ => ?_) hs
  exact store_ok I1 hN hi hx r1 (fun s2 I2 => ⟨_, H1, I2, q1⟩) hf
/-- a, b = x, y with plain local names: stored from the right; the pair itself is not tracked (the opening rows as in PyProof/Rows/TupAssign.lean:23) -/
def tPar (i j : Nat) (ta : TA) : TS := fun D σ H => ta σ H fun vs H1 => ∃ v w, vs = [v, w] ∧ D.nx ((σ.set i (some v)).set j (some w)) H1
theorem ps_par {i j : Nat} {x y : Str} {a b : Expr} {ta : TA} {px py pt : Pos} {kt k2 pt2} (hc : X.calm = true) (hN : X.N.Nodup) (hi : X.N[i]? = some x) (hj : X.N[j]? = some y) (hij : i ≠ j)
    (hx : X.env.scope.names.lookup x = some .local) (hy : X.env.scope.names.lookup y = some .local) (ha : PA X [a, b] ta)
    (hw : swappedStores [.Tuple [.Name x px, .Name y py] kt pt] (.Tuple [a, b] k2 pt2) X.env = pure (some [x, y]))
    (hs : swapsWithSole [.Tuple [.Name x px, .Name y py] kt pt] (.Tuple [a, b] k2 pt2) pos.line X.env = pure false := by rfl) :
    PS X (.Assign [.Tuple [.Name x px, .Name y py] kt pt] (.Tuple [a, b] k2 pt2) pos) (tPar i j ta) := by
  intro pins s σ H D I h
  rw [exec_Assign_arm]
  refine wpAny_bind (wpAny_standAt ?_)
  rw [hs]
  refine wpAny_bind (wpAny_pure ?_)
  rw [if_neg (by decide)]
  refine wpAny_bind (Tuple_ (thn (ha _ pins s σ H _ I h) fun us s1 ⟨vs, H1, I1, r1, q1⟩ => ?_))
  obtain ⟨v, w, e1, q1⟩ := q1
  subst e1
  obtain ⟨u1, u2, rfl, rv, rw'⟩ : ∃ u1 u2, us = [u1, u2] ∧ RelV v u1 ∧ RelV w u2 := by
    cases r1 with
    | cons p q =>
      cases q with
      | cons p' q' =>
        cases q'
        exact ⟨_, _, rfl, p, p'⟩
  refine wpAny_newObj_type ?_ (by show 2 ≤ sizeLine; decide)
  have I2 : Inv X pins σ H1 { s1 with heap := s1.heap.push { cls := .type "tuple", data := .seq [u1, u2].toArray } } := I1.kept (t' := s1.toks) fun b o e => Heap.get?_push_of_some _ e
  rw [hw]
  refine wpAny_bind (wpAny_pure ?_)
  show wpAny (model X.prog X.w) X.A (do rule "assign.swapped-stores"; let items ← unpackItems (.ref s1.heap.objs.size) 2 none; assignInOrder [fun v => bindName X.env y v, fun v => bindName X.env x v] items.reverse; pure Flow.next) _ _ _
  refine wpAny_bind (wpAny_rule (wpAny_bind (unpackItems_tuple (items := #[u1, u2]) (I.ok.hd hc) (IsTup.new s1.heap _) fun h' hx' => ?_)))
  have I3 := I2.kept (h' := h') (t' := s1.toks) fun b o e => hx' b o (Nat.ne_of_lt (Heap.lt_size e)) e
  show wpAny _ _ (assignInOrder [fun v => bindName X.env y v, fun v => bindName X.env x v] [u2, u1] >>= fun _ => pure Flow.next) _ _ _
  refine wpAny_bind (assignInOrder_cons (wpAny_bindName (store_ok I3 hN hj (.inl hy) rw' (fun s2 I4 => ?_) (.inr hy))))
  refine assignInOrder_cons (wpAny_bindName (store_ok I4 hN hi (.inl hx) rv (fun s3 I5 => assignInOrder_nil (wpAny_pure ?_)) (.inr hx)))
  rw [List.set_comm _ _ (Ne.symm hij)] at I5
  exact ⟨_, H1, I5, q1⟩
/-- name op= e -/
def tAug (i : Nat) (te : TE) (ti : TIp) : TS := fun D σ H => ∃ x, σ[i]? = some (some x) ∧ te σ H fun y H1 => ti x y H1 fun z H2 => D.nx (σ.set i (some z)) H2
theorem ps_aug {i : Nat} {x : Str} {e : Expr} {te : TE} {op : Operator} {ti : TIp} {pos' : Pos} (hN : X.N.Nodup) (hi : X.N[i]? = some x) (hx : Loc X.env.scope x) (he : PE X e te) (ho : PIp X op ti) (hf : X.fn x = true ∨ X.env.scope.names.lookup x = some .local := by first | exact .inl rfl | exact .inr rfl | assumption) :
    PS X (.AugAssign (.Name x pos') op e pos) (tAug i te ti) := by
  intro pins s σ H D I h
  obtain ⟨v, e1, h⟩ := h
  obtain ⟨m, hn, hl⟩ := I.loc
  have vis : Vis X.env.scope x := by rcases hx with k | k; exact .inl k; exact .inr (.inl k)
  obtain ⟨u, r, l⟩ := hl i x v hi e1 vis
  refine wpAny_AugAssign_Name ?_
  have go : wpAny (model X.prog X.w) X.A (eval e X.env) (fun w s₂ => wpAny (model X.prog X.w) X.A (inplaceOp op u w) (fun r s₃ => wpAny (model X.prog X.w) X.A (storeName X.env x r) (fun _ => SP X pins D .next) X.xe s₃) X.xe s₂) X.xe s := by
    refine thn (he pins s σ H _ I h) fun w s1 ⟨y, H1, I1, r1, q1⟩ => ?_
    refine thn (ho pins s1 σ H1 v y u w _ I1 r r1 q1) fun z s2 ⟨zv, H2, I2, r2, q2⟩ => ?_
    exact store_ok I2 hN hi hx r2 (fun s3 I3 => ⟨_, H2, I3, q2⟩) hf
  rcases l with ⟨hk, hm⟩ | ⟨hk, c, hc, hcell⟩
  · exact wpAny_loadName_local I.ok.kind hk hn hm go
  · rcases hk with hk | hk
    · exact wpAny_loadName_cell I.ok.kind hk hc hcell go
    · rcases hx with k | k
      · have : X.env.scope.names.lookup x = some .free := hk
        rw [k] at this; cases this
      · have : X.env.scope.names.lookup x = some .free := hk
        rw [k] at this; cases this
/-- o[i] op= e -/
def tAugS (to ti te : TE) (tget : V → V → Hp → VK → Prop) (tip : TIp) (tset : TSet) : TS := fun D σ H => to σ H fun o H1 => ti σ H1 fun i H2 => tget o i H2 fun x H3 => te σ H3 fun y H4 => tip x y H4 fun z H5 => tset o i z H5 fun H6 => D.nx σ H6
/-- o[i], by values -/
def PGet (X : Cx) (t : V → V → Hp → VK → Prop) : Prop :=
  ∀ (pins : List (Addr × Obj)) (s : Shared) (σ : St) (H : Hp) (o i : V) (ov iv : Value) (Q : VK), Inv X pins σ H s → RelV o ov → RelV i iv → t o i H Q →
    wpAny (model X.prog X.w) X.A (getItem ov iv) (EP X pins σ Q) X.xe s
theorem ps_augS {o i e : Expr} {to ti te : TE} {tget : V → V → Hp → VK → Prop} {tip : TIp} {tset : TSet} {op : Operator} {tpos : Pos} (ho : PE X o to) (hi : PE X i ti) (hg : PGet X tget) (he : PE X e te) (hp : PIp X op tip) (hs : PSet X tset)
    (ha : ∀ ov iv new, augStore i ov iv new = (do holding [new, ov, iv] (setItem ov iv new); release [new, ov, iv] []; pure .next) := by intros; rfl) : PS X (.AugAssign (.Subscript o i tpos) op e pos) (tAugS to ti te tget tip tset) := by
  intro pins s σ H D I h
  refine wpAny_AugAssign_SubscriptAny (thn (ho pins s σ H _ I h) fun ov s1 ⟨x1, H1, I1, r1, q1⟩ => ?_) ha
  refine thn (hi pins s1 σ H1 _ I1 q1) fun iv s2 ⟨x2, H2, I2, r2, q2⟩ => ?_
  refine thn (hg pins s2 σ H2 x1 x2 ov iv _ I2 r1 r2 q2) fun old s3 ⟨x3, H3, I3, r3, q3⟩ => ?_
  refine thn (he pins s3 σ H3 _ I3 q3) fun v s4 ⟨x4, H4, I4, r4, q4⟩ => ?_
  refine thn (hp pins s4 σ H4 x3 x4 old v _ I4 r3 r4 q4) fun new s5 ⟨x5, H5, I5, r5, q5⟩ => ?_
  exact thn (hs pins s5 σ H5 x1 x2 x5 ov iv new _ I5 r1 r2 r5 q5) fun _ s6 ⟨H6, I6, q6⟩ => ⟨σ, H6, I6, q6⟩
/-- ints -/
def ipI (f : Int → Int → Int) : TIp := fun x y H Q => ∃ i j, x = .int i ∧ y = .int j ∧ Q (.int (f i j)) H
theorem ip_add : PIp X .Add (ipI fun i j => i + j) := by
  intro pins s σ H x y v u Q I r1 r2 h
  obtain ⟨i, j, e1, e2, q⟩ := h
  subst e1; subst e2
  obtain ⟨t, rfl⟩ := r1
  obtain ⟨t', rfl⟩ := r2
  exact iadd_int ⟨.int _, H, I.tok _, ⟨_, rfl⟩, q⟩
theorem ip_sub : PIp X .Sub (ipI fun i j => i - j) := by
  intro pins s σ H x y v u Q I r1 r2 h
  obtain ⟨i, j, e1, e2, q⟩ := h
  subst e1; subst e2
  obtain ⟨t, rfl⟩ := r1
  obtain ⟨t', rfl⟩ := r2
  exact isub_int ⟨.int _, H, I.tok _, ⟨_, rfl⟩, q⟩
end

/-! ### while -/
section
variable {X : Cx} {pos : Pos}
/-- the invariant W with its measure -/
def tWhile (c : TT) (tb : TS) : TS := fun D σ H => ∃ W : Nat → St → Hp → Prop, (∃ m, W m σ H) ∧ ∀ m σ H, W m σ H →
  c σ H fun b H1 => if b = true then ∃ N : St → Hp → Prop, (∀ σ' H', N σ' H' → ∃ m', m' < m ∧ W m' σ' H') ∧ tb { D with nx := N, ct := N, bk := D.nx } σ H1 else D.nx σ H1
theorem ps_while {c : Expr} {body : List Stmt} {tc : TT} {tb : TS} (hp : PassesOwn (model X.prog X.w) X.A X.env X.xe) (hc : PT X c tc) (hb : PSs X body tb) : PS X (.While c body [] pos) (tWhile tc tb) := by
  intro pins s σ H D I h
  obtain ⟨W, ⟨m0, w0⟩, turn⟩ := h
  refine wpAny_While (codeAny_whileLoop (fun n s' => ∃ σ' H', Inv X pins σ' H' s' ∧ W n σ' H') ?_ m0 ⟨σ, H, I, w0⟩)
  rintro n s1 ⟨σ1, H1, I1, w1⟩
  refine wpAny_passesOwn hp (thn (hc pins s1 σ1 H1 _ I1 (turn n σ1 H1 w1)) fun b s2 ⟨H2, I2, q2⟩ => ?_)
  cases b with
  | true =>
    obtain ⟨N, hN, q2⟩ := q2
    rw [if_pos rfl]
    refine wpAny_passesOwn hp (thn (hb pins s2 σ1 H2 _ I2 q2) fun f s3 q3 => ?_)
    cases f with
    | next =>
      obtain ⟨σ3, H3, I3, n3⟩ := q3
      obtain ⟨m', hm, w3⟩ := hN σ3 H3 n3
      exact ⟨m', hm, σ3, H3, I3, w3⟩
    | cont =>
      obtain ⟨σ3, H3, I3, n3⟩ := q3
      obtain ⟨m', hm, w3⟩ := hN σ3 H3 n3
      exact ⟨m', hm, σ3, H3, I3, w3⟩
    | brk => exact q3
    | ret v => exact q3
  | false =>
    rw [if_neg Bool.false_ne_true]
    exact wpAny_execs_nil ⟨σ1, H2, I2, q2⟩
end

/-! ### what a loop or a comprehension walks -/
/-- at turn i: it yields x (the heap may grow), or it stops -/
structure It where
  go : Nat → Hp → Prop
  yld : Nat → Hp → V → Hp → Prop
  stop : Nat → Hp → Prop
/-- the iterator's own objects may turn: they are not the frame's, not pinned, younger than the entry (or a comprehension's own) -/
def FpOk (X : Cx) (pins : List (Addr × Obj)) (H : Hp) (b : Addr) : Prop :=
  H b = none ∧ b ≠ X.env.locals ∧ b ∉ X.fs ∧ (b ∈ X.ex ∨ X.s₀.heap.objs.size ≤ b) ∧ (∀ x c, X.env.cells.lookup x = some c → c ≠ b) ∧ ∀ p ∈ X.pn ++ pins, p.1 ≠ b
theorem Inv.fpOk {X : Cx} {pins : List (Addr × Obj)} {σ : St} {H H' : Hp} {s : Shared} {b : Addr} (I : Inv X pins σ H s) (hb : s.heap.objs.size ≤ b) (hn : H' b = none) : FpOk X pins H' b := by
  refine ⟨hn, Nat.ne_of_gt (Nat.lt_of_lt_of_le I.lt hb), I.nofs hb, .inr (Nat.le_trans I.sz hb), fun x c e z => ?_, fun p hp z => ?_⟩
  · obtain ⟨v, q⟩ := I.cell x c e
    exact absurd (Nat.lt_of_lt_of_le q.lt (by rw [z]; exact hb)) (Nat.lt_irrefl _)
  · exact absurd (Nat.lt_of_lt_of_le (Heap.lt_size (I.pin p hp).1) (by rw [z]; exact hb)) (Nat.lt_irrefl _)
structure Turn (P : Program) (w : World) (K : PySem.W.Frag) (tg : Expr) (J : It) (fp : List Addr) (it : Addr) (tn : Nat → Heap → Prop) : Prop where
  mem : it ∈ fp
  obj : ∀ i h, tn i h → ∀ b ∈ fp, ∃ o, h.get? b = some o ∧ ∀ v, o.data ≠ .cell v
  keep : ∀ i h h', tn i h → (∀ b ∈ fp, ∀ o, h.get? b = some o → h'.get? b = some o) → tn i h'
  item : ∀ (X : Cx), X.prog = P → X.w = w → X.K = K → X.calm = true → ∀ (i : Nat) (pins : List (Addr × Obj)) (s : Shared) (σ : St) (H : Hp) (E : Value → Shared → Prop), Inv X pins σ H s → (∀ b ∈ fp, FpOk X pins H b) → tn i s.heap → J.go i H →
    wpAny (model P w) X.A (pyNext (.ref it)) (fun r s1 => ∃ u, r = some u ∧
      wpAny (model P w) X.A (letOwnedTupleGo tg (.ref it) u) (fun _ s2 => ∃ x H', Inv X pins σ H' s2 ∧ RelV x u ∧ J.yld i H x H' ∧ tn (i + 1) s2.heap ∧ ∀ b ∈ fp, H' b = none) E s1) E s
  done : ∀ (X : Cx), X.prog = P → X.w = w → X.K = K → X.calm = true → ∀ (i : Nat) (pins : List (Addr × Obj)) (s : Shared) (σ : St) (H : Hp) (E : Value → Shared → Prop), Inv X pins σ H s → (∀ b ∈ fp, FpOk X pins H b) → tn i s.heap → J.stop i H →
    wpAny (model P w) X.A (pyNext (.ref it)) (fun r s1 => r = none ∧ Inv X pins σ H s1) E s
  self : ∀ (A : Around) (i : Nat) (s : Shared) (Q : Value → Shared → Prop) (E : Value → Shared → Prop), tn i s.heap → Q (.ref it) s → wpAny (model P w) A (pyIter (.ref it)) Q E s
abbrev TI := St → Hp → (It → Hp → Prop) → Prop
/-- an iterator has come -/
def PIE (X : Cx) (pins : List (Addr × Obj)) (σ : St) (tg : Expr) (R : It → Hp → Prop) (itv : Value) (s2 : Shared) : Prop :=
  ∃ (it : Addr) (fp : List Addr) (tn : Nat → Heap → Prop) (J : It) (H' : Hp), itv = .ref it ∧ Inv X pins σ H' s2 ∧ Turn X.prog X.w X.K tg J fp it tn ∧ tn 0 s2.heap ∧ (∀ b ∈ fp, FpOk X pins H' b) ∧ R J H'
def PI (X : Cx) (tg iter : Expr) (wi : TI) : Prop :=
  ∀ (pins : List (Addr × Obj)) (s : Shared) (σ : St) (H : Hp) (R : It → Hp → Prop), Inv X pins σ H s → wi σ H R →
    wpAny (model X.prog X.w) X.A (eval iter X.env) (fun v s1 => wpAny (model X.prog X.w) X.A (pyIter v) (PIE X pins σ tg R) X.xe s1) X.xe s

/-- the step ahead of the store is nothing for an iterator that keeps no tuple -/
theorem go_of {M : Model} {A : Around} {E : Value → Shared → Prop} {s : Shared} {tg : Expr} {it : Addr} {u : Value} {o : Obj} {n : String} {vs : Array Value} {Q : Unit → Shared → Prop} (ho : s.heap.get? it = some o) (hc : o.cls = .type n) (hd : o.data = .fields vs)
    (hn : ["enumerate", "zip", "dict_itemiterator", "dict_reverseitemiterator", "odict_iterator", "itertools.zip_longest", "itertools.pairwise"].contains n = false) (hQ : Q () s) : wpAny M A (letOwnedTupleGo tg (.ref it) u) Q E s := by
  unfold letOwnedTupleGo
  cases tg <;> first
    | exact wpAny_pure hQ
    | (cases u <;> first
        | exact wpAny_pure hQ
        | (refine wpAny_bind (wpAny_load ho ?_)
           rw [hc, hd]
           show wpAny M A (if (["enumerate", "zip", "dict_itemiterator", "dict_reverseitemiterator", "odict_iterator", "itertools.zip_longest", "itertools.pairwise"].contains n && vs[0]? == some (rawInt _)) = true then _ else _) Q E s
           rw [if_neg (by intro h; rw [hn, Bool.false_and] at h; cases h)]
           exact wpAny_pure hQ))

/-- the list at a, as it stands at each turn (a loop may append to it) -/
def Itl (K : PySem.W.Frag) (a : Addr) : It :=
  ⟨fun i H => ∃ xs x, SqL K H a xs ∧ xs[i]? = some x, fun i H x H' => H' = H ∧ ∀ xs, SqL K H a xs → xs[i]? = some x, fun i H => ∃ xs, SqL K H a xs ∧ xs.length ≤ i⟩
def Itt (K : PySem.W.Frag) (a : Addr) : It :=
  ⟨fun i H => ∃ xs x, SqT K H a xs ∧ xs[i]? = some x, fun i H x H' => H' = H ∧ ∀ xs, SqT K H a xs → xs[i]? = some x, fun i H => ∃ xs, SqT K H a xs ∧ xs.length ≤ i⟩
/-- lo, lo + 1, .. (n of them) -/
def Itr (lo : Int) (n : Nat) : It := ⟨fun i _ => i < n, fun i H x H' => H' = H ∧ x = .int (lo + i), fun i _ => n ≤ i⟩
theorem turn_list {P : Program} {w : World} {K : PySem.W.Frag} {tg : Expr} (a it : Addr) : Turn P w K tg (Itl K a) [it] it (fun i h => h.IsListIter it a i) where
  mem := by simp
  obj := fun i h st b hb => by
    have e : b = it := by simpa using hb
    subst e
    obtain ⟨o, e, c, d⟩ := st
    exact ⟨o, e, fun v z => by rw [d] at z; cases z⟩
  keep := fun i h h' st k => st.at fun o e => k it (by simp) o e
  item := by
    intro X hP hw hK hc i pins s σ H E I hf st hg
    subst hP hw hK
    obtain ⟨xs, x, hq, hx⟩ := hg
    obtain ⟨its, rv, p, hz⟩ := I.list hq
    obtain ⟨u, hu, ru⟩ := rv.get hx
    obtain ⟨f0, f1, f2, f3, f4, f5⟩ := hf it (by simp)
    refine wpAny_pyNext_list_item st p.isList (x := u) (by simpa using hu) fun h' st' sb => ?_
    have I1 : Inv X pins σ H { s with heap := h' } := I.turned (t' := s.toks) (fun b o hb e => (sb.2 b hb).trans e) f0 f1 f3 f4 f5
    obtain ⟨o, e, c, d⟩ := id st'
    exact ⟨u, rfl, go_of (s := { s with heap := h' }) e c d (by decide) ⟨x, H, I1, ru, ⟨rfl, fun ys hy => by rw [I.list_inj hy hq]; exact hx⟩, st', fun b hb => (hf b hb).1⟩⟩
  done := by
    intro X hP hw hK hc i pins s σ H E I hf st hg
    subst hP hw hK
    obtain ⟨xs, hq, hx⟩ := hg
    obtain ⟨its, rv, p, hz⟩ := I.list hq
    obtain ⟨f0, f1, f2, f3, f4, f5⟩ := hf it (by simp)
    have hl := rv.length
    exact wpAny_pyNext_list_end (I.ok.hd hc) st p.isList (by simp; omega) fun h' eb => ⟨rfl, I.turned (t' := s.toks) (fun b o hb e => eb b o hb e) f0 f1 f3 f4 f5⟩
  self := fun _ _ _ _ _ st h => wpAny_pyIter_listiter st h
theorem turn_tuple {P : Program} {w : World} {K : PySem.W.Frag} {tg : Expr} (a it : Addr) : Turn P w K tg (Itt K a) [it] it (fun i h => h.IsTupleIter it a i) where
  mem := by simp
  obj := fun i h st b hb => by
    have e : b = it := by simpa using hb
    subst e
    obtain ⟨o, e, c, d⟩ := st
    exact ⟨o, e, fun v z => by rw [d] at z; cases z⟩
  keep := fun i h h' st k => st.at fun o e => k it (by simp) o e
  item := by
    intro X hP hw hK hc i pins s σ H E I hf st hg
    subst hP hw hK
    obtain ⟨xs, x, hq, hx⟩ := hg
    obtain ⟨its, rv, p, hz⟩ := I.tuple hq
    obtain ⟨u, hu, ru⟩ := rv.get hx
    obtain ⟨f0, f1, f2, f3, f4, f5⟩ := hf it (by simp)
    refine wpAny_pyNext_tuple_item st (show s.heap.IsTuple a its.toArray from p) (x := u) (by simpa using hu) fun h' st' sb => ?_
    have I1 : Inv X pins σ H { s with heap := h' } := I.turned (t' := s.toks) (fun b o hb e => (sb.2 b hb).trans e) f0 f1 f3 f4 f5
    obtain ⟨o, e, c, d⟩ := id st'
    exact ⟨u, rfl, go_of (s := { s with heap := h' }) e c d (by decide) ⟨x, H, I1, ru, ⟨rfl, fun ys hy => by rw [I.tuple_inj hy hq]; exact hx⟩, st', fun b hb => (hf b hb).1⟩⟩
  done := by
    intro X hP hw hK hc i pins s σ H E I hf st hg
    subst hP hw hK
    obtain ⟨xs, hq, hx⟩ := hg
    obtain ⟨its, rv, p, hz⟩ := I.tuple hq
    obtain ⟨f0, f1, f2, f3, f4, f5⟩ := hf it (by simp)
    have hl := rv.length
    exact wpAny_pyNext_tuple_end (I.ok.hd hc) st (show s.heap.IsTuple a its.toArray from p) (by simp; omega) fun h' eb => ⟨rfl, I.turned (t' := s.toks) (fun b o hb e => eb b o hb e) f0 f1 f3 f4 f5⟩
  self := fun _ _ _ _ _ st h => wpAny_pyIter_tupleiter st h
theorem turn_range {P : Program} {w : World} {K : PySem.W.Frag} {tg : Expr} (it : Addr) (lo : Int) (n : Nat) : Turn P w K tg (Itr lo n) [it] it (fun i h => IsRangeIter h it (lo + (i : Nat) * 1) ((n : Int) - (i : Nat)) 1) where
  mem := by simp
  obj := fun i h st b hb => by
    have e : b = it := by simpa using hb
    subst e
    exact ⟨_, st, fun v z => by
      have z' : Data.fields _ = Data.cell v := z
      cases z'⟩
  keep := fun i h h' st k => k it (by simp) _ st
  item := by
    intro X hP hw hK hc i pins s σ H E I hf st hg
    subst hP hw hK
    obtain ⟨f0, f1, f2, f3, f4, f5⟩ := hf it (by simp)
    have W := Walks.range (prog := X.prog) (w := X.w) (I.ok.hd hc) it lo 1 n
    refine W.item i s _ _ hg st fun v h' tk hv st' kk => ?_
    obtain ⟨t, rfl⟩ := hv
    have I1 : Inv X pins σ H { s with heap := h', toks := tk } := I.turned (fun b o hb e => kk b o (by simpa using hb) e) f0 f1 f3 f4 f5
    refine ⟨_, rfl, go_of (s := { s with heap := h', toks := tk }) (n := "range_iterator") st' rfl rfl (by decide) ⟨.int (lo + i), H, I1, ⟨t, ?_⟩, ⟨rfl, rfl⟩, st', fun b hb => (hf b hb).1⟩⟩
    rw [Int.mul_one]
  done := by
    intro X hP hw hK hc i pins s σ H E I hf st hg
    subst hP hw hK
    obtain ⟨f0, f1, f2, f3, f4, f5⟩ := hf it (by simp)
    exact wpAny_pyNext_range_end (I.ok.hd hc) st (by have : n ≤ i := hg; omega) fun h' eb => ⟨rfl, I.turned (t' := s.toks) (fun b o hb e => eb b o hb e) f0 f1 f3 f4 f5⟩
  self := fun _ _ _ _ _ st h => wpAny_pyIter_rangeiter st h
end L2

namespace L2
open PySem PySem.Spec PyProof.Rows
section
variable {X : Cx} {tg : Expr}
def iList (K : PySem.W.Frag) (tl : TE) : TI := fun σ H R => tl σ H fun x H1 => ∃ a, x = .ref a ∧ (∃ xs, SqL K H1 a xs) ∧ R (Itl K a) H1
def iTup (K : PySem.W.Frag) (tl : TE) : TI := fun σ H R => tl σ H fun x H1 => ∃ a, x = .ref a ∧ (∃ xs, SqT K H1 a xs) ∧ R (Itt K a) H1
theorem pi_list {l : Expr} {tl : TE} (hl : PE X l tl) : PI X tg l (iList X.K tl) := by
  intro pins s σ H R I h
  refine thn (hl pins s σ H _ I h) fun v s1 ⟨x, H1, I1, r1, q1⟩ => ?_
  obtain ⟨a, e, ⟨xs, hq⟩, q⟩ := q1
  subst e
  cases r1
  obtain ⟨its, rv, p, hz⟩ := I1.list hq
  refine wpAny_pyIter_list p.isList ?_
  refine ⟨s1.heap.objs.size, [s1.heap.objs.size], _, _, H1, rfl, I1.kept (t' := s1.toks) fun b o e => Heap.get?_push_of_some _ e, turn_list a _, ⟨_, Heap.get?_push_size _ rfl, rfl, rfl⟩, fun b hb => ?_, q⟩
  have e : b = s1.heap.objs.size := by simpa using hb
  subst e
  exact I1.fpOk (Nat.le_refl _) (I1.hok.fresh (Nat.le_refl _))
theorem pi_tup {l : Expr} {tl : TE} (hl : PE X l tl) : PI X tg l (iTup X.K tl) := by
  intro pins s σ H R I h
  refine thn (hl pins s σ H _ I h) fun v s1 ⟨x, H1, I1, r1, q1⟩ => ?_
  obtain ⟨a, e, ⟨xs, hq⟩, q⟩ := q1
  subst e
  cases r1
  obtain ⟨its, rv, p, hz⟩ := I1.tuple hq
  refine wpAny_pyIter_tuple (show s1.heap.IsTuple a its.toArray from p) ?_
  refine ⟨s1.heap.objs.size, [s1.heap.objs.size], _, _, H1, rfl, I1.kept (t' := s1.toks) fun b o e => Heap.get?_push_of_some _ e, turn_tuple a _, ⟨_, Heap.get?_push_size _ rfl, rfl, rfl⟩, fun b hb => ?_, q⟩
  have e : b = s1.heap.objs.size := by simpa using hb
  subst e
  exact I1.fpOk (Nat.le_refl _) (I1.hok.fresh (Nat.le_refl _))
/-- a range object just made, walked -/
theorem range_it {pins : List (Addr × Obj)} {σ : St} {H : Hp} {s : Shared} {R : It → Hp → Prop} {E : Value → Shared → Prop} {lo hi : Int} {t u v : Tok} {tk : Nat} (I : Inv X pins σ H s) (h1 : -(2 ^ 62) ≤ lo) (h2 : lo < 2 ^ 62) (h3 : -(2 ^ 62) ≤ hi) (h4 : hi < 2 ^ 62)
    (q : R (Itr lo (hi - lo).toNat) H) : wpAny (model X.prog X.w) X.A (pyIter (.ref s.heap.objs.size)) (PIE X pins σ tg R) E { s with heap := s.heap.push { cls := .type "range", data := .fields #[.int lo t, .int hi u, .int 1 v] }, toks := tk } := by
  refine wpAny_pyIter_range (IsRange.new ..) (small_one h1 h2 h3 h4) ?_
  have I1 : Inv X pins σ H { s with heap := s.heap.push { cls := .type "range", data := .fields #[.int lo t, .int hi u, .int 1 v] }, toks := tk } := I.kept fun b o e => Heap.get?_push_of_some _ e
  refine ⟨(s.heap.push { cls := .type "range", data := .fields #[.int lo t, .int hi u, .int 1 v] }).objs.size, [(s.heap.push { cls := .type "range", data := .fields #[.int lo t, .int hi u, .int 1 v] }).objs.size], _, _, H, rfl,
    I1.kept (t' := tk) fun b o e => Heap.get?_push_of_some _ e, turn_range _ lo (hi - lo).toNat, ?_, fun b hb => ?_, q⟩
  · have e1 : lo + ((0 : Nat) : Int) * 1 = lo := by simp
    have e2 : (((hi - lo).toNat : Nat) : Int) - ((0 : Nat) : Int) = Builtin.Range.rangeSize lo hi 1 := by rw [rangeSize_one]; split <;> omega
    show IsRangeIter _ _ (lo + ((0 : Nat) : Int) * 1) ((((hi - lo).toNat : Nat) : Int) - ((0 : Nat) : Int)) 1
    rw [e1, e2]
    exact Heap.get?_push_size _ rfl
  · have e : b = (s.heap.push { cls := .type "range", data := .fields #[.int lo t, .int hi u, .int 1 v] }).objs.size := by simpa using hb
    subst e
    exact I1.fpOk (Nat.le_refl _) (I1.hok.fresh (Nat.le_refl _))
def iRng1 (ta : TA) : TI := fun σ H R => ta σ H fun vs H1 => ∃ j : Int, vs = [.int j] ∧ -(2 ^ 62) ≤ j ∧ j < 2 ^ 62 ∧ R (Itr 0 j.toNat) H1
def iRng2 (ta : TA) : TI := fun σ H R => ta σ H fun vs H1 => ∃ i j : Int, vs = [.int i, .int j] ∧ (-(2 ^ 62) ≤ i ∧ i < 2 ^ 62 ∧ -(2 ^ 62) ≤ j ∧ j < 2 ^ 62) ∧ R (Itr i (j - i).toNat) H1
theorem pi_range1 {a : Expr} {ta : TA} {p pos : Pos} (hg : Gl X "range") (hm : X.mg "range" = none) (ha : PA X [a] ta) (hs : starEach [a] X.env = [(false, eval a X.env)] := by rfl) : PI X tg (.Call (.Name "range" p) [a] [] pos) (iRng1 ta) := by
  intro pins s σ H R I h
  refine Call_ (ld_blt I hg hm boot_range (PyProof.Rows.callWith_type1 (thn (ha pos pins s σ H _ I h) fun us s1 ⟨vs, H1, I1, r1, q1⟩ => ?_) hs rfl))
  obtain ⟨j, e, q1, q2, q⟩ := q1
  subst e
  cases r1 with
  | cons r rr =>
    cases rr
    obtain ⟨t, rfl⟩ := r
    exact call_range_1 (range_it I1 (by omega) (by omega) q1 q2 (by simpa using q))
theorem pi_range2 {a b : Expr} {ta : TA} {p pos : Pos} (hg : Gl X "range") (hm : X.mg "range" = none) (ha : PA X [a, b] ta) (hs : starEach [a, b] X.env = [(false, eval a X.env), (false, eval b X.env)] := by rfl) (hs2 : starEach [b] X.env = [(false, eval b X.env)] := by rfl) :
    PI X tg (.Call (.Name "range" p) [a, b] [] pos) (iRng2 ta) := by
  intro pins s σ H R I h
  refine Call_ (ld_blt I hg hm boot_range (PyProof.Rows.callWith_type1 (thn (ha pos pins s σ H _ I h) fun us s1 ⟨vs, H1, I1, r1, q1⟩ => ?_) (by rw [hs, hs2]) (by rw [hs2]; rfl)))
  obtain ⟨i, j, e, ⟨q1, q2, q3, q4⟩, q⟩ := q1
  subst e
  cases r1 with
  | cons r rr =>
    cases rr with
    | cons r' rr =>
      cases rr
      obtain ⟨t, rfl⟩ := r
      obtain ⟨t', rfl⟩ := r'
      exact call_range_2 (range_it I1 q1 q2 q3 q4 q)

/-! ### for -/
/-- W: the invariant by the turn and a measure; N: what the body is to reach -/
def tFor (wi : TI) (g : TG) (tb : TS) : TS := fun D σ H => wi σ H fun J H1 => ∃ W : Nat → Nat → St → Hp → Prop, (∃ m, W 0 m σ H1) ∧ ∀ i m σ H, W i m σ H →
  (J.stop i H ∧ D.nx σ H) ∨ (J.go i H ∧ ∃ N : St → Hp → Prop, (∀ σ' H', N σ' H' → ∃ m', m' < m ∧ W (i + 1) m' σ' H') ∧ ∀ x H', J.yld i H x H' → g x σ H' fun σ2 H2 => tb { D with nx := N, ct := N, bk := D.nx } σ2 H2)
/-- the records at fp as they stand -/
def pinsAt (fp : List Addr) (h : Heap) : List (Addr × Obj) := fp.filterMap fun b => (h.get? b).map fun o => (b, o)
theorem mem_pinsAt {fp : List Addr} {h : Heap} {b : Addr} {o : Obj} (hb : b ∈ fp) (e : h.get? b = some o) : (b, o) ∈ pinsAt fp h := List.mem_filterMap.mpr ⟨b, hb, by rw [e]; rfl⟩
theorem of_pinsAt {fp : List Addr} {h : Heap} {p : Addr × Obj} (hp : p ∈ pinsAt fp h) : p.1 ∈ fp ∧ h.get? p.1 = some p.2 := by
  obtain ⟨b, hb, e⟩ := List.mem_filterMap.mp hp
  cases q : h.get? b with
  | none => rw [q] at e; cases e
  | some o =>
    rw [q] at e
    have e' : (b, o) = p := Option.some.inj e
    subst e'
    exact ⟨hb, q⟩
theorem Inv.pinned {pins : List (Addr × Obj)} {σ : St} {H : Hp} {s : Shared} {fp : List Addr} (I : Inv X pins σ H s) (hf : ∀ b ∈ fp, FpOk X pins H b) (ho : ∀ b ∈ fp, ∃ o, s.heap.get? b = some o ∧ ∀ v, o.data ≠ .cell v) : Inv X (pins ++ pinsAt fp s.heap) σ H s :=
  I.pins_of fun p hp => (List.mem_append.mp hp).elim (fun z => I.pin p (List.mem_append_right _ z)) fun z => by
    obtain ⟨hb, e⟩ := of_pinsAt z
    obtain ⟨f0, f1, f2, _⟩ := hf p.1 hb
    obtain ⟨o, e', d⟩ := ho p.1 hb
    rw [e] at e'; cases e'
    exact ⟨e, f0, f1, f2, d⟩
theorem Inv.unpinned {pins pl : List (Addr × Obj)} {σ : St} {H : Hp} {s : Shared} (I : Inv X (pins ++ pl) σ H s) : Inv X pins σ H s := I.pins_of fun p hp => I.pin p (List.mem_append_right _ (List.mem_append_left _ hp))
theorem ps_for {iter : Expr} {body : List Stmt} {wi : TI} {g : TG} {tb : TS} {pos : Pos} (hp : PassesOwn (model X.prog X.w) X.A X.env X.xe) (hc : X.calm = true) (hi : PI X tg iter wi) (hg : PG X tg g) (hb : PSs X body tb)
    (hs : ∀ x, foldedSetIterable iter X.env x = pure x := by intro _; rfl) : PS X (.For tg iter body [] pos) (tFor wi g tb) := by
  intro pins s σ H D I h
  refine wpAny_For (thn (hi pins s σ H _ I h) fun v s1 h1 => thn h1 fun itv s2 h2 => ?_) hs
  obtain ⟨it, fp, tn, J, H2, e, I2, T, st2, f2, W, ⟨m0, w0⟩, turn⟩ := h2
  subst e
  -- what stays true of the iterator's objects through the loop
  have stat : ∀ {H' : Hp}, (∀ b ∈ fp, H' b = none) → ∀ b ∈ fp, FpOk X pins H' b := fun hn b hb => ⟨hn b hb, (f2 b hb).2⟩
  refine codeAny_forLoop_any (fun n s' => ∃ i σ' H', Inv X pins σ' H' s' ∧ tn i s'.heap ∧ (∀ b ∈ fp, H' b = none) ∧ W i n σ' H') ?_ m0 ⟨0, σ, H2, I2, st2, fun b hb => (f2 b hb).1, w0⟩
  rintro n s3 ⟨i, σ3, H3, I3, st3, fr3, w3⟩
  rcases turn i n σ3 H3 w3 with ⟨stop, qn⟩ | ⟨go, N, hN, step⟩
  · refine wpAny_passesOwn hp (thn (T.done X rfl rfl rfl hc i pins s3 σ3 H3 X.xe I3 (stat fr3) st3 stop) fun r s4 ⟨hr, I4⟩ => ?_)
    subst hr
    exact wpAny_execs_nil ⟨σ3, H3, I4, qn⟩
  · refine wpAny_passesOwn hp (thn (T.item X rfl rfl rfl hc i pins s3 σ3 H3 X.xe I3 (stat fr3) st3 go) fun r s4 ⟨u, hr, h4⟩ => ?_)
    subst hr
    refine wpAny_passesOwn hp (thn h4 fun _ s5 ⟨x, H5, I5, r5, y5, st5, fr5⟩ => ?_)
    have I5' := I5.pinned (stat fr5) (T.obj _ _ st5)
    refine wpAny_passesOwn hp (thn (hg _ s5 σ3 H5 x u _ I5' r5 (step x H5 y5)) fun _ s6 ⟨σ6, H6, I6, q6⟩ => ?_)
    refine wpAny_passesOwn hp (thn (hb _ s6 σ6 H6 _ I6 q6) fun f s7 q7 => ?_)
    have again : ∀ {σ7 : St} {H7 : Hp}, Inv X (pins ++ pinsAt fp s5.heap) σ7 H7 s7 → N σ7 H7 → ∃ m, m < n ∧ ∃ i σ' H', Inv X pins σ' H' s7 ∧ tn i s7.heap ∧ (∀ b ∈ fp, H' b = none) ∧ W i m σ' H' := fun {σ7 H7} I7 n7 => by
      obtain ⟨m', hm, w7⟩ := hN σ7 H7 n7
      refine ⟨m', hm, i + 1, σ7, H7, I7.unpinned, T.keep _ _ _ st5 fun b hb o e => (I7.pin (b, o) (List.mem_append_right _ (List.mem_append_right _ (mem_pinsAt hb e)))).1, fun b hb => ?_, w7⟩
      obtain ⟨o, e, d⟩ := T.obj _ _ st5 b hb
      exact (I7.pin (b, o) (List.mem_append_right _ (List.mem_append_right _ (mem_pinsAt hb e)))).2.1
    cases f with
    | next => obtain ⟨σ7, H7, I7, n7⟩ := q7; exact again I7 n7
    | cont => obtain ⟨σ7, H7, I7, n7⟩ := q7; exact again I7 n7
    | brk => obtain ⟨σ7, H7, I7, q7⟩ := q7; exact ⟨σ7, H7, I7.unpinned, q7⟩
    | ret v => obtain ⟨x7, σ7, H7, I7, r7, q7⟩ := q7; exact ⟨x7, σ7, H7, I7.unpinned, r7, q7⟩
end

/-! ### the forms one uses -/
/-- over a list that the body leaves as it is -/
theorem for_list {K : PySem.W.Frag} {a : Addr} {xs : List V} {g : TG} {tb : TS} {D : Ends} {σ : St} {H : Hp} (Pv : Nat → St → Hp → Prop) (h0 : Pv 0 σ H) (hl : ∀ i σ H, i ≤ xs.length → Pv i σ H → SqL K H a xs)
    (hs : ∀ i x σ H, xs[i]? = some x → Pv i σ H → g x σ H fun σ2 H2 => tb { D with nx := Pv (i + 1), ct := Pv (i + 1), bk := D.nx } σ2 H2) (hd : ∀ σ H, Pv xs.length σ H → D.nx σ H) :
    ∃ W : Nat → Nat → St → Hp → Prop, (∃ m, W 0 m σ H) ∧ ∀ i m σ H, W i m σ H →
      ((Itl K a).stop i H ∧ D.nx σ H) ∨ ((Itl K a).go i H ∧ ∃ N : St → Hp → Prop, (∀ σ' H', N σ' H' → ∃ m', m' < m ∧ W (i + 1) m' σ' H') ∧ ∀ x H', (Itl K a).yld i H x H' → g x σ H' fun σ2 H2 => tb { D with nx := N, ct := N, bk := D.nx } σ2 H2) := by
  refine ⟨fun i m σ H => m = xs.length - i ∧ i ≤ xs.length ∧ Pv i σ H, ⟨xs.length, by simp, Nat.zero_le _, h0⟩, ?_⟩
  rintro i m σ H ⟨rfl, hi, p⟩
  have q := hl i σ H hi p
  by_cases hlt : i < xs.length
  · refine .inr ⟨⟨xs, xs[i], q, by simp [hlt]⟩, Pv (i + 1), fun σ' H' p' => ⟨xs.length - (i + 1), by omega, rfl, hlt, p'⟩, fun x H' y => ?_⟩
    obtain ⟨e, y⟩ := y
    subst e
    exact hs i x σ _ (y xs q) p
  · have e : i = xs.length := by omega
    subst e
    exact .inl ⟨⟨xs, q, Nat.le_refl _⟩, hd σ H p⟩
theorem for_tup {K : PySem.W.Frag} {a : Addr} {xs : List V} {g : TG} {tb : TS} {D : Ends} {σ : St} {H : Hp} (Pv : Nat → St → Hp → Prop) (h0 : Pv 0 σ H) (hl : ∀ i σ H, i ≤ xs.length → Pv i σ H → SqT K H a xs)
    (hs : ∀ i x σ H, xs[i]? = some x → Pv i σ H → g x σ H fun σ2 H2 => tb { D with nx := Pv (i + 1), ct := Pv (i + 1), bk := D.nx } σ2 H2) (hd : ∀ σ H, Pv xs.length σ H → D.nx σ H) :
    ∃ W : Nat → Nat → St → Hp → Prop, (∃ m, W 0 m σ H) ∧ ∀ i m σ H, W i m σ H →
      ((Itt K a).stop i H ∧ D.nx σ H) ∨ ((Itt K a).go i H ∧ ∃ N : St → Hp → Prop, (∀ σ' H', N σ' H' → ∃ m', m' < m ∧ W (i + 1) m' σ' H') ∧ ∀ x H', (Itt K a).yld i H x H' → g x σ H' fun σ2 H2 => tb { D with nx := N, ct := N, bk := D.nx } σ2 H2) := by
  refine ⟨fun i m σ H => m = xs.length - i ∧ i ≤ xs.length ∧ Pv i σ H, ⟨xs.length, by simp, Nat.zero_le _, h0⟩, ?_⟩
  rintro i m σ H ⟨rfl, hi, p⟩
  have q := hl i σ H hi p
  by_cases hlt : i < xs.length
  · refine .inr ⟨⟨xs, xs[i], q, by simp [hlt]⟩, Pv (i + 1), fun σ' H' p' => ⟨xs.length - (i + 1), by omega, rfl, hlt, p'⟩, fun x H' y => ?_⟩
    obtain ⟨e, y⟩ := y
    subst e
    exact hs i x σ _ (y xs q) p
  · have e : i = xs.length := by omega
    subst e
    exact .inl ⟨⟨xs, q, Nat.le_refl _⟩, hd σ H p⟩
theorem for_range {lo : Int} {n : Nat} {g : TG} {tb : TS} {D : Ends} {σ : St} {H : Hp} (Pv : Nat → St → Hp → Prop) (h0 : Pv 0 σ H)
    (hs : ∀ i σ H, i < n → Pv i σ H → g (.int (lo + i)) σ H fun σ2 H2 => tb { D with nx := Pv (i + 1), ct := Pv (i + 1), bk := D.nx } σ2 H2) (hd : ∀ σ H, Pv n σ H → D.nx σ H) :
    ∃ W : Nat → Nat → St → Hp → Prop, (∃ m, W 0 m σ H) ∧ ∀ i m σ H, W i m σ H →
      ((Itr lo n).stop i H ∧ D.nx σ H) ∨ ((Itr lo n).go i H ∧ ∃ N : St → Hp → Prop, (∀ σ' H', N σ' H' → ∃ m', m' < m ∧ W (i + 1) m' σ' H') ∧ ∀ x H', (Itr lo n).yld i H x H' → g x σ H' fun σ2 H2 => tb { D with nx := N, ct := N, bk := D.nx } σ2 H2) := by
  refine ⟨fun i m σ H => m = n - i ∧ i ≤ n ∧ Pv i σ H, ⟨n, by simp, Nat.zero_le _, h0⟩, ?_⟩
  rintro i m σ H ⟨rfl, hi, p⟩
  by_cases hlt : i < n
  · refine .inr ⟨hlt, Pv (i + 1), fun σ' H' p' => ⟨n - (i + 1), by omega, rfl, hlt, p'⟩, fun x H' y => ?_⟩
    obtain ⟨e, y⟩ := y
    subst e y
    exact hs i σ _ hlt p
  · have e : i = n := by omega
    subst e
    exact .inl ⟨Nat.le_refl _, hd σ H p⟩
/-- while, by a word and a measure of the state -/
theorem while_by {c : TT} {tb : TS} {D : Ends} {σ : St} {H : Hp} (Pv : St → Hp → Prop) (μ : St → Hp → Nat) (h0 : Pv σ H)
    (hs : ∀ σ H, Pv σ H → c σ H fun b H1 => if b = true then tb { D with nx := fun σ' H' => Pv σ' H' ∧ μ σ' H' < μ σ H, ct := fun σ' H' => Pv σ' H' ∧ μ σ' H' < μ σ H, bk := D.nx } σ H1 else D.nx σ H1)
    (mono : ∀ σ H Q Q', (∀ b H1, Q b H1 → Q' b H1) → c σ H Q → c σ H Q') : tWhile c tb D σ H := by
  refine ⟨fun m σ H => m = μ σ H ∧ Pv σ H, ⟨_, rfl, h0⟩, ?_⟩
  rintro m σ H ⟨rfl, p⟩
  refine mono σ H _ _ (fun b H1 q => ?_) (hs σ H p)
  cases b with
  | true => exact ⟨_, fun σ' H' ⟨p', l⟩ => ⟨_, l, rfl, p'⟩, q⟩
  | false => exact q
end L2

namespace L2
open PySem PySem.Spec PyProof.Rows

abbrev R2 := V → V → Hp → VK → Prop
/-- a two-place operation on values: f is binaryOp op, inplaceOp op or compareOp op -/
def OpR (X : Cx) (f : Value → Value → Sem Value) (r : R2) : Prop :=
  ∀ (pins : List (Addr × Obj)) (s : Shared) (σ : St) (H : Hp) (x y : V) (v u : Value) (Q : VK), Inv X pins σ H s → RelV x v → RelV y u → r x y H Q →
    wpAny (model X.prog X.w) X.A (f v u) (EP X pins σ Q) X.xe s
/-- a one-place operation -/
def UnR (X : Cx) (f : Value → Sem Value) (r : V → Hp → VK → Prop) : Prop :=
  ∀ (pins : List (Addr × Obj)) (s : Shared) (σ : St) (H : Hp) (x : V) (v : Value) (Q : VK), Inv X pins σ H s → RelV x v → r x H Q →
    wpAny (model X.prog X.w) X.A (f v) (EP X pins σ Q) X.xe s
/-- a call of a value that is known (a builtin, a type) with values -/
def CallR (X : Cx) (f : Value) (r : List V → Hp → VK → Prop) : Prop :=
  ∀ (pins : List (Addr × Obj)) (s : Shared) (σ : St) (H : Hp) (xs : List V) (us : List Value) (Q : VK), Inv X pins σ H s → Vals xs us → r xs H Q →
    wpAny (model X.prog X.w) X.A (call f us) (EP X pins σ Q) X.xe s
/-- a value's truth -/
def TruR (X : Cx) (r : V → Hp → (Bool → Hp → Prop) → Prop) : Prop :=
  ∀ (pins : List (Addr × Obj)) (s : Shared) (σ : St) (H : Hp) (x : V) (v : Value) (Q : Bool → Hp → Prop), Inv X pins σ H s → RelV x v → r x H Q →
    wpAny (model X.prog X.w) X.A (truthy v) (TP X pins σ Q) X.xe s

def tOp (r : R2) (ta tb : TE) : TE := fun σ H Q => ta σ H fun x H1 => tb σ H1 fun y H2 => r x y H2 Q
def tUn (r : V → Hp → VK → Prop) (ta : TE) : TE := fun σ H Q => ta σ H fun x H1 => r x H1 Q
/-- ints in, under C, and a value out -/
def rI (C : Int → Int → Prop) (g : Int → Int → V) : R2 := fun x y H Q => ∃ i j, x = .int i ∧ y = .int j ∧ C i j ∧ Q (g i j) H
def rI0 (g : Int → Int → V) : R2 := fun x y H Q => ∃ i j, x = .int i ∧ y = .int j ∧ Q (g i j) H
def rU (g : Int → V) : V → Hp → VK → Prop := fun x H Q => ∃ i, x = .int i ∧ Q (g i) H

section
variable {X : Cx} {a b c : Expr} {ta tb tc : TE} {pos : Pos}

theorem binT (ha : PE X a ta) (hb : PE X b tb) {pins : List (Addr × Obj)} {s : Shared} {σ : St} {H : Hp} {R : V → V → Hp → Prop} (I : Inv X pins σ H s)
    (h : ta σ H fun x H1 => tb σ H1 fun y H2 => R x y H2) {Q : Value → Shared → Prop} {f : Value → Value → Sem Value}
    (hf : ∀ v u s2 x y H2, Inv X pins σ H2 s2 → RelV x v → RelV y u → R x y H2 → wpAny (model X.prog X.w) X.A (f v u) Q X.xe s2) :
    wpAny (model X.prog X.w) X.A (eval a X.env) (fun v s₁ => wpAny (model X.prog X.w) X.A (eval b X.env) (fun u s₂ => wpAny (model X.prog X.w) X.A (f v u) Q X.xe s₂) X.xe s₁) X.xe s := by
  refine thn (ha pins s σ H _ I h) fun v s1 ⟨x, H1, I1, r1, q1⟩ => ?_
  refine thn (hb pins s1 σ H1 _ I1 q1) fun u s2 ⟨y, H2, I2, r2, q2⟩ => ?_
  exact hf v u s2 x y H2 I2 r1 r2 q2

theorem pe_op {op : Operator} {r : R2} (ho : OpR X (binaryOp op) r) (ha : PE X a ta) (hb : PE X b tb) : PE X (.BinOp a op b pos) (tOp r ta tb) := by
  intro pins s σ H Q I h
  exact wpAny_BinOp (binT ha hb I h fun v u s2 x y H2 I2 rx ry q => ho pins s2 σ H2 x y v u Q I2 rx ry q)
theorem pe_un {op : UnaryOp} {r : V → Hp → VK → Prop} (ho : UnR X (unaryOp op) r) (ha : PE X a ta) : PE X (.UnaryOp op a pos) (tUn r ta) := by
  intro pins s σ H Q I h
  exact UnaryOp_ (thn (ha pins s σ H _ I h) fun v s1 ⟨x, H1, I1, r1, q1⟩ => ho pins s1 σ H1 x v Q I1 r1 q1)
/-- a op= e at a name: the name's slot i -/
theorem augR {op : Operator} {r : R2} (ho : OpR X (inplaceOp op) r) {pins : List (Addr × Obj)} {s : Shared} {σ : St} {H : Hp} {x y : V} {v u : Value} {Q : VK} (I : Inv X pins σ H s)
    (rx : RelV x v) (ry : RelV y u) (q : r x y H Q) : wpAny (model X.prog X.w) X.A (inplaceOp op v u) (EP X pins σ Q) X.xe s := ho pins s σ H x y v u Q I rx ry q

/-! ### ints -/
theorem opI {f : Value → Value → Sem Value} {C : Int → Int → Prop} {g : Int → Int → Int}
    (rule : ∀ (i j : Int) (t u : Tok) (s : Shared) (Q : Value → Shared → Prop) (E : Value → Shared → Prop), C i j → Q (.int (g i j) s.toks) { s with toks := s.toks + 1 } → wpAny (model X.prog X.w) X.A (f (.int i t) (.int j u)) Q E s) :
    OpR X f (rI C fun i j => .int (g i j)) := by
  intro pins s σ H x y v u Q I rx ry h
  obtain ⟨i, j, rfl, rfl, hc, q⟩ := h
  obtain ⟨t, rfl⟩ := rx
  obtain ⟨t', rfl⟩ := ry
  exact rule i j t t' s _ _ hc ⟨.int (g i j), H, I.tok _, ⟨_, rfl⟩, q⟩
theorem opI0 {f : Value → Value → Sem Value} {g : Int → Int → Int}
    (rule : ∀ (i j : Int) (t u : Tok) (s : Shared) (Q : Value → Shared → Prop) (E : Value → Shared → Prop), Q (.int (g i j) s.toks) { s with toks := s.toks + 1 } → wpAny (model X.prog X.w) X.A (f (.int i t) (.int j u)) Q E s) :
    OpR X f (rI0 fun i j => .int (g i j)) := by
  intro pins s σ H x y v u Q I rx ry h
  obtain ⟨i, j, rfl, rfl, q⟩ := h
  obtain ⟨t, rfl⟩ := rx
  obtain ⟨t', rfl⟩ := ry
  exact rule i j t t' s _ _ ⟨.int (g i j), H, I.tok _, ⟨_, rfl⟩, q⟩
theorem opB0 {f : Value → Value → Sem Value} {g : Int → Int → Bool}
    (rule : ∀ (i j : Int) (t u : Tok) (s : Shared) (Q : Value → Shared → Prop) (E : Value → Shared → Prop), Q (.bool (g i j)) s → wpAny (model X.prog X.w) X.A (f (.int i t) (.int j u)) Q E s) :
    OpR X f (rI0 fun i j => .bl (g i j)) := by
  intro pins s σ H x y v u Q I rx ry h
  obtain ⟨i, j, rfl, rfl, q⟩ := h
  obtain ⟨t, rfl⟩ := rx
  obtain ⟨t', rfl⟩ := ry
  exact rule i j t t' s _ _ ⟨.bl (g i j), H, I, rfl, q⟩

def CDiv (i j : Int) : Prop := 0 < j ∧ j < 1073741824
def CDivN (i j : Int) : Prop := j ≠ 0 ∧ j.natAbs < 1073741824
def CPow (i j : Int) : Prop := 0 ≤ j ∧ j ≤ 1000000 ∧ i.natAbs < 2 ^ 64
def CMul (i j : Int) : Prop := (-(2 ^ 64) < i ∧ i < 2 ^ 64) ∨ (-(2 ^ 64) < j ∧ j < 2 ^ 64)
theorem CMul.ok {i j : Int} (h : CMul i j) : IntMulOk i j := by
  rcases h with ⟨h1, h2⟩ | ⟨h1, h2⟩
  · exact .of_left (intBits_le_64 h1 h2)
  · exact .of_right (intBits_le_64 h1 h2)
theorem two_pow_nn (k : Nat) : (0 : Int) ≤ 2 ^ k := by
  rw [two_pow_cast]
  exact Int.natCast_nonneg _

theorem op_add : OpR X (binaryOp .Add) (rI0 fun i j => .int (i + j)) := opI0 fun _ _ _ _ _ _ _ q => add_int q
theorem op_sub : OpR X (binaryOp .Sub) (rI0 fun i j => .int (i - j)) := opI0 fun _ _ _ _ _ _ _ q => sub_int q
theorem op_mul : OpR X (binaryOp .Mult) (rI CMul fun i j => .int (i * j)) := opI fun _ _ _ _ _ _ _ hc q => mul_int q hc.ok
/-- // by a positive divisor -/
theorem op_fdiv : OpR X (binaryOp .FloorDiv) (rI CDiv fun i j => .int (i / j)) := opI fun i j _ _ _ _ _ hc q => by
  have h1 : (0 : Int) < j := hc.1
  have h2 : j < 1073741824 := hc.2
  exact floordiv_int (by omega) (by rw [Int.fdiv_eq_ediv_of_nonneg i (by omega)]; exact q) (.inl (PyProof.noPylong_small (by omega)))
theorem op_fdivN : OpR X (binaryOp .FloorDiv) (rI CDivN fun i j => .int (i.fdiv j)) := opI fun _ _ _ _ _ _ _ hc q => floordiv_int hc.1 q (.inl (PyProof.noPylong_small hc.2))
/-- % by a positive divisor of any size -/
theorem op_mod : OpR X (binaryOp .Mod) (rI (fun _ j => 0 < j) fun i j => .int (i % j)) := opI fun i j _ _ _ _ _ hc q => by
  have h1 : (0 : Int) < j := hc
  exact mod_int' (by omega) (by rw [Int.fmod_eq_emod_of_nonneg i (by omega)]; exact q)
theorem op_modN : OpR X (binaryOp .Mod) (rI (fun _ j => j ≠ 0) fun i j => .int (i.fmod j)) := opI fun _ _ _ _ _ _ _ hc q => mod_int' hc q
theorem op_pow : OpR X (binaryOp .Pow) (rI CPow fun i j => .int (i ^ j.toNat)) := opI fun _ _ _ _ _ _ _ hc q => pow_int_small hc.1 hc.2.1 hc.2.2 q
theorem op_shl : OpR X (binaryOp .LShift) (rI CPow fun i j => .int (i * 2 ^ j.toNat)) := opI fun _ _ _ _ _ _ _ hc q => lshift_int_small hc.1 hc.2.1 hc.2.2 q
theorem op_shr : OpR X (binaryOp .RShift) (rI (fun _ j => 0 ≤ j) fun i j => .int (i / 2 ^ j.toNat)) := opI fun i j _ _ _ _ _ hc q =>
  rshift_int hc (by rw [Int.fdiv_eq_ediv_of_nonneg i (two_pow_nn _)]; exact q)
theorem op_and : OpR X (binaryOp .BitAnd) (rI0 fun i j => .int (Builtin.bitAnd i j)) := opI0 fun _ _ _ _ _ _ _ q => and_int q
theorem op_or : OpR X (binaryOp .BitOr) (rI0 fun i j => .int (Builtin.bitOr i j)) := opI0 fun _ _ _ _ _ _ _ q => or_int q
theorem op_xor : OpR X (binaryOp .BitXor) (rI0 fun i j => .int (Builtin.bitXor i j)) := opI0 fun _ _ _ _ _ _ _ q => xor_int q

theorem iop_add : OpR X (inplaceOp .Add) (rI0 fun i j => .int (i + j)) := opI0 fun _ _ _ _ _ _ _ q => iadd_int q
theorem iop_sub : OpR X (inplaceOp .Sub) (rI0 fun i j => .int (i - j)) := opI0 fun _ _ _ _ _ _ _ q => isub_int q
theorem iop_mul : OpR X (inplaceOp .Mult) (rI CMul fun i j => .int (i * j)) := opI fun _ _ _ _ _ _ _ hc q => imul_int q hc.ok
theorem iop_fdiv : OpR X (inplaceOp .FloorDiv) (rI CDiv fun i j => .int (i / j)) := opI fun i j _ _ _ _ _ hc q => by
  have h1 : (0 : Int) < j := hc.1
  have h2 : j < 1073741824 := hc.2
  exact ifloordiv_int (by omega) (by rw [Int.fdiv_eq_ediv_of_nonneg i (by omega)]; exact q) (.inl (PyProof.noPylong_small (by omega)))
theorem iop_mod : OpR X (inplaceOp .Mod) (rI (fun _ j => 0 < j) fun i j => .int (i % j)) := opI fun i j _ _ _ _ _ hc q => by
  have h1 : (0 : Int) < j := hc
  exact imod_int (by omega) (by rw [Int.fmod_eq_emod_of_nonneg i (by omega)]; exact q)
theorem iop_shl : OpR X (inplaceOp .LShift) (rI CPow fun i j => .int (i * 2 ^ j.toNat)) := opI fun _ _ _ _ _ _ _ hc q => ilshift_int_small hc.1 hc.2.1 hc.2.2 q
theorem iop_shr : OpR X (inplaceOp .RShift) (rI (fun _ j => 0 ≤ j) fun i j => .int (i / 2 ^ j.toNat)) := opI fun i j _ _ _ _ _ hc q =>
  irshift_int hc (by rw [Int.fdiv_eq_ediv_of_nonneg i (two_pow_nn _)]; exact q)
theorem iop_and : OpR X (inplaceOp .BitAnd) (rI0 fun i j => .int (Builtin.bitAnd i j)) := opI0 fun _ _ _ _ _ _ _ q => iand_int q
theorem iop_or : OpR X (inplaceOp .BitOr) (rI0 fun i j => .int (Builtin.bitOr i j)) := opI0 fun _ _ _ _ _ _ _ q => ior_int q
theorem iop_xor : OpR X (inplaceOp .BitXor) (rI0 fun i j => .int (Builtin.bitXor i j)) := opI0 fun _ _ _ _ _ _ _ q => ixor_int q

theorem unI {f : Value → Sem Value} {g : Int → Int}
    (rule : ∀ (i : Int) (t : Tok) (s : Shared) (Q : Value → Shared → Prop) (E : Value → Shared → Prop), Q (.int (g i) s.toks) { s with toks := s.toks + 1 } → wpAny (model X.prog X.w) X.A (f (.int i t)) Q E s) :
    UnR X f (rU fun i => .int (g i)) := by
  intro pins s σ H x v Q I rx h
  obtain ⟨i, rfl, q⟩ := h
  obtain ⟨t, rfl⟩ := rx
  exact rule i t s _ _ ⟨.int (g i), H, I.tok _, ⟨_, rfl⟩, q⟩
theorem un_neg : UnR X (unaryOp .USub) (rU fun i => .int (-i)) := unI fun _ _ _ _ _ q => neg_int q
theorem un_inv : UnR X (unaryOp .Invert) (rU fun i => .int (Builtin.bitNot i)) := unI fun _ _ _ _ _ q => invert_int q

/-! ### bools among ints: n += (a < b) -/
theorem op_add_ib : OpR X (binaryOp .Add) (fun x y H Q => ∃ i k, x = .int i ∧ y = .bl k ∧ Q (.int (i + b2i k)) H) := by
  intro pins s σ H x y v u Q I rx ry h
  obtain ⟨i, k, rfl, rfl, q⟩ := h
  obtain ⟨t, rfl⟩ := rx
  cases ry
  exact add_int_bool ⟨.int (i + b2i k), H, I.tok _, ⟨_, rfl⟩, q⟩
end

/-! ### comparisons -/
/-- the scalars that == tells apart as data does -/
def scal : V → V → Bool
  | .non, .non => true | .non, .int _ => true | .int _, .non => true | .non, .bl _ => true | .bl _, .non => true | .non, .str _ => true | .str _, .non => true
  | .int _, .int _ => true | .bl _, .bl _ => true | .str _, .str _ => true | .byt _, .byt _ => true
  | .int _, .str _ => true | .str _, .int _ => true | .bl _, .str _ => true | .str _, .bl _ => true
  | _, _ => false
def rEq : R2 := fun x y H Q => scal x y = true ∧ Q (.bl (decide (x = y))) H
def rNe : R2 := fun x y H Q => scal x y = true ∧ Q (.bl (!decide (x = y))) H

theorem dec_int {i j : Int} : decide (V.int i = V.int j) = (i == j) := by
  rw [Bool.eq_iff_iff]
  simp
theorem dec_bl {i j : Bool} : decide (V.bl i = V.bl j) = (i == j) := by
  rw [Bool.eq_iff_iff]
  simp
theorem dec_str {i j : Str} : decide (V.str i = V.str j) = (i == j) := by
  rw [Bool.eq_iff_iff]
  simp
theorem dec_byt {i j : Array UInt8} : decide (V.byt i = V.byt j) = (i.toList == j.toList) := by
  rw [Bool.eq_iff_iff]
  cases i
  cases j
  simp

section
variable {X : Cx} {a b c : Expr} {ta tb tc : TE} {pos : Pos}
theorem fin_bl {pins : List (Addr × Obj)} {σ : St} {H : Hp} {s : Shared} {Q : VK} {k k' : Bool} (I : Inv X pins σ H s) (q : Q (.bl k) H) (e : k = k') : EP X pins σ Q (.bool k') s := by
  subst e
  exact ⟨.bl k, H, I, rfl, q⟩
theorem op_eq : OpR X (compareOp .Eq) rEq := by
  intro pins s σ H x y v u Q I rx ry h
  obtain ⟨hs, q⟩ := h
  cases x with
  | non =>
    cases rx
    cases y with
    | non => cases ry; exact PySem.EqNone.eq_none_none (fin_bl I q (by simp))
    | bl j => cases ry; exact PySem.EqNone.eq_none_bool (fin_bl I q (by simp))
    | int j => obtain ⟨t', rfl⟩ := ry; exact PySem.EqNone.eq_none_int (fin_bl I q (by simp))
    | str j => obtain ⟨t', rfl⟩ := ry; exact PySem.EqNone.eq_none_str (fin_bl I q (by simp))
    | _ => exact absurd (show false = true from hs) Bool.false_ne_true
  | bl i =>
    cases rx
    cases y with
    | non => cases ry; exact PySem.EqNone.eq_bool_none (fin_bl I q (by simp))
    | bl j => cases ry; exact eq_bool (fin_bl I q dec_bl)
    | str j => obtain ⟨t', rfl⟩ := ry; exact PySem.EqMixed.eq_bool_str (fin_bl I q (by simp))
    | _ => exact absurd (show false = true from hs) Bool.false_ne_true
  | int i =>
    obtain ⟨t, rfl⟩ := rx
    cases y with
    | non => cases ry; exact PySem.EqNone.eq_int_none (fin_bl I q (by simp))
    | int j => obtain ⟨t', rfl⟩ := ry; exact eq_int (fin_bl I q dec_int)
    | str j => obtain ⟨t', rfl⟩ := ry; exact PySem.EqMixed.eq_int_str (fin_bl I q (by simp))
    | _ => exact absurd (show false = true from hs) Bool.false_ne_true
  | str i =>
    obtain ⟨t, rfl⟩ := rx
    cases y with
    | non => cases ry; exact PySem.EqNone.eq_str_none (fin_bl I q (by simp))
    | bl j => cases ry; exact PySem.EqMixed.eq_str_bool (fin_bl I q (by simp))
    | int j => obtain ⟨t', rfl⟩ := ry; exact PySem.EqMixed.eq_str_int (fin_bl I q (by simp))
    | str j => obtain ⟨t', rfl⟩ := ry; exact eq_str (fin_bl I q dec_str)
    | _ => exact absurd (show false = true from hs) Bool.false_ne_true
  | byt i =>
    obtain ⟨t, rfl⟩ := rx
    cases y with
    | byt j => obtain ⟨t', rfl⟩ := ry; exact PySem.W.eq_bytes (fin_bl I q dec_byt)
    | _ => exact absurd (show false = true from hs) Bool.false_ne_true
  | _ => cases y <;> exact absurd (show false = true from hs) Bool.false_ne_true
theorem op_ne : OpR X (compareOp .NotEq) rNe := by
  intro pins s σ H x y v u Q I rx ry h
  obtain ⟨hs, q⟩ := h
  cases x with
  | non =>
    cases rx
    cases y with
    | non => cases ry; exact PySem.EqNone.ne_none_none (fin_bl I q (by simp))
    | bl j => cases ry; exact PySem.EqNone.ne_none_bool (fin_bl I q (by simp))
    | int j => obtain ⟨t', rfl⟩ := ry; exact PySem.EqNone.ne_none_int (fin_bl I q (by simp))
    | str j => obtain ⟨t', rfl⟩ := ry; exact PySem.EqNone.ne_none_str (fin_bl I q (by simp))
    | _ => exact absurd (show false = true from hs) Bool.false_ne_true
  | bl i =>
    cases rx
    cases y with
    | non => cases ry; exact PySem.EqNone.ne_bool_none (fin_bl I q (by simp))
    | bl j => cases ry; exact ne_bool (fin_bl I q (congrArg not dec_bl))
    | str j => obtain ⟨t', rfl⟩ := ry; exact PySem.EqMixed.ne_bool_str (fin_bl I q (by simp))
    | _ => exact absurd (show false = true from hs) Bool.false_ne_true
  | int i =>
    obtain ⟨t, rfl⟩ := rx
    cases y with
    | non => cases ry; exact PySem.EqNone.ne_int_none (fin_bl I q (by simp))
    | int j => obtain ⟨t', rfl⟩ := ry; exact ne_int (fin_bl I q (congrArg not dec_int))
    | str j => obtain ⟨t', rfl⟩ := ry; exact PySem.EqMixed.ne_int_str (fin_bl I q (by simp))
    | _ => exact absurd (show false = true from hs) Bool.false_ne_true
  | str i =>
    obtain ⟨t, rfl⟩ := rx
    cases y with
    | non => cases ry; exact PySem.EqNone.ne_str_none (fin_bl I q (by simp))
    | bl j => cases ry; exact PySem.EqMixed.ne_str_bool (fin_bl I q (by simp))
    | int j => obtain ⟨t', rfl⟩ := ry; exact PySem.EqMixed.ne_str_int (fin_bl I q (by simp))
    | str j => obtain ⟨t', rfl⟩ := ry; exact ne_str (fin_bl I q (congrArg not dec_str))
    | _ => exact absurd (show false = true from hs) Bool.false_ne_true
  | byt i =>
    obtain ⟨t, rfl⟩ := rx
    cases y with
    | byt j => obtain ⟨t', rfl⟩ := ry; exact PySem.W.ne_bytes (fin_bl I q (congrArg not dec_byt))
    | _ => exact absurd (show false = true from hs) Bool.false_ne_true
  | _ => cases y <;> exact absurd (show false = true from hs) Bool.false_ne_true

theorem op_lt : OpR X (compareOp .Lt) (rI0 fun i j => .bl (decide (i < j))) := opB0 fun _ _ _ _ _ _ _ q => lt_int q
theorem op_le : OpR X (compareOp .LtE) (rI0 fun i j => .bl (decide (i ≤ j))) := opB0 fun _ _ _ _ _ _ _ q => le_int q
theorem op_gt : OpR X (compareOp .Gt) (rI0 fun i j => .bl (decide (j < i))) := opB0 fun _ _ _ _ _ _ _ q => gt_int q
theorem op_ge : OpR X (compareOp .GtE) (rI0 fun i j => .bl (decide (j ≤ i))) := opB0 fun _ _ _ _ _ _ _ q => ge_int q
theorem op_lt_str : OpR X (compareOp .Lt) (fun x y H Q => ∃ i j, x = .str i ∧ y = .str j ∧ Q (.bl (decide (i.cps.toList < j.cps.toList))) H) := by
  intro pins s σ H x y v u Q I rx ry h
  obtain ⟨i, j, rfl, rfl, q⟩ := h
  obtain ⟨t, rfl⟩ := rx
  obtain ⟨t', rfl⟩ := ry
  exact lt_str (fin_bl I q rfl)
/-- the one string within the other -/
theorem op_in_str : OpR X (compareOp .In) (fun x y H Q => ∃ i j, x = .str i ∧ y = .str j ∧ Q (.bl (!(Builtin.Str.occurrences j i 0 j.length 1).isEmpty)) H) := by
  intro pins s σ H x y v u Q I rx ry h
  obtain ⟨i, j, rfl, rfl, q⟩ := h
  obtain ⟨t, rfl⟩ := rx
  obtain ⟨t', rfl⟩ := ry
  exact in_str (fin_bl I q rfl)

/-- is None, is not None: the right side a value none -/
theorem op_isN : OpR X (compareOp .Is) (fun x y H Q => y = .non ∧ Q (.bl (decide (x = .non))) H) := by
  intro pins s σ H x y v u Q I rx ry h
  obtain ⟨rfl, q⟩ := h
  cases ry
  refine is_none_gen (fin_bl I q ?_)
  cases x <;> first
    | (cases rx; rfl)
    | (obtain ⟨t, rfl⟩ := rx; rfl)
theorem op_notN : OpR X (compareOp .IsNot) (fun x y H Q => y = .non ∧ Q (.bl (!decide (x = .non))) H) := by
  intro pins s σ H x y v u Q I rx ry h
  obtain ⟨rfl, q⟩ := h
  cases ry
  refine isnot_none_gen (fin_bl I q ?_)
  cases x <;> first
    | (cases rx; rfl)
    | (obtain ⟨t, rfl⟩ := rx; rfl)

theorem op_notin_str : OpR X (compareOp .NotIn) (fun x y H Q => ∃ i j, x = .str i ∧ y = .str j ∧ Q (.bl (!(!(Builtin.Str.occurrences j i 0 j.length 1).isEmpty))) H) := by
  intro pins s σ H x y v u Q I rx ry h
  obtain ⟨i, j, rfl, rfl, q⟩ := h
  obtain ⟨t, rfl⟩ := rx
  obtain ⟨t', rfl⟩ := ry
  exact notIn_str (fin_bl I q rfl)
/-- is, is not of two objects that are tracked lists or instances -/
def isObj : HO → Bool
  | .lst _ => true
  | .ins _ _ _ => true
  | _ => false
theorem obj_there {pins : List (Addr × Obj)} {s : Shared} {σ : St} {H : Hp} {a : Addr} {o : HO} (I : Inv X pins σ H s) (h : H a = some o) (p : isObj o = true) : ∃ ob, s.heap.get? a = some ob ∧ ob.cls ≠ .type "tuple" := by
  cases o with
  | lst xs =>
    obtain ⟨_, its, n, _, e⟩ : xs.length ≤ sizeLine ∧ ∃ (its : List Value) (n : Nat), Vals xs its ∧ s.heap.get? a = some { cls := .type "list", data := .seq its.toArray n } := I.hok a _ h
    exact ⟨_, e, (by show Value.type "list" ≠ .type "tuple"; decide +kernel)⟩
  | ins C dx fs =>
    have x := I.hok a _ h
    obtain ⟨_, _, _, e, _⟩ := x
    exact ⟨_, e, (by show Value.ref C ≠ .type "tuple"; exact fun z => by cases z)⟩
  | _ => exact absurd (show false = true from p) Bool.false_ne_true
theorem op_is_ref : OpR X (compareOp .Is) (fun x y H Q => ∃ a b oa ob, x = .ref a ∧ y = .ref b ∧ H a = some oa ∧ isObj oa = true ∧ H b = some ob ∧ isObj ob = true ∧ Q (.bl (decide (a = b))) H) := by
  intro pins s σ H x y v u Q I rx ry h
  obtain ⟨a, b, oa, ob, rfl, rfl, ha, pa, hb, pb, q⟩ := h
  cases rx
  cases ry
  obtain ⟨o1, e1, n1⟩ := obj_there I ha pa
  obtain ⟨o2, e2, _⟩ := obj_there I hb pb
  by_cases z : a = b
  · subst z
    exact wpAny_is_ref_self (fin_bl I q (by simp))
  · exact wpAny_is_ref_other z e1 e2 n1 (fin_bl I q (by simp [z]))
theorem op_isnot_ref : OpR X (compareOp .IsNot) (fun x y H Q => ∃ a b oa ob, x = .ref a ∧ y = .ref b ∧ H a = some oa ∧ isObj oa = true ∧ H b = some ob ∧ isObj ob = true ∧ Q (.bl (!decide (a = b))) H) := by
  intro pins s σ H x y v u Q I rx ry h
  obtain ⟨a, b, oa, ob, rfl, rfl, ha, pa, hb, pb, q⟩ := h
  cases rx
  cases ry
  obtain ⟨o1, e1, n1⟩ := obj_there I ha pa
  obtain ⟨o2, e2, _⟩ := obj_there I hb pb
  by_cases z : a = b
  · subst z
    exact wpAny_isNot_ref_self (fin_bl I q (by simp))
  · exact wpAny_isNot_ref_other z e1 e2 n1 (fin_bl I q (by simp [z]))

/-- two rules for one operation: by cases -/
theorem OpR.or {f : Value → Value → Sem Value} {r r' : R2} (h : OpR X f r) (h' : OpR X f r') : OpR X f (fun x y H Q => r x y H Q ∨ r' x y H Q) := by
  intro pins s σ H x y v u Q I rx ry q
  rcases q with q | q
  · exact h pins s σ H x y v u Q I rx ry q
  · exact h' pins s σ H x y v u Q I rx ry q

theorem nomark (b : Expr) {op : CmpOp} (h : op ≠ .In := by decide) (h2 : op ≠ .NotIn := by decide) : behindInMarks op b = false := by
  have e1 : (op == CmpOp.In) = false := by cases op <;> first | rfl | exact absurd rfl h
  have e2 : (op == CmpOp.NotIn) = false := by cases op <;> first | rfl | exact absurd rfl h2
  cases b <;> simp [behindInMarks, e1, e2]
/-- a comparison as a value; hm: nomark b, or (for in, not in) by with_unfolding_all rfl -/
theorem pe_cmpR {op : CmpOp} {r : R2} (ho : OpR X (compareOp op) r) (ha : PE X a ta) (hb : PE X b tb) (hm : behindInMarks op b = false) : PE X (.Compare a [op] [b] pos) (tOp r ta tb) := by
  intro pins s σ H Q I h
  exact wpAny_Compare1 (binT ha hb I h fun v u s2 x y H2 I2 rx ry q => ho pins s2 σ H2 x y v u Q I2 rx ry q) hm
/-- a reading of a value as a test -/
def tTest (t : TE) : TT := fun σ H Q => t σ H fun x H' => ∃ k, x = .bl k ∧ Q k H'
theorem pt_cmpR {op : CmpOp} {r : R2} (ho : OpR X (compareOp op) r) (ha : PE X a ta) (hb : PE X b tb) (hm : behindInMarks op b = false) : PT X (.Compare a [op] [b] pos) (tTest (tOp r ta tb)) := by
  intro pins s σ H Q I h
  refine wpAny_isTrue_Compare1 (thn (ha pins s σ H _ I h) fun v s1 ⟨x, H1, I1, r1, q1⟩ => thn (hb pins s1 σ H1 _ I1 q1) fun u s2 ⟨y, H2, I2, r2, q2⟩ =>
    thn (ho pins s2 σ H2 x y v u _ I2 r1 r2 q2) fun c s3 ⟨z, H3, I3, r3, k, e, q3⟩ => ?_) hm
  subst e
  cases r3
  exact wpAny_truthy_bool ⟨H3, I3, q3⟩
/-- a op1 b op2 c -/
def tChain (r r' : R2) (ta tb tc : TE) : TE := fun σ H Q => ta σ H fun x H1 => tb σ H1 fun y H2 => r x y H2 fun z H3 => ∃ k, z = .bl k ∧
  (if k = true then tc σ H3 fun w' H4 => r' y w' H4 Q else Q (.bl false) H3)
theorem pe_chain {op op' : CmpOp} {r r' : R2} (ho : OpR X (compareOp op) r) (ho' : OpR X (compareOp op') r') (ha : PE X a ta) (hb : PE X b tb) (hc : PE X c tc)
    (hm : lastMarks [op, op'] [b, c] = false := by with_unfolding_all rfl) : PE X (.Compare a [op, op'] [b, c] pos) (tChain r r' ta tb tc) := by
  intro pins s σ H Q I h
  refine Compare_chain (thn (ha pins s σ H _ I h) fun v s1 ⟨x, H1, I1, r1, q1⟩ => chain_link (thn (hb pins s1 σ H1 _ I1 q1) fun u s2 ⟨y, H2, I2, r2, q2⟩ =>
    thn (ho pins s2 σ H2 x y v u _ I2 r1 r2 q2) fun d s3 ⟨z, H3, I3, r3, k, e, q3⟩ => ?_)) hm
  subst e
  cases r3
  refine wpAny_truthy_bool ?_
  cases k with
  | false => exact ite_ff ⟨.bl false, H3, I3, rfl, q3⟩
  | true => exact ite_tt (chain_last (thn (hc pins s3 σ H3 _ I3 q3) fun w' s4 ⟨z', H4, I4, r4, q4⟩ => ho' pins s4 σ H4 y z' u w' Q I4 r2 r4 q4))
theorem pt_chain {op op' : CmpOp} {r r' : R2} (ho : OpR X (compareOp op) r) (ho' : OpR X (compareOp op') r') (ha : PE X a ta) (hb : PE X b tb) (hc : PE X c tc)
    (hm : lastMarks [op, op'] [b, c] = false := by with_unfolding_all rfl) : PT X (.Compare a [op, op'] [b, c] pos) (tTest (tChain r r' ta tb tc)) := by
  intro pins s σ H Q I h
  refine isTrue_chain (thn (ha pins s σ H _ I h) fun v s1 ⟨x, H1, I1, r1, q1⟩ => test_link (thn (hb pins s1 σ H1 _ I1 q1) fun u s2 ⟨y, H2, I2, r2, q2⟩ =>
    thn (ho pins s2 σ H2 x y v u _ I2 r1 r2 q2) fun d s3 ⟨z, H3, I3, r3, k, e, q3⟩ => ?_)) hm
  subst e
  cases r3
  refine wpAny_truthy_bool ?_
  cases k with
  | false =>
    obtain ⟨k', e', q'⟩ := q3
    cases e'
    exact ite_ff ⟨H3, I3, q'⟩
  | true =>
    refine ite_tt (test_last (thn (hc pins s3 σ H3 _ I3 q3) fun w' s4 ⟨z', H4, I4, r4, q4⟩ => thn (ho' pins s4 σ H4 y z' u w' _ I4 r2 r4 q4) fun d' s5 ⟨z2, H5, I5, r5, k2, e2, q5⟩ => ?_))
    subst e2
    cases r5
    exact wpAny_truthy_bool ⟨H5, I5, q5⟩

/-! ### truth -/
/-- a value's truth by the abstract heap -/
def TruV (K : PySem.W.Frag) (x : V) (H : Hp) (k : Bool) : Prop :=
  match x with
  | .non => k = false
  | .bl b => k = b
  | .int i => k = (i != 0)
  | .str y => y.length ≤ sizeLine ∧ k = ((y.length : Int) != 0)
  | .byt y => y.size ≤ sizeLine ∧ k = ((y.size : Int) != 0)
  | .ref p => (∃ xs, SqL K H p xs ∧ k = !xs.isEmpty) ∨ (∃ xs, SqT K H p xs ∧ k = !xs.isEmpty) ∨ ∃ kvs, H p = some (.dK kvs) ∧ k = !kvs.isEmpty
  | _ => False
theorem isEmpty_kv {κ : Type} {kvs : List (κ × V)} {vs : List (κ × Value)} (r : KV kvs vs) : (!vs.isEmpty) = !kvs.isEmpty := by
  cases r <;> rfl
theorem isEmpty_of {xs : List V} {its : List Value} (r : Vals xs its) : (!its.toArray.isEmpty) = !xs.isEmpty := by
  cases r <;> simp
theorem line63 : (sizeLine : Nat) < 2 ^ 63 := by rw [sizeLine_eq]; decide
theorem tru_ok : TruR X (fun x H Q => ∃ k, TruV X.K x H k ∧ Q k H) := by
  intro pins s σ H x v Q I rx h
  obtain ⟨k, e, q⟩ := h
  have hl := line63
  have hs : sizeLine = 16777216 := sizeLine_eq
  cases x with
  | non =>
    cases rx
    have e' : k = false := e
    subst e'
    exact truthy_none ⟨H, I, q⟩
  | bl b =>
    cases rx
    have e' : k = b := e
    subst e'
    exact wpAny_truthy_bool ⟨H, I, q⟩
  | int i =>
    obtain ⟨t, rfl⟩ := rx
    have e' : k = (i != 0) := e
    subst e'
    exact PySem.P.truthy_int ⟨H, I, q⟩
  | str y =>
    obtain ⟨t, rfl⟩ := rx
    obtain ⟨hy, e'⟩ : y.length ≤ sizeLine ∧ k = ((y.length : Int) != 0) := e
    subst e'
    exact PySem.P.truthy_str (by omega) ⟨H, I.tok _, q⟩
  | byt y =>
    obtain ⟨t, rfl⟩ := rx
    obtain ⟨hy, e'⟩ : y.size ≤ sizeLine ∧ k = ((y.size : Int) != 0) := e
    subst e'
    exact PySem.W.truthy_bytes (by omega) ⟨H, I.tok _, q⟩
  | ref p =>
    cases rx
    have e' : (∃ xs, SqL X.K H p xs ∧ k = !xs.isEmpty) ∨ (∃ xs, SqT X.K H p xs ∧ k = !xs.isEmpty) ∨ ∃ kvs, H p = some (.dK kvs) ∧ k = !kvs.isEmpty := e
    rcases e' with ⟨xs, hx, e'⟩ | ⟨xs, hx, e'⟩ | ⟨kvs, hx, e'⟩
    · subst e'
      obtain ⟨its, r, pl, hz⟩ := I.list hx
      have hlen := r.length
      exact wpAny_truthy_list pl.isList (by simp only [List.size_toArray]; omega) ⟨H, I.tok _, by rw [isEmpty_of r]; exact q⟩
    · subst e'
      obtain ⟨its, r, pl, hz⟩ := I.tuple hx
      have hlen := r.length
      exact truthy_tuple pl (by simp only [List.size_toArray]; omega) ⟨H, I.tok _, by rw [isEmpty_of r]; exact q⟩
    · subst e'
      obtain ⟨hz, hS, vs, r, m⟩ : kvs.length ≤ sizeLine ∧ (p == sysModules) = false ∧ ∃ vs, KV kvs vs ∧ s.heap.DictOf (mixKind X.prog X.w) p vs := I.hok p _ hx
      have hlen : kvs.length = vs.length := Paired.length r
      exact wpAny_truthy_dict hS m (by omega) ⟨H, I.tok _, by rw [isEmpty_kv r]; exact q⟩
  | _ => exact (show False from e).elim
/-- any expression whose test is its value's truth (a name, a call, a subscript, a field ..: he by fun _ => rfl) -/
theorem pt_truth (ha : PE X a ta) (he : ∀ whole, isTrue a X.env whole = (do let v ← whole; standAt a.pos; holding [v] (truthy v))) :
    PT X a (fun σ H Q => ta σ H fun x H' => ∃ k, TruV X.K x H' k ∧ Q k H') := by
  intro pins s σ H Q I h
  exact isTrue_plain (thn (ha pins s σ H _ I h) fun v s1 ⟨x, H1, I1, r1, q1⟩ => tru_ok pins s1 σ H1 x v Q I1 r1 q1) (he _)

/-! ### strs and bytes -/
theorem pe_byt {x : List UInt8} {k : Nat} : PE X (.Constant (.bytes x) k pos) (fun _ H Q => Q (.byt x.toArray) H) := fun _ _ _ H _ I h => PySem.W.Constant_bytes ⟨.byt x.toArray, H, I.tok _, ⟨_, rfl⟩, h⟩
theorem op_add_str : OpR X (binaryOp .Add) (fun x y H Q => ∃ i j, x = .str i ∧ y = .str j ∧ i.length + j.length ≤ sizeLine ∧ Q (.str (i ++ j)) H) := by
  intro pins s σ H x y v u Q I rx ry h
  obtain ⟨i, j, rfl, rfl, hz, q⟩ := h
  obtain ⟨t, rfl⟩ := rx
  obtain ⟨t', rfl⟩ := ry
  exact add_str (fun t' tk => ⟨.str (i ++ j), H, I.tok _, ⟨_, rfl⟩, q⟩) hz
theorem iop_add_str : OpR X (inplaceOp .Add) (fun x y H Q => ∃ i j, x = .str i ∧ y = .str j ∧ i.length + j.length ≤ sizeLine ∧ Q (.str (i ++ j)) H) := by
  intro pins s σ H x y v u Q I rx ry h
  obtain ⟨i, j, rfl, rfl, hz, q⟩ := h
  obtain ⟨t, rfl⟩ := rx
  obtain ⟨t', rfl⟩ := ry
  exact iadd_str (fun t' tk => ⟨.str (i ++ j), H, I.tok _, ⟨_, rfl⟩, q⟩) hz
theorem op_add_byt : OpR X (binaryOp .Add) (fun x y H Q => ∃ i j, x = .byt i ∧ y = .byt j ∧ i.size + j.size ≤ 16777216 ∧ Q (.byt (i ++ j)) H) := by
  intro pins s σ H x y v u Q I rx ry h
  obtain ⟨i, j, rfl, rfl, hz, q⟩ := h
  obtain ⟨t, rfl⟩ := rx
  obtain ⟨t', rfl⟩ := ry
  exact PySem.W.KBy.add_bytes hz (fun t' tk => ⟨.byt (i ++ j), H, I.tok _, ⟨_, rfl⟩, q⟩)

def PlainIxT (b : Expr) : Prop := ∀ o i, subscripted b false o i = operate [o, i] (getItem o i)
/-- s[i], 0 ≤ i < len -/
theorem pe_item_str (ha : PE X a ta) (hb : PE X b tb) (hs : PlainIxT b) :
    PE X (.Subscript a b pos) (tOp (fun x y H Q => ∃ z i c, x = .str z ∧ y = .int i ∧ 0 ≤ i ∧ i < 2 ^ 63 ∧ i < z.length ∧ z.cps[i.toNat]? = some c ∧ Q (.str ⟨#[c]⟩) H) ta tb) := by
  intro pins s σ H Q I h
  refine Subscript_ (binT ha hb I h fun v u s2 x y H2 I2 rx ry q => ?_)
  obtain ⟨z, i, c, rfl, rfl, h0, h63, h1, hc, q⟩ := q
  obtain ⟨t, rfl⟩ := rx
  obtain ⟨t', rfl⟩ := ry
  have e : seqIndex? i z.length = some i.toNat := PySem.StrLaws.seqIndex_nonneg h0 h1
  exact tail_any (typeIs_str s2 z t) slot_str_getitem.lookup (getItem_str (c := c) (by
    have e1 : decide (i < -(2 ^ 63 : Int)) = false := decide_eq_false (by omega)
    have e2 : decide (i ≥ 2 ^ 63) = false := decide_eq_false (by omega)
    rw [e1, e2] <;> rfl) (by rw [e]; exact hc) ⟨.str ⟨#[c]⟩, H2, I2.tok _, ⟨_, rfl⟩, q⟩) (hs _ _)
/-- b[i], 0 ≤ i < len -/
theorem pe_item_byt (ha : PE X a ta) (hb : PE X b tb) (hs : PlainIxT b) :
    PE X (.Subscript a b pos) (tOp (fun x y H Q => ∃ (z : List UInt8) (i : Int), x = .byt z.toArray ∧ y = .int i ∧ z.length ≤ sizeLine ∧ 0 ≤ i ∧ i < z.length ∧ Q (.int ((z.getD i.toNat 0).toNat : Nat)) H) ta tb) := by
  intro pins s σ H Q I h
  refine Subscript_ (binT ha hb I h fun v u s2 x y H2 I2 rx ry q => ?_)
  obtain ⟨z, i, rfl, rfl, hz, h0, h1, q⟩ := q
  obtain ⟨t, rfl⟩ := rx
  obtain ⟨t', rfl⟩ := ry
  have hl : sizeLine = 16777216 := sizeLine_eq
  exact tail_any (PySem.W.typeIs_bytes s2 z.toArray t) PySem.W.FB.slot_bytes_getitem.lookup (PySem.W.getItem_bytes (by omega) h0 h1 ⟨.int ((z.getD i.toNat 0).toNat : Nat), H2, I2.tok _, ⟨_, rfl⟩, q⟩) (hs _ _)

/-! ### scalar builtins, by CallR -/
theorem vals1 {x : V} {us : List Value} (r : Vals [x] us) : ∃ u, us = [u] ∧ RelV x u := by
  cases r with
  | cons r1 r2 => cases r2; exact ⟨_, rfl, r1⟩
theorem vals2 {x y : V} {us : List Value} (r : Vals [x, y] us) : ∃ u w', us = [u, w'] ∧ RelV x u ∧ RelV y w' := by
  cases r with
  | cons r1 r2 =>
    cases r2 with
    | cons r3 r4 => cases r4; exact ⟨_, _, rfl, r1, r3⟩
theorem call_abs : CallR X (.builtin "abs") (fun xs H Q => ∃ i, xs = [.int i] ∧ Q (.int (if i < 0 then -i else i)) H) := by
  intro pins s σ H xs us Q I r h
  obtain ⟨i, rfl, q⟩ := h
  obtain ⟨u, rfl, t, rfl⟩ := vals1 r
  exact call_abs_int fun u tk => ⟨.int (if i < 0 then -i else i), H, I.tok _, ⟨_, rfl⟩, q⟩
theorem call_max2 (hc : X.calm = true) : CallR X (.builtin "max") (fun xs H Q => ∃ i j, xs = [.int i, .int j] ∧ Q (.int (if j > i then j else i)) H) := by
  intro pins s σ H xs us Q I r h
  obtain ⟨i, j, rfl, q⟩ := h
  obtain ⟨u, w', rfl, ⟨t, rfl⟩, ⟨t', rfl⟩⟩ := vals2 r
  refine max_two_ints (I.ok.hd hc) fun h' tk k => ⟨_, H, I.kept k, ?_, q⟩
  by_cases hj : j > i
  · rw [if_pos hj, if_pos hj]; exact ⟨_, rfl⟩
  · rw [if_neg hj, if_neg hj]; exact ⟨_, rfl⟩
theorem call_min2 (hc : X.calm = true) : CallR X (.builtin "min") (fun xs H Q => ∃ i j, xs = [.int i, .int j] ∧ Q (.int (if j < i then j else i)) H) := by
  intro pins s σ H xs us Q I r h
  obtain ⟨i, j, rfl, q⟩ := h
  obtain ⟨u, w', rfl, ⟨t, rfl⟩, ⟨t', rfl⟩⟩ := vals2 r
  refine min_two_ints (I.ok.hd hc) fun h' tk k => ⟨_, H, I.kept k, ?_, q⟩
  by_cases hj : j < i
  · rw [if_pos hj, if_pos hj]; exact ⟨_, rfl⟩
  · rw [if_neg hj, if_neg hj]; exact ⟨_, rfl⟩
theorem call_int1 : CallR X (.type "int") (fun xs H Q => (∃ i, xs = [.int i] ∧ Q (.int i) H) ∨ ∃ k, xs = [.bl k] ∧ Q (.int (if k then 1 else 0)) H) := by
  intro pins s σ H xs us Q I r h
  rcases h with ⟨i, rfl, q⟩ | ⟨k, rfl, q⟩
  · obtain ⟨u, rfl, t, rfl⟩ := vals1 r
    exact call_int_int ⟨.int i, H, I, ⟨_, rfl⟩, q⟩
  · obtain ⟨u, rfl, r1⟩ := vals1 r
    cases r1
    exact call_int_bool ⟨.int (if k then 1 else 0), H, I.tok _, ⟨_, rfl⟩, q⟩
theorem call_bool1 : CallR X (.type "bool") (fun xs H Q => (∃ i, xs = [.int i] ∧ Q (.bl (i != 0)) H) ∨ ∃ k, xs = [.bl k] ∧ Q (.bl k) H) := by
  intro pins s σ H xs us Q I r h
  rcases h with ⟨i, rfl, q⟩ | ⟨k, rfl, q⟩
  · obtain ⟨u, rfl, t, rfl⟩ := vals1 r
    exact call_bool_int ⟨.bl (i != 0), H, I, rfl, q⟩
  · obtain ⟨u, rfl, r1⟩ := vals1 r
    cases r1
    exact call_bool_bool ⟨.bl k, H, I, rfl, q⟩
theorem call_str_int : CallR X (.type "str") (fun xs H Q => ∃ i, xs = [.int i] ∧ i.natAbs.log2 < 1920 ∧ Q (.str (toString i)) H) := by
  intro pins s σ H xs us Q I r h
  obtain ⟨i, rfl, hz, q⟩ := h
  obtain ⟨u, rfl, t, rfl⟩ := vals1 r
  exact PySem.P.str_of_int hz ⟨.str _, H, I.tok _, ⟨_, rfl⟩, q⟩
theorem call_ord : CallR X (.builtin "ord") (fun xs H Q => ∃ x, xs = [.str x] ∧ x.length = 1 ∧ Q (.int (x.cps.getD 0 0 : Nat)) H) := by
  intro pins s σ H xs us Q I r h
  obtain ⟨x, rfl, hz, q⟩ := h
  obtain ⟨u, rfl, t, rfl⟩ := vals1 r
  exact ord_of_one hz ⟨.int _, H, I.tok _, ⟨_, rfl⟩, q⟩
theorem call_chr : CallR X (.builtin "chr") (fun xs H Q => ∃ i, xs = [.int i] ∧ 0 ≤ i ∧ i ≤ 1114111 ∧ Q (.str ⟨#[i.toNat]⟩) H) := by
  intro pins s σ H xs us Q I r h
  obtain ⟨i, rfl, h0, h1, q⟩ := h
  obtain ⟨u, rfl, t, rfl⟩ := vals1 r
  exact chr_of_range h0 h1 ⟨.str _, H, I.tok _, ⟨_, rfl⟩, q⟩
/-- len of a str, a bytes, a list, a tuple -/
def LenV (K : PySem.W.Frag) (x : V) (H : Hp) (n : Nat) : Prop :=
  match x with
  | .str y => y.length ≤ sizeLine ∧ n = y.length
  | .byt y => y.size ≤ sizeLine ∧ n = y.size
  | .ref p => (∃ xs, SqL K H p xs ∧ n = xs.length) ∨ ∃ xs, SqT K H p xs ∧ n = xs.length
  | _ => False
theorem call_len : CallR X (.builtin "len") (fun xs H Q => ∃ x n, xs = [x] ∧ LenV X.K x H n ∧ Q (.int n) H) := by
  intro pins s σ H xs us Q I r h
  obtain ⟨x, n, rfl, e, q⟩ := h
  obtain ⟨u, rfl, rx⟩ := vals1 r
  have hl := line63
  have hs : sizeLine = 16777216 := sizeLine_eq
  cases x with
  | str y =>
    obtain ⟨t, rfl⟩ := rx
    obtain ⟨hy, e'⟩ : y.length ≤ sizeLine ∧ n = y.length := e
    subst e'
    exact len_str (by omega) ⟨.int _, H, I.tok _, ⟨_, rfl⟩, q⟩
  | byt y =>
    obtain ⟨t, rfl⟩ := rx
    obtain ⟨hy, e'⟩ : y.size ≤ sizeLine ∧ n = y.size := e
    subst e'
    exact PySem.W.len_bytes (by omega) ⟨.int _, H, I.tok _, ⟨_, rfl⟩, q⟩
  | ref p =>
    cases rx
    have e' : (∃ xs, SqL X.K H p xs ∧ n = xs.length) ∨ ∃ xs, SqT X.K H p xs ∧ n = xs.length := e
    rcases e' with ⟨xs, hx, e'⟩ | ⟨xs, hx, e'⟩
    · subst e'
      obtain ⟨its, r', pl, hz⟩ := I.list hx
      have hlen := r'.length
      exact Calls.call_len_list pl.isList (by simp only [List.size_toArray]; omega) ⟨.int xs.length, H, I.tok _, ⟨_, by simp only [List.size_toArray]; rw [hlen]⟩, q⟩
    · subst e'
      obtain ⟨its, r', pl, hz⟩ := I.tuple hx
      have hlen := r'.length
      exact len_tuple pl (by simp only [List.size_toArray]; omega) ⟨.int xs.length, H, I.tok _, ⟨_, by simp only [List.size_toArray]; rw [hlen]⟩, q⟩
  | _ => exact (show False from e).elim
/-- divmod: a new tuple -/
theorem call_divmod : CallR X (.builtin "divmod") (fun xs H Q => ∃ i j, xs = [.int i, .int j] ∧ CDiv i j ∧ ∀ p, H p = none → Q (.ref p) (upd H p (.tup [.int (i / j), .int (i % j)]))) := by
  intro pins s σ H xs us Q I r h
  obtain ⟨i, j, rfl, ⟨h1, h2⟩, q⟩ := h
  obtain ⟨u, w', rfl, ⟨t, rfl⟩, ⟨t', rfl⟩⟩ := vals2 r
  refine divmod_int (by omega) ?_ (.inl (PyProof.noPylong_small (by omega)))
  rw [Int.fdiv_eq_ediv_of_nonneg i (by omega), Int.fmod_eq_emod_of_nonneg i (by omega)]
  have hn : H s.heap.objs.size = none := I.hok.fresh (Nat.le_refl _)
  refine ⟨.ref s.heap.objs.size, _, ?_, rfl, q _ hn⟩
  refine I.laid (fun b o e => Heap.get?_push_of_some _ e) (Nat.le_refl _) ⟨by simp only [List.length_cons, List.length_nil]; rw [sizeLine_eq]; decide, [.int (i / j) s.toks, .int (i % j) (s.toks + 1)], .cons ⟨_, rfl⟩ (.cons ⟨_, rfl⟩ .nil), ?_⟩
  exact ⟨_, Heap.get?_push_size s.heap rfl, rfl, 0, rfl⟩
end
end L2

namespace L2
open PySem PySem.Spec PyProof.Rows

/-! ### an instance, its attributes a map -/
structure ObjM (h : Heap) (x dx C : Addr) (mA : Str → Option Value) : Prop where
  obj : h.get? x = some (PySem.W.instObj C dx)
  ns : h.Ns1 dx mA
  ne : dx ≠ x

theorem lookIn_ns {h : Heap} {dx : Addr} {mA : Str → Option Value} (n : h.Ns1 dx mA) : ∃ od, h.get? dx = some od ∧ ∀ name, PySem.W.lookIn name od = some (mA name) := by
  obtain ⟨o, es, ep, ho, hd, hk, _, hm⟩ := n
  refine ⟨o, ho, fun name => ?_⟩
  have e := hm name
  unfold nsFind findBy at e
  rw [← Array.find?_toList] at e
  unfold PySem.W.lookIn
  rw [hd]
  dsimp only
  split
  · rename_i y q
    rw [q] at e
    exact congrArg some e
  · rename_i q
    rw [q] at e
    have a : es.toList.any (·.refKey) = false := by
      rw [List.any_eq_false]
      intro y hy
      obtain ⟨z, t, hkey⟩ := hk y (Array.mem_toList_iff.mp hy)
      simp [DictEntry.refKey, hkey]
    have a' : ¬ es.toList.any (·.refKey) = true := by rw [a]; exact Bool.false_ne_true
    rw [if_neg a']
    exact congrArg some e

theorem ObjM.look {h : Heap} {x dx C : Addr} {mA : Str → Option Value} (I : ObjM h x dx C mA) : ∃ od, PySem.W.InstAt h x (PySem.W.instObj C dx) C (some od) ∧ ∀ name, PySem.W.lookIn name od = some (mA name) :=
  let ⟨od, ho, hl⟩ := lookIn_ns I.ns
  ⟨od, ⟨I.obj, rfl, rfl, ho⟩, hl⟩

section
variable {prog : Program} {w : World} {A : Around} {E : Value → Shared → Prop} {s : Shared} {K : PySem.W.Frag} {x dx C f : Addr} {mA : Str → Option Value} {name : Str} {v : Value}

theorem get_map {expr : Bool} {Q : Value → Shared → Prop} (X : K.In s.heap) (I : ObjM s.heap x dx C mA) (hg : PySem.W.plainGet K C name = true) (hh : PySem.W.hasDictIn K C = true)
    (ha : PySem.W.findIn K (.ref C) name = some none) (hv : mA name = some v) (hv' : PySem.W.handedIn v = true) (h : Q v { s with toks := s.toks + 1 }) :
    wpAny (model prog w) A (getAttr (.ref x) name expr) Q E s := by
  obtain ⟨od, J, hl⟩ := I.look
  exact PySem.W.get_value X J (PySem.W.plainGet_of hg).1 (PySem.W.findObj_own hh ha rfl (by rw [hl, hv])) hv' h

theorem get_const {expr : Bool} {a : Value} {Q : Value → Shared → Prop} (X : K.In s.heap) (I : ObjM s.heap x dx C mA) (hg : PySem.W.plainGet K C name = true) (hh : PySem.W.hasDictIn K C = true)
    (ha : PySem.W.findIn K (.ref C) name = some (some a)) (hn : PySem.W.specialIn K a "__get__" = some none) (hc : PySem.W.copiedNames.contains name = false) (hv : mA name = none) (hv' : PySem.W.handedIn a = true)
    (h : Q a { s with toks := s.toks + 1 }) : wpAny (model prog w) A (getAttr (.ref x) name expr) Q E s := by
  obtain ⟨od, J, hl⟩ := I.look
  exact PySem.W.get_value X J (PySem.W.plainGet_of hg).1 (PySem.W.findObj_cls hh ha hn hv' hc (by rw [hl, hv])) hv' h

theorem get_meth {pl : Sem Bool} {Q : Value × List Value → Shared → Prop} (X : K.In s.heap) (I : ObjM s.heap x dx C mA) (hg : PySem.W.plainGet K C name = true)
    (hf : PySem.W.findIn K (.ref C) name = some (some (.ref f))) (ht : PySem.W.isFn K (.ref f) = true) (hv : mA name = none) (h : Q (.ref f, [.ref x]) s) :
    wpAny (model prog w) A (getMethod (.ref x) name pl) Q E s := by
  obtain ⟨od, J, hl⟩ := I.look
  exact PySem.W.method_fn X J (PySem.W.plainGet_of hg).1 (PySem.W.plainGet_of hg).2 hf (beq_iff_eq.mp ht) (by show (PySem.W.lookIn name od).map (·.isSome) = some false; rw [hl, hv]; rfl) h

theorem set_map {ns : List Str} {Q : Unit → Shared → Prop} (X : K.In s.heap) (I : ObjM s.heap x dx C mA)
    (hs : PySem.W.findIn K (.ref C) "__setattr__" = some (some (.builtin "object.__setattr__"))) (hp : PySem.W.plainOver K C = true) (ht : PySem.W.takerIn K C name = some none) (hh : PySem.W.hasDictIn K C = true)
    (hw : PySem.Within mA ns) (hsz : ns.length ≤ sizeLine)
    (h : ∀ h', ObjM h' x dx C (fun y => if y = name then some v else mA y) → Heap.SameBut dx s.heap h' → Q () { s with heap := h', toks := s.toks + 2 }) :
    wpAny (model prog w) A (setAttr (.ref x) name v) Q E s := by
  obtain ⟨od, J, hl⟩ := I.look
  refine PySem.W.set_plain X J hs (PySem.W.osa_open (s := { s with toks := s.toks + 1 }) (r := none) X J hp ht fun b => ?_)
  obtain ⟨cd, hc, hd'⟩ := PySem.W.any_some hh
  have hx : s.heap.get? x = some ⟨.ref C, some dx, .plain, #[]⟩ := I.obj
  refine wpAny_bind (wpAny_pure (wpAny_bind (wpAny_bind (wpAny_loadPart hx (wpAny_bind (PySem.W.Looks.here (s := { s with toks := s.toks + 1 }) (PySem.W.looks_clsIn X hc) ?_))))))
  rw [hd']
  refine wpAny_pure (a := some dx) (wpAny_bind (wpAny_pure (wpAny_bind ?_)))
  refine wpAny_nsSet1 (s := { s with toks := s.toks + 1 }) I.ns fun h' hn2 hs2 => ?_
  obtain ⟨oD, esD, epD, hoD, hdD, hcD⟩ := hn2.count (PySem.Within.cons name v hw)
  refine wpAny_bind (wpAny_lookBehind hoD (by rw [hdD]; exact pastItsLine_dict (Nat.le_trans hcD (by rw [List.length_cons]; omega))) ?_)
  exact wpAny_pure (h _ ⟨(hs2.2 _ (Ne.symm I.ne)).trans I.obj, hn2, I.ne⟩ hs2)

/-- C(..): the dict at the heap's end, the instance behind it; then its __init__ -/
theorem make_map {R : Result → Shared → Prop} {vs : List Value} {kw : List (Str × Value)} (X : K.In s.heap) (hm : PySem.W.makesIn K C = true)
    (hi : PySem.W.findIn K (.ref C) "__init__" = some (some (.ref f))) (hf : PySem.W.typeIn K (.ref f) = some (.type "function"))
    (h : codeAny (model prog w) (A.under (.builtin "type.__call__" ⟨.ref C :: vs, kw⟩)) (.call (.ref f) ⟨.ref (s.heap.objs.size + 1) :: vs, kw⟩) (PySem.W.InitBack (s.heap.objs.size + 1) R)
      { s with heap := (s.heap.push PySem.W.emptyDict).push (PySem.W.instObj C s.heap.objs.size) }) :
    codeAny (model prog w) A (.call (.ref C) ⟨vs, kw⟩) R s := by
  obtain ⟨hh, g, d, t, os⟩ := s
  exact PySem.W.make_core (PySem.W.makes_of X hm) (PySem.W.looks_findIn X hi) (fun self => PySem.W.bind_fn X self hf) (.inl rfl) h
/-- C() where there is no __init__ but object's -/
theorem make_map0 {R : Result → Shared → Prop} (X : K.In s.heap) (hm : PySem.W.makesIn K C = true)
    (hi : PySem.W.findIn K (.ref C) "__init__" = some (some (.builtin "object.__init__")))
    (hb : ∀ self, PySem.W.Looks (model prog w) s.heap (bindSpecial (.builtin "object.__init__") self) (.builtin "object.__init__", [self]))
    (h : codeAny (model prog w) (A.under (.builtin "type.__call__" ⟨[.ref C], []⟩)) (.call (.builtin "object.__init__") ⟨[.ref (s.heap.objs.size + 1)], []⟩) (PySem.W.InitBack (s.heap.objs.size + 1) R)
      { s with heap := (s.heap.push PySem.W.emptyDict).push (PySem.W.instObj C s.heap.objs.size) }) :
    codeAny (model prog w) A (.call (.ref C) ⟨[], []⟩) R s := by
  obtain ⟨hh, g, d, t, os⟩ := s
  exact PySem.W.make_core (PySem.W.makes_of X hm) (PySem.W.looks_findIn X hi) hb (.inr ⟨rfl, rfl⟩) h
end

/-! ### the attributes as a list of pairs -/
def putF (f : Str) (v : V) : List (Str × V) → List (Str × V)
  | [] => [(f, v)]
  | (g, x) :: r => if g = f then (g, v) :: r else (g, x) :: putF f v r
theorem lookup_putF (f g : Str) (v : V) : ∀ fs : List (Str × V), (putF f v fs).lookup g = if g = f then some v else fs.lookup g
  | [] => by
    show List.lookup g [(f, v)] = _
    by_cases h : g = f
    · have hb : (g == f) = true := beq_iff_eq.mpr h
      simp only [List.lookup, hb, if_pos h]
    · have hb : (g == f) = false := beq_eq_false_iff_ne.mpr h
      simp only [List.lookup, hb, if_neg h]
  | (k, x) :: r => by
    have ih := lookup_putF f g v r
    rw [show putF f v ((k, x) :: r) = (if k = f then (k, v) :: r else (k, x) :: putF f v r) from rfl]
    by_cases hk : k = f
    · rw [if_pos hk]
      by_cases h : g = k
      · have hb : (g == k) = true := beq_iff_eq.mpr h
        simp only [List.lookup, hb, if_pos (h.trans hk)]
      · have hb : (g == k) = false := beq_eq_false_iff_ne.mpr h
        simp only [List.lookup, hb, if_neg (fun e : g = f => h (e.trans hk.symm))]
    · rw [if_neg hk]
      by_cases h : g = k
      · have hb : (g == k) = true := beq_iff_eq.mpr h
        simp only [List.lookup, hb, if_neg (fun e : g = f => hk (h.symm.trans e))]
      · have hb : (g == k) = false := beq_eq_false_iff_ne.mpr h
        simp only [List.lookup, hb]
        exact ih
theorem keys_putF (f : Str) (v : V) : ∀ fs : List (Str × V), f ∈ (putF f v fs).map (·.1) ∧ ∀ g, g ∈ fs.map (·.1) → g ∈ (putF f v fs).map (·.1)
  | [] => ⟨by simp [putF], fun g h => by simp at h⟩
  | (k, x) :: r => by
    obtain ⟨i1, i2⟩ := keys_putF f v r
    rw [show putF f v ((k, x) :: r) = (if k = f then (k, v) :: r else (k, x) :: putF f v r) from rfl]
    by_cases hk : k = f
    · rw [if_pos hk]
      subst hk
      exact ⟨by simp, fun g h => by simpa using h⟩
    · rw [if_neg hk]
      refine ⟨?_, fun g h => ?_⟩
      · rw [List.map_cons]
        exact List.mem_cons_of_mem _ i1
      · rw [List.map_cons] at h ⊢
        rcases List.mem_cons.mp h with e | e
        · exact List.mem_cons.mpr (.inl e)
        · exact List.mem_cons_of_mem _ (i2 g e)
theorem length_putF (f : Str) (v : V) : ∀ fs : List (Str × V), (putF f v fs).length ≤ fs.length + 1
  | [] => by simp [putF]
  | (k, x) :: r => by
    have ih := length_putF f v r
    rw [show putF f v ((k, x) :: r) = (if k = f then (k, v) :: r else (k, x) :: putF f v r) from rfl]
    by_cases hk : k = f
    · rw [if_pos hk, List.length_cons, List.length_cons]; omega
    · rw [if_neg hk, List.length_cons, List.length_cons]; omega

theorem RelO.some_of {v : V} {o : Option Value} (r : RelO (some v) o) : ∃ u, o = some u ∧ RelV v u := by
  cases o with
  | none => exact (show False from r).elim
  | some u => exact ⟨u, rfl, r⟩
theorem RelO.none_of {o : Option Value} (r : RelO none o) : o = none := by
  cases o with
  | none => rfl
  | some u => exact (show False from r).elim
theorem handed_of {v : V} {u : Value} (r : RelV v u) : PySem.W.handedIn u = true := by
  cases v with
  | non => cases (show u = Value.none from r); rfl
  | bl b => cases (show u = Value.bool b from r); rfl
  | int i => obtain ⟨t, e⟩ := (show ∃ t, u = Value.int i t from r); cases e; rfl
  | str x => obtain ⟨t, e⟩ := (show ∃ t, u = Value.str x t from r); cases e; rfl
  | byt b => obtain ⟨t, e⟩ := (show ∃ t, u = Value.bytes b t from r); cases e; rfl
  | flt b => obtain ⟨t, e⟩ := (show ∃ t, u = Value.float b t from r); cases e; rfl
  | ref a => cases (show u = Value.ref a from r); rfl
  | ty n => cases (show u = Value.type n from r); rfl

section
variable {P : Program} {w : World} {H H' : Hp} {h h' : Heap} {a C dx : Addr} {fs fs' : List (Str × V)}
theorem ins_get (hok : HOk P w H h) (e : H a = some (.ins C dx fs)) : ∃ mA, ObjM h a dx C mA ∧ (∀ f, RelO (fs.lookup f) (mA f)) ∧ PySem.Within mA (fs.map (·.1)) ∧ fs.length ≤ 1000 ∧ H dx = some (.own a) := by
  obtain ⟨d, z, ne, ob, mA, n, r, q⟩ := (show ObjOk P w H h a (.ins C dx fs) from hok a _ e)
  exact ⟨mA, ⟨ob, n, ne⟩, r, q, z, d⟩
end

/-! ### what of the text a class must have -/
structure Cls (K : PySem.W.Frag) (C : Addr) : Prop where
  pg : PySem.W.plainGet K C Str.empty = true
  hd : PySem.W.hasDictIn K C = true
  po : PySem.W.plainOver K C = true
  sa : PySem.W.findIn K (.ref C) "__setattr__" = some (some (.builtin "object.__setattr__"))
theorem Cls.get {K : PySem.W.Frag} {C : Addr} (c : Cls K C) (f : Str) : PySem.W.plainGet K C f = true := c.pg
/-- no class of it has the name -/
def NoAttr (K : PySem.W.Frag) (C : Addr) (f : Str) : Prop := PySem.W.findIn K (.ref C) f = some none
theorem NoAttr.taker {K : PySem.W.Frag} {C : Addr} {f : Str} (n : NoAttr K C f) : PySem.W.takerIn K C f = some none := by
  unfold PySem.W.takerIn
  rw [show PySem.W.findIn K (.ref C) f = some none from n]
  rfl
/-- a constant of the class -/
structure Con (K : PySem.W.Frag) (C : Addr) (f : Str) (v : V) (u : Value) : Prop where
  at_ : PySem.W.findIn K (.ref C) f = some (some u)
  rel : RelV v u
  get : PySem.W.specialIn K u "__get__" = some none
  cp : PySem.W.copiedNames.contains f = false
/-- a method: a plain def of the class or of one above it -/
structure Meth (K : PySem.W.Frag) (C : Addr) (m : Str) (f : Addr) : Prop where
  at_ : PySem.W.findIn K (.ref C) m = some (some (.ref f))
  fn : PySem.W.isFn K (.ref f) = true
  kp : PySem.W.keepIn K (.ref f) = true

section
variable {X : Cx} {pins : List (Addr × Obj)} {σ : St} {H : Hp} {s : Shared} {a C dx : Addr} {fs : List (Str × V)} {f : Str} {v : V} {A : Around} {E : Value → Shared → Prop}

theorem getattr_ok {b : Bool} {Q : Value → Shared → Prop} (I : Inv X pins σ H s) (e : H a = some (.ins C dx fs)) (c : Cls X.K C) (n : NoAttr X.K C f) (l : fs.lookup f = some v)
    (h : ∀ u s', Inv X pins σ H s' → RelV v u → Q u s') : wpAny (model X.prog X.w) A (getAttr (.ref a) f b) Q E s := by
  obtain ⟨mA, O, r, _, _, _⟩ := ins_get I.hok e
  obtain ⟨u, hu, ru⟩ := RelO.some_of (v := v) (o := mA f) (by rw [← l]; exact r f)
  exact get_map I.kIn O (c.get f) c.hd n hu (handed_of ru) (h u _ (I.tok _) ru)

theorem getcon_ok {b : Bool} {u : Value} {Q : Value → Shared → Prop} (I : Inv X pins σ H s) (e : H a = some (.ins C dx fs)) (c : Cls X.K C) (k : Con X.K C f v u) (l : fs.lookup f = none)
    (h : ∀ s', Inv X pins σ H s' → Q u s') : wpAny (model X.prog X.w) A (getAttr (.ref a) f b) Q E s := by
  obtain ⟨mA, O, r, _, _, _⟩ := ins_get I.hok e
  have hn : mA f = none := RelO.none_of (by rw [← l]; exact r f)
  exact get_const I.kIn O (c.get f) c.hd k.at_ k.get k.cp hn (handed_of k.rel) (h _ (I.tok _))

theorem getmeth_ok {m : Str} {g : Addr} {pl : Sem Bool} {Q : Value × List Value → Shared → Prop} (I : Inv X pins σ H s) (e : H a = some (.ins C dx fs)) (c : Cls X.K C) (k : Meth X.K C m g) (l : fs.lookup m = none)
    (h : Q (.ref g, [.ref a]) s) : wpAny (model X.prog X.w) A (getMethod (.ref a) m pl) Q E s := by
  obtain ⟨mA, O, r, _, _, _⟩ := ins_get I.hok e
  have hn : mA m = none := RelO.none_of (by rw [← l]; exact r m)
  exact get_meth I.kIn O (c.get m) k.at_ k.fn hn h

theorem setattr_ok {y : V} {u : Value} {Q : Unit → Shared → Prop} (I : Inv X pins σ H s) (e : H a = some (.ins C dx fs)) (c : Cls X.K C) (n : NoAttr X.K C f) (hl : fs.length < 1000) (ry : RelV y u)
    (h : ∀ s', Inv X pins σ (upd H a (.ins C dx (putF f y fs))) s' → Q () s') : wpAny (model X.prog X.w) A (setAttr (.ref a) f u) Q E s := by
  obtain ⟨mA, O, r, wi, _, ho⟩ := ins_get I.hok e
  have hz : (fs.map (·.1)).length ≤ sizeLine := by rw [List.length_map, sizeLine_eq]; omega
  refine set_map I.kIn O c.sa c.po n.taker c.hd wi hz fun h' O' sb => h _ ?_
  have hd : ∃ o, h'.get? dx = some o := let ⟨o, _, _, e', _⟩ := O'.ns; ⟨o, e'⟩
  refine I.write (x := a) (e := dx) (by rw [e]; exact True.intro) (.inr ho) (fun b q hb z => (sb.2 b hb).trans z) hd ?_
  refine ⟨by rw [upd_ne O.ne]; exact ho, ?_, O.ne, O'.obj, _, O'.ns, fun g => ?_, fun g hg => ?_⟩
  · have := length_putF f y fs; omega
  · show RelO ((putF f y fs).lookup g) (if g = f then some u else mA g)
    rw [lookup_putF]
    by_cases q : g = f
    · rw [if_pos q, if_pos q]; exact ry
    · rw [if_neg q, if_neg q]; exact r g
  · by_cases q : g = f
    · rw [q]; exact (keys_putF f y fs).1
    · refine (keys_putF f y fs).2 g (wi g fun z => hg ?_)
      show (if g = f then some u else mA g) = none
      rw [if_neg q]; exact z

/-- a new instance, tracked, without attributes -/
theorem Inv.made (I : Inv X pins σ H s) : Inv X pins σ (upd (upd H s.heap.objs.size (.own (s.heap.objs.size + 1))) (s.heap.objs.size + 1) (.ins C s.heap.objs.size []))
    { s with heap := (s.heap.push PySem.W.emptyDict).push (PySem.W.instObj C s.heap.objs.size) } := by
  have e1 : (s.heap.push PySem.W.emptyDict).get? s.heap.objs.size = some PySem.W.emptyDict := Heap.get?_push_size s.heap rfl
  have e2 : ((s.heap.push PySem.W.emptyDict).push (PySem.W.instObj C s.heap.objs.size)).get? (s.heap.objs.size + 1) = some (PySem.W.instObj C s.heap.objs.size) := by
    have := Heap.get?_push_size (s.heap.push PySem.W.emptyDict) (o := PySem.W.instObj C s.heap.objs.size) rfl
    rwa [Heap.size_push] at this
  have e3 : (s.heap.push PySem.W.emptyDict).Ns s.heap.objs.size (fun _ => none) := ⟨PySem.W.emptyDict, #[], _, e1, rfl, (fun e he => absurd he (by simp)), fun _ => rfl⟩
  have I1 := I.laid (a := s.heap.objs.size) (o := .own (s.heap.objs.size + 1)) (h' := s.heap.push PySem.W.emptyDict) (t' := s.toks) (fun b u q => Heap.get?_push_of_some _ q) (Nat.le_refl _) ⟨_, e1⟩
  refine I1.laid (a := s.heap.objs.size + 1) (o := .ins C s.heap.objs.size []) (t' := s.toks) (fun b u q => Heap.get?_push_of_some _ q) (Nat.le_of_eq (Heap.size_push _ _)) ?_
  have ne : s.heap.objs.size ≠ s.heap.objs.size + 1 := Nat.ne_of_lt (Nat.lt_succ_self _)
  refine ⟨by rw [upd_ne ne, upd_same], Nat.zero_le _, ne, e2, fun _ => none, (Heap.Ns1.of_empty e3).at fun o q => Heap.get?_push_of_some _ q, fun _ => True.intro, fun y hy => absurd rfl hy⟩

/-- e.f where nothing but the object is asked: through attributeBase (super) and the last hold -/
theorem attr_of {prog : Program} {w : World} {env : Env} {e : Expr} {f : Str} {pos : Pos} {s : Shared} {Q : Value → Shared → Prop} (hb : attributeBase e f env (eval e env) = eval e env)
    (h : wpAny (model prog w) A (eval e env) (fun o s₁ => wpAny (model prog w) A (getAttr o f true) Q E s₁) E s) : wpAny (model prog w) A (eval (.Attribute e f pos) env) Q E s :=
  Attribute_any_ h (by rw [arm_eval_Attribute, hb])
end

/-! ### readings and rules -/
/-- e.f, an attribute of the instance -/
def tFld (K : PySem.W.Frag) (ta : TE) (f : Str) : TE := fun σ H Q => ta σ H fun x H1 => ∃ a C dx fs v, x = .ref a ∧ H1 a = some (.ins C dx fs) ∧ Cls K C ∧ NoAttr K C f ∧ fs.lookup f = some v ∧ Q v H1
/-- e.f, a constant of the class -/
def tCon (K : PySem.W.Frag) (ta : TE) (f : Str) : TE := fun σ H Q => ta σ H fun x H1 => ∃ a C dx fs v u, x = .ref a ∧ H1 a = some (.ins C dx fs) ∧ Cls K C ∧ Con K C f v u ∧ fs.lookup f = none ∧ Q v H1
/-- e.f = value -/
def sFld (K : PySem.W.Frag) (ta tv : TE) (f : Str) : TS := fun D σ H => tv σ H fun y H1 => ta σ H1 fun x H2 => ∃ a C dx fs, x = .ref a ∧ H2 a = some (.ins C dx fs) ∧ Cls K C ∧ NoAttr K C f ∧ fs.length < 1000 ∧
  D.nx σ (upd H2 a (.ins C dx (putF f y fs)))
/-- an augmented operator on two values -/
def InOp (X : Cx) (op : Operator) (rd : V → V → Hp → VK → Prop) : Prop :=
  ∀ (pins : List (Addr × Obj)) (s : Shared) (σ : St) (H : Hp) (x y : V) (u v : Value) (Q : VK), Inv X pins σ H s → RelV x u → RelV y v → rd x y H Q → wpAny (model X.prog X.w) X.A (inplaceOp op u v) (EP X pins σ Q) X.xe s
/-- e.f op= value -/
def sFldAug (K : PySem.W.Frag) (ta tv : TE) (rd : V → V → Hp → VK → Prop) (f : Str) : TS := fun D σ H => ta σ H fun x H1 => ∃ a C dx fs v, x = .ref a ∧ H1 a = some (.ins C dx fs) ∧ Cls K C ∧ NoAttr K C f ∧ fs.lookup f = some v ∧
  tv σ H1 fun y H2 => rd v y H2 fun z H3 => ∃ dx' fs', H3 a = some (.ins C dx' fs') ∧ fs'.length < 1000 ∧ D.nx σ (upd H3 a (.ins C dx' (putF f z fs')))

section
variable {X : Cx} {o e value : Expr} {f : Str} {pos pos' tpos : Pos} {ta tv : TE}
theorem pe_fld (he : PE X e ta) (hb : attributeBase e f X.env (eval e X.env) = eval e X.env) : PE X (.Attribute e f pos) (tFld X.K ta f) := by
  intro pins s σ H Q I h
  refine attr_of hb (thn (he pins s σ H _ I h) fun u s1 ⟨x, H1, I1, rx, a, C, dx, fs, v, ex, ea, c, n, l, q⟩ => ?_)
  subst ex
  obtain rfl : u = Value.ref a := rx
  exact getattr_ok I1 ea c n l fun u' s2 I2 ru => ⟨v, H1, I2, ru, q⟩
theorem pe_con (he : PE X e ta) (hb : attributeBase e f X.env (eval e X.env) = eval e X.env) : PE X (.Attribute e f pos) (tCon X.K ta f) := by
  intro pins s σ H Q I h
  refine attr_of hb (thn (he pins s σ H _ I h) fun u s1 ⟨x, H1, I1, rx, a, C, dx, fs, v, u0, ex, ea, c, k, l, q⟩ => ?_)
  subst ex
  obtain rfl : u = Value.ref a := rx
  exact getcon_ok I1 ea c k l fun s2 I2 => ⟨v, H1, I2, k.rel, q⟩
theorem ps_fld (ha : PE X o ta) (hv : PE X value tv) (hs : swapsWith value (some (.Attribute o f pos')) pos.line X.env = pure false) : PS X (.Assign [.Attribute o f pos'] value pos) (sFld X.K ta tv f) := by
  intro pins s σ H D I h
  refine plainObj_wpAny_Assign_Attribute (thn (hv pins s σ H _ I h) fun u s1 ⟨y, H1, I1, ry, q⟩ => thn (ha pins s1 σ H1 _ I1 q) fun ov s2 ⟨x, H2, I2, rx, a, C, dx, fs, ex, ea, c, n, l, q2⟩ => ?_) hs
  subst ex
  obtain rfl : ov = Value.ref a := rx
  exact setattr_ok I2 ea c n l ry fun s3 I3 => ⟨σ, _, I3, q2⟩
theorem ps_fldaug {op : Operator} {rd : V → V → Hp → VK → Prop} (ha : PE X o ta) (hv : PE X value tv) (hop : InOp X op rd) : PS X (.AugAssign (.Attribute o f tpos) op value pos) (sFldAug X.K ta tv rd f) := by
  intro pins s σ H D I h
  refine wpAny_AugAssign_AttributeAny (thn (ha pins s σ H _ I h) fun ov s1 ⟨x, H1, I1, rx, a, C, dx, fs, v, ex, ea, c, n, l, q⟩ => ?_)
  subst ex
  obtain rfl : ov = Value.ref a := rx
  refine getattr_ok I1 ea c n l fun u s2 I2 ru => thn (hv pins s2 σ H1 _ I2 q) fun w3 s3 ⟨y, H2, I3, ry, q3⟩ => thn (hop pins s3 σ H2 v y u w3 _ I3 ru ry q3) fun w4 s4 ⟨z, H3, I4, rz, dx', fs', ea', l', q4⟩ => ?_
  exact setattr_ok I4 ea' c n l' rz fun s5 I5 => ⟨σ, _, I5, q4⟩
def rAdd : V → V → Hp → VK → Prop := fun x y H Q => ∃ i j, x = .int i ∧ y = .int j ∧ Q (.int (i + j)) H
def rSub : V → V → Hp → VK → Prop := fun x y H Q => ∃ i j, x = .int i ∧ y = .int j ∧ Q (.int (i - j)) H
theorem in_add : InOp X .Add rAdd := by
  rintro pins s σ H x y u v Q I rx ry ⟨i, j, rfl, rfl, q⟩
  obtain ⟨t, rfl⟩ := (show ∃ t, u = Value.int i t from rx)
  obtain ⟨t', rfl⟩ := (show ∃ t', v = Value.int j t' from ry)
  exact PyProof.Rows.iadd_int ⟨.int (i + j), H, I.tok _, ⟨_, rfl⟩, q⟩
theorem in_sub : InOp X .Sub rSub := by
  rintro pins s σ H x y u v Q I rx ry ⟨i, j, rfl, rfl, q⟩
  obtain ⟨t, rfl⟩ := (show ∃ t, u = Value.int i t from rx)
  obtain ⟨t', rfl⟩ := (show ∃ t', v = Value.int j t' from ry)
  exact PyProof.Rows.isub_int ⟨.int (i - j), H, I.tok _, ⟨_, rfl⟩, q⟩

/-- what is between an instance and its method: the tree of a method call -/
theorem methcall_of {pl : Sem Bool} {m : Str} {apos : Pos} {args : List Expr} {pins : List (Addr × Obj)} {s : Shared} {σ : St} {H : Hp} {Q : Value → Shared → Prop} {te : TE} (he : PE X e te) (I : Inv X pins σ H s)
    (h : te σ H fun x H1 => ∃ a C dx fs g, x = .ref a ∧ H1 a = some (.ins C dx fs) ∧ Cls X.K C ∧ Meth X.K C m g ∧ fs.lookup m = none ∧
      ∀ s1, Inv X pins σ H1 s1 → wpAny (model X.prog X.w) X.A (callWith pos (.ref g) [.ref a] (backTo pos (starEach args X.env)) (backToKw pos (keywordEach [] X.env))) Q X.xe s1)
    (ht : eval (.Call (.Attribute e m apos) args [] pos) X.env = (do
      let ov ← eval e X.env
      standAt apos.atName
      let (f, first) ← holding [ov] (getMethod ov m pl)
      callWith pos f first (backTo pos (starEach args X.env)) (backToKw pos (keywordEach [] X.env)))) :
    wpAny (model X.prog X.w) X.A (eval (.Call (.Attribute e m apos) args [] pos) X.env) Q X.xe s := by
  refine PySem.W.methodCall_KW (pl := pl) (thn (he pins s σ H _ I h) fun u s1 ⟨x, H1, I1, rx, a, C, dx, fs, g, ex, ea, c, k, l, q⟩ => ?_) ht
  subst ex
  obtain rfl : u = Value.ref a := rx
  exact getmeth_ok I1 ea c k l (q s1 I1)
end

/-! ### isinstance -/
section
variable {X : Cx} {pins : List (Addr × Obj)} {σ : St} {H : Hp} {s : Shared} {A : Around} {E : Value → Shared → Prop} {Q : Value → Shared → Prop} {c : Value} {b : Bool}
/-- the type of a value, as the fragment's deciders take it; for an instance its class -/
inductive TyOf (K : PySem.W.Frag) (H : Hp) : V → Value → Prop where
  | non : TyOf K H .non (.type "NoneType")
  | bl (x : Bool) : TyOf K H (.bl x) (.type "bool")
  | int (i : Int) : TyOf K H (.int i) (.type "int")
  | str (x : Str) : TyOf K H (.str x) (.type "str")
  | flt (x : UInt64) : TyOf K H (.flt x) (.type "float")
  | lst {a : Addr} {xs : List V} (e : H a = some (.lst xs)) : TyOf K H (.ref a) (.type "list")
  | frz {a : Addr} {o : Obj} {xs : List V} (e : H a = some (.frz o (.lst xs))) : TyOf K H (.ref a) (.type "list")
  | tup {a : Addr} {xs : List V} (e : H a = some (.tup xs)) : TyOf K H (.ref a) (.type "tuple")
  | dK {a : Addr} {kvs : List (Key × V)} (e : H a = some (.dK kvs)) : TyOf K H (.ref a) (.type "dict")
  | dT {a : Addr} {kvs : List (List Key × V)} (e : H a = some (.dT kvs)) : TyOf K H (.ref a) (.type "dict")
  | ins {a C dx : Addr} {fs : List (Str × V)} (e : H a = some (.ins C dx fs)) (cl : Cls K C) (ha : PySem.W.findIn K (.ref C) "__class__" = some (some (.builtin "object.__class__")))
      (hn : PySem.W.specialIn K (.builtin "object.__class__") "__get__" = some (some (.builtin "getset_descriptor.__get__"))) (htk : PySem.W.takesIn K (.builtin "object.__class__") = some true)
      (hm : PySem.W.mroIn K C (.type "object") = some true) : TyOf K H (.ref a) (.ref C)
/-- isinstance(x, c) for one class c, a built-in or an own one: kitOne's answer -/
theorem isinst_ok {x : V} {u t : Value} (I : Inv X pins σ H s) (rx : RelV x u) (ty : TyOf X.K H x t) (e : PySem.W.kitOne X.K t c = some b) (h : ∀ tk, Q (.bool b) { s with toks := tk }) :
    wpAny (model X.prog X.w) A (call (.builtin "isinstance") [u, c]) Q E s := by
  cases ty with
  | non => cases (show u = Value.none from rx); exact PySem.W.kia_one PySem.W.kitx_none I.kIn True.intro e (fun z => nomatch z) h
  | bl y => cases (show u = Value.bool y from rx); exact PySem.W.kia_one PySem.W.kitx_bool I.kIn True.intro e (fun z => nomatch z) h
  | int i => obtain ⟨t, q⟩ := (show ∃ t, u = Value.int i t from rx); cases q; exact PySem.W.kia_one PySem.W.kitx_int I.kIn True.intro e (fun z => nomatch z) h
  | str y => obtain ⟨t, q⟩ := (show ∃ t, u = Value.str y t from rx); cases q; exact PySem.W.kia_one PySem.W.kitx_str I.kIn True.intro e (fun z => nomatch z) h
  | flt y => obtain ⟨t, q⟩ := (show ∃ t, u = Value.float y t from rx); cases q; exact PySem.W.kia_one PySem.W.kitx_float I.kIn True.intro e (fun z => nomatch z) h
  | @lst a xs ea =>
    cases (show u = Value.ref a from rx)
    obtain ⟨_, _, n, _, h1⟩ := (show ObjOk X.prog X.w H s.heap a (.lst xs) from I.hok a _ ea)
    exact PySem.W.kia_one PySem.W.kitx_list I.kIn ⟨_, h1, rfl⟩ e (fun z => nomatch z) h
  | @frz a ob xs ea =>
    cases (show u = Value.ref a from rx)
    obtain ⟨_, _, _, n, _, h1⟩ := (show ObjOk X.prog X.w H s.heap a (.frz ob (.lst xs)) from I.hok a _ ea)
    exact PySem.W.kia_one PySem.W.kitx_list I.kIn ⟨_, h1, rfl⟩ e (fun z => nomatch z) h
  | @tup a xs ea =>
    cases (show u = Value.ref a from rx)
    obtain ⟨_, _, _, p⟩ := (show ObjOk X.prog X.w H s.heap a (.tup xs) from I.hok a _ ea)
    obtain ⟨o, h1, h2, _⟩ := p
    exact PySem.W.kia_one PySem.W.kitx_tuple I.kIn ⟨o, h1, h2⟩ e (fun z => nomatch z) h
  | @dK a kvs ea =>
    cases (show u = Value.ref a from rx)
    obtain ⟨_, _, vs, _, p⟩ := (show ObjOk X.prog X.w H s.heap a (.dK kvs) from I.hok a _ ea)
    obtain ⟨o, es, ep, h1, h2, _⟩ := p
    exact PySem.W.kia_one PySem.W.kitx_dict I.kIn ⟨o, h1, h2.1⟩ e (fun z => nomatch z) h
  | @dT a kvs ea =>
    cases (show u = Value.ref a from rx)
    obtain ⟨_, _, xs, _, o, es, ep, h1, h2, _⟩ := (show ObjOk X.prog X.w H s.heap a (.dT kvs) from I.hok a _ ea)
    exact PySem.W.kia_one PySem.W.kitx_dict I.kIn ⟨o, h1, h2.1⟩ e (fun z => nomatch z) h
  | @ins a C dx fs ea cl ha hn htk hm =>
    cases (show u = Value.ref a from rx)
    obtain ⟨mA, O, _⟩ := ins_get I.hok ea
    obtain ⟨od, J, _⟩ := O.look
    exact PySem.W.kia_one (PySem.W.kitx_own (cl.get _) cl.hd ha hn htk hm) I.kIn J e (fun z => nomatch z) h
end
end L2

namespace L2
open PySem PySem.Spec PyProof.Rows

/-! ### room -/
structure Room (k : Nat) (A : Around) : Prop where
  hd : A.handled = none
  dp : A.depth + 3 * k + 5 < recursionLimit
  un : A.units + 16 * k + 200 < cLine
  gd : A.guards = some []
theorem Room.mono {j k : Nat} {A : Around} (r : Room k A) (h : j ≤ k) : Room j A := ⟨r.hd, by have := r.dp; omega, by have := r.un; omega, r.gd⟩
theorem Room.deeper {k : Nat} {A : Around} (r : Room (k + 1) A) (env : Env) : Room k (A.deeper env) :=
  ⟨r.hd, by have := r.dp; show A.depth + 1 + 3 * k + 5 < _; omega, by have := r.un; show A.units + 3 + 16 * k + 200 < _; omega, r.gd⟩
theorem Room.in1 {k : Nat} {A : Around} (r : Room (k + 1) A) : Room k A.in1 :=
  ⟨r.hd, by have := r.dp; show A.depth + 3 * k + 5 < _; omega, by have := r.un; show A.units + 1 + 16 * k + 200 < _; omega, r.gd⟩
theorem make_depth {A : Around} {C : Addr} {us : List Value} {kw : List (Str × Value)} : (A.under (.builtin "type.__call__" ⟨.ref C :: us, kw⟩)).depth = A.depth + 1 := by
  first | rfl | simp [Around.under, Code.weight, Code.isCreation, Code.isGuard, Code.isCaller, Code.frames, Code.isFrame, guardIds]
theorem make_units {A : Around} {C : Addr} {us : List Value} {kw : List (Str × Value)} : (A.under (.builtin "type.__call__" ⟨.ref C :: us, kw⟩)).units = A.units + 1 := by
  first | rfl | simp [Around.under, Code.cUnits, Code.frames, Code.isFrame]
theorem Room.make {k : Nat} {A : Around} (r : Room (k + 1) A) (C : Addr) (us : List Value) (kw : List (Str × Value)) : Room k (A.under (.builtin "type.__call__" ⟨.ref C :: us, kw⟩)) :=
  ⟨r.hd, by have := r.dp; rw [make_depth]; omega, by have := r.un; rw [make_units]; omega, (by first | exact r.gd | (show pushGuards _ A.guards = _; rw [r.gd]; rfl))⟩
theorem Room.depth {k : Nat} {A : Around} (r : Room k A) : A.depth < recursionLimit := by have := r.dp; omega
theorem Room.units {k : Nat} {A : Around} (r : Room k A) : A.units + 64 < cLine := by have := r.un; omega
theorem Room.units0 {k : Nat} {A : Around} (r : Room k A) : A.units < cLine := by have := r.un; omega

/-! ### argument lists and displays -/
def tNil : TA := fun _ H Q => Q [] H
def tCons (ta : TE) (tr : TA) : TA := fun σ H Q => ta σ H fun x H1 => tr σ H1 fun xs H2 => Q (x :: xs) H2
section
variable {X : Cx} {e : Expr} {es : List Expr} {te : TE} {t : TA} {pos : Pos}
theorem pa_nil : PA X [] tNil := fun _ _ _ _ H Q I h => Calls.spliced_nil ⟨[], H, I, .nil, h⟩
theorem pa_cons (ha : PE X e te) (hr : PA X es t) (hs : starEach (e :: es) X.env = (false, eval e X.env) :: starEach es X.env := by rfl) : PA X (e :: es) (tCons te t) := by
  intro pos pins s σ H Q I h
  rw [hs]
  show wpAny _ _ (spliced ((false, eval e X.env) :: backTo pos (starEach es X.env))) _ _ s
  refine Calls.spliced_cons (thn (ha pins s σ H _ I h) fun u s1 ⟨x, H1, I1, r1, q1⟩ => ?_)
  exact thn (hr pos pins s1 σ H1 _ I1 q1) fun us s2 ⟨xs, H2, I2, r2, q2⟩ => ⟨x :: xs, H2, I2, .cons r1 r2, q2⟩

/-- a tuple, a list of written items -/
def tTup (t : TA) : TE := fun σ H Q => t σ H fun xs H1 => xs.length ≤ sizeLine ∧ ∀ p, H1 p = none → Q (.ref p) (upd H1 p (.tup xs))
def tLst (t : TA) : TE := fun σ H Q => t σ H fun xs H1 => xs.length ≤ sizeLine ∧ ∀ p, H1 p = none → Q (.ref p) (upd H1 p (.lst xs))
theorem pe_tup {x1} (h : PA X es t) : PE X (.Tuple es x1 pos) (tTup t) := by
  intro pins s σ H Q I hq
  refine wpAny_Tuple_spliced (thn (h pos pins s σ H _ I hq) fun us s1 ⟨xs, H1, I1, r, z, q⟩ => ⟨by rw [← r.length]; exact z, ?_⟩)
  have hf : H1 s1.heap.objs.size = none := I1.hok.fresh (Nat.le_refl _)
  refine ⟨.ref s1.heap.objs.size, upd H1 s1.heap.objs.size (.tup xs), I1.laid (t' := s1.toks) (fun b u e => Heap.get?_push_of_some _ e) (Nat.le_refl _) ?_, rfl, q _ hf⟩
  exact ⟨z, us, r, ⟨_, Heap.get?_push_size _ rfl, rfl, _, rfl⟩⟩
theorem pe_lst (h : PA X es t) : PE X (.List es pos) (tLst t) := by
  intro pins s σ H Q I hq
  refine wpAny_List_spliced (thn (h pos pins s σ H _ I hq) fun us s1 ⟨xs, H1, I1, r, z, q⟩ => ⟨by rw [← r.length]; exact z, ?_⟩)
  have hf : H1 s1.heap.objs.size = none := I1.hok.fresh (Nat.le_refl _)
  refine ⟨.ref s1.heap.objs.size, upd H1 s1.heap.objs.size (.lst xs), I1.laid (t' := s1.toks) (fun b u e => Heap.get?_push_of_some _ e) (Nat.le_refl _) ?_, rfl, q _ hf⟩
  exact ⟨z, us, 0, r, Heap.get?_push_size _ rfl⟩
end

/-! ### what a def promises -/
/-- a def's promise: the bound arguments in the parameters' order, the heap, the wanted end, the wanted exception -/
abbrev Sp := List V → Hp → VK → XK → Prop
/-- how an exception lies behind a call (file 08 gives it): the callers' frames, abstract heap and state ahead of the call, the wish, the exception, the state -/
abbrev CXT := List Env → Hp → Shared → XK → Value → Shared → Prop

/-- the state at a call -/
structure Env0 (P : Program) (w : World) (K : PySem.W.Frag) (mg : Str → Option Value) (base : Heap) (A : Around) (outer : List Env) (s : Shared) (H : Hp) : Prop where
  frames : A.frames = some outer
  mod : Mod K mg base
  bs : ∀ b o, base.get? b = some o → s.heap.get? b = some o ∧ H b = none
  bsz : base.objs.size ≤ s.heap.objs.size
  funs : s.heap.FunFrames base outer
  frf : ∀ b ∈ frs outer, H b = none
  hok : HOk P w H s.heap
  bare : AllBare s.gens
/-- a call's end -/
def CE (outer : List Env) (P : Program) (w : World) (H : Hp) (s : Shared) (Q : VK) (u : Value) (s' : Shared) : Prop :=
  ∃ v H', s'.os = s.os ∧ AllBare s'.gens ∧ Un (frs outer) [] H H' s.heap s'.heap ∧ HOk P w H' s'.heap ∧ RelV v u ∧ Q v H'
def CR (CX : CXT) (outer : List Env) (P : Program) (w : World) (H : Hp) (s : Shared) (Q : VK) (E : XK) (r : Result) (s' : Shared) : Prop :=
  match r with
  | .ok (.ret u) => CE outer P w H s Q u s'
  | .ok _ => False
  | .error e => CX outer H s E e s'
structure FnOk (P : Program) (w : World) (K : PySem.W.Frag) (mg : Str → Option Value) (base : Heap) (CX : CXT) (k : Nat) (f : Addr) (fd : FuncData) (ps : List Str) (sp : Sp) : Prop where
  len : ∀ vs H Q E, sp vs H Q E → vs.length = ps.length
  run : ∀ (A : Around) (outer : List Env) (s : Shared) (H : Hp) (args : Args) (us : List Value) (vs : List V) (Q : VK) (E : XK), Room k A → Env0 P w K mg base A outer s H → BindsTo s fd args (ps.zip us) → Vals vs us → sp vs H Q E →
    codeAny (model P w) A (.call (.ref f) args) (CR CX outer P w H s Q E) s
theorem FnOk.mono {P : Program} {w : World} {K : PySem.W.Frag} {mg : Str → Option Value} {base : Heap} {CX : CXT} {j k : Nat} {f : Addr} {fd : FuncData} {ps : List Str} {sp : Sp} (F : FnOk P w K mg base CX j f fd ps sp) (h : j ≤ k) :
    FnOk P w K mg base CX k f fd ps sp := ⟨F.len, fun A outer s H args us vs Q E hr => F.run A outer s H args us vs Q E (hr.mono h)⟩
/-- a weaker promise -/
theorem FnOk.imp {P : Program} {w : World} {K : PySem.W.Frag} {mg : Str → Option Value} {base : Heap} {CX : CXT} {k : Nat} {f : Addr} {fd : FuncData} {ps : List Str} {sp sp' : Sp} (F : FnOk P w K mg base CX k f fd ps sp)
    (h : ∀ vs H Q E, sp' vs H Q E → sp vs H Q E) : FnOk P w K mg base CX k f fd ps sp' :=
  ⟨fun vs H Q E q => F.len vs H Q E (h _ _ _ _ q), fun A outer s H args us vs Q E hr he hb hv hs => F.run A outer s H args us vs Q E hr he hb hv (h _ _ _ _ hs)⟩

theorem Env0.make {P : Program} {w : World} {K : PySem.W.Frag} {mg : Str → Option Value} {base : Heap} {A : Around} {outer : List Env} {s : Shared} {H : Hp} (e : Env0 P w K mg base A outer s H) (C : Addr) (us : List Value) (kw : List (Str × Value)) :
    Env0 P w K mg base (A.under (.builtin "type.__call__" ⟨.ref C :: us, kw⟩)) outer s H := ⟨by first | exact e.frames | (simpa [Around.under, Code.envs, Code.isFrame, pushEnvs] using e.frames), e.mod, e.bs, e.bsz, e.funs, e.frf, e.hok, e.bare⟩
theorem Env0.in1 {P : Program} {w : World} {K : PySem.W.Frag} {mg : Str → Option Value} {base : Heap} {A : Around} {outer : List Env} {s : Shared} {H : Hp} (e : Env0 P w K mg base A outer s H) :
    Env0 P w K mg base A.in1 outer s H := ⟨e.frames, e.mod, e.bs, e.bsz, e.funs, e.frf, e.hok, e.bare⟩

section
variable {X : Cx} {pins : List (Addr × Obj)} {σ : St} {H : Hp} {s s' : Shared}
/-- from a body: what a callee wants -/
theorem Inv.env0 (I : Inv X pins σ H s) : Env0 X.prog X.w X.K X.mg X.base X.A X.stack s H :=
  ⟨I.ok.frames, I.ok.mod, I.bs, Nat.le_trans I.ok.bsz I.sz, I.stack, I.stkFree, I.hok, I.bare⟩
/-- behind a call -/
theorem Inv.after {Q : VK} {u : Value} (I : Inv X pins σ H s) (h : CE X.stack X.prog X.w H s Q u s') : EP X pins σ Q u s' := by
  obtain ⟨v, H', os, bare, un, hok, r, q⟩ := h
  obtain ⟨hh, g, d, t, os'⟩ := s'
  obtain rfl : os' = s.os := os
  exact ⟨v, H', I.call (h' := hh) (g' := g) (d' := d) (t' := t) (ch := []) un hok bare (fun b z => absurd z (by simp)), r, q⟩
end

/-! ### calls -/
/-- f(..): the written arguments, then the defaults dvs; E: what is wanted of an exception -/
def tCall (sp : Sp) (dvs : List V) (E : XK) (t : TA) : TE := fun σ H Q => t σ H fun vs H1 => sp (vs ++ dvs) H1 Q E
/-- o.m(..) of an instance of the class at C -/
def tMeth (C : Addr) (m : Str) (sp : Sp) (dvs : List V) (E : XK) (ta : TE) (t : TA) : TE := fun σ H Q => ta σ H fun x H1 => ∃ a dx fs, x = .ref a ∧ H1 a = some (.ins C dx fs) ∧ fs.lookup m = none ∧
  t σ H1 fun vs H2 => sp (x :: (vs ++ dvs)) H2 Q E
/-- C(..): a new instance and its dict, then __init__ -/
def tMake (C : Addr) (sp : Sp) (dvs : List V) (E : XK) (t : TA) : TE := fun σ H Q => t σ H fun vs H1 => ∀ x dx, H1 x = none → H1 dx = none → dx ≠ x →
  sp (.ref x :: (vs ++ dvs)) (upd (upd H1 dx (.own x)) x (.ins C dx [])) (fun v H2 => v = .non ∧ Q (.ref x) H2) E

/-- how the parameters are bound: us the positional arguments, kw the keywords' values by name, ds the defaults that fill up -/
def Binds (K : PySem.W.Frag) (fd : FuncData) (ps : List Str) (ds : List Value) : Prop :=
  ∀ (s : Shared) (us : List Value), K.In s.heap → (us ++ ds).length = ps.length → BindsTo s fd ⟨us, []⟩ (ps.zip (us ++ ds))
/-- every parameter is given -/
theorem Binds.all {K : PySem.W.Frag} {fd : FuncData} {ps : List Str} (h : ∀ us : List Value, us.length = ps.length → bindArgs fd ⟨us, []⟩ = pure (ps.zip us)) : Binds K fd ps [] := fun s us _ hl => by
  rw [List.append_nil] at hl ⊢
  exact .of_eq (h us hl)

/-- an exception of a callee reaches what this body wants of exceptions -/
def Passes (CX : CXT) (X : Cx) (E : XK) : Prop := ∀ (pins : List (Addr × Obj)) (σ : St) (H : Hp) (s : Shared) (e : Value) (s' : Shared), Inv X pins σ H s → CX X.stack H s E e s' → X.xe e s'

section
variable {X : Cx} {CX : CXT} {k : Nat} {f C : Addr} {fd : FuncData} {ps : List Str} {sp : Sp} {dvs : List V} {ds : List Value} {E : XK} {x m : Str} {p pos apos : Pos} {e o : Expr} {es : List Expr} {ta : TE} {t : TA}

/-- the callee runs -/
theorem run_fn {pins : List (Addr × Obj)} {σ : St} {H : Hp} {s : Shared} {Q : VK} {us : List Value} {vs : List V} (F : FnOk X.prog X.w X.K X.mg X.base CX k f fd ps sp) (hr : Room k X.A) (hb : Binds X.K fd ps ds) (hd : Vals dvs ds) (hx : Passes CX X E)
    (I : Inv X pins σ H s) (r : Vals vs us) (h : sp (vs ++ dvs) H Q E) : wpAny (model X.prog X.w) X.A (call (.ref f) us) (EP X pins σ Q) X.xe s := by
  have r2 : Vals (vs ++ dvs) (us ++ ds) := r.append hd
  have hl : (us ++ ds).length = ps.length := by rw [← r2.length]; exact F.len _ _ _ _ h
  refine wpAny_call (codeAny_mono (F.run X.A X.stack s H ⟨us, []⟩ (us ++ ds) (vs ++ dvs) Q E hr I.env0 (hb s us I.kIn hl) r2 h) fun r s' hq => ?_)
  cases r with
  | error e => exact hx pins σ H s e s' I hq
  | ok fl =>
    cases fl with
    | ret u => exact I.after hq
    | next => exact False.elim hq
    | brk => exact False.elim hq
    | cont => exact False.elim hq

theorem pe_call (F : FnOk X.prog X.w X.K X.mg X.base CX k f fd ps sp) (hr : Room k X.A) (hg : Gl X x) (hm : X.mg x = some (.ref f)) (hk : PySem.W.keepIn X.K (.ref f) = true) (hb : Binds X.K fd ps ds) (hd : Vals dvs ds) (hx : Passes CX X E)
    (ha : PA X (e :: es) t) (hdb : (x == ("__debug__" : Str)) = false := by decide) (he : starEach (e :: es) X.env = (false, eval e X.env) :: starEach es X.env := by rfl) (hpl : (backTo pos (starEach es X.env)).any (·.1) = false := by rfl) :
    PE X (.Call (.Name x p) (e :: es) [] pos) (tCall sp dvs E t) := by
  intro pins s σ H Q I h
  refine wpAny_Call_Name_kw (ld_glob I hg hm ?_ hdb)
  refine PySem.W.callWith_K (h₀ := X.base) I.ok.mod.kin hk (thn (ha pos pins s σ H _ I h) fun us s1 ⟨vs, H1, I1, r, q⟩ => ⟨I1.kIn, ?_⟩) he hpl
  exact run_fn F hr hb hd hx I1 r q
theorem pe_call0 (F : FnOk X.prog X.w X.K X.mg X.base CX k f fd ps sp) (hr : Room k X.A) (hg : Gl X x) (hm : X.mg x = some (.ref f)) (hk : PySem.W.keepIn X.K (.ref f) = true) (hb : Binds X.K fd ps ds) (hd : Vals dvs ds) (hx : Passes CX X E)
    (hdb : (x == ("__debug__" : Str)) = false := by decide) : PE X (.Call (.Name x p) [] [] pos) (tCall sp dvs E tNil) := by
  intro pins s σ H Q I h
  refine wpAny_Call_Name_kw (ld_glob I hg hm ?_ hdb)
  exact PySem.W.callWith_K0 I.kIn hk (run_fn (us := []) F hr hb hd hx I .nil h)

/-- o.m(e, ..) -/
theorem pe_meth {pl : Sem Bool} (he : PE X o ta) (c : Cls X.K C) (hm : Meth X.K C m f) (F : FnOk X.prog X.w X.K X.mg X.base CX k f fd ps sp) (hr : Room k X.A) (hb : Binds X.K fd ps ds) (hd : Vals dvs ds) (hx : Passes CX X E) (ha : PA X (e :: es) t)
    (hst : starEach (e :: es) X.env = (false, eval e X.env) :: starEach es X.env := by rfl) (hpl : (backTo pos (starEach es X.env)).any (·.1) = false := by rfl)
    (ht : eval (.Call (.Attribute o m apos) (e :: es) [] pos) X.env = (do
      let ov ← eval o X.env
      standAt apos.atName
      let (f, first) ← holding [ov] (getMethod ov m pl)
      callWith pos f first (backTo pos (starEach (e :: es) X.env)) (backToKw pos (keywordEach [] X.env))) := by rfl) :
    PE X (.Call (.Attribute o m apos) (e :: es) [] pos) (tMeth C m sp dvs E ta t) := by
  intro pins s σ H Q I h
  refine PySem.W.methodCall_KW (pl := pl) (thn (he pins s σ H _ I h) fun u s1 ⟨x, H1, I1, rx, a, dx, fs, ex, ea, l, q⟩ => ?_) ht
  subst ex
  obtain rfl : u = Value.ref a := rx
  refine getmeth_ok I1 ea c hm l ?_
  refine PySem.W.callWith_K (first := [.ref a]) (h₀ := X.base) I.ok.mod.kin hm.kp (thn (ha pos pins s1 σ H1 _ I1 q) fun us s2 ⟨vs, H2, I2, r, q2⟩ => ⟨I2.kIn, ?_⟩) hst hpl
  exact run_fn (us := .ref a :: us) (vs := .ref a :: vs) F hr hb hd hx I2 (.cons rfl r) q2
/-- o.m() -/
theorem pe_meth0 {pl : Sem Bool} (he : PE X o ta) (c : Cls X.K C) (hm : Meth X.K C m f) (F : FnOk X.prog X.w X.K X.mg X.base CX k f fd ps sp) (hr : Room k X.A) (hb : Binds X.K fd ps ds) (hd : Vals dvs ds) (hx : Passes CX X E)
    (ht : eval (.Call (.Attribute o m apos) [] [] pos) X.env = (do
      let ov ← eval o X.env
      standAt apos.atName
      let (f, first) ← holding [ov] (getMethod ov m pl)
      callWith pos f first (backTo pos (starEach [] X.env)) (backToKw pos (keywordEach [] X.env))) := by rfl) :
    PE X (.Call (.Attribute o m apos) [] [] pos) (tMeth C m sp dvs E ta tNil) := by
  intro pins s σ H Q I h
  refine PySem.W.methodCall_KW (pl := pl) (thn (he pins s σ H _ I h) fun u s1 ⟨x, H1, I1, rx, a, dx, fs, ex, ea, l, q⟩ => ?_) ht
  subst ex
  obtain rfl : u = Value.ref a := rx
  refine getmeth_ok I1 ea c hm l ?_
  exact PySem.W.callWith_K0 (first := [.ref a]) I1.kIn hm.kp (run_fn (us := [.ref a]) (vs := [.ref a]) F hr hb hd hx I1 (.cons rfl .nil) q)

/-- what a class must have to be made -/
structure Mk (K : PySem.W.Frag) (C f : Addr) : Prop where
  makes : PySem.W.makesIn K C = true
  init : PySem.W.findIn K (.ref C) "__init__" = some (some (.ref f))
  fn : PySem.W.isFn K (.ref f) = true
  kp : PySem.W.keepIn K (.ref C) = true

theorem run_make {pins : List (Addr × Obj)} {σ : St} {H : Hp} {s : Shared} {Q : VK} {us : List Value} {vs : List V} (M : Mk X.K C f) (F : FnOk X.prog X.w X.K X.mg X.base CX k f fd ps sp) (hr : Room (k + 1) X.A) (hb : Binds X.K fd ps ds) (hd : Vals dvs ds)
    (hx : Passes CX X E) (I : Inv X pins σ H s) (r : Vals vs us)
    (h : ∀ x dx, H x = none → H dx = none → dx ≠ x → sp (.ref x :: (vs ++ dvs)) (upd (upd H dx (.own x)) x (.ins C dx [])) (fun v H2 => v = .non ∧ Q (.ref x) H2) E) :
    wpAny (model X.prog X.w) X.A (call (.ref C) us) (EP X pins σ Q) X.xe s := by
  have hq := h (s.heap.objs.size + 1) s.heap.objs.size (I.hok.fresh (Nat.le_succ _)) (I.hok.fresh (Nat.le_refl _)) (Nat.ne_of_lt (Nat.lt_succ_self _))
  have I2 := Inv.made (C := C) I
  have r2 : Vals (V.ref (s.heap.objs.size + 1) :: (vs ++ dvs)) (Value.ref (s.heap.objs.size + 1) :: (us ++ ds)) := .cons rfl (r.append hd)
  have hl : (Value.ref (s.heap.objs.size + 1) :: us ++ ds).length = ps.length := by
    have e := r2.length
    rw [F.len _ _ _ _ hq] at e
    exact e.symm
  refine wpAny_call (make_map (f := f) I.kIn M.makes M.init (beq_iff_eq.mp M.fn) (codeAny_mono (F.run _ X.stack _ _ ⟨Value.ref (s.heap.objs.size + 1) :: us, []⟩ (Value.ref (s.heap.objs.size + 1) :: (us ++ ds)) _ _ E (hr.make C us [])
    (I2.env0.make C us []) (hb _ (Value.ref (s.heap.objs.size + 1) :: us) I2.kIn hl) r2 hq) fun r s' hq' => ?_))
  cases r with
  | error e => exact hx pins σ _ _ e s' I2 hq'
  | ok fl =>
    cases fl with
    | ret u =>
      obtain ⟨v, H', I3, rv, ev, q3⟩ := I2.after hq'
      subst ev
      exact ⟨rv, ⟨V.ref (s.heap.objs.size + 1), H', I3, rfl, q3⟩⟩
    | next => exact False.elim hq'
    | brk => exact False.elim hq'
    | cont => exact False.elim hq'
theorem pe_make (M : Mk X.K C f) (F : FnOk X.prog X.w X.K X.mg X.base CX k f fd ps sp) (hr : Room (k + 1) X.A) (hg : Gl X x) (hm : X.mg x = some (.ref C)) (hb : Binds X.K fd ps ds) (hd : Vals dvs ds) (hx : Passes CX X E)
    (ha : PA X (e :: es) t) (hdb : (x == ("__debug__" : Str)) = false := by decide) (he : starEach (e :: es) X.env = (false, eval e X.env) :: starEach es X.env := by rfl) (hpl : (backTo pos (starEach es X.env)).any (·.1) = false := by rfl) :
    PE X (.Call (.Name x p) (e :: es) [] pos) (tMake C sp dvs E t) := by
  intro pins s σ H Q I h
  refine wpAny_Call_Name_kw (ld_glob I hg hm ?_ hdb)
  refine PySem.W.callWith_K (h₀ := X.base) I.ok.mod.kin M.kp (thn (ha pos pins s σ H _ I h) fun us s1 ⟨vs, H1, I1, r, q⟩ => ⟨I1.kIn, ?_⟩) he hpl
  exact run_make M F hr hb hd hx I1 r q
theorem pe_make0 (M : Mk X.K C f) (F : FnOk X.prog X.w X.K X.mg X.base CX k f fd ps sp) (hr : Room (k + 1) X.A) (hg : Gl X x) (hm : X.mg x = some (.ref C)) (hb : Binds X.K fd ps ds) (hd : Vals dvs ds) (hx : Passes CX X E)
    (hdb : (x == ("__debug__" : Str)) = false := by decide) : PE X (.Call (.Name x p) [] [] pos) (tMake C sp dvs E tNil) := by
  intro pins s σ H Q I h
  refine wpAny_Call_Name_kw (ld_glob I hg hm ?_ hdb)
  exact PySem.W.callWith_K0 I.kIn M.kp (run_make (us := []) M F hr hb hd hx I .nil h)
end

/-! ### keywords -/
/-- the values of the keywords, from the left -/
def PK (X : Cx) (kws : List Keyword) (t : TA) : Prop :=
  ∀ (pos : Pos) (pins : List (Addr × Obj)) (s : Shared) (σ : St) (H : Hp) (Q : List V → Hp → Prop), Inv X pins σ H s → t σ H Q → wpAny (model X.prog X.w) X.A (evalAll ((backToKw pos (keywordEach kws X.env)).map (·.2))) (AP X pins σ Q) X.xe s
section
variable {X : Cx} {CX : CXT} {k : Nat} {f C : Addr} {fd : FuncData} {ps ks : List Str} {sp : Sp} {E : XK} {x m : Str} {p pos apos kpos : Pos} {e o : Expr} {es : List Expr} {kws : List Keyword} {te ta : TE} {t tk : TA} {nm : Option Str}
theorem pk_nil : PK X [] tNil := fun _ _ _ _ H Q I h => wpAny_evalAll_nil ⟨[], H, I, .nil, h⟩
theorem pk_cons (ha : PE X e te) (hr : PK X kws t) : PK X (⟨nm, e, kpos⟩ :: kws) (tCons te t) := by
  intro pos pins s σ H Q I h
  show wpAny _ _ (evalAll ((do let v ← eval e X.env; standAt pos; pure v) :: (backToKw pos (keywordEach kws X.env)).map (·.2))) _ _ s
  refine wpAny_evalAll_cons (wpAny_bind (thn (ha pins s σ H _ I h) fun u s1 ⟨x, H1, I1, r1, q1⟩ => wpAny_bind (wpAny_standAt (wpAny_pure ?_))))
  exact thn (hr pos pins s1 σ H1 _ I1 q1) fun us s2 ⟨xs, H2, I2, r2, q2⟩ => ⟨x :: xs, H2, I2, .cons r1 r2, q2⟩

/-- how a call with keywords binds: g puts the positional values us and the keywords' values ws (names ks) in the parameters' order, defaults among them -/
structure KBinds (K : PySem.W.Frag) (fd : FuncData) (ps ks : List Str) (g : List Value → List Value → List Value) (gV : List V → List V → List V) : Prop where
  to : ∀ (s : Shared) (us ws : List Value), K.In s.heap → (g us ws).length = ps.length → BindsTo s fd ⟨us, ks.zip ws⟩ (ps.zip (g us ws))
  rel : ∀ {vs : List V} {us : List Value} {zs : List V} {ws : List Value}, Vals vs us → Vals zs ws → Vals (gV vs zs) (g us ws)
def tCallK (sp : Sp) (gV : List V → List V → List V) (E : XK) (t tk : TA) : TE := fun σ H Q => t σ H fun vs H1 => tk σ H1 fun zs H2 => sp (gV vs zs) H2 Q E
variable {g : List Value → List Value → List Value} {gV : List V → List V → List V}
theorem run_fnk {pins : List (Addr × Obj)} {σ : St} {H : Hp} {s : Shared} {Q : VK} {us ws : List Value} {vs zs : List V} (F : FnOk X.prog X.w X.K X.mg X.base CX k f fd ps sp) (hr : Room k X.A) (hb : KBinds X.K fd ps ks g gV) (hx : Passes CX X E)
    (I : Inv X pins σ H s) (r : Vals vs us) (rz : Vals zs ws) (h : sp (gV vs zs) H Q E) : wpAny (model X.prog X.w) X.A (call (.ref f) us (ks.zip ws)) (EP X pins σ Q) X.xe s := by
  have r2 := hb.rel r rz
  have hl : (g us ws).length = ps.length := by rw [← r2.length]; exact F.len _ _ _ _ h
  refine wpAny_call (codeAny_mono (F.run X.A X.stack s H ⟨us, ks.zip ws⟩ (g us ws) (gV vs zs) Q E hr I.env0 (hb.to s us ws I.kIn hl) r2 h) fun r s' hq => ?_)
  cases r with
  | error e => exact hx pins σ H s e s' I hq
  | ok fl =>
    cases fl with
    | ret u => exact I.after hq
    | next => exact False.elim hq
    | brk => exact False.elim hq
    | cont => exact False.elim hq
/-- f(e, .., k = v, ..) -/
theorem pe_callK (F : FnOk X.prog X.w X.K X.mg X.base CX k f fd ps sp) (hr : Room k X.A) (hg : Gl X x) (hm : X.mg x = some (.ref f)) (hk : PySem.W.keepIn X.K (.ref f) = true) (hb : KBinds X.K fd ps ks g gV) (hx : Passes CX X E)
    (ha : PA X (e :: es) t) (hkw : PK X kws tk) (hall : (backToKw pos (keywordEach kws X.env)).all (·.1.isSome) = true := by rfl) (hks : (backToKw pos (keywordEach kws X.env)).filterMap (·.1) = ks := by rfl)
    (hdb : (x == ("__debug__" : Str)) = false := by decide) (he : starEach (e :: es) X.env = (false, eval e X.env) :: starEach es X.env := by rfl)
    (hpl : ((backTo pos (starEach (e :: es) X.env)).any (·.1) || (backToKw pos (keywordEach kws X.env)).any (·.1.isNone)) = false := by rfl) :
    PE X (.Call (.Name x p) (e :: es) kws pos) (tCallK sp gV E t tk) := by
  intro pins s σ H Q I h
  refine wpAny_Call_Name_kw (ld_glob I hg hm ?_ hdb)
  refine PySem.W.callWith_KW (h₀ := X.base) I.ok.mod.kin hk hall (thn (ha pos pins s σ H _ I h) fun us s1 ⟨vs, H1, I1, r, q⟩ => ?_) hpl he
  refine thn (hkw pos pins s1 σ H1 _ I1 q) fun ws s2 ⟨zs, H2, I2, rz, q2⟩ => ⟨I2.kIn, ?_⟩
  rw [hks]
  exact run_fnk F hr hb hx I2 r rz q2
end

/-! ### a def's body keeps its promise -/
/-- names: the parameters first -/
structure FnScope (N P : List Str) (sc : Scope) : Prop where
  kind : sc.kind = .function
  co : sc.isCoroutine = false
  gen : sc.isGenerator = false
  nd : N.Nodup
  pre : N.take P.length = P
  par : ∀ x ∈ P, sc.names.lookup x = some .local ∨ sc.names.lookup x = some .cell
  nofree : ∀ y ∈ sc.names, y.2 ≠ .free

theorem bindL_out {kindOf : Str → Option NameKind} {x : Str} : ∀ {binds : List (Str × Value)} {m : Str → Option Value}, (∀ v, (x, v) ∉ binds) → bindL kindOf binds m x = m x
  | [], _, _ => rfl
  | (n, v) :: r, m, h => by
    unfold bindL
    rw [bindL_out fun w hw => h w (List.mem_cons_of_mem _ hw)]
    split
    · have : x ≠ n := by rintro rfl; exact h v List.mem_cons_self
      simp [this]
    · rfl
theorem bindC_out {kindOf : Str → Option NameKind} {x : Str} : ∀ {binds : List (Str × Value)} {m : Str → Option Value}, (∀ v, (x, v) ∉ binds) → bindC kindOf binds m x = m x
  | [], _, _ => rfl
  | (n, v) :: r, m, h => by
    unfold bindC
    rw [bindC_out fun w hw => h w (List.mem_cons_of_mem _ hw)]
    split
    · rfl
    · have : x ≠ n := by rintro rfl; exact h v List.mem_cons_self
      simp [this]
theorem bindL_get {kindOf : Str → Option NameKind} {x : Str} {v : Value} : ∀ {P : List Str} {vs : List Value} {i : Nat} {m : Str → Option Value}, P.Nodup → P[i]? = some x → vs[i]? = some v → kindOf x = some .local →
    bindL kindOf (P.zip vs) m x = some v
  | [], _, _, _, _, h, _, _ => by simp at h
  | _ :: _, [], _, _, _, _, h, _ => by simp at h
  | p :: P, w :: vs, 0, m, nd, h1, h2, hk => by
    simp at h1 h2; subst h1; subst h2
    show bindL kindOf ((p, w) :: P.zip vs) m p = _
    unfold bindL
    rw [bindL_out fun v hv => (List.nodup_cons.mp nd).1 (List.of_mem_zip hv).1, if_pos hk]
    simp
  | p :: P, w :: vs, i + 1, m, nd, h1, h2, hk => by
    show bindL kindOf ((p, w) :: P.zip vs) m x = _
    unfold bindL
    exact bindL_get (i := i) (List.nodup_cons.mp nd).2 (by simpa using h1) (by simpa using h2) hk
theorem bindC_get {kindOf : Str → Option NameKind} {x : Str} {v : Value} : ∀ {P : List Str} {vs : List Value} {i : Nat} {m : Str → Option Value}, P.Nodup → P[i]? = some x → vs[i]? = some v → kindOf x ≠ some .local →
    bindC kindOf (P.zip vs) m x = some v
  | [], _, _, _, _, h, _, _ => by simp at h
  | _ :: _, [], _, _, _, _, h, _ => by simp at h
  | p :: P, w :: vs, 0, m, nd, h1, h2, hk => by
    simp at h1 h2; subst h1; subst h2
    show bindC kindOf ((p, w) :: P.zip vs) m p = _
    unfold bindC
    rw [bindC_out fun v hv => (List.nodup_cons.mp nd).1 (List.of_mem_zip hv).1, if_neg hk]
    simp
  | p :: P, w :: vs, i + 1, m, nd, h1, h2, hk => by
    show bindC kindOf ((p, w) :: P.zip vs) m x = _
    unfold bindC
    exact bindC_get (i := i) (List.nodup_cons.mp nd).2 (by simpa using h1) (by simpa using h2) hk

/-- the names' values at the entry -/
def start (N : List Str) (vs : List V) : St := vs.map some ++ List.replicate (N.length - vs.length) none

/-- the context of a def's body, at its entry; an exception leaves the frame, then lies as CX says -/
def cxOf (CX : CXT) (P : Program) (w : World) (K : PySem.W.Frag) (mg : Str → Option Value) (base : Heap) (N : List Str) (qual : Str) (scope : Scope) (f : Addr) (cd : Value) (A : Around) (outer : List Env) (s : Shared) (H : Hp) (E : XK) : Cx where
  prog := P
  w := w
  K := K
  mg := mg
  base := base
  A := A.deeper (envOfC qual scope s.heap.objs.size f cd)
  N := N
  s₀ := s
  H₀ := H
  env := envOfC qual scope s.heap.objs.size f cd
  outer := outer
  stack := envOfC qual scope s.heap.objs.size f cd :: outer
  ex := []
  calm := true
  fn := fun _ => true
  pn := []
  xe := fun e s' => wpAny (model P w) (A.deeper (envOfC qual scope s.heap.objs.size f cd)) (leaving (envOfC qual scope s.heap.objs.size f cd) e) (fun _ s'' => CX outer H s E e s'') (fun e' s'' => CX outer H s E e' s'') s'

theorem cell_has {sc : Scope} {n : Nat} {x : Str} (h : sc.names.lookup x = some .cell) : ∃ c, (cellsFrom n sc.names []).lookup x = some c := by
  have q := PySem.W.cellsFrom_some sc.names n [] (.inl h)
  exact Option.isSome_iff_exists.mp q

theorem inv_start {CX : CXT} {P : Program} {w : World} {K : PySem.W.Frag} {mg : Str → Option Value} {base : Heap} {N ps : List Str} {qual : Str} {scope : Scope} {f : Addr} {cd : Value} {A : Around} {outer : List Env} {s s1 : Shared} {H : Hp} {E : XK} {us : List Value} {vs : List V}
    (S : FnScope N ps scope) (hd : A.handled = none) (e0 : Env0 P w K mg base A outer s H) (hl : vs.length = ps.length) (r : Vals vs us)
    (x : InCallC s s.heap.objs.size (bindL (envOfC qual scope s.heap.objs.size f cd).kindOf (ps.zip us) fun _ => none) (cellsFrom (s.heap.objs.size + 1) scope.names []) (bindC (envOfC qual scope s.heap.objs.size f cd).kindOf (ps.zip us) fun _ => none) s1) :
    Inv (cxOf CX P w K mg base N qual scope f cd A outer s H E) [] (start N vs) H s1 := by
  have hpl : ps.length ≤ N.length := by have := congrArg List.length S.pre; rw [List.length_take] at this; omega
  obtain ⟨h1, tk, rfl, hk⟩ := x.done
  have noA : ∀ b : Addr, b ∉ (cxOf CX P w K mg base N qual scope f cd A outer s H E).ex := fun b z => absurd (show b ∈ ([] : List Addr) from z) (by simp)
  refine ⟨⟨e0.mod, S.kind, rfl, rfl, Nat.le_refl _, fun y z c h1 h2 => ?_, fun y hy => ?_, fun y c _ h => ?_, fun _ => hd, Around.frames_deeper e0.frames, .inr ⟨rfl, rfl⟩, fun b z => absurd z (noA b), e0.bs, e0.bsz, fun b _ _ => noA b, fun b z => absurd z (noA b), e0.funs, e0.frf⟩,
    rfl, e0.bare, Un.kept hk, ⟨_, x.toInCall.ns, fun i y v h1 h2 h3 => ?_⟩, fun y c h => ⟨_, x.cell y c h⟩, e0.hok.fresh (Nat.le_refl _), fun y c h => ?_, fun p hp => absurd (show p ∈ ([] : List (Addr × Obj)) from hp) (by simp), e0.hok.kept hk, ?_⟩
  · exact name_of_addr x.apart (PySem.mem_of_lookup h1) (PySem.mem_of_lookup h2)
  · have hy : scope.names.lookup y = some .cell ∨ scope.names.lookup y = some .free := hy
    rcases hy with hy | hy
    · exact cell_has hy
    · exact absurd rfl (S.nofree _ (PySem.mem_of_lookup hy))
  · exact Nat.le_of_lt (x.above y c (PySem.mem_of_lookup h))
  · have hi : i < vs.length := by
      unfold start at h2
      by_cases hi : i < vs.length
      · exact hi
      · rw [List.getElem?_append_right (by simpa using hi)] at h2
        rw [List.getElem?_replicate] at h2
        split at h2 <;> cases h2
    have ha : vs[i]? = some v := by
      unfold start at h2
      rw [List.getElem?_append_left (by simpa using hi), List.getElem?_map] at h2
      cases e : vs[i]? with
      | none => rw [e] at h2; cases h2
      | some a => rw [e] at h2; cases h2; rfl
    obtain ⟨u, hu, rv⟩ := r.get ha
    have hp : ps[i]? = some y := by
      rw [← S.pre, List.getElem?_take_of_lt (by omega)]; exact h1
    have ndP : ps.Nodup := by rw [← S.pre]; exact S.nd.sublist (List.take_sublist _ _)
    refine ⟨u, rv, ?_⟩
    rcases S.par y (List.mem_of_getElem? hp) with k | k
    · exact .inl ⟨k, bindL_get ndP hp hu k⟩
    · obtain ⟨c, e⟩ := cell_has (n := s.heap.objs.size + 1) k
      refine .inr ⟨.inl k, c, e, ?_⟩
      have q := x.cell y c e
      rw [bindC_get ndP hp hu (by show scope.names.lookup y ≠ _; rw [k]; decide)] at q
      exact q
  · exact e0.hok.fresh (Nat.le_of_lt (x.above y c (PySem.mem_of_lookup h)))
  · unfold start
    show _ = N.length
    rw [List.length_append, List.length_map, List.length_replicate]
    omega

/-- THE RULE: a def (or a method) of the text, by its body. The body's reading t is chosen for each entry; it is run at the parameters' values -/
theorem fn_of {CX : CXT} {P : Program} {w : World} {K : PySem.W.Frag} {mg : Str → Option Value} {base : Heap} {k : Nat} {f : Addr} {name qual : Str} {params : Arguments} {body : List Stmt} {scope : Scope} {dV kV doc pm cdv ct oc : Value} {an od : Option Addr}
    {osl : Array (Option Value)} {N ps : List Str} {sp : Sp} (lk : K.lookup f = some ⟨oc, od, .func (PySem.W.fnOf name qual params body scope dV kV doc pm an cdv ct), osl⟩) (hcd : PySem.W.codeIn K cdv qual = true) (S : FnScope N ps scope)
    (len : ∀ vs H Q E, sp vs H Q E → vs.length = ps.length)
    (hbody : ∀ (A : Around) (outer : List Env) (s : Shared) (H : Hp) (vs : List V) (Q : VK) (E : XK), Room k (A.deeper (envOfC qual scope s.heap.objs.size f cdv)) → sp vs H Q E →
      ∃ t, PSs (cxOf CX P w K mg base N qual scope f cdv A outer s H E) body t ∧ t { nx := fun _ H' => Q .non H', rt := Q } (start N vs) H) :
    FnOk P w K mg base CX (k + 1) f (PySem.W.fnOf name qual params body scope dV kV doc pm an cdv ct) ps sp := by
  refine ⟨len, fun A outer s H args us vs Q E hr e0 hb r hsp => ?_⟩
  have hl := len _ _ _ _ hsp
  have KX : K.In s.heap := e0.mod.kin.keeps fun b o e => (e0.bs b o e).1
  have lim : s.heap.NoLimit := e0.mod.nolimit.keeps fun b o e => (e0.bs b o e).1
  have hkind : ∀ y ∈ ps.zip us, scope.names.lookup y.1 = some .local ∨ (scope.names.lookup y.1 = some .cell ∧ ((cellsFrom (s.heap.objs.size + 1) scope.names []).lookup y.1).isSome = true) := fun ⟨n, v⟩ hy => by
    rcases S.par n (List.of_mem_zip hy).1 with q | q
    · exact .inl q
    · exact .inr ⟨q, PySem.W.cellsFrom_some _ _ _ (.inl q)⟩
  refine codeAny_call_function hr.depth (KX _ _ lk) rfl S.co S.gen rfl (PySem.W.codeRec_of KX hcd) (hb _ _ _ _ ?_)
  refine wpAny_newFunctionEnv_cells S.kind hkind fun env he s1 x => ?_
  subst he
  refine ⟨lim.keeps x.toInCall.keep, codeAny_func ?_⟩
  obtain ⟨t, ht, hq⟩ := hbody A outer s H vs Q E (hr.deeper _) hsp
  have I : Inv (cxOf CX P w K mg base N qual scope f cdv A outer s H E) [] (start N vs) H s1 := inv_start S hr.hd e0 hl r x
  refine wpAny_mono (ht [] s1 (start N vs) H _ I hq) (fun fl s' hs => ?_) fun e s' hs => hs
  have fin : ∀ {σ' : St} {H' : Hp} {v : V} {u : Value}, Inv (cxOf CX P w K mg base N qual scope f cdv A outer s H E) [] σ' H' s' → RelV v u → Q v H' → CE outer P w H s Q u s' :=
    fun {σ' H' v u} J rv q => ⟨v, H', J.os, J.bare, J.base, J.hok, rv, q⟩
  cases fl with
  | ret u =>
    obtain ⟨v, σ', H', J, rv, q⟩ := hs
    exact fin J rv q
  | next =>
    obtain ⟨σ', H', J, q⟩ := hs
    exact fin (v := V.non) (u := Value.none) J rfl q
  | brk =>
    obtain ⟨_, _, _, q⟩ := hs
    exact False.elim q
  | cont =>
    obtain ⟨_, _, _, q⟩ := hs
    exact False.elim q
end L2

namespace L2
open PySem PySem.Spec PyProof.Rows
section
variable {X : Cx} {x : Str} {p pos : Pos} {e : Expr} {es : List Expr} {t : TA} {id T : String} {r : List V → Hp → VK → Prop}

def tCB (r : List V → Hp → VK → Prop) (t : TA) : TE := fun σ H Q => t σ H fun vs H1 => r vs H1 Q
/-- f(e, ..), f a built-in function -/
theorem pe_callB (hc : CallR X (.builtin id) r) (hg : Gl X x) (hm : X.mg x = none) (hv : bootBuiltins x = some (.builtin id)) (ha : PA X (e :: es) t) (hn : x ≠ "__name__" := by decide) (hdb : (x == ("__debug__" : Str)) = false := by decide)
    (he : starEach (e :: es) X.env = (false, eval e X.env) :: starEach es X.env := by rfl) (hpl : (backTo pos (starEach es X.env)).any (·.1) = false := by rfl) : PE X (.Call (.Name x p) (e :: es) [] pos) (tCB r t) := by
  intro pins s σ H Q I h
  refine wpAny_Call_Name_kw (ld_blt I hg hm hv ?_ hn hdb)
  exact PyProof.Rows.callWith_builtin1 (thn (ha pos pins s σ H _ I h) fun us s1 ⟨vs, H1, I1, r1, q1⟩ => hc pins s1 σ H1 vs us Q I1 r1 q1) he hpl
/-- T(e, ..), T a built-in type -/
theorem pe_callTy (hc : CallR X (.type T) r) (hg : Gl X x) (hm : X.mg x = none) (hv : bootBuiltins x = some (.type T)) (ha : PA X (e :: es) t) (hn : x ≠ "__name__" := by decide) (hdb : (x == ("__debug__" : Str)) = false := by decide)
    (he : starEach (e :: es) X.env = (false, eval e X.env) :: starEach es X.env := by rfl) (hpl : (backTo pos (starEach es X.env)).any (·.1) = false := by rfl) : PE X (.Call (.Name x p) (e :: es) [] pos) (tCB r t) := by
  intro pins s σ H Q I h
  refine wpAny_Call_Name_kw (ld_blt I hg hm hv ?_ hn hdb)
  exact PyProof.Rows.callWith_type1 (thn (ha pos pins s σ H _ I h) fun us s1 ⟨vs, H1, I1, r1, q1⟩ => hc pins s1 σ H1 vs us Q I1 r1 q1) he hpl
/-- T() -/
theorem pe_callTy0 (hc : CallR X (.type T) r) (hg : Gl X x) (hm : X.mg x = none) (hv : bootBuiltins x = some (.type T)) (hn : x ≠ "__name__" := by decide) (hdb : (x == ("__debug__" : Str)) = false := by decide) :
    PE X (.Call (.Name x p) [] [] pos) (tCB r tNil) := by
  intro pins s σ H Q I h
  refine wpAny_Call_Name_kw (ld_blt I hg hm hv ?_ hn hdb)
  exact PyProof.Rows.callWith_type0 (hc pins s σ H [] [] Q I .nil h)
end
end L2

namespace HT
open PySem PyProof.Rows

/-- t < u of tuples of ints -/
def lexLt : List Int → List Int → Bool
  | [], [] => false
  | [], _ :: _ => true
  | _ :: _, [] => false
  | x :: xs, y :: ys => if x = y then lexLt xs ys else decide (x < y)
theorem lexLt_cons (x y : Int) (xs ys : List Int) : lexLt (x :: xs) (y :: ys) = if x = y then lexLt xs ys else decide (x < y) := rfl
theorem lexLt_nil_nil : lexLt [] [] = false := rfl
theorem lexLt_nil_cons (y : Int) (ys : List Int) : lexLt [] (y :: ys) = true := rfl
theorem lexLt_cons_nil (x : Int) (xs : List Int) : lexLt (x :: xs) [] = false := rfl

theorem eqAt_int (A : Around) (s : Shared) (a : Int) (t : Tok) (c : Int) (u : Tok) : ∃ e, SeqAt.EqAt A s (.int a t) (.int c u) e ∧ (e = true ↔ a = c) :=
  ⟨(a == c), SeqAt.EqAt.int_int a t c u, by simp⟩
theorem rcLt_int (A : Around) (s : Shared) (a : Int) (t : Tok) (c : Int) (u : Tok) (prog : Program) (w : World) (E : Value → Shared → Prop) (Q : Value → Shared → Prop) (h : Q (.bool (decide (a < c))) s) :
    wpAny (model prog w) A (richCompare .Lt (.int a t) (.int c u)) Q E s :=
  (PyProof.Rows.lt_int h : wpAny (model prog w) A (compareOp .Lt (.int a t) (.int c u)) Q E s)

section
open PySem.SeqAt
open PySem.AutoSeq1 (wpAny_loadPart')
open PySem.MeetsSeq PySem.MeetsSeq2 PySem.MeetsSeq3

theorem tuple_lt_ints (l b : Addr) (items items2 : Array Value) (n n2 : Nat) (dd dd2 : Option Addr) (sl sl2 : Array (Option Value)) (ns ms : List Int) (hi : IntsAre items.toList ns) (hj : IntsAre items2.toList ms) :
    Meets (Builtin.«tuple.__lt__» ⟨[.ref l, .ref b], []⟩)
      (fun _ R s => s.heap.get? l = some { cls := .type "tuple", dict := dd, data := .seq items n, slots := sl } ∧ s.heap.get? b = some { cls := .type "tuple", dict := dd2, data := .seq items2 n2, slots := sl2 } ∧
        R (.ok (.ret (.bool (lexLt ns ms)))) s) :=
  .of_wp fun prog w A R s h => by
    obtain ⟨hp, g, d, tk, os⟩ := s; obtain ⟨hl, hb, h⟩ := h
    have f2 := AutoSeq1.sub_tuple_tuple
    have z1 : items.size = ns.length := by rw [← hi.length]; simp
    have z2 : items2.size = ms.length := by rw [← hj.length]; simp
    wp_walk using wpAny_loadPart' hl, wpAny_loadPart' hb, wpAny_forIn_list _ (fun rest b s' => b.1 = none ∧ s' = ⟨hp, g, d, tk, os⟩ ∧ ∃ (vs ws : List Value) (ns' ms' : List Int), rest = vs.zip ws ∧
      IntsAre vs ns' ∧ IntsAre ws ms' ∧ ns'.length + items2.size = ms'.length + items.size ∧ R (.ok (.ret (.bool (lexLt ns' ms')))) ⟨hp, g, d, tk, os⟩) _
    case turn =>
      rintro ⟨y, x⟩ rest b s' ⟨hb', rfl, vs, ws, ns', ms', hz, hvi, hwi, hlen, hR⟩
      cases hvi with
      | nil => rw [List.zip_nil_left] at hz; cases hz
      | cons a t hvi' =>
        cases hwi with
        | nil => rw [List.zip_nil_right] at hz; cases hz
        | cons c u hwi' =>
          rw [List.zip_cons_cons] at hz
          injection hz with hyx hrest
          injection hyx with hy hx
          subst hy hx
          rw [lexLt_cons] at hR
          simp only [List.length_cons] at hlen
          obtain ⟨e, he, hiff⟩ := eqAt_int A.in1 ⟨hp, g, d, tk, os⟩ a t c u
          refine wpAny_bind (he prog w _ _ ?_)
          cases e with
          | true =>
            rw [if_pos (hiff.mp rfl)] at hR
            wp_walk
            exact ⟨rfl, rfl, _, _, _, _, hrest, hvi', hwi', by omega, hR⟩
          | false =>
            rw [if_neg (fun q => absurd (hiff.mpr q) Bool.false_ne_true)] at hR
            have hri := rcLt_int A.in1 ⟨hp, g, d, tk, os⟩ a t c u prog w
            wp_walk using hri
            exact ⟨_, rfl, by simpa using hR⟩
    case fin =>
      rintro ⟨b1, b2⟩ s' ⟨hb', rfl, vs, ws, ns', ms', hz, hvi, hwi, hlen, hR⟩
      simp only at hb'
      subst hb'
      have hv : lexLt ns' ms' = decide (items.size < items2.size) := by
        cases hvi with
        | nil =>
          cases hwi with
          | nil =>
            simp only [List.length_nil] at hlen
            rw [lexLt_nil_nil]
            exact (decide_eq_false (by omega)).symm
          | cons c u hw =>
            simp only [List.length_nil, List.length_cons] at hlen
            rw [lexLt_nil_cons]
            exact (decide_eq_true (by omega)).symm
        | cons a t hv =>
          cases hwi with
          | nil =>
            simp only [List.length_nil, List.length_cons] at hlen
            rw [lexLt_cons_nil]
            exact (decide_eq_false (by omega)).symm
          | cons c u hw =>
            rw [List.zip_cons_cons] at hz
            cases hz
      rw [hv] at hR
      wp_walk
      exact ⟨_, rfl, by simpa [Builtin.Tuple.tupleCompareSizes] using hR⟩
    case h =>
      exact ⟨rfl, rfl, items.toList, items2.toList, ns, ms, rfl, hi, hj, by omega, h⟩
end

section
variable {prog : Program} {w : World} {A : Around} {E : Value → Shared → Prop} {s : Shared}

theorem lt_tupInts {l b : Addr} {items items2 : Array Value} {ns ms : List Int} {Q : Value → Shared → Prop} (hl : IsTup s.heap l items) (hb : IsTup s.heap b items2) (hi : IntsAre items.toList ns) (hj : IntsAre items2.toList ms)
    (hu : A.units < cLine) (h : Q (.bool (lexLt ns ms)) s) : wpAny (model prog w) A (compareOp .Lt (.ref l) (.ref b)) Q E s := by
  obtain ⟨⟨cls, dd, data, sl⟩, ho, hc, n, hd⟩ := id hl
  obtain ⟨⟨cls2, dd2, data2, sl2⟩, ho2, hc2, n2, hd2⟩ := id hb
  simp only at hc hd hc2 hd2
  subst hc hd hc2 hd2
  exact richCompare_meets_room (op := .Lt) ⟨_, ho, rfl⟩ ⟨_, ho2, rfl⟩ PySem.F.slot_tuple_lt PySem.F.entry_tuple_lt (PySem.F.args_tuple_lt_2 _ _) (tuple_lt_ints l b items items2 n n2 dd dd2 sl sl2 ns ms hi hj)
    ⟨ho, ho2, show Value.bool (lexLt ns ms) ≠ Value.notImplemented ∧ Q (.bool (lexLt ns ms)) s from ⟨(fun x => nomatch x), h⟩⟩ hu

/-- t + u, t not empty -/
theorem cat_tup {t b : Addr} {vs ws : List Value} {Q : Value → Shared → Prop} (ht : IsTup s.heap t vs.toArray) (hb : IsTup s.heap b ws.toArray) (hv : vs ≠ [])
    (h1 : ws = [] → Q (.ref t) s) (h2 : ws ≠ [] → Q (.ref s.heap.objs.size) { s with heap := s.heap.push { cls := .type "tuple", data := .seq (vs ++ ws).toArray } })
    (hsz : vs.length + ws.length ≤ sizeLine) : wpAny (model prog w) A (binaryOp .Add (.ref t) (.ref b)) Q E s := by
  obtain ⟨⟨cls, dd, data, sl⟩, ho, hc, n, hd⟩ := id ht
  obtain ⟨⟨cls2, dd2, data2, sl2⟩, ho2, hc2, n2, hd2⟩ := id hb
  simp only at hc hd hc2 hd2
  subst hc hd hc2 hd2
  have e : vs.toArray ++ ws.toArray = (vs ++ ws).toArray := by simp
  by_cases hw : ws = []
  · exact concat_meets ⟨_, ho, rfl⟩ ⟨_, ho2, rfl⟩ noFill_tuple_add seq_tuple_add PySem.F.slot_tuple_add PySem.F.entry_tuple_add (PySem.F.args_tuple_add_2 _ _)
      (tuple_addW1 t b vs.toArray ws.toArray n n2 dd dd2 sl sl2 (by simpa using hv) (by simp [hw])) ⟨ho, ho2, h1 hw⟩
  · refine concat_meets ⟨_, ho, rfl⟩ ⟨_, ho2, rfl⟩ noFill_tuple_add seq_tuple_add PySem.F.slot_tuple_add PySem.F.entry_tuple_add (PySem.F.args_tuple_add_2 _ _)
      (tuple_addW2 t b vs.toArray ws.toArray n n2 dd dd2 sl sl2 (by simpa using hv) (by simpa using hw) (by rw [List.size_toArray, List.size_toArray]; exact hsz)) ⟨ho, ho2, ?_⟩
    rw [e]
    exact h2 hw

/-! ### t[a:b], not the whole -/
/-- a slice's bound as a place among n (d where it is left out) -/
def sIx (n d : Nat) : Option Int → Nat
  | none => d
  | some v => if v < 0 then (v + (n : Int)).toNat else min v.toNat n
theorem sIx_none (n d : Nat) : sIx n d none = d := rfl
theorem sIx_nat (n d k : Nat) : sIx n d (some (k : Int)) = min k n := by
  show (if (k : Int) < 0 then ((k : Int) + (n : Int)).toNat else min (k : Int).toNat n) = min k n
  rw [if_neg (by omega), Int.toNat_natCast]
theorem sIx_le (n d : Nat) (hd : d ≤ n) (o : Option Int) : sIx n d o ≤ n := by
  cases o with
  | none => exact hd
  | some v =>
    show (if v < 0 then (v + (n : Int)).toNat else min v.toNat n) ≤ n
    by_cases hv : v < 0
    · rw [if_pos hv]; omega
    · rw [if_neg hv]; exact Nat.min_le_right _ _
theorem clip_eq (v : Int) (n d : Nat) : (if v < 0 then max (v + (n : Int)) 0 else min v (n : Int)) = ((sIx n d (some v) : Nat) : Int) := by
  show (if v < 0 then max (v + (n : Int)) 0 else min v (n : Int)) = (((if v < 0 then (v + (n : Int)).toNat else min v.toNat n) : Nat) : Int)
  by_cases hv : v < 0
  · simp only [if_pos hv]; omega
  · simp only [if_neg hv]; omega
theorem adjust_gen (lo hi : Option Int) (n : Nat) : Builtin.Slice.sliceAdjust lo hi 1 (n : Int) = (((sIx n 0 lo : Nat) : Int), ((sIx n n hi : Nat) : Int)) := by
  have h1 : ¬ ((1 : Int) < 0) := by omega
  unfold Builtin.Slice.sliceAdjust
  simp only [h1, if_false]
  refine Prod.ext ?_ ?_
  · cases lo with
    | none => rfl
    | some v => exact clip_eq v n 0
  · cases hi with
    | none => rfl
    | some v => exact clip_eq v n n
theorem places_gen (i j : Nat) : Builtin.Slice.slicePlaces (i : Int) (j : Int) 1 = j - i := by
  unfold Builtin.Slice.slicePlaces
  have h1 : (1 : Int) > 0 := by omega
  simp only [h1, if_true, Int.ediv_one]
  split <;> omega
theorem slicePart_ {v : Value} {o : Option Int} {Q : Option Int → Shared → Prop} (p : IsPart v o) (h : Q o s) : wpAny (model prog w) A (Builtin.Slice.slicePartIndex v) Q E s := by
  cases p with
  | none => exact slicePart_none h
  | int i t => exact slicePart_int h
theorem sliceApplied_gen {sl : Addr} {vl vu : Value} {lo hi : Option Int} {n : Nat} {Q : Int × Int × Nat → Shared → Prop} (hs : s.heap.IsSliceOf sl vl vu .none) (pl : IsPart vl lo) (pu : IsPart vu hi)
    (h : Q (((sIx n 0 lo : Nat) : Int), 1, sIx n n hi - sIx n 0 lo) s) : wpAny (model prog w) A (Builtin.Slice.sliceApplied (.ref sl) (pure (n : Int))) Q E s := by
  obtain ⟨os, hos, hcs, hds⟩ := id hs
  unfold Builtin.Slice.sliceApplied Builtin.Slice.sliceFields
  refine wpAny_bind (wpAny_bind (wpAny_field hos hds (x := vl) rfl (wpAny_bind (wpAny_field hos hds (x := vu) rfl (wpAny_bind (wpAny_field hos hds (x := .none) rfl (wpAny_pure ?_)))))))
  refine wpAny_bind (slicePart_none ?_)
  show wpAny _ _ (if ((1 : Int) == 0) = true then _ else _) _ _ s
  rw [if_neg (by decide)]
  refine wpAny_bind (slicePart_ pl (wpAny_bind (slicePart_ pu (wpAny_bind (wpAny_pure ?_)))))
  show wpAny _ _ (match Builtin.Slice.sliceAdjust lo hi 1 (n : Int) with | (lo, hi) => pure (lo, (1 : Int), Builtin.Slice.slicePlaces lo hi 1)) _ _ s
  rw [adjust_gen lo hi n]
  show wpAny _ _ (pure (((sIx n 0 lo : Nat) : Int), (1 : Int), Builtin.Slice.slicePlaces ((sIx n 0 lo : Nat) : Int) ((sIx n n hi : Nat) : Int) 1)) _ _ s
  rw [places_gen]
  exact wpAny_pure h
theorem pick_gen (xs : Array Value) (i k : Nat) : ((List.range k).filterMap fun (m : Nat) => xs[((i : Int) + (m : Int) * 1).toNat]?).toArray = ((xs.toList.drop i).take k).toArray := by
  have e : (fun (m : Nat) => xs[((i : Int) + (m : Int) * 1).toNat]?) = fun m => xs[i + m]? := by
    funext m
    have : ((i : Int) + (m : Int) * 1).toNat = i + m := by omega
    rw [this]
  rw [e]
  have := pick_run xs i k
  rw [List.filterMap_map] at this
  have e2 : ((fun x => xs[x]?) ∘ fun x => i + x) = fun m => xs[i + m]? := rfl
  rw [e2] at this
  rw [this]

theorem getItem_tuple_cut {t sl : Addr} {items : Array Value} {vl vu : Value} {lo hi : Option Int} {Q : Value → Shared → Prop} (ht : IsTup s.heap t items) (hs : s.heap.IsSliceOf sl vl vu .none) (pl : IsPart vl lo) (pu : IsPart vu hi)
    (hw : ¬ (sIx items.size 0 lo = 0 ∧ sIx items.size items.size hi = items.size))
    (h : Q (.ref s.heap.objs.size) { s with heap := s.heap.push { cls := .type "tuple", data := .seq ((items.toList.drop (sIx items.size 0 lo)).take (sIx items.size items.size hi - sIx items.size 0 lo)).toArray } })
    (hsz : items.size ≤ sizeLine) : wpAny (model prog w) A (getItem (.ref t) (.ref sl)) Q E s := by
  have htake : sizeOk (.seq ((items.toList.drop (sIx items.size 0 lo)).take (sIx items.size items.size hi - sIx items.size 0 lo)).toArray) := by
    show ((items.toList.drop (sIx items.size 0 lo)).take (sIx items.size items.size hi - sIx items.size 0 lo)).toArray.size ≤ sizeLine
    rw [List.size_toArray, List.length_take, List.length_drop, Array.length_toList]
    omega
  have hj : sIx items.size items.size hi ≤ items.size := sIx_le _ _ (Nat.le_refl _) hi
  obtain ⟨os, hos, hcs, hds⟩ := id hs
  have hTs : s.TypeIs (.ref sl) "slice" := ⟨os, hos, hcs⟩
  unfold getItem
  try with_reducible refine wpAny_holding ?_
  first | refine wpAny_bind (wpAny_pure ?_) | skip
  refine wpAny_bind (wpAny_sequenceKey ht.typeIs (by decide) ?_)
  refine wpAny_bind (wpAny_callSpecial?_slot (name := Str.ofString "__getitem__") ht.typeIs PyProof.Rows.slot_tuple_getitem
    (wpAny_call_entry PyProof.Rows.slot_tuple_getitem ht.typeIs entry_tuple_getitem ?_ (args_tuple_getitem _ _)))
  show wpAny _ _ (Builtin.Tuple.tupleItemsOf (.ref t) >>= _) _ _ s
  refine wpAny_bind (tupleItemsOf_ ht ?_)
  refine wpAny_bind (wpAny_typeOf hTs ?_)
  rw [if_pos (by decide)]
  refine wpAny_bind (sliceApplied_gen hs pl pu ?_)
  have hno : ¬ ((((sIx items.size 0 lo : Nat) : Int) == 0 && (1 : Int) == 1 && (sIx items.size items.size hi - sIx items.size 0 lo) == items.size) = true) := by
    intro q
    rw [Bool.and_eq_true, Bool.and_eq_true] at q
    have q1 : ((sIx items.size 0 lo : Nat) : Int) = 0 := eq_of_beq q.1.1
    have q2 : sIx items.size items.size hi - sIx items.size 0 lo = items.size := eq_of_beq q.2
    exact hw ⟨by omega, by omega⟩
  show wpAny _ _ (if (((sIx items.size 0 lo : Nat) : Int) == 0 && (1 : Int) == 1 && (sIx items.size items.size hi - sIx items.size 0 lo) == items.size) = true then _ else _) _ _ s
  rw [if_neg hno, pick_gen]
  first
    | exact wpAny_bind (m := Builtin.Tuple.tupleExact _) (wpAny_newObj_type (wpAny_pure ⟨_, rfl, wpAny_pure h⟩) htake)
    | exact wpAny_bind (m := Builtin.Tuple.tupleExact _) (wpAny_newObj_type (wpAny_bind (wpAny_pure (wpAny_pure ⟨_, rfl, wpAny_pure h⟩))) htake)
    | exact wpAny_bind (wpAny_bind (m := Builtin.Tuple.tupleExact _) (wpAny_newObj_type (wpAny_pure (wpAny_pure ⟨_, rfl, wpAny_pure h⟩)) htake))
    | exact wpAny_bind (wpAny_bind (m := Builtin.Tuple.tupleExact _) (wpAny_newObj_type (wpAny_pure ⟨_, rfl, wpAny_pure h⟩) htake))
end
end HT

namespace L2
open PySem PySem.Spec PyProof.Rows

/-! ### the parts of a slice -/
abbrev TO := St → Hp → (Option Int → Hp → Prop) → Prop
/-- a slice's part (left out, or an int) -/
def PO (X : Cx) (e : Option Expr) (t : TO) : Prop :=
  ∀ (pins : List (Addr × Obj)) (s : Shared) (σ : St) (H : Hp) (Q : Option Int → Hp → Prop), Inv X pins σ H s → t σ H Q →
    wpAny (model X.prog X.w) X.A (evalPart e X.env) (fun u s' => ∃ o H', Inv X pins σ H' s' ∧ IsPart u o ∧ Q o H') X.xe s
def tNoPart : TO := fun _ H Q => Q none H
def tPart (t : TE) : TO := fun σ H Q => t σ H fun x H1 => ∃ i, x = .int i ∧ Q (some i) H1

theorem intsAre_of {ns : List Int} : ∀ {us : List Value}, Vals (ns.map V.int) us → IntsAre us ns := by
  induction ns with
  | nil => intro us r; rw [List.map_nil] at r; cases r; exact .nil
  | cons n ns ih =>
    intro us r
    rw [List.map_cons] at r
    cases r with
    | cons r1 r2 =>
      obtain ⟨t, e⟩ := r1
      subst e
      exact .cons n t (ih r2)

section
variable {X : Cx} {e : Expr} {te : TE} {lo hi : Option Expr} {tl th : TO} {pos p2 : Pos}

theorem po_none : PO X none tNoPart := by
  intro pins s σ H Q I h
  rw [evalPart_none]
  exact wpAny_pure ⟨none, H, I, .none, h⟩
theorem po_some (h : PE X e te) : PO X (some e) (tPart te) := by
  intro pins s σ H Q I hw
  rw [evalPart_some]
  refine thn (h pins s σ H _ I hw) fun u s1 ⟨x, H1, I1, r1, q1⟩ => ?_
  obtain ⟨i, rfl, q⟩ := q1
  obtain ⟨t, rfl⟩ := r1
  exact ⟨some i, H1, I1, .int i t, q⟩

/-- what a slice of a value is, by values: the slice object stands at sl -/
def SlR (X : Cx) (r : V → Option Int → Option Int → Hp → VK → Prop) : Prop :=
  ∀ (pins : List (Addr × Obj)) (s : Shared) (σ : St) (H : Hp) (x : V) (v vl vu : Value) (lo hi : Option Int) (sl : Addr) (Q : VK), Inv X pins σ H s → RelV x v → s.heap.IsSliceOf sl vl vu .none → IsPart vl lo → IsPart vu hi → r x lo hi H Q →
    ∃ T id, typeLookup (.type T) "__getitem__" = pure (some (.builtin id)) ∧ s.TypeIs v T ∧ wpAny (model X.prog X.w) X.A (getItem v (.ref sl)) (EP X pins σ Q) X.xe s
theorem SlR.or {r r' : V → Option Int → Option Int → Hp → VK → Prop} (h : SlR X r) (h' : SlR X r') : SlR X (fun x lo hi H Q => r x lo hi H Q ∨ r' x lo hi H Q) := by
  intro pins s σ H x v vl vu lo hi sl Q I rx hs pl pu q
  rcases q with q | q
  · exact h pins s σ H x v vl vu lo hi sl Q I rx hs pl pu q
  · exact h' pins s σ H x v vl vu lo hi sl Q I rx hs pl pu q
def tSl (r : V → Option Int → Option Int → Hp → VK → Prop) (te : TE) (tl th : TO) : TE := fun σ H Q => te σ H fun x H1 => tl σ H1 fun l H2 => th σ H2 fun u H3 => r x l u H3 Q
/-- a[lo:hi], any a -/
theorem pe_slice {r : V → Option Int → Option Int → Hp → VK → Prop} (hr : SlR X r) (he : PE X e te) (hl : PO X lo tl) (hu : PO X hi th) : PE X (.Subscript e (.Slice lo hi none p2) pos) (tSl r te tl th) := by
  intro pins s σ H Q I h
  refine Subscript_ (thn (he pins s σ H _ I h) fun v s1 ⟨x, H1, I1, r1, q1⟩ => ?_)
  refine wpAny_Slice (thn (hl pins s1 σ H1 _ I1 q1) fun vl s2 ⟨l, H2, I2, pl, q2⟩ => thn (hu pins s2 σ H2 _ I2 q2) fun vu s3 ⟨u, H3, I3, pu, q3⟩ => ?_)
  rw [evalPart_none]
  refine wpAny_pure ?_
  have I4 : Inv X pins σ H3 { s3 with heap := s3.heap.push { cls := .type "slice", data := .fields #[vl, vu, .none] } } := I3.kept (t' := s3.toks) fun b ob q => Heap.get?_push_of_some _ q
  obtain ⟨T, id, hT, ht, hg⟩ := hr pins { s3 with heap := s3.heap.push { cls := .type "slice", data := .fields #[vl, vu, .none] } } σ H3 x v vl vu l u s3.heap.objs.size Q I4 r1 (Heap.IsSliceOf.new ..) pl pu q3
  show wpAny (model X.prog X.w) X.A (subscriptTail e (.Slice lo hi none p2) v (.ref s3.heap.objs.size)) (EP X pins σ Q) X.xe { s3 with heap := s3.heap.push { cls := .type "slice", data := .fields #[vl, vu, .none] } }
  exact tail_any (ops := [.ref s3.heap.objs.size, v]) ht hT hg (by with_unfolding_all rfl)

/-- the items of xs[lo:hi] -/
def cutV (xs : List V) (lo hi : Option Int) : List V := (xs.drop (HT.sIx xs.length 0 lo)).take (HT.sIx xs.length xs.length hi - HT.sIx xs.length 0 lo)
theorem cutV_length (xs : List V) (lo hi : Option Int) : (cutV xs lo hi).length ≤ xs.length := by
  unfold cutV
  rw [List.length_take, List.length_drop]
  omega
/-- t[lo:hi], not the whole of it (the whole would be t itself) -/
def rSlT (K : PySem.W.Frag) : V → Option Int → Option Int → Hp → VK → Prop := fun x lo hi H Q => ∃ a xs, x = .ref a ∧ SqT K H a xs ∧
  ¬ (HT.sIx xs.length 0 lo = 0 ∧ HT.sIx xs.length xs.length hi = xs.length) ∧ ∀ p, H p = none → Q (.ref p) (upd H p (.tup (cutV xs lo hi)))
theorem sl_tup : SlR X (rSlT X.K) := by
  intro pins s σ H x v vl vu lo hi sl Q I rx hs pl pu h
  obtain ⟨a, xs, rfl, hx, hw, q⟩ := h
  cases rx
  obtain ⟨its, r, ht, hz⟩ := I.tuple hx
  have hlen : its.toArray.size = xs.length := by rw [List.size_toArray]; exact r.length.symm
  refine ⟨"tuple", _, PyProof.Rows.slot_tuple_getitem.lookup, ht.typeIs, ?_⟩
  refine HT.getItem_tuple_cut ht hs pl pu (by rw [hlen]; exact hw) ?_ (by rw [hlen]; exact hz)
  rw [hlen]
  refine ⟨.ref s.heap.objs.size, _, I.laid (t' := s.toks) (o := .tup (cutV xs lo hi)) (fun b ob q => Heap.get?_push_of_some _ q) (Nat.le_refl _) ?_, rfl, q _ (I.hok.fresh (Nat.le_refl _))⟩
  exact ⟨Nat.le_trans (cutV_length xs lo hi) hz, _, (r.drop (HT.sIx xs.length 0 lo)).take (HT.sIx xs.length xs.length hi - HT.sIx xs.length 0 lo), IsTup.new _ _⟩

/-! ### t < u, t + u -/
def rLtT (K : PySem.W.Frag) : R2 := fun x y H Q => ∃ a b ns ms, x = .ref a ∧ y = .ref b ∧ SqT K H a (ns.map V.int) ∧ SqT K H b (ms.map V.int) ∧ Q (.bl (HT.lexLt ns ms)) H
theorem op_ltT (hu : X.A.units < cLine) : OpR X (compareOp .Lt) (rLtT X.K) := by
  intro pins s σ H x y v u Q I rx ry h
  obtain ⟨a, b, ns, ms, rfl, rfl, ha, hb, q⟩ := h
  cases rx
  cases ry
  obtain ⟨its, r1, p1, _⟩ := I.tuple ha
  obtain ⟨its2, r2, p2, _⟩ := I.tuple hb
  have i1 : IntsAre its.toArray.toList ns := intsAre_of r1
  have i2 : IntsAre its2.toArray.toList ms := intsAre_of r2
  exact HT.lt_tupInts p1 p2 i1 i2 hu ⟨.bl (HT.lexLt ns ms), H, I, rfl, q⟩
/-- t + u, t not empty: u empty gives t itself -/
def rCatT (K : PySem.W.Frag) : R2 := fun x y H Q => ∃ a b xs ys, x = .ref a ∧ y = .ref b ∧ SqT K H a xs ∧ SqT K H b ys ∧ xs ≠ [] ∧ xs.length + ys.length ≤ sizeLine ∧
  (ys = [] → Q (.ref a) H) ∧ (ys ≠ [] → ∀ p, H p = none → Q (.ref p) (upd H p (.tup (xs ++ ys))))
theorem Vals.nil_iff {xs : List V} {us : List Value} (r : Vals xs us) : us = [] ↔ xs = [] := by
  cases r with
  | nil => simp
  | cons _ _ => simp
theorem op_catT : OpR X (binaryOp .Add) (rCatT X.K) := by
  intro pins s σ H x y v u Q I rx ry h
  obtain ⟨a, b, xs, ys, rfl, rfl, ha, hb, hx, hz, q1, q2⟩ := h
  cases rx
  cases ry
  obtain ⟨its, r1, p1, _⟩ := I.tuple ha
  obtain ⟨its2, r2, p2, _⟩ := I.tuple hb
  refine HT.cat_tup p1 p2 (fun z => hx (r1.nil_iff.mp z)) (fun z => ⟨.ref a, H, I, rfl, q1 (r2.nil_iff.mp z)⟩) (fun z => ?_) (by rw [← r1.length, ← r2.length]; exact hz)
  refine ⟨.ref s.heap.objs.size, _, I.laid (t' := s.toks) (o := .tup (xs ++ ys)) (fun b ob q => Heap.get?_push_of_some _ q) (Nat.le_refl _) ?_, rfl, q2 (fun w => z (r2.nil_iff.mpr w)) _ (I.hok.fresh (Nat.le_refl _))⟩
  exact ⟨by rw [List.length_append]; exact hz, _, r1.append r2, IsTup.new _ _⟩
/-- tuple(t) -/
theorem call_tupleT : CallR X (.type "tuple") (fun xs H Q => ∃ a ys, xs = [.ref a] ∧ SqT X.K H a ys ∧ Q (.ref a) H) := by
  intro pins s σ H xs us Q I r h
  obtain ⟨a, ys, rfl, ha, q⟩ := h
  obtain ⟨u, rfl, ru⟩ := vals1 r
  cases ru
  obtain ⟨its, _, p1, _⟩ := I.tuple ha
  exact call_tuple_same (items := its.toArray) p1 ⟨.ref a, H, I, rfl, q⟩
end
end L2

namespace L2
open PySem PySem.Spec PyProof.Rows

/-! ### places -/
/-- the place that an index of any sign means -/
def ixN (n : Nat) (i : Int) : Option Nat := if 0 ≤ i then (if i < n then some i.toNat else none) else if -(n : Int) ≤ i then some (i + n).toNat else none
def atI {α : Type} (xs : List α) (i : Int) : Option α := (ixN xs.length i).bind fun j => xs[j]?
theorem ixN_seq {n : Nat} {i : Int} {j : Nat} (h : ixN n i = some j) : seqIndex? i n = some j ∧ j < n ∧ -(n : Int) ≤ i ∧ i < n := by
  unfold ixN at h
  by_cases h0 : 0 ≤ i
  · rw [if_pos h0] at h
    by_cases h1 : i < n
    · rw [if_pos h1] at h
      have e : i.toNat = j := Option.some.inj h
      exact ⟨by rw [seqIndex_of h0 h1, e], by omega, by omega, h1⟩
    · rw [if_neg h1] at h; cases h
  · rw [if_neg h0] at h
    by_cases h1 : -(n : Int) ≤ i
    · rw [if_pos h1] at h
      have e : (i + n).toNat = j := Option.some.inj h
      exact ⟨by rw [seqIndex_neg (by omega) h1, e], by omega, h1, by omega⟩
    · rw [if_neg h1] at h; cases h
theorem atI_get {α : Type} {xs : List α} {i : Int} {v : α} (h : atI xs i = some v) : ∃ j, seqIndex? i xs.length = some j ∧ xs[j]? = some v ∧ j < xs.length ∧ -(xs.length : Int) ≤ i ∧ i < xs.length := by
  unfold atI at h
  cases e : ixN xs.length i with
  | none => rw [e] at h; cases h
  | some j =>
    rw [e] at h
    obtain ⟨h1, h2, h3, h4⟩ := ixN_seq e
    exact ⟨j, h1, h, h2, h3, h4⟩
theorem atI_nat {α : Type} {xs : List α} {j : Nat} {v : α} (h : xs[j]? = some v) : atI xs (j : Int) = some v := by
  have hj : j < xs.length := (List.getElem?_eq_some_iff.mp h).1
  have e : ixN xs.length (j : Int) = some j := by
    unfold ixN
    rw [if_pos (by omega), if_pos (by omega)]; simp
  unfold atI; rw [e]; exact h
theorem atI_last {α : Type} (xs : List α) (v : α) : atI (xs ++ [v]) (-1) = some v := by
  have hl : (xs ++ [v]).length = xs.length + 1 := by simp
  have e : ixN (xs ++ [v]).length (-1) = some xs.length := by
    unfold ixN
    rw [hl, if_neg (by decide), if_pos (by omega)]
    congr 1
    omega
  unfold atI
  rw [e]
  show (xs ++ [v])[xs.length]? = some v
  simp

/-! ### what may be subscripted -/
/-- what stands as an index of a plain subscript -/
def PlainIx (b : Expr) : Prop := ∀ o i, subscripted b false o i = operate [o, i] (getItem o i)
/-- a subscript by values -/
def IxR (X : Cx) (r : R2) : Prop :=
  ∀ (value slice : Expr) (pins : List (Addr × Obj)) (s : Shared) (σ : St) (H : Hp) (x y : V) (v u : Value) (Q : VK), Inv X pins σ H s → RelV x v → RelV y u → r x y H Q →
    subscripted slice false v u = operate [v, u] (getItem v u) → wpAny (model X.prog X.w) X.A (subscriptTail value slice v u) (EP X pins σ Q) X.xe s
/-- a call of a builtin's method by values: the receiver, the arguments -/
def MtR (X : Cx) (id : String) (r : V → List V → Hp → VK → Prop) : Prop :=
  ∀ (pins : List (Addr × Obj)) (s : Shared) (σ : St) (H : Hp) (x : V) (xs : List V) (v : Value) (us : List Value) (Q : VK), Inv X pins σ H s → RelV x v → Vals xs us → r x xs H Q →
    wpAny (model X.prog X.w) X.A (call (.builtin id) (v :: us)) (EP X pins σ Q) X.xe s
section
variable {X : Cx} {a b : Expr} {ta tb : TE} {pos : Pos}
theorem IxR.or {r r' : R2} (h : IxR X r) (h' : IxR X r') : IxR X (fun x y H Q => r x y H Q ∨ r' x y H Q) := by
  intro value slice pins s σ H x y v u Q I rx ry q hs
  rcases q with q | q
  · exact h value slice pins s σ H x y v u Q I rx ry q hs
  · exact h' value slice pins s σ H x y v u Q I rx ry q hs
theorem MtR.or {id : String} {r r' : V → List V → Hp → VK → Prop} (h : MtR X id r) (h' : MtR X id r') : MtR X id (fun x xs H Q => r x xs H Q ∨ r' x xs H Q) := by
  intro pins s σ H x xs v us Q I rx rs q
  rcases q with q | q
  · exact h pins s σ H x xs v us Q I rx rs q
  · exact h' pins s σ H x xs v us Q I rx rs q
/-- a[b] -/
theorem pe_ix {r : R2} (hr : IxR X r) (ha : PE X a ta) (hb : PE X b tb) (hs : PlainIx b) : PE X (.Subscript a b pos) (tOp r ta tb) := by
  intro pins s σ H Q I h
  exact Subscript_ (binT ha hb I h fun v u s2 x y H2 I2 rx ry q => hr a b pins s2 σ H2 x y v u Q I2 rx ry q (hs _ _))

def rIxL (K : PySem.W.Frag) : R2 := fun x y H Q => ∃ p xs i v, x = .ref p ∧ y = .int i ∧ SqL K H p xs ∧ atI xs i = some v ∧ Q v H
def rIxT (K : PySem.W.Frag) : R2 := fun x y H Q => ∃ p xs i v, x = .ref p ∧ y = .int i ∧ SqT K H p xs ∧ atI xs i = some v ∧ Q v H
def rIxS : R2 := fun x y H Q => ∃ z i c, x = .str z ∧ y = .int i ∧ z.length ≤ sizeLine ∧ atI z.cps.toList i = some c ∧ Q (.str ⟨#[c]⟩) H
theorem ix_list : IxR X (rIxL X.K) := by
  intro value slice pins s σ H x y v u Q I rx ry h hs
  obtain ⟨p, xs, i, z, rfl, rfl, hq, he, q⟩ := h
  cases rx
  obtain ⟨t, rfl⟩ := ry
  obtain ⟨its, r, pl, hz⟩ := I.list hq
  obtain ⟨j, h1, h2, h3, h4, h5⟩ := atI_get he
  obtain ⟨w, ew, rw'⟩ := r.get h2
  have hl := r.length
  have hn := line63
  have fin : EP X pins σ Q w s := ⟨z, H, I, rw', q⟩
  by_cases h0 : 0 ≤ i
  · have hj : i.toNat = j := by
      rw [seqIndex_of h0 h5] at h1
      exact Option.some.inj h1
    exact item_listR pl.isList h0 (by omega) (by rw [hj]; simpa using ew) fin hs
  · have hj : (i + (its.toArray.size : Int)).toNat = j := by
      rw [seqIndex_neg (by omega) h4] at h1
      rw [List.size_toArray, ← hl]
      exact Option.some.inj h1
    exact subscriptTail_builtinR (x := w) pl.isList.typeIs slot_list_getitem.lookup
      (wpAny_getItem_list_neg (Q := fun r s' => r = w ∧ EP X pins σ Q r s') pl.isList (by omega) (by rw [List.size_toArray] <;> omega) (by omega) (by rw [hj]; simpa using ew) ⟨rfl, fin⟩) hs
theorem ix_tup : IxR X (rIxT X.K) := by
  intro value slice pins s σ H x y v u Q I rx ry h hs
  obtain ⟨p, xs, i, z, rfl, rfl, hq, he, q⟩ := h
  cases rx
  obtain ⟨t, rfl⟩ := ry
  obtain ⟨its, r, pl, hz⟩ := I.tuple hq
  obtain ⟨j, h1, h2, h3, h4, h5⟩ := atI_get he
  obtain ⟨w, ew, rw'⟩ := r.get h2
  have hl := r.length
  have hn := line63
  have fin : EP X pins σ Q w s := ⟨z, H, I, rw', q⟩
  exact subscriptTail_builtinR (x := w) pl.typeIs slot_tuple_getitem.lookup
    (getItem_tuple (j := j) (Q := fun r s' => r = w ∧ EP X pins σ Q r s') pl (by omega) (by omega) (by rw [List.size_toArray, ← hl]; exact h1) (by simpa using ew) ⟨rfl, fin⟩) hs
theorem ix_str : IxR X rIxS := by
  intro value slice pins s σ H x y v u Q I rx ry h hs
  obtain ⟨z, i, c, rfl, rfl, hz, he, q⟩ := h
  obtain ⟨t, rfl⟩ := rx
  obtain ⟨t', rfl⟩ := ry
  obtain ⟨j, h1, h2, h3, h4, h5⟩ := atI_get he
  have hl : z.cps.toList.length = z.length := by simp [Str.length]
  rw [hl] at h1 h4 h5
  have hn := line63
  exact tail_any (typeIs_str s z t) slot_str_getitem.lookup (getItem_str (c := c) (by
    have e1 : decide (i < -(2 ^ 63 : Int)) = false := decide_eq_false (by omega)
    have e2 : decide (i ≥ 2 ^ 63) = false := decide_eq_false (by omega)
    rw [e1, e2, Bool.or_false]) (by rw [h1]; simpa using h2) ⟨.str ⟨#[c]⟩, H, I.tok _, ⟨_, rfl⟩, q⟩) hs
/-- list, tuple or str -/
def rIx (K : PySem.W.Frag) : R2 := fun x y H Q => rIxL K x y H Q ∨ rIxT K x y H Q ∨ rIxS x y H Q
theorem ix_seq : IxR X (rIx X.K) := ix_list.or (ix_tup.or ix_str)

/-! ### xs[i] = v, any sign -/
/-- the list's object behind a store -/
theorem mapSeq_set (its : List Value) (n j : Nat) (u : Value) : Obj.mapSeq (·.setIfInBounds j u) { cls := .type "list", data := .seq its.toArray n } = { cls := .type "list", data := .seq (its.set j u).toArray n } := by
  simp [Obj.mapSeq]
theorem Inv.lst {pins : List (Addr × Obj)} {σ : St} {H : Hp} {s : Shared} {p : Addr} {xs : List V} (I : Inv X pins σ H s) (h : H p = some (.lst xs)) :
    ∃ (its : List Value) (n : Nat), Vals xs its ∧ s.heap.get? p = some { cls := .type "list", data := .seq its.toArray n } ∧ xs.length ≤ sizeLine := by
  obtain ⟨z, its, n, r, e⟩ := I.hok p _ h
  exact ⟨its, n, r, e, z⟩
/-- the list at p is written by an update of its object -/
theorem Inv.lstUpd {pins : List (Addr × Obj)} {σ : St} {H : Hp} {s : Shared} {p : Addr} {xs ys : List V} {its its' : List Value} {n n' : Nat} {f : Obj → Obj} (I : Inv X pins σ H s) (h : H p = some (.lst xs))
    (ho : s.heap.get? p = some { cls := .type "list", data := .seq its.toArray n }) (hf : f { cls := .type "list", data := .seq its.toArray n } = { cls := .type "list", data := .seq its'.toArray n' }) (r : Vals ys its') (hz : ys.length ≤ sizeLine) (t : Nat) :
    Inv X pins σ (upd H p (.lst ys)) { s with heap := s.heap.update p f, toks := t } := by
  have e : (s.heap.update p f).get? p = some { cls := .type "list", data := .seq its'.toArray n' } := by
    rw [Heap.get?_update_self f ho (by rw [hf] <;> rfl), hf]
  refine I.write (x := p) (e := p) (by rw [h]; trivial) (.inl rfl) (fun b u hb q => (Heap.get?_update_other _ _ (Ne.symm hb)).trans q) ⟨_, e⟩ ?_
  exact ⟨hz, its', n', r, e⟩
def rSetL : V → V → V → Hp → (Hp → Prop) → Prop := fun o i v H Q => ∃ p xs k j, o = .ref p ∧ i = .int k ∧ H p = some (.lst xs) ∧ ixN xs.length k = some j ∧ Q (upd H p (.lst (xs.set j v)))
theorem set_list : PSet X rSetL := by
  intro pins s σ H o i v ov iv u Q I ro ri rv h
  obtain ⟨p, xs, k, j, rfl, rfl, hp, hj, q⟩ := h
  cases ro
  obtain ⟨t, rfl⟩ := ri
  obtain ⟨its, n, r, ho, hz⟩ := I.lst hp
  obtain ⟨h1, h2, h3, h4⟩ := ixN_seq hj
  have hl := r.length
  have hn := line63
  have I' : Inv X pins σ (upd H p (.lst (xs.set j v))) { s with heap := s.heap.update p (Obj.mapSeq (·.setIfInBounds j u)) } :=
    I.lstUpd hp ho (mapSeq_set its n j u) (r.set rv j) (by rw [List.length_set]; exact hz) s.toks
  by_cases h0 : 0 ≤ k
  · have hk : k.toNat = j := by
      rw [seqIndex_of h0 h4] at h1
      exact Option.some.inj h1
    exact PySem.W.ki_setAt ho h0 (by omega) (by rw [List.size_toArray, ← hl]; exact h4) (by rw [hk]; exact ⟨_, I', q⟩)
  · have hk : (k + (its.toArray.size : Int)).toNat = j := by
      rw [seqIndex_neg (by omega) h3] at h1
      rw [List.size_toArray, ← hl]
      exact Option.some.inj h1
    exact PySem.W.ki_setBack ho (by omega) (by rw [List.size_toArray, ← hl]; exact h3) (by omega) (by rw [hk]; exact ⟨_, I', q⟩)

/-! ### slices -/
theorem slice_bounds (lo hi : Option Int) (n : Nat) : (sliceBounds lo hi none n).1 = ((HT.sIx n 0 lo : Nat) : Int) ∧ (sliceBounds lo hi none n).2.1 = ((HT.sIx n n hi : Nat) : Int) ∧ (sliceBounds lo hi none n).2.2 = 1 := by
  refine ⟨?_, ?_, rfl⟩
  · cases lo with
    | none => simp [sliceBounds, HT.sIx]
    | some i =>
      simp only [sliceBounds, HT.sIx, Option.getD_none, show (1 : Int) > 0 by decide, if_true]
      by_cases h : i < 0
      · simp only [h, if_true] <;> omega
      · simp only [h, if_false] <;> omega
  · cases hi with
    | none => simp [sliceBounds, HT.sIx]
    | some i =>
      simp only [sliceBounds, HT.sIx, Option.getD_none, show (1 : Int) > 0 by decide, if_true]
      by_cases h : i < 0
      · simp only [h, if_true] <;> omega
      · simp only [h, if_false] <;> omega
theorem slicePick_cut (its : List Value) (lo hi : Option Int) : slicePick its.toArray lo hi none = ((its.drop (HT.sIx its.length 0 lo)).take (HT.sIx its.length its.length hi - HT.sIx its.length 0 lo)).toArray := by
  obtain ⟨h1, h2, h3⟩ := slice_bounds lo hi its.toArray.size
  unfold slicePick
  rw [h1, h2, h3]
  simp only [sliceRange_one, pick_run, List.size_toArray] <;> rfl
/-- xs[lo:hi] of a list: a new list -/
def rSlL (K : PySem.W.Frag) : V → Option Int → Option Int → Hp → VK → Prop := fun x lo hi H Q => ∃ a xs, x = .ref a ∧ SqL K H a xs ∧ ∀ p, H p = none → Q (.ref p) (upd H p (.lst (cutV xs lo hi)))
theorem sl_list : SlR X (rSlL X.K) := by
  intro pins s σ H x v vl vu lo hi sl Q I rx hs pl pu h
  obtain ⟨a, xs, rfl, hx, q⟩ := h
  cases rx
  obtain ⟨its, r, ht, hz⟩ := I.list hx
  have hlen := r.length
  refine ⟨"list", _, slot_list_getitem.lookup, ht.isList.typeIs, ?_⟩
  refine wpAny_getItem_list_slice ht.isList hs pl pu .none (by simp) ?_ (by rw [List.size_toArray] <;> omega)
  rw [slicePick_cut, ← hlen]
  refine ⟨.ref s.heap.objs.size, _, I.laid (t' := s.toks) (o := .lst (cutV xs lo hi)) (fun b ob q => Heap.get?_push_of_some _ q) (Nat.le_refl _) ?_, rfl, q _ (I.hok.fresh (Nat.le_refl _))⟩
  exact ⟨Nat.le_trans (cutV_length xs lo hi) hz, _, 0, (r.drop (HT.sIx xs.length 0 lo)).take (HT.sIx xs.length xs.length hi - HT.sIx xs.length 0 lo), Heap.get?_push_size _ rfl⟩

/-! ### in, not in: flat items -/
def flatV : V → Bool
  | .non => true
  | .bl _ => true
  | .int _ => true
  | .str _ => true
  | _ => false
/-- == of flat values -/
def eqV : V → V → Bool
  | .non, .non => true
  | .bl a, .bl b => a == b
  | .bl a, .int b => (if a then 1 else 0) == b
  | .int a, .bl b => a == (if b then 1 else 0)
  | .int a, .int b => a == b
  | .str a, .str b => a == b
  | _, _ => false
theorem eqAt_V {A : Around} {s : Shared} {y x : V} {u v : Value} (ry : RelV y u) (rx : RelV x v) (fy : flatV y = true) (fx : flatV x = true) : SeqAt.EqAt A s u v (eqV y x) := by
  cases y with
  | non =>
    cases ry
    cases x with
    | non => cases rx; exact SeqAt.EqAt.same _
    | bl b => cases rx; exact SeqAt.EqAt.none_bool b
    | int b => obtain ⟨t, rfl⟩ := rx; exact SeqAt.EqAt.none_int b t
    | str b => obtain ⟨t, rfl⟩ := rx; exact SeqAt.EqAt.none_str b t
    | _ => exact absurd (show false = true from fx) Bool.false_ne_true
  | bl a =>
    cases ry
    cases x with
    | non => cases rx; exact SeqAt.EqAt.bool_none a
    | bl b => cases rx; exact SeqAt.EqAt.bool_bool a b
    | int b => obtain ⟨t, rfl⟩ := rx; exact SeqAt.EqAt.bool_int a b t
    | str b => obtain ⟨t, rfl⟩ := rx; exact SeqAt.EqAt.bool_str a b t
    | _ => exact absurd (show false = true from fx) Bool.false_ne_true
  | int a =>
    obtain ⟨t', rfl⟩ := ry
    cases x with
    | non => cases rx; exact SeqAt.EqAt.int_none a t'
    | bl b => cases rx; exact SeqAt.EqAt.int_bool a t' b
    | int b => obtain ⟨t, rfl⟩ := rx; exact SeqAt.EqAt.int_int a t' b t
    | str b => obtain ⟨t, rfl⟩ := rx; exact SeqAt.EqAt.int_str a t' b t
    | _ => exact absurd (show false = true from fx) Bool.false_ne_true
  | str a =>
    obtain ⟨t', rfl⟩ := ry
    cases x with
    | non => cases rx; exact SeqAt.EqAt.str_none a t'
    | bl b => cases rx; exact SeqAt.EqAt.str_bool a t' b
    | int b => obtain ⟨t, rfl⟩ := rx; exact SeqAt.EqAt.str_int a t' b t
    | str b => obtain ⟨t, rfl⟩ := rx; exact SeqAt.EqAt.str_str a t' b t
    | _ => exact absurd (show false = true from fx) Bool.false_ne_true
  | _ => exact absurd (show false = true from fy) Bool.false_ne_true
/-- the items' answers, read off the values (a value's own answer does not lean on its token) -/
def eqU (x : V) (u : Value) : Bool := match u with
  | .none => eqV .non x
  | .bool b => eqV (.bl b) x
  | .int i _ => eqV (.int i) x
  | .str z _ => eqV (.str z) x
  | _ => false
theorem eqU_of {x y : V} {u : Value} (r : RelV y u) (f : flatV y = true) : eqU x u = eqV y x := by
  cases y with
  | non => cases r; rfl
  | bl b => cases r; rfl
  | int i => obtain ⟨t, rfl⟩ := r; rfl
  | str z => obtain ⟨t, rfl⟩ := r; rfl
  | _ => exact absurd (show false = true from f) Bool.false_ne_true
theorem any_eqU {x : V} : ∀ {xs : List V} {us : List Value}, Vals xs us → xs.all flatV = true → us.any (eqU x) = xs.any fun y => eqV y x
  | _, _, .nil, _ => rfl
  | y :: xs, u :: us, .cons r t, f => by
    rw [List.all_cons, Bool.and_eq_true] at f
    rw [List.any_cons, List.any_cons, eqU_of r f.1, any_eqU t f.2]
theorem mem_eqAt {A : Around} {s : Shared} {x : V} {v : Value} (rx : RelV x v) (fx : flatV x = true) : ∀ {xs : List V} {us : List Value}, Vals xs us → xs.all flatV = true → ∀ u ∈ us, SeqAt.EqAt A s u v (eqU x u)
  | _, _, .nil, _ => fun u hu => by cases hu
  | y :: xs, u :: us, .cons r t, f => fun u' hu => by
    rw [List.all_cons, Bool.and_eq_true] at f
    rcases List.mem_cons.mp hu with rfl | hu
    · rw [eqU_of r f.1]; exact eqAt_V r rx f.1 fx
    · exact mem_eqAt rx fx t f.2 u' hu
def inV (x : V) (xs : List V) : Bool := xs.any fun y => eqV y x
/-- x in a list or tuple of flat items -/
def rIn (K : PySem.W.Frag) (neg : Bool) : R2 := fun x y H Q => ∃ p xs, y = .ref p ∧ (SqL K H p xs ∨ SqT K H p xs) ∧ flatV x = true ∧ xs.all flatV = true ∧ Q (.bl (if neg then !inV x xs else inV x xs)) H
theorem op_in_seq : OpR X (compareOp .In) (rIn X.K false) := by
  intro pins s σ H x y v u Q I rx ry h
  obtain ⟨p, xs, rfl, hq, fx, fs, q⟩ := h
  cases ry
  rcases hq with hq | hq
  · obtain ⟨its, r, pl, hz⟩ := I.list hq
    refine SeqAt.in_listAt (eqU x) pl.isList (fun w hw => mem_eqAt rx fx r fs w (by simpa using hw)) ⟨.bl _, H, I, rfl, ?_⟩
    rw [show its.toArray.any (eqU x) = its.any (eqU x) by simp, any_eqU r fs]
    exact q
  · obtain ⟨its, r, pl, hz⟩ := I.tuple hq
    refine SeqAt.in_tupleAt (eqU x) pl (fun w hw => mem_eqAt rx fx r fs w (by simpa using hw)) ⟨.bl _, H, I, rfl, ?_⟩
    rw [show its.toArray.any (eqU x) = its.any (eqU x) by simp, any_eqU r fs]
    exact q
theorem op_notIn_seq : OpR X (compareOp .NotIn) (rIn X.K true) := by
  intro pins s σ H x y v u Q I rx ry h
  obtain ⟨p, xs, rfl, hq, fx, fs, q⟩ := h
  cases ry
  rcases hq with hq | hq
  · obtain ⟨its, r, pl, hz⟩ := I.list hq
    refine SeqAt.notIn_listAt (eqU x) pl.isList (fun w hw => mem_eqAt rx fx r fs w (by simpa using hw)) ⟨.bl _, H, I, rfl, ?_⟩
    rw [show its.toArray.any (eqU x) = its.any (eqU x) by simp, any_eqU r fs]
    exact q
  · obtain ⟨its, r, pl, hz⟩ := I.tuple hq
    refine SeqAt.notIn_tupleAt (eqU x) pl (fun w hw => mem_eqAt rx fx r fs w (by simpa using hw)) ⟨.bl _, H, I, rfl, ?_⟩
    rw [show its.toArray.any (eqU x) = its.any (eqU x) by simp, any_eqU r fs]
    exact q
theorem op_notIn_str : OpR X (compareOp .NotIn) (fun x y H Q => ∃ i j, x = .str i ∧ y = .str j ∧ Q (.bl (!(!(Builtin.Str.occurrences j i 0 j.length 1).isEmpty))) H) := by
  intro pins s σ H x y v u Q I rx ry h
  obtain ⟨i, j, rfl, rfl, q⟩ := h
  obtain ⟨t, rfl⟩ := rx
  obtain ⟨t', rfl⟩ := ry
  exact notIn_str ⟨.bl _, H, I, rfl, q⟩

/-! ### len, list(x), tuple(x) of any list or tuple that is read -/
theorem call_len_seq : CallR X (.builtin "len") (fun xs H Q => ∃ p ys, xs = [.ref p] ∧ (SqL X.K H p ys ∨ SqT X.K H p ys) ∧ Q (.int ys.length) H) := by
  intro pins s σ H xs us Q I r h
  obtain ⟨p, ys, rfl, hq, q⟩ := h
  obtain ⟨u, rfl, rx⟩ := vals1 r
  cases rx
  have hn := line63
  rcases hq with hq | hq
  · obtain ⟨its, r', pl, hz⟩ := I.list hq
    have hlen := r'.length
    exact Calls.call_len_list pl.isList (by simp only [List.size_toArray] <;> omega) ⟨.int ys.length, H, I.tok _, ⟨s.toks + 1, by rw [List.size_toArray, hlen]⟩, q⟩
  · obtain ⟨its, r', pl, hz⟩ := I.tuple hq
    have hlen := r'.length
    exact len_tuple pl (by simp only [List.size_toArray] <;> omega) ⟨.int ys.length, H, I.tok _, ⟨s.toks + 1, by rw [List.size_toArray, hlen]⟩, q⟩
theorem call_len_str : CallR X (.builtin "len") (fun xs H Q => ∃ z, xs = [.str z] ∧ z.length ≤ sizeLine ∧ Q (.int z.length) H) := by
  intro pins s σ H xs us Q I r h
  obtain ⟨z, rfl, hz, q⟩ := h
  obtain ⟨u, rfl, t, rfl⟩ := vals1 r
  have hn := line63
  exact len_str (by omega) ⟨.int z.length, H, I.tok _, ⟨_, rfl⟩, q⟩
theorem CallR.or {f : Value} {r r' : List V → Hp → VK → Prop} (h : CallR X f r) (h' : CallR X f r') : CallR X f (fun xs H Q => r xs H Q ∨ r' xs H Q) := by
  intro pins s σ H xs us Q I rs q
  rcases q with q | q
  · exact h pins s σ H xs us Q I rs q
  · exact h' pins s σ H xs us Q I rs q
theorem call_list_of : CallR X (.type "list") (fun xs H Q => ∃ p ys, xs = [.ref p] ∧ (SqL X.K H p ys ∨ SqT X.K H p ys) ∧ ∀ l, H l = none → Q (.ref l) (upd H l (.lst ys))) := by
  intro pins s σ H xs us Q I r h
  obtain ⟨p, ys, rfl, hq, q⟩ := h
  obtain ⟨u, rfl, rx⟩ := vals1 r
  cases rx
  have fin : ∀ (its : List Value), Vals ys its → ys.length ≤ sizeLine → ∀ (h' : Heap) (c' : Nat), (∀ b o', s.heap.get? b = some o' → h'.get? b = some o') →
      h'.get? s.heap.objs.size = some { cls := .type "list", dict := none, data := .seq its.toArray c', slots := #[] } → EP X pins σ Q (.ref s.heap.objs.size) { s with heap := h' } := fun its r' hz h' c' kp e =>
    ⟨.ref s.heap.objs.size, _, I.laid (t' := s.toks) kp (Nat.le_refl _) (show ObjOk X.prog X.w _ h' _ (.lst ys) from ⟨hz, its, c', r', e⟩), rfl, q _ (I.hok.fresh (Nat.le_refl _))⟩
  rcases hq with hq | hq
  · obtain ⟨its, r', pl, hz⟩ := I.list hq
    have hlen := r'.length
    obtain ⟨o, ho, hc, n, hd⟩ := pl.isList
    exact call_list_seq p (.inl rfl) ho hc hd (fun h' c' kp e => fin its r' hz h' c' kp e) (by simp only [List.size_toArray] <;> omega)
  · obtain ⟨its, r', pl, hz⟩ := I.tuple hq
    have hlen := r'.length
    obtain ⟨o, ho, hc, n, hd⟩ := pl
    exact call_list_seq p (.inr rfl) ho hc hd (fun h' c' kp e => fin its r' hz h' c' kp e) (by simp only [List.size_toArray] <;> omega)
theorem call_tuple_of : CallR X (.type "tuple") (fun xs H Q => ∃ p ys, xs = [.ref p] ∧ ((SqL X.K H p ys ∧ ∀ l, H l = none → Q (.ref l) (upd H l (.tup ys))) ∨ (SqT X.K H p ys ∧ Q (.ref p) H))) := by
  intro pins s σ H xs us Q I r h
  obtain ⟨p, ys, rfl, h⟩ := h
  obtain ⟨u, rfl, rx⟩ := vals1 r
  cases rx
  rcases h with ⟨hq, q⟩ | ⟨hq, q⟩
  · obtain ⟨its, r', pl, hz⟩ := I.list hq
    have hlen := r'.length
    refine call_tuple_list pl.isList (fun h' kp => ?_) (by simp only [List.size_toArray] <;> omega)
    have I1 : Inv X pins σ H { s with heap := h' } := I.kept (t' := s.toks) kp
    have I2 : Inv X pins σ (upd H h'.objs.size (.tup ys)) { s with heap := h'.push { cls := .type "tuple", data := .seq its.toArray } } :=
      I1.laid (t' := s.toks) (fun b o e => Heap.get?_push_of_some _ e) (Nat.le_refl _) (show ObjOk X.prog X.w _ _ _ (.tup ys) from ⟨hz, its, r', IsTup.new _ _⟩)
    exact ⟨.ref h'.objs.size, _, I2, rfl, q _ (I1.hok.fresh (Nat.le_refl _))⟩
  · obtain ⟨its, r', pl, hz⟩ := I.tuple hq
    exact call_tuple_same pl ⟨.ref p, H, I, rfl, q⟩

/-! ### the call of a builtin's method: o.m(..) -/
/-- the value is of that builtin type -/
def tyV (K : PySem.W.Frag) (T : String) (x : V) (H : Hp) : Prop := match x with
  | .str _ => T = "str"
  | .int _ => T = "int"
  | .ref p => (T = "list" ∧ ∃ xs, SqL K H p xs) ∨ (T = "tuple" ∧ ∃ o, K.lookup p = some o ∧ o.cls = .type "tuple" ∧ o.dict = none) ∨
      (T = "dict" ∧ ((∃ kvs, H p = some (.dK kvs)) ∨ ∃ kvs, H p = some (.dT kvs))) ∨ (T = "set" ∧ ∃ S n, H p = some (.set S n))
  | _ => False
theorem tyV_is {pins : List (Addr × Obj)} {σ : St} {H : Hp} {s : Shared} {T : String} {x : V} {v : Value} (I : Inv X pins σ H s) (r : RelV x v) (ty : tyV X.K T x H) :
    s.TypeIs v T ∧ ∀ a, v = .ref a → ∃ ob, s.heap.get? a = some ob ∧ ob.dict = none := by
  cases x with
  | str z =>
    obtain ⟨t, rfl⟩ := r
    cases (show T = "str" from ty)
    exact ⟨typeIs_str s z t, fun _ e => nomatch e⟩
  | int i =>
    obtain ⟨t, rfl⟩ := r
    cases (show T = "int" from ty)
    exact ⟨typeIs_int s i t, fun _ e => nomatch e⟩
  | ref p =>
    cases r
    rcases ty with ⟨rfl, xs, hq⟩ | ⟨rfl, o, hk, hc, hd⟩ | ⟨rfl, hk⟩ | ⟨rfl, S, n, hk⟩
    · obtain ⟨its, _, pl, _⟩ := I.list hq
      refine ⟨pl.isList.typeIs, fun a e => ?_⟩
      cases e
      obtain ⟨o, n, e, c, hd, _⟩ := pl
      exact ⟨o, e, hd⟩
    · refine ⟨⟨o, I.kIn p o hk, hc⟩, fun a e => ?_⟩
      cases e
      exact ⟨o, I.kIn _ o hk, hd⟩
    · have z : ∃ o, s.heap.get? p = some o ∧ o.ExactDict := by
        rcases hk with ⟨kvs, hk⟩ | ⟨kvs, hk⟩
        · obtain ⟨_, _, _, _, o, _, _, e, ex, _⟩ := I.hok p _ hk
          exact ⟨o, e, ex⟩
        · obtain ⟨_, _, _, _, o, _, _, e, ex, _⟩ := I.hok p _ hk
          exact ⟨o, e, ex⟩
      obtain ⟨o, e, ex⟩ := z
      refine ⟨⟨o, e, ex.1⟩, fun a e2 => ?_⟩
      cases e2
      exact ⟨o, e, ex.2.1⟩
    · obtain ⟨o, _, _, _, e, ex, _⟩ := I.hok p _ hk
      refine ⟨⟨o, e, ex.1⟩, fun a e2 => ?_⟩
      cases e2
      exact ⟨o, e, ex.2.1⟩
  | _ => exact False.elim ty
def tBM0 (K : PySem.W.Frag) (T : String) (r : V → List V → Hp → VK → Prop) (to : TE) : TE := fun σ H Q => to σ H fun x H1 => tyV K T x H1 ∧ r x [] H1 Q
def tBM (K : PySem.W.Frag) (T : String) (r : V → List V → Hp → VK → Prop) (to : TE) (t : TA) : TE := fun σ H Q => to σ H fun x H1 => tyV K T x H1 ∧ t σ H1 fun xs H2 => r x xs H2 Q
variable {o e : Expr} {es : List Expr} {to : TE} {t : TA} {name : Str} {apos cpos : Pos} {T id : String} {r : V → List V → Hp → VK → Prop}
theorem pe_bm0 (pa : PlainAttrs T) (slot : Slot T name id) (hty : typeOf (.builtin id) = pure (.type "method_descriptor")) (hm : MtR X id r) (ho : PE X o to)
    (hbase : attributeBase o name X.env (eval o X.env) = eval o X.env := by rfl) (hline : (apos.endLine == cpos.line) = true := by rfl) : PE X (.Call (.Attribute o name apos) [] [] cpos) (tBM0 X.K T r to) := by
  intro pins s σ H Q I h
  refine wpAny_Call_method0_late hbase hline (thn (ho pins s σ H _ I h) fun v s1 ⟨x, H1, I1, r1, ty, q1⟩ => ?_)
  obtain ⟨h1, h2⟩ := tyV_is I1 r1 ty
  exact ⟨T, id, pa, slot, hty, h1, h2, Calls.callWith_builtin rfl (PySem.evalArgs_none (hm pins s1 σ H1 x [] v [] Q I1 r1 .nil q1))⟩
theorem pe_bm (pa : PlainAttrs T) (slot : Slot T name id) (hty : typeOf (.builtin id) = pure (.type "method_descriptor")) (hm : MtR X id r) (ho : PE X o to) (ha : PA X (e :: es) t)
    (hbase : attributeBase o name X.env (eval o X.env) = eval o X.env := by rfl)
    (hfew : ((backTo cpos (starEach (e :: es) X.env)).all (fun x => !x.1) && (backToKw cpos (keywordEach [] X.env)).all (fun x => x.1.isSome)
      && decide ((e :: es).length + ([] : List Keyword).length + (if ([] : List Keyword).isEmpty then 0 else 1) < 30)) = true := by rfl)
    (hline : (apos.endLine == cpos.line) = true := by rfl) (hs : starEach (e :: es) X.env = (false, eval e X.env) :: starEach es X.env := by rfl) (hplain : (backTo cpos (starEach es X.env)).any (·.1) = false := by rfl) :
    PE X (.Call (.Attribute o name apos) (e :: es) [] cpos) (tBM X.K T r to t) := by
  intro pins s σ H Q I h
  refine wpAny_Call_method_late hbase hfew hline rfl (thn (ho pins s σ H _ I h) fun v s1 ⟨x, H1, I1, r1, ty, q1⟩ => ?_)
  obtain ⟨h1, h2⟩ := tyV_is I1 r1 ty
  refine ⟨T, id, pa, slot, hty, h1, h2, ?_⟩
  have hA := ha cpos pins s1 σ H1 _ I1 q1
  rw [hs] at hA ⊢
  refine Calls.callWith_builtin (by show (false || (backTo cpos (starEach es X.env)).any (·.1)) = false; rw [hplain] <;> rfl) (Calls.evalArgs_plain ?_)
  exact thn hA fun us s2 ⟨vs, H2, I2, r2, q2⟩ => hm pins s2 σ H2 x vs v us Q I2 r1 r2 q2
/- xs.append(e), list.index on a module's tuple .. are MtR facts of 06m -/
end
end L2

namespace L2
open PySem PySem.Spec PyProof.Rows

def MtM (X : Cx) (id : String) (r : V → List V → Hp → VK → Prop) : Prop :=
  ∀ (pins : List (Addr × Obj)) (s : Shared) (σ : St) (H : Hp) (x : V) (xs : List V) (v : Value) (us : List Value) (Q : VK), Inv X pins σ H s → RelV x v → Vals xs us → r x xs H Q →
    wpAny (model X.prog X.w) X.A (call (.builtin id) (v :: us)) (EP X pins σ Q) X.xe s

/-! ### lists of values -/
theorem Vals.one : ∀ {x : V} {us : List Value}, Vals [x] us → ∃ u, us = [u] ∧ RelV x u
  | _, _, .cons r .nil => ⟨_, rfl, r⟩
theorem Vals.two : ∀ {x y : V} {us : List Value}, Vals [x, y] us → ∃ u v, us = [u, v] ∧ RelV x u ∧ RelV y v
  | _, _, _, .cons r (.cons q .nil) => ⟨_, _, rfl, r, q⟩
theorem Vals.zero : ∀ {us : List Value}, Vals [] us → us = []
  | _, .nil => rfl
theorem Vals.dropLast {xs : List V} {us : List Value} (h : Vals xs us) : Vals xs.dropLast us.dropLast := by
  induction h with
  | nil => exact .nil
  | cons r t ih =>
    cases t with
    | nil => exact .nil
    | cons q t' => exact .cons r ih
theorem Vals.eraseIdx : ∀ {xs : List V} {us : List Value} (i : Nat), Vals xs us → Vals (xs.eraseIdx i) (us.eraseIdx i)
  | _, _, _, .nil => .nil
  | _, _, 0, .cons _ t => t
  | _, _, i + 1, .cons r t => .cons r (Vals.eraseIdx i t)
theorem Vals.reverse {xs : List V} {us : List Value} (h : Vals xs us) : Vals xs.reverse us.reverse := by
  induction h with
  | nil => exact .nil
  | cons r t ih => rw [List.reverse_cons, List.reverse_cons]; exact Vals.append ih (.cons r .nil)
theorem Vals.rep {xs : List V} {us : List Value} (h : Vals xs us) : ∀ k : Nat, Vals (List.replicate k xs).flatten (List.replicate k us).flatten
  | 0 => .nil
  | k + 1 => by
    rw [List.replicate_succ, List.replicate_succ, List.flatten_cons, List.flatten_cons]
    exact Vals.append h (Vals.rep h k)
theorem erase_last {α : Type} (l : List α) : l.eraseIdx (l.length - 1) = l.dropLast := by
  induction l with
  | nil => rfl
  | cons a r ih =>
    cases r with
    | nil => rfl
    | cons b r =>
      have e : (a :: b :: r).length - 1 = ((b :: r).length - 1) + 1 := by
        have h1 : (a :: b :: r).length = r.length + 2 := rfl
        have h2 : (b :: r).length = r.length + 1 := rfl
        omega
      rw [e, List.eraseIdx_cons_succ, ih]
      all_goals rfl
theorem len_erase {α : Type} : ∀ (l : List α) (i : Nat), (l.eraseIdx i).length ≤ l.length
  | [], _ => Nat.le_refl _
  | _ :: _, 0 => Nat.le_succ _
  | _ :: r, i + 1 => Nat.succ_le_succ (len_erase r i)
theorem foldl_rep (its : List Value) : ∀ (k : Nat) (acc : List Value),
    List.foldl (fun x1 x2 => x1 ++ x2) acc.toArray (List.replicate k its.toArray) = (acc ++ (List.replicate k its).flatten).toArray
  | 0, acc => by simp
  | k + 1, acc => by
    have e : acc.toArray ++ its.toArray = (acc ++ its).toArray := by simp
    have e2 : (acc ++ its) ++ (List.replicate k its).flatten = acc ++ (List.replicate (k + 1) its).flatten := by
      rw [List.replicate_succ, List.flatten_cons, List.append_assoc]
    rw [← e2, ← foldl_rep its k (acc ++ its), ← e, List.replicate_succ, List.foldl_cons]

section
variable {X : Cx} {pins : List (Addr × Obj)} {σ : St} {H : Hp} {s : Shared} {l b : Addr} {xs ys zs : List V}

/-! ### the two steps: a tracked list is rewritten, a new list is laid -/
theorem Inv.lset {its its' : List Value} {n : Nat} {f : Array Value → Array Value} {t' : Nat} (I : Inv X pins σ H s) (hH : H l = some (.lst xs))
    (e : s.heap.get? l = some { cls := .type "list", data := .seq its.toArray n }) (hf : f its.toArray = its'.toArray) (hv : Vals ys its') (hz : ys.length ≤ sizeLine) :
    Inv X pins σ (upd H l (.lst ys)) { s with heap := s.heap.update l (Obj.mapSeq f), toks := t' } := by
  have q := PySem.IsL.update e f
  rw [hf] at q
  refine I.write (x := l) (e := l) (by rw [hH]; exact trivial) (.inl rfl) (fun b' u hb hu => (Heap.get?_update_other s.heap (Obj.mapSeq f) (Ne.symm hb)).trans hu) ⟨_, q⟩ ?_
  exact ⟨hz, its', _, hv, q⟩
theorem Inv.lnew {its : List Value} {t' : Nat} (I : Inv X pins σ H s) (hv : Vals ys its) (hz : ys.length ≤ sizeLine) :
    Inv X pins σ (upd H s.heap.objs.size (.lst ys)) { s with heap := s.heap.push { cls := .type "list", data := .seq its.toArray }, toks := t' } :=
  I.laid (fun _ _ q => Heap.get?_push_of_some _ q) (Nat.le_refl _) ⟨hz, its, 0, hv, Heap.get?_push_size _ rfl⟩
theorem Inv.fresh (I : Inv X pins σ H s) : H s.heap.objs.size = none := I.hok.fresh (Nat.le_refl _)
theorem Inv.lstM (I : Inv X pins σ H s) (hH : H l = some (.lst xs)) : xs.length ≤ sizeLine ∧ ∃ (its : List Value) (n : Nat), Vals xs its ∧ xs.length = its.length ∧ s.heap.get? l = some { cls := .type "list", data := .seq its.toArray n } := by
  obtain ⟨z, its, n, r, e⟩ := I.hok l _ hH
  exact ⟨z, its, n, r, r.length, e⟩

theorem notLongL {n : Nat} (h : n ≤ sizeLine) : Builtin.List.listTooLong n = false := by
  unfold Builtin.List.listTooLong
  exact decide_eq_false (by omega)
end

section
variable {X : Cx}

/-! ### methods -/
def rAppend : V → List V → Hp → VK → Prop := fun x vs H Q => ∃ l xs y, x = .ref l ∧ vs = [y] ∧ H l = some (.lst xs) ∧ xs.length < sizeLine ∧ Q .non (upd H l (.lst (xs ++ [y])))
theorem mt_append : MtM X "list.append" rAppend := by
  intro pins s σ H x vs v us Q I rx rv h
  obtain ⟨l, xs, y, rfl, rfl, hH, hz, q⟩ := h
  cases rx
  obtain ⟨u, rfl, ru⟩ := rv.one
  obtain ⟨z, its, n, r, hl, e⟩ := I.lstM hH
  refine call_meets F.slot_list_append ⟨_, e, rfl⟩ F.entry_list_append (F.args_list_append_2 _ _) (PySem.list_append l its.toArray n u (by rw [List.size_toArray]; omega)) ⟨e, ?_⟩
  refine ⟨.non, _, I.lset (its' := its ++ [u]) hH e (by simp) (r.append (.cons ru .nil)) ?_, rfl, q⟩
  rw [List.length_append, List.length_singleton]
  omega

def rExtend : V → List V → Hp → VK → Prop := fun x vs H Q => ∃ l b xs zs, x = .ref l ∧ vs = [.ref b] ∧ H l = some (.lst xs) ∧ H b = some (.lst zs) ∧ xs.length + zs.length ≤ sizeLine ∧ Q .non (upd H l (.lst (xs ++ zs)))
theorem mt_extend : MtM X "list.extend" rExtend := by
  intro pins s σ H x vs v us Q I rx rv h
  obtain ⟨l, b, xs, zs, rfl, rfl, hH, hB, hz, q⟩ := h
  cases rx
  obtain ⟨u, rfl, ru⟩ := rv.one
  cases ru
  obtain ⟨z, its, n, r, hl, e⟩ := I.lstM hH
  obtain ⟨z2, its2, n2, r2, hl2, e2⟩ := I.lstM hB
  have hsz : its.toArray.size + its2.toArray.size ≤ sizeLine := by rw [List.size_toArray, List.size_toArray]; omega
  have hlong : ¬ (!its.toArray.isEmpty && Builtin.List.listTooLong (its.toArray.size + its2.toArray.size)) = true := by
    rw [notLongL hsz, Bool.and_false]
    exact Bool.false_ne_true
  refine call_meets F.slot_list_extend ⟨_, e, rfl⟩ F.entry_list_extend (F.args_list_extend_2 _ _)
    (AutoSeq1.list_extend_list_list_0 l its.toArray n b its2.toArray n2 hlong (by rw [List.size_toArray]; omega) (by omega)) ⟨e, e2, ?_⟩
  refine ⟨.non, _, I.lset (its' := its ++ its2) hH e (by simp) (r.append r2) ?_, rfl, q⟩
  rw [List.length_append]
  omega

def rPop : V → List V → Hp → VK → Prop := fun x vs H Q => ∃ l xs y, x = .ref l ∧ vs = [] ∧ H l = some (.lst xs) ∧ xs[xs.length - 1]? = some y ∧ Q y (upd H l (.lst xs.dropLast))
theorem mt_pop : MtM X "list.pop" rPop := by
  intro pins s σ H x vs v us Q I rx rv h
  obtain ⟨l, xs, y, rfl, rfl, hH, hy, q⟩ := h
  cases rx
  have hus := rv.zero
  subst hus
  obtain ⟨z, its, n, r, hl, e⟩ := I.lstM hH
  obtain ⟨u, hu, ru⟩ := r.get hy
  have hy' : its.toArray[its.toArray.size - 1]? = some u := by
    show its.toArray[its.length - 1]? = some u
    rw [← Array.getElem?_toList, ← hl]
    exact hu
  refine call_meets F.slot_list_pop ⟨_, e, rfl⟩ F.entry_list_pop (F.args_list_pop_1 _) (MeetsSeq.list_pop_last l its.toArray n u hy' (by rw [List.size_toArray]; omega)) ⟨e, ?_⟩
  refine ⟨y, _, I.lset (its' := its.dropLast) hH e ?_ r.dropLast ?_, ru, q⟩
  · show its.toArray.eraseIdxIfInBounds (its.toArray.size - 1) = its.dropLast.toArray
    rw [List.size_toArray, List.eraseIdxIfInBounds_toArray, erase_last]
  · rw [List.length_dropLast]
    omega

def rPopAt : V → List V → Hp → VK → Prop := fun x vs H Q => ∃ l xs i k y, x = .ref l ∧ vs = [.int i] ∧ H l = some (.lst xs) ∧ -(2 ^ 63) ≤ i ∧ i < 2 ^ 63 ∧ seqIndex? i xs.length = some k ∧ xs[k]? = some y ∧ Q y (upd H l (.lst (xs.eraseIdx k)))
theorem mt_popAt : MtM X "list.pop" rPopAt := by
  intro pins s σ H x vs v us Q I rx rv h
  obtain ⟨l, xs, i, k, y, rfl, rfl, hH, h1, h2, hk, hy, q⟩ := h
  cases rx
  obtain ⟨u, rfl, ru⟩ := rv.one
  obtain ⟨t, rfl⟩ := ru
  obtain ⟨z, its, n, r, hl, e⟩ := I.lstM hH
  obtain ⟨w, hw, rw'⟩ := r.get hy
  refine call_meets F.slot_list_pop ⟨_, e, rfl⟩ F.entry_list_pop (F.args_list_pop_2 _ _)
    (MeetsSeq.list_pop_at l its.toArray n i t k w (fitsIndex_both h1 h2) (by rw [List.size_toArray, ← hl]; exact hk) (by rw [← Array.getElem?_toList]; exact hw) (by rw [List.size_toArray]; omega)) ⟨e, ?_⟩
  refine ⟨y, _, I.lset (its' := its.eraseIdx k) hH e ?_ (r.eraseIdx k) ?_, rw', q⟩
  · show its.toArray.eraseIdxIfInBounds k = (its.eraseIdx k).toArray
    rw [List.eraseIdxIfInBounds_toArray]
  · have := len_erase xs k
    omega

def rReverse : V → List V → Hp → VK → Prop := fun x vs H Q => ∃ l xs, x = .ref l ∧ vs = [] ∧ H l = some (.lst xs) ∧ Q .non (upd H l (.lst xs.reverse))
theorem mt_reverse : MtM X "list.reverse" rReverse := by
  intro pins s σ H x vs v us Q I rx rv h
  obtain ⟨l, xs, rfl, rfl, hH, q⟩ := h
  cases rx
  have hus := rv.zero
  subst hus
  obtain ⟨z, its, n, r, hl, e⟩ := I.lstM hH
  refine call_meets F.slot_list_reverse ⟨_, e, rfl⟩ F.entry_list_reverse (F.args_list_reverse_1 _) (AutoSeq1.list_reverse_list_0 l its.toArray n (by rw [List.size_toArray]; omega)) ⟨e, ?_⟩
  refine ⟨.non, _, I.lset (its' := its.reverse) hH e (by simp) r.reverse ?_, rfl, q⟩
  rw [List.length_reverse]
  omega

def rClear : V → List V → Hp → VK → Prop := fun x vs H Q => ∃ l xs, x = .ref l ∧ vs = [] ∧ H l = some (.lst xs) ∧ Q .non (upd H l (.lst []))
theorem mt_clear : MtM X "list.clear" rClear := by
  intro pins s σ H x vs v us Q I rx rv h
  obtain ⟨l, xs, rfl, rfl, hH, q⟩ := h
  cases rx
  have hus := rv.zero
  subst hus
  obtain ⟨z, its, n, r, hl, e⟩ := I.lstM hH
  refine call_meets F.slot_list_clear ⟨_, e, rfl⟩ F.entry_list_clear (F.args_list_clear_1 _) (AutoSeq1.list_clear_list_0 l its.toArray n (by rw [List.size_toArray]; omega)) ⟨e, ?_⟩
  exact ⟨.non, _, I.lset (its' := []) (ys := []) hH e rfl .nil (Nat.zero_le _), rfl, q⟩

/-! ### list + list, list += list, list * int -/
def rCat : R2 := fun x y H Q => ∃ l b xs zs, x = .ref l ∧ y = .ref b ∧ H l = some (.lst xs) ∧ H b = some (.lst zs) ∧ xs.length + zs.length ≤ sizeLine ∧ ∀ p, H p = none → Q (.ref p) (upd H p (.lst (xs ++ zs)))
theorem op_cat : OpR X (binaryOp .Add) rCat := by
  intro pins s σ H x y v u Q I rx ry h
  obtain ⟨l, b, xs, zs, rfl, rfl, hH, hB, hz, q⟩ := h
  cases rx
  cases ry
  obtain ⟨z, its, n, r, hl, e⟩ := I.lstM hH
  obtain ⟨z2, its2, n2, r2, hl2, e2⟩ := I.lstM hB
  refine PySem.P.add_list e e2 ?_ (by rw [List.size_toArray, List.size_toArray]; omega)
  have ea : its.toArray ++ its2.toArray = (its ++ its2).toArray := by simp
  rw [ea]
  exact ⟨.ref _, _, I.lnew (t' := s.toks) (r.append r2) (by rw [List.length_append]; omega), rfl, q _ I.fresh⟩
/-- a list times an int (a negative one is nothing) -/
def rRep : R2 := fun x y H Q => ∃ l k xs, x = .ref l ∧ y = .int k ∧ H l = some (.lst xs) ∧ -(2 ^ 63) ≤ k ∧ k < 2 ^ 63 ∧ xs.length * k.toNat ≤ sizeLine ∧
  ∀ p, H p = none → Q (.ref p) (upd H p (.lst (List.replicate k.toNat xs).flatten))
theorem len_rep {α : Type} (xs : List α) (k : Nat) : (List.replicate k xs).flatten.length = k * xs.length := by
  induction k with
  | zero => simp
  | succ k ih => rw [List.replicate_succ, List.flatten_cons, List.length_append, ih, Nat.succ_mul, Nat.add_comm]
theorem op_rep : OpR X (binaryOp .Mult) rRep := by
  intro pins s σ H x y v u Q I rx ry h
  obtain ⟨l, k, xs, rfl, rfl, hH, h1, h2, hz, q⟩ := h
  cases rx
  obtain ⟨t, rfl⟩ := ry
  obtain ⟨z, its, n, r, hl, e⟩ := I.lstM hH
  have hlen : its.toArray.size * k.toNat ≤ sizeLine := by rw [List.size_toArray, ← hl]; exact hz
  have hcap : ¬ its.toArray.size * k.toNat > (2 ^ 63 - 1) / 8 := by
    have : (sizeLine : Nat) ≤ (2 ^ 63 - 1) / 8 := by decide
    omega
  have hfit : ¬ (!Builtin.List.listFitsIndex k) = true := by
    rw [fitsIndex_both h1 h2]
    exact Bool.false_ne_true
  have hlong : ¬ Builtin.List.listTooLong (its.toArray.size * k.toNat) = true := by
    rw [notLongL hlen]
    exact Bool.false_ne_true
  have hnew : List.foldl (fun x1 x2 => x1 ++ x2) #[] (List.replicate (if its.toArray.isEmpty = true then 0 else k.toNat) its.toArray) = (List.replicate k.toNat its).flatten.toArray := by
    have f0 : ∀ m : Nat, List.foldl (fun x1 x2 => x1 ++ x2) #[] (List.replicate m its.toArray) = (List.replicate m its).flatten.toArray := fun m => by
      have := foldl_rep its m []
      rw [List.nil_append] at this
      exact this
    rw [f0]
    cases its with
    | nil => simp
    | cons a r' => rw [if_neg (by simp)]
  refine wpAny_binaryOp_repeat_ref (T := "list") (U := "int") (by decide) ⟨_, e, rfl⟩ (fun s' => typeIs_int s' k t) noFill_list_mul F.fills_int_mul F.slot_int_rmul repeat_list F.slot_int_index.lookup
    (call_meets F.slot_int_rmul (typeIs_int s k t) F.entry_int_rmul (F.args_int_rmul_2 _ _) (int___rmul___int_list k t l its.toArray n)
      ⟨e, rfl, ⟨_, e, rfl⟩, call_meets F.slot_list_mul ⟨_, e, rfl⟩ F.entry_list_mul (F.args_list_mul_2 _ _) (AutoListH.list___mul___list_int_3 l its.toArray n k t hfit hcap hlong) ⟨e, ?_⟩⟩)
  rw [hnew]
  exact ⟨.ref _, _, I.lnew (t' := s.toks) (r.rep k.toNat) (by rw [len_rep, Nat.mul_comm]; exact hz), rfl, q _ I.fresh⟩

/-! ### del xs[i] -/
theorem del_list {pins : List (Addr × Obj)} {s : Shared} {σ : St} {H : Hp} {l : Addr} {xs : List V} {i : Int} {t : Tok} {k : Nat} {Q : Unit → Shared → Prop} (I : Inv X pins σ H s) (hH : H l = some (.lst xs))
    (h1 : -(2 ^ 63) ≤ i) (h2 : i < 2 ^ 63) (hk : seqIndex? i xs.length = some k) (h : ∀ s', Inv X pins σ (upd H l (.lst (xs.eraseIdx k))) s' → Q () s') :
    wpAny (model X.prog X.w) X.A (delItem (.ref l) (.int i t)) Q X.xe s := by
  obtain ⟨z, its, n, r, hl, e⟩ := I.lstM hH
  refine PySem.P.delItem_list (k := k) e (fitsIndex_both h1 h2) (by rw [List.size_toArray, ← hl]; exact hk) (h _ ?_) (by rw [List.size_toArray]; omega)
  refine I.lset (its' := its.eraseIdx k) (t' := s.toks) hH e ?_ (r.eraseIdx k) ?_
  · show its.toArray.eraseIdxIfInBounds k = (its.eraseIdx k).toArray
    rw [List.eraseIdxIfInBounds_toArray]
  · have := len_erase xs k
    omega
end

/-! ### xs[a:b] = ys -/
section
variable {prog : Program} {w : World} {A : Around} {E : Value → Shared → Prop} {s : Shared}
theorem splice_eq (its its2 : List Value) (a c : Nat) : its.toArray.extract 0 a ++ its2.toArray ++ its.toArray.extract c its.toArray.size = (its.take a ++ its2 ++ its.drop c).toArray := by
  apply Array.toList_inj.mp
  first
    | (simp
       exact List.take_of_length_le (by simp))
    | simp [List.take_of_length_le]
    | simp
theorem bounds_run {a c n : Nat} (hac : a ≤ c) (hc : c ≤ n) : sliceBounds (some (a : Int)) (some (c : Int)) none n = ((a : Int), (c : Int), 1) := by
  simp only [sliceBounds, Option.getD_none]
  have h1 : ¬ ((a : Int) < 0) := by omega
  have h2 : ¬ ((c : Int) < 0) := by omega
  simp only [h1, h2, if_false, show (1 : Int) > 0 by decide, if_true]
  congr 1
  · omega
  · congr 1; omega
set_option maxRecDepth 100000 in
/-- list.__setitem__ with a slice of step one and another list -/
theorem setItem_slice {l b sl : Addr} {items new : Array Value} {n n2 : Nat} {vl vu : Value} {a c : Nat} {Q : Unit → Shared → Prop}
    (e : s.heap.get? l = some { cls := .type "list", data := .seq items n }) (e2 : s.heap.get? b = some { cls := .type "list", data := .seq new n2 }) (hne : l ≠ b)
    (hs : s.heap.IsSliceOf sl vl vu .none) (pl : IsPart vl (some (a : Int))) (pu : IsPart vu (some (c : Int))) (hac : a ≤ c) (hc : c ≤ items.size)
    (hsz : items.size + new.size ≤ sizeLine) (h : Q () { s with heap := s.heap.update l (Obj.mapSeq fun xs => xs.extract 0 a ++ new ++ xs.extract c xs.size) }) :
    wpAny (model prog w) A (setItem (.ref l) (.ref sl) (.ref b)) Q E s := by
  have hl : s.heap.IsList l items := PySem.IsL.isList e
  have hb : s.heap.IsList b new := PySem.IsL.isList e2
  obtain ⟨os, hos, hcs, hds⟩ := id hs
  have hTs : s.TypeIs (.ref sl) "slice" := ⟨os, hos, hcs⟩
  have hstep : ¬ ((rawPart none == rawInt 0) = true) := Bool.false_ne_true
  have hsame : Builtin.List.listSameRef (.ref l) (.ref b) = false := by
    unfold Builtin.List.listSameRef
    exact beq_eq_false_iff_ne.mpr hne
  have hmax : (max (a : Int) (c : Int)).toNat = c := by omega
  have hz' : ((fun xs : Array Value => xs.extract 0 a ++ new ++ xs.extract c xs.size) items).size ≤ sizeLine + 1 := by
    simp only [Array.size_append, Array.size_extract]
    omega
  unfold setItem
  try with_reducible refine wpAny_holding ?_
  first | refine wpAny_bind (wpAny_pure ?_) | skip
  refine wpAny_bind (wpAny_sequenceKey hl.typeIs (by decide) ?_)
  refine wpAny_bind (wpAny_callSpecial?_slot (name := Str.ofString "__setitem__") hl.typeIs slot_list_setitem
    (wpAny_call_entry slot_list_setitem hl.typeIs entry_list_setitem ?_ (args_list_setitem _ _ _)))
  show wpAny _ _ (Builtin.List.listSubscript? (.ref sl) >>= _) _ _ s
  refine wpAny_bind ?_
  unfold Builtin.List.listSubscript?
  refine wpAny_bind (wpAny_specialOf hTs slice_no_index ?_)
  simp only [Option.isNone_none, if_true]
  refine wpAny_pure ?_
  show wpAny _ _ (typeOf (.ref sl) >>= _) _ _ s
  refine wpAny_bind (wpAny_typeOf hTs ?_)
  first
    | rw [if_neg (by decide)]
    | refine PySem.W.KFB.if_not (by decide) ?_
  rw [listSliceParts_eq]
  refine wpAny_bind (wpAny_bind (wpAny_field hos hds (x := .none) rfl (wpAny_bind (wpAny_listPart .none ?_))))
  rw [if_neg hstep]
  refine wpAny_bind (wpAny_field hos hds (x := vl) rfl (wpAny_bind (wpAny_listPart pl ?_)))
  refine wpAny_bind (wpAny_field hos hds (x := vu) rfl (wpAny_bind (wpAny_listPart pu (wpAny_pure ?_))))
  first
    | simp only [hsame, Bool.false_eq_true, if_false]
    | refine PySem.W.KFB.if_not hsame ?_
    | (dsimp only
       rw [if_neg (by rw [hsame]; exact Bool.false_ne_true)])
  refine wpAny_bind (m := Builtin.List.listAllItems (.ref b) "must assign iterable to extended slice") ?_
  unfold Builtin.List.listAllItems
  refine wpAny_bind (wpAny_typeOf hb.typeIs ?_)
  first
    | refine PySem.W.KFB.if_so (by decide) ?_
    | rw [if_pos (by decide)]
    | simp only [beq_self_eq_true, Bool.true_or, if_true]
  unfold Builtin.List.listItems
  refine wpAny_bind (wpAny_seqItems e2 rfl (wpAny_pure ?_))
  refine wpAny_bind (wpAny_bind (wpAny_seqItems e rfl (wpAny_pure ?_)))
  refine wpAny_bind (wpAny_of_eq ((sliceIndices_raw (some (a : Int)) (some (c : Int)) none items.size (by simp)).trans (congrArg (pure : Int × Int × Int → Sem (Int × Int × Int)) (bounds_run hac hc))) ?_)
  show wpAny _ _ (if ((1 : Int) == 1) = true then _ else _) _ _ s
  rw [if_pos (by decide)]
  refine wpAny_bind (wpAny_rule ?_)
  first
    | simp only [notLongL hsz, Bool.false_eq_true, if_false]
    | refine PySem.W.KFB.if_not (notLongL hsz) ?_
  first | refine wpAny_bind (wpAny_pure ?_) | skip
  show wpAny _ _ (updateSeq l (fun xs => xs.extract 0 ((a : Int)).toNat ++ new ++ xs.extract (max (a : Int) (c : Int)).toNat xs.size) >>= _) _ _ s
  rw [hmax, Int.toNat_natCast]
  refine wpAny_bind (wpAny_updateSeq (hz := Nat.le_trans (Nat.le_add_right _ _) hsz) (_hz' := hz') e rfl ?_)
  refine wpAny_bind (wpAny_letGo ?_)
  first
    | exact wpAny_bind (wpAny_pure (wpAny_pure ⟨.none, rfl, wpAny_pure h⟩))
    | exact wpAny_pure ⟨.none, rfl, wpAny_pure h⟩
end

section
variable {X : Cx}
/-- xs[a:c] = ys of another list, at the value level: sl is the slice object that was just made -/
theorem set_slice {pins : List (Addr × Obj)} {s : Shared} {σ : St} {H : Hp} {l b sl : Addr} {xs ys : List V} {a c : Int} {vl vu : Value} {Q : Unit → Shared → Prop} (I : Inv X pins σ H s)
    (hH : H l = some (.lst xs)) (hB : H b = some (.lst ys)) (hne : l ≠ b) (hs : s.heap.IsSliceOf sl vl vu .none) (ra : RelV (.int a) vl) (rc : RelV (.int c) vu) (h0 : 0 ≤ a) (hac : a ≤ c) (hc : c ≤ xs.length)
    (hz : xs.length + ys.length ≤ sizeLine) (h : ∀ s', Inv X pins σ (upd H l (.lst (xs.take a.toNat ++ ys ++ xs.drop c.toNat))) s' → Q () s') :
    wpAny (model X.prog X.w) X.A (setItem (.ref l) (.ref sl) (.ref b)) Q X.xe s := by
  obtain ⟨ta, rfl⟩ := ra
  obtain ⟨tc, rfl⟩ := rc
  obtain ⟨z, its, n, r, hl, e⟩ := I.lstM hH
  obtain ⟨z2, its2, n2, r2, hl2, e2⟩ := I.lstM hB
  obtain ⟨a', rfl⟩ := Int.eq_ofNat_of_zero_le h0
  obtain ⟨c', rfl⟩ := Int.eq_ofNat_of_zero_le (Int.le_trans h0 hac)
  simp only [Int.toNat_natCast] at h
  refine setItem_slice (a := a') (c := c') e e2 hne hs (.int _ _) (.int _ _) (by omega) (by rw [List.size_toArray]; omega) (by rw [List.size_toArray, List.size_toArray]; omega) (h _ ?_)
  refine I.lset (its' := its.take a' ++ its2 ++ its.drop c') (t' := s.toks) hH e ?_ (Vals.append (Vals.append (r.take _) r2) (r.drop _)) ?_
  · exact splice_eq its its2 a' c'
  · rw [List.length_append, List.length_append, List.length_take, List.length_drop]
    omega
end
end L2

namespace L2
open PySem PySem.Spec PyProof.Rows

/-! ### lists of pairs as tables -/
section
variable {κ : Type} [DecidableEq κ]
def valV (kvs : List (κ × V)) (k : κ) : Option V := (kvs.find? fun kv => decide (kv.1 = k)).map (·.2)
/-- in its place, or at the end -/
def putK (kvs : List (κ × V)) (k : κ) (v : V) : List (κ × V) :=
  if (kvs.any fun kv => decide (kv.1 = k)) = true then kvs.map (fun kv => if kv.1 = k then (kv.1, v) else kv) else kvs ++ [(k, v)]
def dropK (kvs : List (κ × V)) (k : κ) : List (κ × V) := kvs.filter fun kv => decide (kv.1 ≠ k)

theorem valV_nil {k : κ} : valV ([] : List (κ × V)) k = none := rfl
theorem valV_pos {p : κ × V} {r : List (κ × V)} {k : κ} (e : p.1 = k) : valV (p :: r) k = some p.2 := by simp [valV, List.find?_cons, e]
theorem valV_neg {p : κ × V} {r : List (κ × V)} {k : κ} (e : ¬ p.1 = k) : valV (p :: r) k = valV r k := by simp [valV, List.find?_cons, e]
theorem valV_any (k : κ) : ∀ kvs : List (κ × V), (kvs.any fun kv => decide (kv.1 = k)) = (valV kvs k).isSome
  | [] => rfl
  | p :: r => by
    rw [List.any_cons]
    by_cases e : p.1 = k
    · simp only [valV_pos e, decide_eq_true e, Bool.true_or, Option.isSome_some]
    · rw [valV_neg e, decide_eq_false e, Bool.false_or]; exact valV_any k r
theorem valV_map (k j : κ) (y : V) : ∀ kvs : List (κ × V), valV (kvs.map fun kv => if kv.1 = k then (kv.1, y) else kv) j = (valV kvs j).map fun x => if j = k then y else x
  | [] => rfl
  | p :: r => by
    have ih := valV_map k j y r
    rw [List.map_cons]
    by_cases h : p.1 = k
    · rw [if_pos h]
      by_cases e : p.1 = j
      · rw [valV_pos (p := (p.1, y)) e, valV_pos e, Option.map_some, if_pos (e.symm.trans h)]
      · rw [valV_neg (p := (p.1, y)) e, valV_neg e, ih]
    · rw [if_neg h]
      by_cases e : p.1 = j
      · rw [valV_pos (p := p) e, valV_pos e, Option.map_some, if_neg (fun z => h (e.trans z))]
      · rw [valV_neg (p := p) e, valV_neg e, ih]
theorem valV_snoc (k j : κ) (y : V) : ∀ kvs : List (κ × V), valV kvs k = none → valV (kvs ++ [(k, y)]) j = if j = k then some y else valV kvs j
  | [], _ => by
    by_cases e : k = j
    · rw [if_pos e.symm]; exact valV_pos (p := (k, y)) e
    · rw [if_neg (fun z => e z.symm)]; exact valV_neg (p := (k, y)) e
  | p :: r, hn => by
    rw [List.cons_append]
    have hk : ¬ p.1 = k := fun z => by rw [valV_pos z] at hn; cases hn
    rw [valV_neg hk] at hn
    have ih := valV_snoc k j y r hn
    by_cases e : p.1 = j
    · rw [valV_pos e, valV_pos e, if_neg (fun z => hk (e.trans z))]
    · rw [valV_neg e, valV_neg e, ih]
theorem valV_put (kvs : List (κ × V)) (k j : κ) (y : V) : valV (putK kvs k y) j = if j = k then some y else valV kvs j := by
  unfold putK
  by_cases a : (kvs.any fun kv => decide (kv.1 = k)) = true
  · rw [if_pos a, valV_map]
    rw [valV_any] at a
    by_cases e : j = k
    · obtain ⟨x, hx⟩ := Option.isSome_iff_exists.mp a
      rw [if_pos e, e, hx, Option.map_some, if_pos rfl]
    · rw [if_neg e]
      cases valV kvs j with
      | none => rfl
      | some x => rw [Option.map_some, if_neg e]
  · rw [if_neg a]
    refine valV_snoc k j y kvs ?_
    rw [valV_any] at a
    cases q : valV kvs k with
    | none => rfl
    | some x => rw [q] at a; exact (a rfl).elim
theorem length_putK (kvs : List (κ × V)) (k : κ) (v : V) : (putK kvs k v).length ≤ kvs.length + 1 := by
  unfold putK
  split
  · rw [List.length_map]; omega
  · rw [List.length_append, List.length_cons, List.length_nil]; omega
theorem putK_new {kvs : List (κ × V)} {k : κ} (v : V) (h : valV kvs k = none) : putK kvs k v = kvs ++ [(k, v)] := by
  unfold putK
  rw [valV_any, h]
  exact if_neg (by decide)

theorem RelO.isSome_eq {o : Option V} {u : Option Value} (r : RelO o u) : o.isSome = u.isSome := by
  cases o with
  | none => cases u with
    | none => rfl
    | some _ => exact (show False from r).elim
  | some _ => cases u with
    | none => exact (show False from r).elim
    | some _ => rfl
theorem RelO.getD {o : Option V} {u : Option Value} {d : V} {d' : Value} (r : RelO o u) (rd : RelV d d') : RelV (o.getD d) (u.getD d') := by
  cases o with
  | none => cases u with
    | none => exact rd
    | some _ => exact (show False from r).elim
  | some _ => cases u with
    | none => exact (show False from r).elim
    | some _ => exact r

/-- raw tables of the same keys -/
theorem KV.val {kvs : List (κ × V)} {vs : List (κ × Value)} (r : KV kvs vs) (k : κ) : RelO (valV kvs k) (valueAt vs k) := by
  unfold KV at r
  induction r with
  | nil => exact True.intro
  | @cons p q ps qs h t ih =>
    obtain ⟨h1, h2⟩ := h
    by_cases e : p.1 = k
    · have e' : q.1 = k := h1.symm.trans e
      have b : valueAt (q :: qs) k = some q.2 := by simp [valueAt, List.find?_cons, e']
      rw [valV_pos e, b]; exact h2
    · have e' : ¬ q.1 = k := fun z => e (h1.trans z)
      have b : valueAt (q :: qs) k = valueAt qs k := by simp [valueAt, List.find?_cons, e']
      rw [valV_neg e, b]; exact ih
theorem KV.any {kvs : List (κ × V)} {vs : List (κ × Value)} (r : KV kvs vs) (k : κ) : (kvs.any fun kv => decide (kv.1 = k)) = vs.any fun kv => decide (kv.1 = k) := by
  unfold KV at r
  induction r with
  | nil => rfl
  | cons h t ih => rw [List.any_cons, List.any_cons, ih, h.1]
theorem KV.repl {kvs : List (κ × V)} {vs : List (κ × Value)} (r : KV kvs vs) (k : κ) {y : V} {u : Value} (ry : RelV y u) :
    KV (kvs.map fun kv => if kv.1 = k then (kv.1, y) else kv) (vs.map fun kv => if kv.1 = k then (kv.1, u) else kv) := by
  unfold KV at r ⊢
  induction r with
  | nil => exact .nil
  | @cons p q ps qs h t ih =>
    rw [List.map_cons, List.map_cons]
    refine .cons ?_ ih
    obtain ⟨h1, h2⟩ := h
    by_cases e : p.1 = k
    · rw [if_pos e, if_pos (h1.symm.trans e)]; exact ⟨h1, ry⟩
    · rw [if_neg e, if_neg (fun z => e (h1.trans z))]; exact ⟨h1, h2⟩
theorem KV.put {kvs : List (κ × V)} {vs : List (κ × Value)} (r : KV kvs vs) (k : κ) {y : V} {u : Value} (ry : RelV y u) : KV (putK kvs k y) (stored vs k u) := by
  unfold putK stored
  rw [r.any k]
  by_cases e : (vs.any fun kv => decide (kv.1 = k)) = true
  · rw [if_pos e, if_pos e]; exact r.repl k ry
  · rw [if_neg e, if_neg e]; exact Paired.snoc r ⟨rfl, ry⟩
theorem KV.drop {kvs : List (κ × V)} {vs : List (κ × Value)} (r : KV kvs vs) (k : κ) : KV (dropK kvs k) (without vs k) := by
  unfold KV at r ⊢
  unfold dropK without
  induction r with
  | nil => exact .nil
  | @cons p q ps qs h t ih =>
    obtain ⟨h1, h2⟩ := h
    rw [List.filter_cons, List.filter_cons]
    by_cases e : p.1 = k
    · have a : ¬ decide (p.1 ≠ k) = true := by simp [e]
      have b : ¬ decide (q.1 ≠ k) = true := by simp [h1.symm.trans e]
      rw [if_neg a, if_neg b]; exact ih
    · have e' : ¬ q.1 = k := fun z => e (h1.trans z)
      have a : decide (p.1 ≠ k) = true := by simp [e]
      have b : decide (q.1 ≠ k) = true := by simp [e']
      rw [if_pos a, if_pos b]; exact .cons ⟨h1, h2⟩ ih
theorem KV.keys {kvs : List (κ × V)} {vs : List (κ × Value)} (r : KV kvs vs) : kvs.map (·.1) = vs.map (·.1) := by
  unfold KV at r
  induction r with
  | nil => rfl
  | cons h t ih => rw [List.map_cons, List.map_cons, ih, h.1]
theorem KV.length {kvs : List (κ × V)} {vs : List (κ × Value)} (r : KV kvs vs) : kvs.length = vs.length := Paired.length r
theorem dropK_le (kvs : List (κ × V)) (k : κ) : (dropK kvs k).length ≤ kvs.length := List.length_filter_le _ _
end


/-! ### a tracked dict, its keys ints and texts or tuples of these -/
theorem kV_is {P : Program} {w : World} {k : Key} {u : Value} (r : RelV (kV k) u) : (mixKind P w).is k u = true := by
  cases k with
  | inl i => obtain ⟨t, e⟩ := (show ∃ t, u = Value.int i t from r); subst e; exact mixKind_int P w i t
  | inr x => obtain ⟨t, e⟩ := (show ∃ t, u = Value.str x t from r); subst e; exact mixKind_str P w x t
theorem kV_inj {a b : Key} (e : kV a = kV b) : a = b := by
  cases a with
  | inl i => cases b with
    | inl j => have e' : V.int i = V.int j := e; injection e' with e'; rw [e']
    | inr y => exact nomatch (show V.int i = V.str y from e)
  | inr x => cases b with
    | inl j => exact nomatch (show V.str x = V.int j from e)
    | inr y => have e' : V.str x = V.str y := e; injection e' with e'; rw [e']
theorem kVs_inj : ∀ {a b : List Key}, a.map kV = b.map kV → a = b
  | [], [], _ => rfl
  | [], _ :: _, e => by simp at e
  | _ :: _, [], e => by simp at e
  | x :: xs, y :: ys, e => by
    rw [List.map_cons, List.map_cons] at e
    injection e with e1 e2
    rw [kV_inj e1, kVs_inj e2]
theorem items_are {P : Program} {w : World} : ∀ {ks : List Key} {us : List Value}, Vals (ks.map kV) us → ItemsAre (mixKind P w) ks us
  | [], _, r => by rw [List.map_nil] at r; cases r; exact .nil
  | k :: ks, _, r => by
    rw [List.map_cons] at r
    cases r with
    | cons h t => exact .cons (kV_is h) (items_are t)

/-- raw entries of a dict with tuple keys -/
abbrev KT (H : Hp) : List (List Key × V) → List (List Key × Addr × Value) → Prop := Paired fun p q => p.1 = q.1 ∧ H q.2.1 = some (.tup (p.1.map kV)) ∧ RelV p.2 q.2.2
theorem KT.val {H : Hp} {kvs : List (List Key × V)} {xs : List (List Key × Addr × Value)} (r : KT H kvs xs) (k : List Key) : RelO (valV kvs k) ((atKey xs k).map (·.2)) := by
  induction r with
  | nil => exact True.intro
  | @cons p q ps qs h t ih =>
    obtain ⟨h1, _, h2⟩ := h
    by_cases e : p.1 = k
    · have e' : q.1 = k := h1.symm.trans e
      have b : atKey (q :: qs) k = some q.2 := by simp [atKey, List.find?_cons, e']
      rw [valV_pos e, b]; exact h2
    · have e' : ¬ q.1 = k := fun z => e (h1.trans z)
      have b : atKey (q :: qs) k = atKey qs k := by simp [atKey, List.find?_cons, e']
      rw [valV_neg e, b]; exact ih
theorem KT.repl {H : Hp} {kvs : List (List Key × V)} {xs : List (List Key × Addr × Value)} (r : KT H kvs xs) (k : List Key) {y : V} {u : Value} (ry : RelV y u) :
    KT H (kvs.map fun kv => if kv.1 = k then (kv.1, y) else kv) (xs.map (putAt k u)) := by
  induction r with
  | nil => exact .nil
  | @cons p q ps qs h t ih =>
    rw [List.map_cons, List.map_cons]
    refine .cons ?_ ih
    obtain ⟨h1, h2, h3⟩ := h
    unfold putAt
    by_cases e : p.1 = k
    · rw [if_pos e, if_pos (h1.symm.trans e)]; exact ⟨h1, h2, ry⟩
    · rw [if_neg e, if_neg (fun z => e (h1.trans z))]; exact ⟨h1, h2, h3⟩
theorem KT.put {H : Hp} {kvs : List (List Key × V)} {xs : List (List Key × Addr × Value)} (r : KT H kvs xs) (k : List Key) {b : Addr} {y : V} {u : Value} (hb : H b = some (.tup (k.map kV))) (ry : RelV y u) :
    KT H (putK kvs k y) (storedH xs k b u) := by
  have e : (kvs.any fun kv => decide (kv.1 = k)) = (atKey xs k).isSome := by
    rw [valV_any, (r.val k).isSome_eq, Option.isSome_map]
  unfold putK storedH
  rw [e]
  by_cases q : (atKey xs k).isSome = true
  · rw [if_pos q, if_pos q]; exact r.repl k ry
  · rw [if_neg q, if_neg q]; exact Paired.snoc r ⟨rfl, hb, ry⟩
theorem KT.keeps {H H' : Hp} {kvs : List (List Key × V)} {xs : List (List Key × Addr × Value)} (r : KT H kvs xs) (ht : ∀ b ys, H b = some (.tup ys) → H' b = some (.tup ys)) : KT H' kvs xs :=
  Paired.mapP r fun _ _ z => ⟨z.1, ht _ _ z.2.1, z.2.2⟩

section
variable {P : Program} {w : World} {H : Hp} {h : Heap} {a : Addr}
theorem rd_of {u : HO} (ok : HOk P w H h) (e : Rd H a u) : ObjOk P w H h a u := e.ok ok
theorem dk_rd {kvs : List (Key × V)} (ok : HOk P w H h) (e : Rd H a (.dK kvs)) : kvs.length ≤ sizeLine ∧ (a == sysModules) = false ∧ ∃ vs, KV kvs vs ∧ h.DictOf (mixKind P w) a vs :=
  show ObjOk P w H h a (.dK kvs) from rd_of ok e
theorem dk_of {kvs : List (Key × V)} (ok : HOk P w H h) (e : H a = some (.dK kvs)) : kvs.length ≤ sizeLine ∧ (a == sysModules) = false ∧ ∃ vs, KV kvs vs ∧ h.DictOf (mixKind P w) a vs := dk_rd ok (.inl e)
/-- a tracked tuple of ints and texts is a key -/
theorem key_of {ks : List Key} (ok : HOk P w H h) (e : H a = some (.tup (ks.map kV))) : (tupleKind (mixKind P w)).is h ks a := by
  obtain ⟨_, its, r, o, h1, h2, n, h3⟩ := (show ObjOk P w H h a (.tup (ks.map kV)) from ok a _ e)
  exact ⟨o, its.toArray, n, h1, h2, h3, by simpa using items_are r⟩
theorem dt_rd {kvs : List (List Key × V)} (ok : HOk P w H h) (e : Rd H a (.dT kvs)) : kvs.length ≤ sizeLine ∧ (a == sysModules) = false ∧
    ∃ xs, KT H kvs xs ∧ h.DictOfH (tupleKind (mixKind P w)) a xs := by
  obtain ⟨z, y, xs, r, o, es, ep, h1, h2, h3, h4, h5⟩ := (show ObjOk P w H h a (.dT kvs) from rd_of ok e)
  refine ⟨z, y, xs, r, o, es, ep, h1, h2, h3, h4, fun x hx => ?_, h5⟩
  have all : ∀ {l : List (List Key × V)} {m : List (List Key × Addr × Value)}, KT H l m → ∀ x ∈ m, (tupleKind (mixKind P w)).is h x.1 x.2.1 := by
    intro l m q
    induction q with
    | nil => intro x hx; exact nomatch hx
    | @cons p q ps qs hq t ih =>
      intro x hx
      rcases List.mem_cons.mp hx with e | hx
      · subst e
        exact key_of ok (by rw [← hq.1]; exact hq.2.1)
      · exact ih x hx
  exact all r x hx
theorem dt_of {kvs : List (List Key × V)} (ok : HOk P w H h) (e : H a = some (.dT kvs)) : kvs.length ≤ sizeLine ∧ (a == sysModules) = false ∧
    ∃ xs, KT H kvs xs ∧ h.DictOfH (tupleKind (mixKind P w)) a xs := dt_rd ok (.inl e)
end

/-- what the dict at a holds at the key y -/
def DGet (H : Hp) (a : Addr) (y : V) (r : Option V) : Prop :=
  (∃ kvs k, Rd H a (.dK kvs) ∧ y = kV k ∧ r = valV kvs k) ∨ ∃ kvs k b, Rd H a (.dT kvs) ∧ y = .ref b ∧ H b = some (.tup (k.map kV)) ∧ r = valV kvs k
/-- the heap behind a[y] = v -/
def DPut (H : Hp) (a : Addr) (y v : V) (H' : Hp) : Prop :=
  (∃ kvs k, H a = some (.dK kvs) ∧ y = kV k ∧ kvs.length < sizeLine ∧ H' = upd H a (.dK (putK kvs k v))) ∨
  ∃ kvs k b, H a = some (.dT kvs) ∧ y = .ref b ∧ H b = some (.tup (k.map kV)) ∧ kvs.length < sizeLine ∧ H' = upd H a (.dT (putK kvs k v))
theorem DGet.k {H : Hp} {a : Addr} {kvs : List (Key × V)} {k : Key} (e : H a = some (.dK kvs)) : DGet H a (kV k) (valV kvs k) := .inl ⟨kvs, k, .inl e, rfl, rfl⟩
theorem DGet.t {H : Hp} {a b : Addr} {kvs : List (List Key × V)} {k : List Key} (e : H a = some (.dT kvs)) (eb : H b = some (.tup (k.map kV))) : DGet H a (.ref b) (valV kvs k) := .inr ⟨kvs, k, b, .inl e, rfl, eb, rfl⟩
theorem DPut.k {H : Hp} {a : Addr} {kvs : List (Key × V)} {k : Key} {v : V} (e : H a = some (.dK kvs)) (hl : kvs.length < sizeLine) : DPut H a (kV k) v (upd H a (.dK (putK kvs k v))) := .inl ⟨kvs, k, e, rfl, hl, rfl⟩
theorem DPut.t {H : Hp} {a b : Addr} {kvs : List (List Key × V)} {k : List Key} {v : V} (e : H a = some (.dT kvs)) (eb : H b = some (.tup (k.map kV))) (hl : kvs.length < sizeLine) :
    DPut H a (.ref b) v (upd H a (.dT (putK kvs k v))) := .inr ⟨kvs, k, b, e, rfl, eb, hl, rfl⟩


section
variable {X : Cx} {pins : List (Addr × Obj)} {σ : St} {H : Hp} {s : Shared} {a : Addr} {y v : V} {u r : Value} {o : Option V} {A : Around} {E : Value → Shared → Prop}

theorem Inv.big (I : Inv X pins σ H s) : sysModules < s.heap.objs.size := by
  have h : mainGlobals < s.heap.objs.size := (I.mod.glob.keeps I.bk).lt
  exact Nat.lt_trans (by decide) h

/-- d[y], there -/
theorem d_getItem {Q : Value → Shared → Prop} (hu : A.units + 1 < cLine) (I : Inv X pins σ H s) (g : DGet H a y (some v)) (ry : RelV y u) (h : ∀ w' s', Inv X pins σ H s' → RelV v w' → Q w' s') :
    wpAny (model X.prog X.w) A (getItem (.ref a) u) Q E s := by
  rcases g with ⟨kvs, k, e, ey, l⟩ | ⟨kvs, k, b, e, ey, eb, l⟩
  · subst ey
    obtain ⟨z, hd, vs, rel, dd⟩ := dk_rd I.hok e
    obtain ⟨w', hw, rw'⟩ := RelO.some_of (v := v) (o := valueAt vs k) (by rw [l]; exact rel.val k)
    exact wpAny_getItem_of (kV_is ry) dd.mapOf hw (h w' _ (I.tok _) rw')
  · subst ey
    cases (show u = Value.ref b from ry)
    obtain ⟨z, hd, xs, rel, dd⟩ := dt_rd I.hok e
    obtain ⟨w', hw, rw'⟩ := RelO.some_of (v := v) (o := (atKey xs k).map (·.2)) (by rw [l]; exact rel.val k)
    obtain ⟨p, hp, hp2⟩ := Option.map_eq_some_iff.mp hw
    refine wpAny_getItem_heap (tupleKind_room_in1 hu) (key_of I.hok eb) dd hp ?_
    rw [hp2]
    exact h w' _ (I.tok _) rw'
/-- y in d -/
theorem d_in {Q : Value → Shared → Prop} (hu : A.units + 1 < cLine) (I : Inv X pins σ H s) (g : DGet H a y o) (ry : RelV y u) (h : ∀ s', Inv X pins σ H s' → Q (.bool o.isSome) s') :
    wpAny (model X.prog X.w) A (compareOp .In u (.ref a)) Q E s := by
  rcases g with ⟨kvs, k, e, ey, l⟩ | ⟨kvs, k, b, e, ey, eb, l⟩
  · subst ey
    obtain ⟨z, hd, vs, rel, dd⟩ := dk_rd I.hok e
    refine wpAny_in_of (kV_is ry) hd dd.mapOf ?_
    rw [← (rel.val k).isSome_eq, ← l]
    exact h _ (I.tok _)
  · subst ey
    cases (show u = Value.ref b from ry)
    obtain ⟨z, hd, xs, rel, dd⟩ := dt_rd I.hok e
    refine wpAny_in_heap (tupleKind_room_in1 hu) (key_of I.hok eb) hd dd ?_
    have q := (rel.val k).isSome_eq
    rw [Option.isSome_map] at q
    rw [← q, ← l]
    exact h _ (I.tok _)
theorem d_notIn {Q : Value → Shared → Prop} (hu : A.units + 1 < cLine) (I : Inv X pins σ H s) (g : DGet H a y o) (ry : RelV y u) (h : ∀ s', Inv X pins σ H s' → Q (.bool (!o.isSome)) s') :
    wpAny (model X.prog X.w) A (compareOp .NotIn u (.ref a)) Q E s := by
  rcases g with ⟨kvs, k, e, ey, l⟩ | ⟨kvs, k, b, e, ey, eb, l⟩
  · subst ey
    obtain ⟨z, hd, vs, rel, dd⟩ := dk_rd I.hok e
    refine wpAny_notIn_of (kV_is ry) hd dd.mapOf ?_
    rw [← (rel.val k).isSome_eq, ← l]
    exact h _ (I.tok _)
  · subst ey
    cases (show u = Value.ref b from ry)
    obtain ⟨z, hd, xs, rel, dd⟩ := dt_rd I.hok e
    refine wpAny_notIn_heap (tupleKind_room_in1 hu) (key_of I.hok eb) hd dd ?_
    have q := (rel.val k).isSome_eq
    rw [Option.isSome_map] at q
    rw [← q, ← l]
    exact h _ (I.tok _)
/-- a dict's object is replaced -/
theorem d_write {h' : Heap} {t' : Nat} {ob : HO} (I : Inv X pins σ H s) (mu : Mut (H a)) (hs : Heap.SameBut a s.heap h') (he : ∃ q, h'.get? a = some q) (new : ObjOk X.prog X.w (upd H a ob) h' a ob) :
    Inv X pins σ (upd H a ob) { s with heap := h', toks := t' } :=
  I.write (x := a) (e := a) mu (.inl rfl) (fun b q hb z => (hs.2 b hb).trans z) he new
theorem dk_new {P : Program} {w : World} {H' : Hp} {h' : Heap} {kvs : List (Key × V)} {vs : List (Key × Value)} (z : kvs.length ≤ sizeLine) (hd : (a == sysModules) = false) (rel : KV kvs vs) (dd : h'.DictOf (mixKind P w) a vs) :
    ObjOk P w H' h' a (.dK kvs) := ⟨z, hd, vs, rel, dd⟩
/-- d[y] = v -/
theorem d_setItem {H' : Hp} {Q : Unit → Shared → Prop} (hu : A.units + 1 < cLine) (I : Inv X pins σ H s) (g : DPut H a y v H') (ry : RelV y u) (rv : RelV v r) (h : ∀ s', Inv X pins σ H' s' → Q () s') :
    wpAny (model X.prog X.w) A (setItem (.ref a) u r) Q E s := by
  rcases g with ⟨kvs, k, e, ey, l, eH⟩ | ⟨kvs, k, b, e, ey, eb, l, eH⟩
  · subst ey eH
    obtain ⟨z, hd, vs, rel, dd⟩ := dk_of I.hok e
    have hz : vs.length ≤ sizeLine := by rw [← rel.length]; exact z
    have hl : (putK kvs k v).length ≤ sizeLine := by have := length_putK kvs k v; omega
    refine wpAny_setItem_pairs (hsz := hz) (kV_is ry) dd fun h' dd' hs => h _ ?_
    have he : ∃ q, h'.get? a = some q := let ⟨q, _, _, hq, _⟩ := dd'; ⟨q, hq⟩
    exact d_write I (by rw [e]; exact True.intro) hs he (dk_new hl hd (rel.put k rv) dd')
  · subst ey eH
    cases (show u = Value.ref b from ry)
    obtain ⟨z, hd, xs, rel, dd⟩ := dt_of I.hok e
    have hz : xs.length ≤ sizeLine := by rw [← Paired.length rel]; exact z
    have hl : (putK kvs k v).length ≤ sizeLine := by have := length_putK kvs k v; omega
    refine wpAny_setItem_heap (hsz := hz) (tupleKind_room_in1 hu) (key_of I.hok eb) dd fun h' dd' hs => h _ ?_
    obtain ⟨q, es, ep, hq, h2, h3, h4, _, h5⟩ := dd'
    refine d_write I (by rw [e]; exact True.intro) hs ⟨q, hq⟩ ⟨hl, hd, _, (rel.put k eb rv).keeps fun c ys ec => ?_, q, es, ep, hq, h2, h3, h4, h5⟩
    rw [upd_ne (ne_of ec e (fun z => nomatch z))]
    exact ec
end

section
variable {X : Cx} {pins : List (Addr × Obj)} {σ : St} {H : Hp} {s : Shared} {a : Addr} {kvs : List (Key × V)} {k : Key} {u : Value} {A : Around} {E : Value → Shared → Prop}
/-- del d[k] -/
theorem d_delItem {Q : Unit → Shared → Prop} (I : Inv X pins σ H s) (e : H a = some (.dK kvs)) (ry : RelV (kV k) u) (l : (valV kvs k).isSome = true) (h : ∀ s', Inv X pins σ (upd H a (.dK (dropK kvs k))) s' → Q () s') :
    wpAny (model X.prog X.w) A (delItem (.ref a) u) Q E s := by
  obtain ⟨z, hd, vs, rel, dd⟩ := dk_of I.hok e
  refine wpAny_delItem_slot dd.typeIs (by decide) PySem.F.slot_dict_delitem
    (call_meetsIn PySem.F.slot_dict_delitem dd.typeIs PySem.F.entry_dict_delitem (PySem.F.args_dict_delitem_2 _ _) (meets_dict_delitem_pairs (mixKind X.prog X.w) a (kV_is ry)) ⟨vs, dd, by rw [← rel.length]; exact z, by rw [← (rel.val k).isSome_eq]; exact l, fun h' dd' hs => h _ ?_⟩)
  have he : ∃ q, h'.get? a = some q := let ⟨q, _, _, hq, _⟩ := dd'; ⟨q, hq⟩
  exact d_write I (by rw [e]; exact True.intro) hs he (dk_new (Nat.le_trans (dropK_le kvs k) z) hd (rel.drop k) dd')
/-- d.pop(k[, x]), there -/
theorem d_pop {v : V} {more : List Value} {Q : Value → Shared → Prop} (I : Inv X pins σ H s) (e : H a = some (.dK kvs)) (ry : RelV (kV k) u) (l : valV kvs k = some v) (hm : more = [] ∨ ∃ x, more = [x])
    (h : ∀ w' s', Inv X pins σ (upd H a (.dK (dropK kvs k))) s' → RelV v w' → Q w' s') : wpAny (model X.prog X.w) A (call (.builtin "dict.pop") (.ref a :: u :: more)) Q E s := by
  obtain ⟨z, hd, vs, rel, dd⟩ := dk_of I.hok e
  obtain ⟨w', hw, rw'⟩ := RelO.some_of (v := v) (o := valueAt vs k) (by rw [← l]; exact rel.val k)
  have hp : (keyPart u).isSome = true := by
    cases k with
    | inl i => obtain ⟨t, q⟩ := (show ∃ t, u = Value.int i t from ry); subst q; rfl
    | inr x => obtain ⟨t, q⟩ := (show ∃ t, u = Value.str x t from ry); subst q; rfl
  have ha : argsOk "dict.pop" ⟨.ref a :: u :: more, []⟩ := by
    rcases hm with q | ⟨x, q⟩
    · subst q; exact PySem.F.args_dict_pop_2 _ _
    · subst q; exact PySem.F.args_dict_pop_3 _ _ _
  refine call_meetsIn PySem.F.slot_dict_pop dd.typeIs PySem.F.entry_dict_pop ha (meets_dict_pop_there (mixKind X.prog X.w) a (kV_is ry) more hm hp)
    ⟨vs, w', dd, by rw [← rel.length]; exact z, hw, fun h' dd' hs => h w' _ ?_ rw'⟩
  have he : ∃ q, h'.get? a = some q := let ⟨q, _, _, hq, _⟩ := dd'; ⟨q, hq⟩
  exact d_write I (by rw [e]; exact True.intro) hs he (dk_new (Nat.le_trans (dropK_le kvs k) z) hd (rel.drop k) dd')
/-- d.pop(k, x), not there -/
theorem d_popD {r : Value} {Q : Value → Shared → Prop} (I : Inv X pins σ H s) (e : H a = some (.dK kvs)) (ry : RelV (kV k) u) (l : valV kvs k = none) (h : ∀ s', Inv X pins σ H s' → Q r s') :
    wpAny (model X.prog X.w) A (call (.builtin "dict.pop") [.ref a, u, r]) Q E s := by
  obtain ⟨z, hd, vs, rel, dd⟩ := dk_of I.hok e
  have hn : valueAt vs k = none := RelO.none_of (by rw [← l]; exact rel.val k)
  have hp : (keyPart u).isSome = true := by
    cases k with
    | inl i => obtain ⟨t, q⟩ := (show ∃ t, u = Value.int i t from ry); subst q; rfl
    | inr x => obtain ⟨t, q⟩ := (show ∃ t, u = Value.str x t from ry); subst q; rfl
  exact call_meetsIn PySem.F.slot_dict_pop dd.typeIs PySem.F.entry_dict_pop (PySem.F.args_dict_pop_3 _ _ _) (meets_dict_pop_default (mixKind X.prog X.w) a (kV_is ry) hd hp r) ⟨vs, dd, hn, h _ (I.tok _)⟩
/-- d.clear() -/
theorem d_clear {Q : Value → Shared → Prop} (I : Inv X pins σ H s) (e : H a = some (.dK kvs)) (h : ∀ s', Inv X pins σ (upd H a (.dK [])) s' → Q .none s') : wpAny (model X.prog X.w) A (call (.builtin "dict.clear") [.ref a]) Q E s := by
  obtain ⟨z, hd, vs, rel, dd⟩ := dk_of I.hok e
  refine call_meetsIn PySem.F.slot_dict_clear dd.typeIs PySem.F.entry_dict_clear (PySem.F.args_dict_clear_1 _) (meets_dict_clear (mixKind X.prog X.w) a) ⟨vs, dd, by rw [← rel.length]; exact z, fun h' dd' hs => h _ ?_⟩
  have he : ∃ q, h'.get? a = some q := let ⟨q, _, _, hq, _⟩ := dd'; ⟨q, hq⟩
  exact d_write (t' := s.toks) I (by rw [e]; exact True.intro) hs he (dk_new (Nat.zero_le _) hd .nil dd')
/-- len(d) -/
theorem d_len {Q : Value → Shared → Prop} (I : Inv X pins σ H s) (e : Rd H a (.dK kvs)) (h : ∀ t s', Inv X pins σ H s' → Q (.int kvs.length t) s') : wpAny (model X.prog X.w) A (call (.builtin "len") [.ref a]) Q E s := by
  obtain ⟨z, hd, vs, rel, dd⟩ := dk_rd I.hok e
  refine call_len_dict hd dd (by rw [← rel.length]; rw [sizeLine_eq] at z; omega) ?_
  rw [← rel.length]
  exact h _ _ (I.tok _)
/-- if d -/
theorem d_truth {Q : Bool → Shared → Prop} (I : Inv X pins σ H s) (e : Rd H a (.dK kvs)) (h : ∀ s', Inv X pins σ H s' → Q (!kvs.isEmpty) s') : wpAny (model X.prog X.w) A (truthy (.ref a)) Q E s := by
  obtain ⟨z, hd, vs, rel, dd⟩ := dk_rd I.hok e
  refine wpAny_truthy_dict hd dd (by rw [← rel.length]; rw [sizeLine_eq] at z; omega) ?_
  have q : kvs.isEmpty = vs.isEmpty := by cases rel <;> rfl
  rw [← q]
  exact h _ (I.tok _)
end


/-! ### readings and rules -/
/-- the element of a subscription, not a slice -/
def NoSl (i : Expr) : Prop := ∀ ov iv, subscripted i false ov iv = operate [ov, iv] (getItem ov iv)
theorem subD_of {prog : Program} {w : World} {A : Around} {E : Value → Shared → Prop} {s : Shared} {env : Env} {value slice : Expr} {pos : Pos} {T id : String} {Q : Value → Shared → Prop}
    (hl : typeLookup (.type T) "__getitem__" = pure (some (.builtin id))) (hs : NoSl slice)
    (h : wpAny (model prog w) A (eval value env) (fun o s₁ => wpAny (model prog w) A (eval slice env) (fun i s₂ => s₂.TypeIs o T ∧ wpAny (model prog w) A (getItem o i) Q E s₂) E s₁) E s) :
    wpAny (model prog w) A (eval (.Subscript value slice pos) env) Q E s := by
  refine Subscript_ (wpAny_mono h (fun o s₁ h₁ => wpAny_mono h₁ (fun i s₂ h₂ => ?_) fun _ _ x => x) fun _ _ x => x)
  obtain ⟨hT, h₂⟩ := h₂
  unfold subscriptTail
  refine wpAny_bind ?_
  rw [getitemInPython_of_ne hT.not_modules]
  refine wpAny_bind (wpAny_specialOf hT hl ?_)
  have fin : wpAny (model prog w) A (subscripted slice false o i) (fun r s₃ => wpAny (model prog w) A (letTemporaryGo value o r >>= fun _ => pure r) Q E s₃) E s₂ := by
    rw [hs o i]
    exact wpAny_operating (wpAny_mono h₂ (fun r s₃ h₃ => wpAny_bind (wpAny_letTemporaryGo (wpAny_pure h₃))) fun _ _ x => x)
  first
    | exact wpAny_pure (wpAny_bind fin)
    | exact wpAny_bind (wpAny_pure (wpAny_bind fin))
    | exact wpAny_bind fin

theorem dict_typeIs {X : Cx} {pins : List (Addr × Obj)} {σ : St} {H : Hp} {s : Shared} {a : Addr} {y : V} {o : Option V} (I : Inv X pins σ H s) (g : DGet H a y o) : s.TypeIs (.ref a) "dict" := by
  rcases g with ⟨kvs, k, e, _, _⟩ | ⟨kvs, k, b, e, _, _, _⟩
  · obtain ⟨_, _, vs, _, dd⟩ := dk_rd I.hok e
    exact dd.typeIs
  · obtain ⟨_, _, xs, _, dd⟩ := dt_rd I.hok e
    exact dd.typeIs
theorem dict_noDict {X : Cx} {pins : List (Addr × Obj)} {σ : St} {H : Hp} {s : Shared} {a : Addr} {y : V} {o : Option V} (I : Inv X pins σ H s) (g : DGet H a y o) :
    ∀ b, Value.ref a = .ref b → ∃ ob, s.heap.get? b = some ob ∧ ob.dict = none := fun b q => by
  cases q
  rcases g with ⟨kvs, k, e, _, _⟩ | ⟨kvs, k, b, e, _, _, _⟩
  · obtain ⟨_, _, vs, _, ob, _, _, h1, h2, _⟩ := dk_rd I.hok e
    exact ⟨ob, h1, h2.2.1⟩
  · obtain ⟨_, _, xs, _, ob, _, _, h1, h2, _⟩ := dt_rd I.hok e
    exact ⟨ob, h1, h2.2.1⟩

/-- d[y] -/
def tDGet (td ty : TE) : TE := fun σ H Q => td σ H fun x H1 => ty σ H1 fun y H2 => ∃ a v, x = .ref a ∧ DGet H2 a y (some v) ∧ Q v H2
/-- y in d, y not in d -/
def tDIn (ty td : TE) : TE := fun σ H Q => ty σ H fun y H1 => td σ H1 fun x H2 => ∃ a o, x = .ref a ∧ DGet H2 a y o ∧ Q (.bl o.isSome) H2
def tDNotIn (ty td : TE) : TE := fun σ H Q => ty σ H fun y H1 => td σ H1 fun x H2 => ∃ a o, x = .ref a ∧ DGet H2 a y o ∧ Q (.bl (!o.isSome)) H2
/-- d[y] = v -/
def sDPut (td ty tv : TE) : TS := fun D σ H => tv σ H fun v H1 => td σ H1 fun x H2 => ty σ H2 fun y H3 => ∃ a H4, x = .ref a ∧ DPut H3 a y v H4 ∧ D.nx σ H4
/-- d[y] op= v -/
def sDAug (td ty tv : TE) (rd : V → V → Hp → VK → Prop) : TS := fun D σ H => td σ H fun x H1 => ty σ H1 fun y H2 => ∃ a v, x = .ref a ∧ DGet H2 a y (some v) ∧
  tv σ H2 fun y2 H3 => rd v y2 H3 fun z H4 => ∃ H5, DPut H4 a y z H5 ∧ D.nx σ H5
/-- del d[y] -/
def sDDel (td ty : TE) : TS := fun D σ H => td σ H fun x H1 => ty σ H1 fun y H2 => ∃ a kvs k, x = .ref a ∧ H2 a = some (.dK kvs) ∧ y = kV k ∧ (valV kvs k).isSome = true ∧ D.nx σ (upd H2 a (.dK (dropK kvs k)))

section
variable {X : Cx} {o i e value : Expr} {pos pos' tpos : Pos} {td ty tv : TE}
theorem pe_dget (hu : X.A.units + 1 < cLine) (ho : PE X o td) (hi : PE X i ty) (hs : NoSl i) : PE X (.Subscript o i pos) (tDGet td ty) := by
  intro pins s σ H Q I h
  refine subD_of PySem.F.slot_dict_getitem.lookup hs (thn (ho pins s σ H _ I h) fun u s1 ⟨x, H1, I1, rx, q1⟩ => thn (hi pins s1 σ H1 _ I1 q1) fun iv s2 ⟨y, H2, I2, ry, a, v, ex, g, q2⟩ => ?_)
  subst ex
  obtain rfl : u = Value.ref a := rx
  exact ⟨dict_typeIs I2 g, d_getItem hu I2 g ry fun w' s3 I3 rw' => ⟨v, H2, I3, rw', q2⟩⟩
theorem pc_din (hu : X.A.units + 1 < cLine) (hi : PE X i ty) (ho : PE X o td) : PC X .In i o (tDIn ty td) := by
  intro pins s σ H Q I h
  refine thn (hi pins s σ H _ I h) fun iv s1 ⟨y, H1, I1, ry, q1⟩ => thn (ho pins s1 σ H1 _ I1 q1) fun u s2 ⟨x, H2, I2, rx, a, ov, ex, g, q2⟩ => ?_
  subst ex
  obtain rfl : u = Value.ref a := rx
  exact d_in hu I2 g ry fun s3 I3 => ⟨.bl ov.isSome, H2, I3, rfl, q2⟩
theorem pc_dnotin (hu : X.A.units + 1 < cLine) (hi : PE X i ty) (ho : PE X o td) : PC X .NotIn i o (tDNotIn ty td) := by
  intro pins s σ H Q I h
  refine thn (hi pins s σ H _ I h) fun iv s1 ⟨y, H1, I1, ry, q1⟩ => thn (ho pins s1 σ H1 _ I1 q1) fun u s2 ⟨x, H2, I2, rx, a, ov, ex, g, q2⟩ => ?_
  subst ex
  obtain rfl : u = Value.ref a := rx
  exact d_notIn hu I2 g ry fun s3 I3 => ⟨.bl (!ov.isSome), H2, I3, rfl, q2⟩
theorem ps_dput (hu : X.A.units + 1 < cLine) (ho : PE X o td) (hi : PE X i ty) (hv : PE X value tv) (hs : swapsWith value (some (.Subscript o i pos')) pos.line X.env = pure false) :
    PS X (.Assign [.Subscript o i pos'] value pos) (sDPut td ty tv) := by
  intro pins s σ H D I h
  refine wpAny_Assign_Subscript (thn (hv pins s σ H _ I h) fun r s1 ⟨v, H1, I1, rv, q1⟩ => thn (ho pins s1 σ H1 _ I1 q1) fun u s2 ⟨x, H2, I2, rx, q2⟩ => thn (hi pins s2 σ H2 _ I2 q2) fun iv s3 ⟨y, H3, I3, ry, a, H4, ex, g, q3⟩ => ?_) hs
  subst ex
  obtain rfl : u = Value.ref a := rx
  exact d_setItem hu I3 g ry rv fun s4 I4 => ⟨σ, H4, I4, q3⟩
theorem ps_daug {op : Operator} {rd : V → V → Hp → VK → Prop} (hu : X.A.units + 1 < cLine) (ho : PE X o td) (hi : PE X i ty) (hv : PE X value tv) (hop : InOp X op rd)
    (ha : ∀ ov iv new, augStore i ov iv new = (do holding [new, ov, iv] (setItem ov iv new); release [new, ov, iv] []; pure .next)) : PS X (.AugAssign (.Subscript o i tpos) op value pos) (sDAug td ty tv rd) := by
  intro pins s σ H D I h
  refine wpAny_AugAssign_SubscriptAny (thn (ho pins s σ H _ I h) fun u s1 ⟨x, H1, I1, rx, q1⟩ => thn (hi pins s1 σ H1 _ I1 q1) fun iv s2 ⟨y, H2, I2, ry, a, v, ex, g, q2⟩ => ?_) ha
  subst ex
  obtain rfl : u = Value.ref a := rx
  refine d_getItem hu I2 g ry fun w' s3 I3 rw' => thn (hv pins s3 σ H2 _ I3 q2) fun w2 s4 ⟨y2, H3, I4, ry2, q3⟩ => thn (hop pins s4 σ H3 v y2 w' w2 _ I4 rw' ry2 q3) fun w3 s5 ⟨z, H4, I5, rz, H5, g5, q4⟩ => ?_
  exact d_setItem hu I5 g5 ry rz fun s6 I6 => ⟨σ, H5, I6, q4⟩
theorem ps_ddel (ho : PE X o td) (hi : PE X i ty) : PS X (.Delete [.Subscript o i tpos] pos) (sDDel td ty) := by
  intro pins s σ H D I h
  refine wpAny_Delete (wpAny_deleteEach_cons (wpAny_delete_Subscript (thn (ho pins s σ H _ I h) fun u s1 ⟨x, H1, I1, rx, q1⟩ => thn (hi pins s1 σ H1 _ I1 q1) fun iv s2 ⟨y, H2, I2, ry, a, kvs, k, ex, e, ey, l, q2⟩ => ?_)))
  subst ex ey
  obtain rfl : u = Value.ref a := rx
  exact d_delItem I2 e ry l fun s3 I3 => wpAny_deleteEach_nil ⟨σ, _, I3, q2⟩
end


/-! ### displays -/
theorem dk_empty {P : Program} {w : World} {H : Hp} (h : Heap) (hb : sysModules < h.objs.size) : ObjOk P w H (h.push { cls := .type "dict", data := .dict #[] }) h.objs.size (.dK []) :=
  ⟨Nat.zero_le _, beq_eq_false_iff_ne.mpr (Ne.symm (Nat.ne_of_lt hb)), [], .nil, Heap.DictOf.new h⟩
theorem dt_empty {P : Program} {w : World} {H : Hp} (h : Heap) (hb : sysModules < h.objs.size) : ObjOk P w H (h.push { cls := .type "dict", data := .dict #[] }) h.objs.size (.dT []) :=
  ⟨Nat.zero_le _, beq_eq_false_iff_ne.mpr (Ne.symm (Nat.ne_of_lt hb)), [], .nil, _, #[], 0, Heap.get?_push_size _ rfl, ⟨rfl, rfl, rfl⟩, rfl, rfl, List.nodup_nil⟩
/-- {}, to be a dict of the kind that is wanted -/
def tDNewK : TE := fun _ H Q => ∀ p, H p = none → Q (.ref p) (upd H p (.dK []))
def tDNewT : TE := fun _ H Q => ∀ p, H p = none → Q (.ref p) (upd H p (.dT []))
section
variable {X : Cx} {pos : Pos}
theorem pe_dnewK : PE X (.Dict [] [] pos) tDNewK := fun pins s σ H Q I h =>
  wpAny_Dict_empty ⟨.ref s.heap.objs.size, _, I.laid (a := s.heap.objs.size) (o := .dK []) (t' := s.toks) (fun _ _ q => Heap.get?_push_of_some _ q) (Nat.le_refl _) (dk_empty s.heap I.big), rfl, h _ (I.hok.fresh (Nat.le_refl _))⟩
theorem pe_dnewT : PE X (.Dict [] [] pos) tDNewT := fun pins s σ H Q I h =>
  wpAny_Dict_empty ⟨.ref s.heap.objs.size, _, I.laid (a := s.heap.objs.size) (o := .dT []) (t' := s.toks) (fun _ _ q => Heap.get?_push_of_some _ q) (Nat.le_refl _) (dt_empty s.heap I.big), rfl, h _ (I.hok.fresh (Nat.le_refl _))⟩
end

/-- the pairs of a display, from the left -/
def tPairs : List (TE × TE) → St → Hp → (List (V × V) → Hp → Prop) → Prop
  | [], _, H, Q => Q [] H
  | (tk, tv) :: r, σ, H, Q => tk σ H fun x H1 => tv σ H1 fun y H2 => tPairs r σ H2 fun ps H3 => Q ((x, y) :: ps) H3
abbrev VV : List (V × V) → List (Value × Value) → Prop := Paired fun p q => RelV p.1 q.1 ∧ RelV p.2 q.2
def PPs (X : Cx) (pos : Pos) (keys : List (Option Expr)) (values : List Expr) (trs : List (TE × TE)) : Prop :=
  ∀ (pins : List (Addr × Obj)) (s : Shared) (σ : St) (H : Hp) (Q : List (V × V) → Hp → Prop), Inv X pins σ H s → tPairs trs σ H Q →
    wpAny (model X.prog X.w) X.A (evalPairs (pairTrees keys values X.env pos)) (fun vs s' => ∃ ps H', Inv X pins σ H' s' ∧ VV ps vs ∧ Q ps H') X.xe s
theorem pps_nil {X : Cx} {pos : Pos} : PPs X pos [] [] [] := fun pins s σ H Q I h => pairTrees_nil_walk ⟨[], H, I, .nil, h⟩
theorem pps_cons {X : Cx} {pos : Pos} {k v : Expr} {ks : List (Option Expr)} {vs : List Expr} {tk tv : TE} {trs : List (TE × TE)} (hk : PE X k tk) (hv : PE X v tv) (hr : PPs X pos ks vs trs) :
    PPs X pos (some k :: ks) (v :: vs) ((tk, tv) :: trs) := fun pins s σ H Q I h =>
  pairTrees_cons_walk (thn (hk pins s σ H _ I h) fun u s1 ⟨x, H1, I1, rx, q1⟩ => thn (hv pins s1 σ H1 _ I1 q1) fun w2 s2 ⟨y, H2, I2, ry, q2⟩ =>
    thn (hr pins s2 σ H2 _ I2 q2) fun ws s3 ⟨ps, H3, I3, rel, q3⟩ => ⟨(x, y) :: ps, H3, I3, .cons ⟨rx, ry⟩ rel, q3⟩)

def mergeK (kvs more : List (Key × V)) : List (Key × V) := more.foldl (fun acc kv => putK acc kv.1 kv.2) kvs
theorem KV.merge : ∀ {more : List (Key × V)} {rs : List (Key × Value)} {kvs : List (Key × V)} {vs : List (Key × Value)}, KV more rs → KV kvs vs → KV (mergeK kvs more) (merged vs rs) := by
  intro more rs kvs vs r
  unfold KV at r
  induction r generalizing kvs vs with
  | nil => intro q; exact q
  | @cons p q ps qs h t ih =>
    intro r0
    have e : KV (putK kvs p.1 p.2) (stored vs q.1 q.2) := by
      have := r0.put p.1 h.2
      rw [← h.1]; exact this
    exact ih e
theorem length_mergeK : ∀ (more kvs : List (Key × V)), (mergeK kvs more).length ≤ kvs.length + more.length
  | [], kvs => by show kvs.length ≤ kvs.length + 0; omega
  | p :: r, kvs => by
    have h1 := length_mergeK r (putK kvs p.1 p.2)
    have h2 := length_putK kvs p.1 p.2
    show (mergeK (putK kvs p.1 p.2) r).length ≤ _
    rw [List.length_cons]; omega
theorem carries_of {P : Program} {w : World} : ∀ {kvs : List (Key × V)} {ws : List (Value × Value)}, VV (kvs.map fun kv => (kV kv.1, kv.2)) ws → ∃ rs, Carries (mixKind P w) ws rs ∧ KV kvs rs
  | [], _, r => by rw [List.map_nil] at r; cases r; exact ⟨[], True.intro, .nil⟩
  | p :: kvs, _, r => by
    rw [List.map_cons] at r
    cases r with
    | @cons a b as bs h t =>
      obtain ⟨rs, c, q⟩ := carries_of (P := P) (w := w) t
      obtain ⟨b1, b2⟩ := b
      exact ⟨(p.1, b2) :: rs, ⟨kV_is h.1, rfl, c⟩, .cons ⟨rfl, h.2⟩ q⟩
/-- {k: v, ..} with keys ints and texts; the new dict stands empty while the pairs are made -/
def tDisp (trs : List (TE × TE)) : TE := fun σ H Q => ∀ p, H p = none → tPairs trs σ (upd H p (.dK [])) fun ps H2 => H2 p = some (.dK []) ∧ ∃ kvs : List (Key × V), ps = kvs.map (fun kv => (kV kv.1, kv.2)) ∧ kvs.length ≤ 15 ∧ Q (.ref p) (upd H2 p (.dK (mergeK [] kvs)))
theorem pe_disp {X : Cx} {pos : Pos} {keys : List (Option Expr)} {values : List Expr} {trs : List (TE × TE)} (h : PPs X pos keys values trs) (hall : keys.all (·.isSome) = true) (hl : keys.length = values.length) (h0 : keys ≠ [])
    (h15 : keys.length ≤ 15) : PE X (.Dict keys values pos) (tDisp trs) := by
  intro pins s σ H Q I q
  have hn := I.hok.fresh (Nat.le_refl s.heap.objs.size)
  have I1 := I.laid (a := s.heap.objs.size) (o := .dK []) (h' := s.heap.push { cls := .type "dict", data := .dict #[] }) (t' := s.toks) (fun _ _ q => Heap.get?_push_of_some _ q) (Nat.le_refl _) (dk_empty s.heap I.big)
  refine wpAny_Dict_walk (knd := mixKind X.prog X.w) hall hl h0 h15 (thn (h pins _ σ _ _ I1 (q _ hn)) fun ws s2 ⟨ps, H2, I2, rel, e, kvs, ep, lk, q2⟩ => ?_)
  subst ep
  obtain ⟨rs, c, rk⟩ := carries_of (P := X.prog) (w := X.w) rel
  obtain ⟨z, hd, vs0, r0, dd⟩ := dk_of I2.hok e
  cases r0
  refine ⟨rs, c, dd, fun h' dd' hs => ⟨.ref s.heap.objs.size, _, ?_, rfl, q2⟩⟩
  have hz : (mergeK [] kvs).length ≤ sizeLine := by
    have h1 := length_mergeK kvs []
    rw [List.length_nil] at h1
    rw [sizeLine_eq]; omega
  have he : ∃ q, h'.get? s.heap.objs.size = some q := let ⟨q, _, _, hq, _⟩ := dd'; ⟨q, hq⟩
  exact d_write I2 (by rw [e]; exact True.intro) hs he (dk_new hz hd (rk.merge .nil) dd')


/-! ### methods -/
/-- a method call o.m(e) of a built-in, with one argument: what must be seen of the text -/
structure M1 (X : Cx) (o : Expr) (m : Str) (apos : Pos) (e : Expr) (cpos : Pos) : Prop where
  base : attributeBase o m X.env (eval o X.env) = eval o X.env
  few : ((backTo cpos (starEach [e] X.env)).all (fun x => !x.1) && (backToKw cpos (keywordEach [] X.env)).all (fun x => x.1.isSome)
    && decide (([e] : List Expr).length + ([] : List Keyword).length + (if ([] : List Keyword).isEmpty then 0 else 1) < 30)) = true
  line : (apos.endLine == cpos.line) = true
  trees : backTo cpos (starEach [e] X.env) = [(false, eval e X.env)]
structure M2 (X : Cx) (o : Expr) (m : Str) (apos : Pos) (e f : Expr) (cpos : Pos) : Prop where
  base : attributeBase o m X.env (eval o X.env) = eval o X.env
  few : ((backTo cpos (starEach [e, f] X.env)).all (fun x => !x.1) && (backToKw cpos (keywordEach [] X.env)).all (fun x => x.1.isSome)
    && decide (([e, f] : List Expr).length + ([] : List Keyword).length + (if ([] : List Keyword).isEmpty then 0 else 1) < 30)) = true
  line : (apos.endLine == cpos.line) = true
  trees : backTo cpos (starEach [e, f] X.env) = [(false, eval e X.env), (false, eval f X.env)]

/-- a is a dict, whatever its keys -/
def IsD (H : Hp) (a : Addr) : Prop := (∃ kvs, Rd H a (.dK kvs)) ∨ ∃ kvs, Rd H a (.dT kvs)
theorem isD_at {X : Cx} {pins : List (Addr × Obj)} {σ : St} {H : Hp} {s : Shared} {a : Addr} (I : Inv X pins σ H s) (d : IsD H a) :
    s.TypeIs (.ref a) "dict" ∧ (∀ b, Value.ref a = .ref b → ∃ ob, s.heap.get? b = some ob ∧ ob.dict = none) ∧ (a == sysModules) = false := by
  rcases d with ⟨kvs, e⟩ | ⟨kvs, e⟩
  · obtain ⟨_, hd, vs, _, dd⟩ := dk_rd I.hok e
    refine ⟨dd.typeIs, fun b q => ?_, hd⟩
    cases q
    obtain ⟨ob, _, _, h1, h2, _⟩ := dd
    exact ⟨ob, h1, h2.2.1⟩
  · obtain ⟨_, hd, xs, _, dd⟩ := dt_rd I.hok e
    refine ⟨dd.typeIs, fun b q => ?_, hd⟩
    cases q
    obtain ⟨ob, _, _, h1, h2, _⟩ := dd
    exact ⟨ob, h1, h2.2.1⟩

section
variable {X : Cx} {pins : List (Addr × Obj)} {σ : St} {H : Hp} {s : Shared} {a : Addr} {y d : V} {u r : Value} {o : Option V} {A : Around} {E : Value → Shared → Prop}
/-- d.get(y) -/
theorem d_get1 {Q : Value → Shared → Prop} (hu : A.units + 1 < cLine) (I : Inv X pins σ H s) (g : DGet H a y o) (ry : RelV y u) (h : ∀ w' s', Inv X pins σ H s' → RelV (o.getD .non) w' → Q w' s') :
    wpAny (model X.prog X.w) A (call (.builtin "dict.get") [.ref a, u]) Q E s := by
  rcases g with ⟨kvs, k, e, ey, l⟩ | ⟨kvs, k, b, e, ey, eb, l⟩
  · subst ey
    obtain ⟨z, hd, vs, rel, dd⟩ := dk_rd I.hok e
    refine call_meetsIn PySem.F.slot_dict_get dd.typeIs PySem.F.entry_dict_get (PySem.F.args_dict_get_2 _ _) (meets_dict_get (mixKind X.prog X.w) a (kV_is ry) hd) ⟨_, dd.mapOf, h _ _ (I.tok _) ?_⟩
    rw [l]
    exact (rel.val k).getD rfl
  · subst ey
    cases (show u = Value.ref b from ry)
    obtain ⟨z, hd, xs, rel, dd⟩ := dt_rd I.hok e
    refine call_meetsIn PySem.F.slot_dict_get dd.typeIs PySem.F.entry_dict_get (PySem.F.args_dict_get_2 _ _) (meetsH_dict_get (tupleKind (mixKind X.prog X.w)) a b hd) ⟨tupleKind_room_in1 hu, k, xs, key_of I.hok eb, dd, h _ _ (I.tok _) ?_⟩
    rw [l]
    exact (rel.val k).getD rfl
/-- d.get(y, x) -/
theorem d_get2 {Q : Value → Shared → Prop} (hu : A.units + 1 < cLine) (I : Inv X pins σ H s) (g : DGet H a y o) (ry : RelV y u) (rd : RelV d r) (h : ∀ w' s', Inv X pins σ H s' → RelV (o.getD d) w' → Q w' s') :
    wpAny (model X.prog X.w) A (call (.builtin "dict.get") [.ref a, u, r]) Q E s := by
  rcases g with ⟨kvs, k, e, ey, l⟩ | ⟨kvs, k, b, e, ey, eb, l⟩
  · subst ey
    obtain ⟨z, hd, vs, rel, dd⟩ := dk_rd I.hok e
    refine call_meetsIn PySem.F.slot_dict_get dd.typeIs PySem.F.entry_dict_get (PySem.F.args_dict_get_3 _ _ _) (meets_dict_get_default (mixKind X.prog X.w) a (kV_is ry) hd r) ⟨_, dd.mapOf, h _ _ (I.tok _) ?_⟩
    rw [l]
    exact (rel.val k).getD rd
  · subst ey
    cases (show u = Value.ref b from ry)
    obtain ⟨z, hd, xs, rel, dd⟩ := dt_rd I.hok e
    refine call_meetsIn PySem.F.slot_dict_get dd.typeIs PySem.F.entry_dict_get (PySem.F.args_dict_get_3 _ _ _) (meetsH_dict_get_default (tupleKind (mixKind X.prog X.w)) a b hd r) ⟨tupleKind_room_in1 hu, k, xs, key_of I.hok eb, dd, h _ _ (I.tok _) ?_⟩
    rw [l]
    exact (rel.val k).getD rd
end

def tDGet1 (td ty : TE) : TE := fun σ H Q => td σ H fun x H1 => ∃ a, x = .ref a ∧ IsD H1 a ∧ ty σ H1 fun y H2 => ∃ o, DGet H2 a y o ∧ Q (o.getD .non) H2
def tDGet2 (td ty tx : TE) : TE := fun σ H Q => td σ H fun x H1 => ∃ a, x = .ref a ∧ IsD H1 a ∧ ty σ H1 fun y H2 => tx σ H2 fun z H3 => ∃ o, DGet H3 a y o ∧ Q (o.getD z) H3
/-- d.pop(k): there; d.pop(k, x): there or not -/
def tDPop1 (td ty : TE) : TE := fun σ H Q => td σ H fun x H1 => ∃ a, x = .ref a ∧ IsD H1 a ∧ ty σ H1 fun y H2 => ∃ kvs k v, H2 a = some (.dK kvs) ∧ y = kV k ∧ valV kvs k = some v ∧ Q v (upd H2 a (.dK (dropK kvs k)))
def tDPop2 (td ty tx : TE) : TE := fun σ H Q => td σ H fun x H1 => ∃ a, x = .ref a ∧ IsD H1 a ∧ ty σ H1 fun y H2 => tx σ H2 fun z H3 => ∃ kvs k, H3 a = some (.dK kvs) ∧ y = kV k ∧
  (∀ v, valV kvs k = some v → Q v (upd H3 a (.dK (dropK kvs k)))) ∧ (valV kvs k = none → Q z H3)
section
variable {X : Cx} {o e f : Expr} {apos cpos : Pos} {td ty tx : TE}
theorem pe_dget1 (hu : X.A.units + 1 < cLine) (ho : PE X o td) (he : PE X e ty) (m : M1 X o "get" apos e cpos) : PE X (.Call (.Attribute o "get" apos) [e] [] cpos) (tDGet1 td ty) := by
  intro pins s σ H Q I h
  refine wpAny_Call_method m.base m.few m.line PySem.F.plainAttrs_dict PySem.F.slot_dict_get PySem.F.type_dict_get (thn (ho pins s σ H _ I h) fun u s1 ⟨x, H1, I1, rx, a, ex, d, q1⟩ => ?_)
  subst ex
  obtain rfl : u = Value.ref a := rx
  obtain ⟨t1, t2, _⟩ := isD_at I1 d
  refine ⟨t1, t2, ?_⟩
  rw [m.trees]
  refine Calls.callWith_builtin rfl (Calls.evalArgs_plain (Calls.spliced_cons (thn (he pins s1 σ H1 _ I1 q1) fun iv s2 ⟨y, H2, I2, ry, ov, g, q2⟩ => Calls.spliced_nil ?_)))
  exact d_get1 hu I2 g ry fun w' s3 I3 rw' => ⟨_, H2, I3, rw', q2⟩
theorem pe_dget2 (hu : X.A.units + 1 < cLine) (ho : PE X o td) (he : PE X e ty) (hf : PE X f tx) (m : M2 X o "get" apos e f cpos) : PE X (.Call (.Attribute o "get" apos) [e, f] [] cpos) (tDGet2 td ty tx) := by
  intro pins s σ H Q I h
  refine wpAny_Call_method m.base m.few m.line PySem.F.plainAttrs_dict PySem.F.slot_dict_get PySem.F.type_dict_get (thn (ho pins s σ H _ I h) fun u s1 ⟨x, H1, I1, rx, a, ex, d, q1⟩ => ?_)
  subst ex
  obtain rfl : u = Value.ref a := rx
  obtain ⟨t1, t2, _⟩ := isD_at I1 d
  refine ⟨t1, t2, ?_⟩
  rw [m.trees]
  refine Calls.callWith_builtin rfl (Calls.evalArgs_plain (Calls.spliced_cons (thn (he pins s1 σ H1 _ I1 q1) fun iv s2 ⟨y, H2, I2, ry, q2⟩ =>
    Calls.spliced_cons (thn (hf pins s2 σ H2 _ I2 q2) fun fv s3 ⟨z, H3, I3, rz, ov, g, q3⟩ => Calls.spliced_nil ?_))))
  exact d_get2 hu I3 g ry rz fun w' s4 I4 rw' => ⟨_, H3, I4, rw', q3⟩
theorem pe_dpop1 (ho : PE X o td) (he : PE X e ty) (m : M1 X o "pop" apos e cpos) : PE X (.Call (.Attribute o "pop" apos) [e] [] cpos) (tDPop1 td ty) := by
  intro pins s σ H Q I h
  refine wpAny_Call_method m.base m.few m.line PySem.F.plainAttrs_dict PySem.F.slot_dict_pop PySem.F.type_dict_pop (thn (ho pins s σ H _ I h) fun u s1 ⟨x, H1, I1, rx, a, ex, d, q1⟩ => ?_)
  subst ex
  obtain rfl : u = Value.ref a := rx
  obtain ⟨t1, t2, _⟩ := isD_at I1 d
  refine ⟨t1, t2, ?_⟩
  rw [m.trees]
  refine Calls.callWith_builtin rfl (Calls.evalArgs_plain (Calls.spliced_cons (thn (he pins s1 σ H1 _ I1 q1) fun iv s2 ⟨y, H2, I2, ry, kvs, k, v, ea, ey, l, q2⟩ => Calls.spliced_nil ?_)))
  subst ey
  exact d_pop I2 ea ry l (.inl rfl) fun w' s3 I3 rw' => ⟨v, _, I3, rw', q2⟩
theorem pe_dpop2 (ho : PE X o td) (he : PE X e ty) (hf : PE X f tx) (m : M2 X o "pop" apos e f cpos) : PE X (.Call (.Attribute o "pop" apos) [e, f] [] cpos) (tDPop2 td ty tx) := by
  intro pins s σ H Q I h
  refine wpAny_Call_method m.base m.few m.line PySem.F.plainAttrs_dict PySem.F.slot_dict_pop PySem.F.type_dict_pop (thn (ho pins s σ H _ I h) fun u s1 ⟨x, H1, I1, rx, a, ex, d, q1⟩ => ?_)
  subst ex
  obtain rfl : u = Value.ref a := rx
  obtain ⟨t1, t2, _⟩ := isD_at I1 d
  refine ⟨t1, t2, ?_⟩
  rw [m.trees]
  refine Calls.callWith_builtin rfl (Calls.evalArgs_plain (Calls.spliced_cons (thn (he pins s1 σ H1 _ I1 q1) fun iv s2 ⟨y, H2, I2, ry, q2⟩ =>
    Calls.spliced_cons (thn (hf pins s2 σ H2 _ I2 q2) fun fv s3 ⟨z, H3, I3, rz, kvs, k, ea, ey, q3, q4⟩ => Calls.spliced_nil ?_))))
  subst ey
  cases l : valV kvs k with
  | some v => exact d_pop I3 ea ry l (.inr ⟨fv, rfl⟩) fun w' s4 I4 rw' => ⟨v, _, I4, rw', q3 v l⟩
  | none => exact d_popD I3 ea ry l fun s4 I4 => ⟨z, H3, I4, rz, q4 l⟩
end

/-! ### dict(d): a copy -/
section
variable {X : Cx} {pins : List (Addr × Obj)} {σ : St} {H : Hp} {s : Shared} {a : Addr} {kvs : List (Key × V)} {A : Around} {E : Value → Shared → Prop}
theorem d_copyOf {Q : Value → Shared → Prop} (I : Inv X pins σ H s) (e : Rd H a (.dK kvs)) (h : ∀ p s', H p = none → Inv X pins σ (upd H p (.dK kvs)) s' → Q (.ref p) s') : wpAny (model X.prog X.w) A (call (.type "dict") [.ref a]) Q E s := by
  obtain ⟨z, hd, vs, rel, dd⟩ := dk_rd I.hok e
  refine kt_call_dict hd dd (by rw [← rel.length]; exact z) fun h' dd' hs => ?_
  refine h _ _ (I.hok.fresh (Nat.le_refl _)) (I.laid (a := s.heap.objs.size) (o := .dK kvs) (t' := s.toks) (fun b q hq => ?_) (Nat.le_refl _) (dk_new z (beq_eq_false_iff_ne.mpr (Ne.symm (Nat.ne_of_lt I.big))) rel dd'))
  exact (hs.2 b (Nat.ne_of_lt (Heap.lt_size hq))).trans (Heap.get?_push_of_some _ hq)
end


section
variable {X : Cx} {pins : List (Addr × Obj)} {σ : St} {H : Hp} {s : Shared} {a : Addr} {y : V} {u : Value} {A : Around} {E : Value → Shared → Prop}
/-- d[y], not there: a KeyError -/
theorem d_missing {Q : Value → Shared → Prop} (hu : A.units + 1 < cLine) (hh : A.handled = none) (I : Inv X pins σ H s) (g : DGet H a y none) (ry : RelV y u)
    (h : ∀ h' e t', Heap.NewExc s.heap h' e "KeyError" → E (.ref e) { s with heap := h', toks := t' }) : wpAny (model X.prog X.w) A (getItem (.ref a) u) Q E s := by
  rcases g with ⟨kvs, k, e, ey, l⟩ | ⟨kvs, k, b, e, ey, eb, l⟩
  · subst ey
    obtain ⟨z, hd, vs, rel, dd⟩ := dk_rd I.hok e
    have hn : valueAt vs k = none := RelO.none_of (by rw [l]; exact rel.val k)
    exact wpAny_getItem_missing_of (kV_is ry) hd hh dd.mapOf hn fun h' ex ne => h h' ex _ ne
  · subst ey
    cases (show u = Value.ref b from ry)
    obtain ⟨z, hd, xs, rel, dd⟩ := dt_rd I.hok e
    have hn : (atKey xs k).map (·.2) = none := RelO.none_of (by rw [l]; exact rel.val k)
    exact wpAny_getItem_missing_heap (tupleKind_room_in1 hu) (key_of I.hok eb) hd hh dd (Option.map_eq_none_iff.mp hn) fun h' ex ne => h h' ex _ ne
end
end L2

namespace Att
open PySem PySem.W PySem.Calls PyProof.Rows

/-! ### the script -/
theorem ints_of_wellAll {P : Params} {h : Heap} : ∀ (ns : List Int) (vs : List Value), WellAll P h vs (ns.map WData.int) → IntsAre vs ns := by
  intro ns
  induction ns with
  | nil =>
    intro vs w
    rw [List.map_nil] at w
    cases w
    exact .nil
  | cons n ns ih =>
    intro vs w
    rw [List.map_cons] at w
    cases w with
    | cons a b =>
      cases a
      exact .cons _ _ (ih _ b)

theorem script_of {l : OpenLaw} {n : Nat} (hn : l.most = some n) {P : Params} {h : Heap} {args : List WData} {vals : List Value}
    (hpre : l.row.toRowW.claim.pre args = true) (hwl : WellAll P h vals args) :
    ∃ a vs ns, vals = [Value.ref a] ∧ args = [WData.list (ns.map WData.int)] ∧ h.get? a = some { cls := .type "list", data := .seq vs.toArray } ∧ IntsAre vs ns ∧ ns.length ≤ n := by
  have hsh : WShape.hasAll [] args [.list .int] = true := (pre_splitW hpre).1
  have hc : l.pre.holds [] { args := args } = true := (pre_splitW hpre).2
  obtain ⟨d, r, rfl, h1, h2⟩ := hasAllW_cons hsh
  obtain rfl := hasAllW_nil h2
  obtain ⟨xs, rfl, h3⟩ := hasW_list h1
  obtain ⟨ns, rfl⟩ := items_int h3
  have hlen : ns.length ≤ n := by
    unfold OpenLaw.pre at hc
    have h4 : (WTm.not (.lt (.lit (.int (n : Int))) (.len (.arg 0)))).holds [] { args := [.list (ns.map .int)] } = true := by
      have h4 := (holds_andW hc).1
      rw [hn] at h4
      exact h4
    have h5 := condW_of h4 (w_not (w_lt w_lit (w_len_list (w_arg rfl))))
    rw [List.length_map] at h5
    refine Nat.le_of_not_lt fun q => ?_
    have q' : (n : Int) < ((ns.length : Nat) : Int) := by omega
    first
      | (rw [decide_eq_true q'] at h5; exact absurd h5 (by decide))
      | (simp at h5; omega)
  cases hwl with
  | cons w1 w2 =>
    cases w2
    cases w1 with
    | list ho hall => exact ⟨_, _, ns, rfl, rfl, ho, ints_of_wellAll ns _ hall, hlen⟩

theorem post_true (l : OpenLaw) (args : List WData) : l.row.toRowW.claim.post args (.bool true) args = true :=
  postW_of (r := l.row.toRowW) (X := (true == true))
    (show WShape.has [] (.bool true) .bool = true by first | rfl | decide | simp [WShape.has, WShape.arms, WShape.armsAll])
    (show (WTm.eq .res (.lit (.bool true))).value [] { args := args, res := some (.bool true), after := args } = some (.bool (true == true)) from w_eq_bool (w_res rfl) w_lit) rfl

/-! ### the attachment: holds_open's last premise (the goal 'hc' behind k_head) from a wpAny of the law's body -/
theorem attach {l : OpenLaw} {n : Nat} {q : Program} {loose : List Str} {XP : (Str → Option Value) → Heap → Prop} {YP : World → Heap → Prop} {d : DefRec} {x : Str}
    (hn : l.most = some n) (hdf : d.params.defaults = [])
    (hbind : ∀ pm cd doc v : Value, bindArgs (docDef d.name d.params d.body d.scope pm cd doc) ⟨[v], []⟩ = pure [(x, v)])
    (hx : d.scope.names.lookup x = some .local ∨ d.scope.names.lookup x = some .cell)
    (hk : d.scope.kind = .function) (hco : d.scope.isCoroutine = false) (hgen : d.scope.isGenerator = false)
    (body : ∀ (w : World) (s₀ s₁ s : Shared) (mg mb : Str → Option Value) (fa : Addr) (o : Obj) (pm cd doc : Value) (a : Addr) (vs : List Value) (ns : List Int),
      Ground q loose [] XP w s₀ mg mb s₁.heap → YP w s₁.heap →
      s₁.heap.get? fa = some o → o.data = .func (docDef d.name d.params d.body d.scope pm cd doc) → s₁.heap.CodeRec cd d.name → mg d.name = some (.ref fa) →
      s₁.heap.get? a = some { cls := .type "list", data := .seq vs.toArray } → IntsAre vs ns → ns.length ≤ n →
      s.gens = #[] → s.os = s₁.os →
      Fr s₁.heap s₁.heap.objs.size s.heap (bindL (envOfC d.name d.scope s₁.heap.objs.size fa cd).kindOf [(x, .ref a)] fun _ => none) →
      Cl s₁.heap.objs.size (cellsFrom (s₁.heap.objs.size + 1) d.scope.names []) s.heap (bindC (envOfC d.name d.scope s₁.heap.objs.size fa cd).kindOf [(x, .ref a)] fun _ => none) →
      wpAny (model l.prog w) (callerA.deeper (envOfC d.name d.scope s₁.heap.objs.size fa cd)) (execs d.body (envOfC d.name d.scope s₁.heap.objs.size fa cd))
        (fun f s' => f = .ret (.bool true) ∧ OldK s₁.heap s'.heap ∧ s'.os = s₁.os ∧ AllBare s'.gens) (fun _ _ => False) s) :
    WalkO q loose XP YP l.row.toRowW d [] (fun f vs => PySem.call f vs) := by
  intro w s₀ s₁ mg mb G Y fa o pm cd doc dV kV ho hd hcd hD hmg hg args vals as hpre hlay hrd hwl hlo
  obtain rfl : dV = .none := Dflts.none hD hdf
  obtain rfl : kV = .none := Dflts.noKw hD
  obtain ⟨a, vs, ns, rfl, rfl, hobj, hints, hlen⟩ := script_of hn hpre hwl
  refine enter_call ?_
  refine call_cells_ret (o := o) (by rw [depth_caller]; decide) ho (fd_plain hd) G.T.nolimit hcd (hbind pm cd doc (.ref a)) (fun y hy => ?_) (fun h₁ tk F X => ?_) hco hgen hk
  · obtain rfl : y = (x, Value.ref a) := List.mem_singleton.mp hy
    rcases hx with e | e
    · exact .inl e
    · exact .inr ⟨e, cellsFrom_some _ _ _ (.inl e)⟩
  · refine wpAny_mono (body w s₀ s₁ { s₁ with heap := h₁, toks := tk } mg mb fa o pm cd doc a vs ns G Y ho (fd_plain hd) hcd hmg hobj hints hlen hg rfl F X) (fun f s' hq => ?_) (fun _ _ hq => hq)
    obtain ⟨rfl, h2, h3, h4⟩ := hq
    exact ⟨.inl ⟨.bool true, .bool true, [], rfl, fun _ => rfl, .bool true, post_true l _, fun _ => ⟨List.Pairwise.nil, fun _ hm => (nomatch hm)⟩⟩, h2, h3, h4⟩

/-- the same from a codeAny of the CALL (for a layer whose function contracts speak of calls) -/
theorem attach_call {l : OpenLaw} {n : Nat} {q : Program} {loose : List Str} {XP : (Str → Option Value) → Heap → Prop} {YP : World → Heap → Prop} {d : DefRec}
    (hn : l.most = some n) (hdf : d.params.defaults = [])
    (call : ∀ (w : World) (s₀ s₁ : Shared) (mg mb : Str → Option Value) (fa : Addr) (o : Obj) (pm cd doc : Value) (a : Addr) (vs : List Value) (ns : List Int),
      Ground q loose [] XP w s₀ mg mb s₁.heap → YP w s₁.heap →
      s₁.heap.get? fa = some o → o.data = .func (docDef d.name d.params d.body d.scope pm cd doc) → s₁.heap.CodeRec cd d.name → mg d.name = some (.ref fa) →
      s₁.heap.get? a = some { cls := .type "list", data := .seq vs.toArray } → IntsAre vs ns → ns.length ≤ n → s₁.gens = #[] →
      codeAny (model l.prog w) callerA (.call (.ref fa) ⟨[.ref a], []⟩) (fun r s' => r = .ok (.ret (.bool true)) ∧ OldK s₁.heap s'.heap ∧ s'.os = s₁.os ∧ AllBare s'.gens) s₁) :
    WalkO q loose XP YP l.row.toRowW d [] (fun f vs => PySem.call f vs) := by
  intro w s₀ s₁ mg mb G Y fa o pm cd doc dV kV ho hd hcd hD hmg hg args vals as hpre hlay hrd hwl hlo
  obtain rfl : dV = .none := Dflts.none hD hdf
  obtain rfl : kV = .none := Dflts.noKw hD
  obtain ⟨a, vs, ns, rfl, rfl, hobj, hints, hlen⟩ := script_of hn hpre hwl
  refine enter_call (codeAny_mono (call w s₀ s₁ mg mb fa o pm cd doc a vs ns G Y ho (fd_plain hd) hcd hmg hobj hints hlen hg) fun r s' hq => ?_)
  obtain ⟨rfl, h2, h3, h4⟩ := hq
  exact ⟨.inl ⟨.bool true, .bool true, [], rfl, fun _ => rfl, .bool true, post_true l _, fun _ => ⟨List.Pairwise.nil, fun _ hm => (nomatch hm)⟩⟩, h2, h3, h4⟩

/-- the same where the top left finished generators (o_head chose holds_openN): nothing may have changed at all and no generator may be left -/
theorem attachN {l : OpenLaw} {n : Nat} {q : Program} {loose : List Str} {XP : (Str → Option Value) → Heap → Prop} {YP : World → Heap → Prop} {d : DefRec} {x : Str}
    (hn : l.most = some n) (hdf : d.params.defaults = [])
    (hbind : ∀ pm cd doc v : Value, bindArgs (docDef d.name d.params d.body d.scope pm cd doc) ⟨[v], []⟩ = pure [(x, v)])
    (hx : d.scope.names.lookup x = some .local ∨ d.scope.names.lookup x = some .cell)
    (hk : d.scope.kind = .function) (hco : d.scope.isCoroutine = false) (hgen : d.scope.isGenerator = false)
    (body : ∀ (w : World) (s₀ s₁ s : Shared) (mg mb : Str → Option Value) (fa : Addr) (o : Obj) (pm cd doc : Value) (a : Addr) (vs : List Value) (ns : List Int),
      Ground q loose [] XP w s₀ mg mb s₁.heap → YP w s₁.heap →
      s₁.heap.get? fa = some o → o.data = .func (docDef d.name d.params d.body d.scope pm cd doc) → s₁.heap.CodeRec cd d.name → mg d.name = some (.ref fa) →
      s₁.heap.get? a = some { cls := .type "list", data := .seq vs.toArray } → IntsAre vs ns → ns.length ≤ n →
      s.gens = #[] → s.os = s₁.os →
      Fr s₁.heap s₁.heap.objs.size s.heap (bindL (envOfC d.name d.scope s₁.heap.objs.size fa cd).kindOf [(x, .ref a)] fun _ => none) →
      Cl s₁.heap.objs.size (cellsFrom (s₁.heap.objs.size + 1) d.scope.names []) s.heap (bindC (envOfC d.name d.scope s₁.heap.objs.size fa cd).kindOf [(x, .ref a)] fun _ => none) →
      wpAny (model l.prog w) (callerA.deeper (envOfC d.name d.scope s₁.heap.objs.size fa cd)) (execs d.body (envOfC d.name d.scope s₁.heap.objs.size fa cd))
        (fun f s' => f = .ret (.bool true) ∧ (∀ b o, s₁.heap.get? b = some o → s'.heap.get? b = some o) ∧ s'.os = s₁.os ∧ s'.gens = #[]) (fun _ _ => False) s) :
    WalkN q loose XP YP l.row.toRowW d [] (fun f vs => PySem.call f vs) := by
  intro w s₀ s₁ mg mb G Y fa o pm cd doc dV kV ho hd hcd hD hmg hg args vals as hpre hlay hrd hwl hlo
  obtain rfl : dV = .none := Dflts.none hD hdf
  obtain rfl : kV = .none := Dflts.noKw hD
  obtain ⟨a, vs, ns, rfl, rfl, hobj, hints, hlen⟩ := script_of hn hpre hwl
  refine enter_callW ?_
  refine call_cells_ret (o := o) (by rw [depth_caller]; decide) ho (fd_plain hd) G.T.nolimit hcd (hbind pm cd doc (.ref a)) (fun y hy => ?_) (fun h₁ tk F X => ?_) hco hgen hk
  · obtain rfl : y = (x, Value.ref a) := List.mem_singleton.mp hy
    rcases hx with e | e
    · exact .inl e
    · exact .inr ⟨e, cellsFrom_some _ _ _ (.inl e)⟩
  · refine wpAny_mono (body w s₀ s₁ { s₁ with heap := h₁, toks := tk } mg mb fa o pm cd doc a vs ns G Y ho (fd_plain hd) hcd hmg hobj hints hlen hg rfl F X) (fun f s' hq => ?_) (fun _ _ hq => hq)
    obtain ⟨rfl, h2, h3, h4⟩ := hq
    exact ⟨.inl ⟨.bool true, .bool true, [], rfl, fun _ => rfl, .bool true, post_true l _, fun _ => ⟨List.Pairwise.nil, fun _ hm => (nomatch hm)⟩⟩, h2, h3, h4⟩

/-! ### rules over ANY heap (no ledger) from facts about the written part K: the library's own take a ledger (News) for what they write -/
section
variable {prog : Program} {w : World} {A : Around} {E : Value → Shared → Prop} {s : Shared} {K : Frag}

/-- a def of the module, or a method (qual 'C.m'), entered: the frame is the next address; cells behind it -/
theorem call_fn {R : Result → Shared → Prop} {name qual : Str} {params : Arguments} {body : List Stmt} {scope : Scope} {dV kV doc pm cdv ct oc : Value} {an od : Option Addr} {osl : Array (Option Value)} {f : Addr} {args : Args} {binds : List (Str × Value)}
    (X : K.In s.heap) (hlim : s.heap.NoLimit) (ho : K.lookup f = some ⟨oc, od, .func (fnOf name qual params body scope dV kV doc pm an cdv ct), osl⟩) (hcd : codeIn K cdv qual = true) (hroom : A.depth < recursionLimit)
    (hbind : BindsTo s (fnOf name qual params body scope dV kV doc pm an cdv ct) args binds)
    (hkind : (binds.all fun y => scope.names.lookup y.1 == some .local || scope.names.lookup y.1 == some .cell) = true)
    (h : ∀ s₁, InCallC s s.heap.objs.size (bindL (envOfC qual scope s.heap.objs.size f cdv).kindOf binds fun _ => none) (cellsFrom (s.heap.objs.size + 1) scope.names [])
        (bindC (envOfC qual scope s.heap.objs.size f cdv).kindOf binds fun _ => none) s₁ →
      wpAny (model prog w) (A.deeper (envOfC qual scope s.heap.objs.size f cdv)) (execs body (envOfC qual scope s.heap.objs.size f cdv))
        (fun fl s' => R (.ok (.ret (match fl with | .ret v => v | _ => .none))) s')
        (fun e s' => wpAny (model prog w) (A.deeper (envOfC qual scope s.heap.objs.size f cdv)) (leaving (envOfC qual scope s.heap.objs.size f cdv) e) (fun _ s'' => R (.error e) s'') (fun e' s'' => R (.error e') s'') s') s₁)
    (hco : scope.isCoroutine = false) (hgen : scope.isGenerator = false) (hk : scope.kind = .function) : codeAny (model prog w) A (.call (.ref f) args) R s := by
  refine codeAny_call_function hroom (X _ _ ho) rfl hco hgen rfl (codeRec_of X hcd) (hbind _ _ _ _ ?_)
  refine wpAny_newFunctionEnv_cells hk (kindsX hkind _) fun env he s₁ x => ?_
  subst he
  exact ⟨hlim.keeps x.toInCall.keep, codeAny_func (h s₁ x)⟩

/-- C(..): dict at size, instance at size + 1, then __init__ -/
theorem make_obj {R : Result → Shared → Prop} {C fI : Addr} {rest : List Value} {kw : List (Str × Value)}
    (X : K.In s.heap) (hm : makesIn K C = true) (hi : findIn K (.ref C) "__init__" = some (some (.ref fI))) (hf : isFn K (.ref fI) = true)
    (h : codeAny (model prog w) (A.under (.builtin "type.__call__" ⟨.ref C :: rest, kw⟩)) (.call (.ref fI) ⟨.ref (s.heap.objs.size + 1) :: rest, kw⟩) (InitBack (s.heap.objs.size + 1) R)
      { s with heap := (s.heap.push emptyDict).push (instObj C s.heap.objs.size) }) : codeAny (model prog w) A (.call (.ref C) ⟨rest, kw⟩) R s := by
  obtain ⟨hh, g, d, t, os⟩ := s
  exact make_core (makes_of X hm) (looks_findIn X hi) (fun self => bind_fn X self (beq_iff_eq.mp hf)) (.inl rfl) h

/-- x.name where the instance's dict holds the name and the class does not -/
theorem get_field {x C : Addr} {ox : Obj} {es : List DictEntry} {n : Nat} {name : Str} {expr : Bool} {v : Value} {Q : Value → Shared → Prop}
    (X : K.In s.heap) (I : PySem.W.InstAt s.heap x ox C (some (dictOf es n))) (hg : plainGet K C name = true) (hh : hasDictIn K C = true) (ha : findIn K (.ref C) name = some none)
    (hl : getL name es = some (some v)) (hv : handedIn v = true) (h : Q v { s with toks := s.toks + 1 }) : wpAny (model prog w) A (getAttr (.ref x) name expr) Q E s :=
  get_value X I (plainGet_of hg).1 (findObj_own hh ha rfl hl) hv h

/-- x.m(..): the method found in the class -/
theorem get_method {x C f : Addr} {ox : Obj} {es : List DictEntry} {n : Nat} {name : Str} {pl : Sem Bool} {Q : Value × List Value → Shared → Prop}
    (X : K.In s.heap) (I : PySem.W.InstAt s.heap x ox C (some (dictOf es n))) (hg : plainGet K C name = true) (hf : findIn K (.ref C) name = some (some (.ref f))) (ht : isFn K (.ref f) = true)
    (hl : getL name es = some none) (h : Q (.ref f, [.ref x]) s) : wpAny (model prog w) A (getMethod (.ref x) name pl) Q E s :=
  method_fn X I (plainGet_of hg).1 (plainGet_of hg).2 hf (beq_iff_eq.mp ht) (by show (lookIn name (dictOf es n)).map _ = _; rw [lookIn_dict, hl]; rfl) h

/-! the whole heap as the ledger: makes every rule that writes through a ledger a rule over any heap -/
def noObjs (h : Heap) : Heap := { h with objs := #[] }
theorem noObjs_get (h : Heap) (b : Addr) : (noObjs h).get? b = none := by
  cases e : (noObjs h).get? b with
  | none => rfl
  | some o => exact absurd (Heap.lt_size e) (Nat.not_lt_zero _)
def ledger (h : Heap) (L d : Addr) : List (Addr × Obj) := (List.range h.objs.size).filterMap fun a => if a = L ∨ a = d then none else (h.get? a).map fun o => (a, o)
theorem mem_ledger {h : Heap} {L d a : Addr} {o : Obj} : (a, o) ∈ ledger h L d ↔ a ≠ L ∧ a ≠ d ∧ h.get? a = some o := by
  unfold ledger
  rw [List.mem_filterMap]
  constructor
  · rintro ⟨b, _, e⟩
    split at e
    · cases e
    · rename_i hb
      obtain ⟨o', ho, e'⟩ := Option.map_eq_some_iff.mp e
      cases e'
      exact ⟨fun q => hb (.inl q), fun q => hb (.inr q), ho⟩
  · rintro ⟨n1, n2, ho⟩
    refine ⟨a, List.mem_range.mpr (Heap.lt_size ho), ?_⟩
    rw [if_neg (show ¬ (a = L ∨ a = d) from fun q => q.elim n1 n2), ho] <;> rfl
theorem news_ledger {h : Heap} {L d : Addr} {od : Obj} (hne : d ≠ L) (ho : h.get? d = some od) : News (noObjs h) L h ([] ++ (d, od) :: ledger h L d) := by
  rintro ⟨a, o⟩ hp
  rcases List.mem_cons.mp hp with e | hp
  · cases e
    exact ⟨ho, hne, noObjs_get _ _⟩
  · obtain ⟨n1, n2, e⟩ := mem_ledger.mp hp
    exact ⟨e, n1, noObjs_get _ _⟩
theorem fr_all {h : Heap} {L : Addr} {m : Str → Option Value} (n : h.Ns L m) : Fr (noObjs h) L h m :=
  ⟨n, fun b o e => (by rw [noObjs_get] at e; cases e), Nat.zero_le _⟩
/-- Upd of the head entry (for append_K, setItem_K ..) -/
theorem upd_ledger {h : Heap} {L d : Addr} {o o' : Obj} : Upd d o o' ((d, o) :: ledger h L d) ((d, o') :: ledger h L d) :=
  .head fun ⟨_, _⟩ hp => (mem_ledger.mp hp).2.1

/-- x.name = v over any heap: L is any namespace of the heap (the frame's, say): its map stays, its object is not told; all else but the dict stays -/
theorem set_field {x C dx L : Addr} {ox : Obj} {m : Str → Option Value} {es es' : List DictEntry} {n n' : Nat} {name : Str} {v : Value} {Q : Unit → Shared → Prop}
    (X : K.In s.heap) (I : PySem.W.InstAt s.heap x ox C (some (dictOf es n))) (hd : ox.dict = some dx) (hL : s.heap.Ns L m) (hne : dx ≠ L)
    (hs : findIn K (.ref C) "__setattr__" = some (some (.builtin "object.__setattr__"))) (hp : plainOver K C = true) (ht : takerIn K C name = some none) (hh : hasDictIn K C = true) (hl : (getL name es).isSome = true)
    (e : (putL name (PyData.keyHash w.params name) (.str name (s.toks + 1)) v es, putN name es n) = (es', n')) (hz : es'.length ≤ 1000)
    (h : ∀ h' : Heap, h'.Ns L m → h'.get? dx = some (dictOf es' n') → (∀ b o, b ≠ dx → b ≠ L → s.heap.get? b = some o → h'.get? b = some o) → Q () { s with heap := h', toks := s.toks + 2 }) :
    wpAny (model prog w) A (setAttr (.ref x) name v) Q E s := by
  obtain ⟨e1, e2⟩ := Prod.mk.inj e
  have hdx : s.heap.get? dx = some (dictOf es n) := by
    have := I.dict
    rw [hd] at this
    exact this
  refine set_plain X I hs (osa_dict (s := { s with toks := s.toks + 1 }) (h₀ := noObjs s.heap) (L := L) (m := m) (od := dictOf es n) (od' := dictOf es' n') (es := es') (n := n') (pre := []) (post := ledger s.heap L dx)
    (fr_all hL) (news_ledger hne hdx) X I hd hp ht hh hl (fun _ q => nomatch q) (fun ⟨_, _⟩ q => (mem_ledger.mp q).2.1) (by rw [putName_dict, e1, e2]) rfl hz fun h' F' N' => ?_)
  exact h h' F'.ns (N'.get (List.Mem.head _)) fun b o n1 n2 ho => N'.get (List.Mem.tail _ (mem_ledger.mpr ⟨n2, n1, ho⟩))
end
end Att

namespace L2
open PySem PySem.Spec PyProof.Rows

theorem vals_ints : ∀ {vs : List Value} {ns : List Int}, IntsAre vs ns → Vals (ns.map V.int) vs
  | _, _, .nil => .nil
  | _, _, .cons n t h => .cons ⟨t, rfl⟩ (vals_ints h)

/-- nothing is tracked but the script, known to the object (or it is an object of the module) -/
def Only (H : Hp) : Prop := ∀ b, H b = none ∨ ∃ o xs, H b = some (.frz o (.lst xs))

/-- THE HEAD: the law's promise, at the heap behind the top. F, the promise of the law's def, may use that base is part of the heap (so K.In base, base.Ns mainGlobals mg stand in Mod) -/
theorem law_call {P : Program} {w : World} {K : PySem.W.Frag} {mg mb : Str → Option Value} {CX : CXT} {k : Nat} {fa a : Addr} {fd : FuncData} {x : Str} {sp : Sp} {s₁ : Shared} {vs : List Value} {ns : List Int}
    (KX : K.In s₁.heap) (hns : s₁.heap.Ns mainGlobals mg) (hb : s₁.heap.Ns builtinsNs mb) (hbb : ∀ x : Str, x ≠ "__name__" → mb x = bootBuiltins x) (hlim : s₁.heap.NoLimit) (hg : s₁.gens = #[])
    (ha : s₁.heap.get? a = some { cls := .type "list", data := .seq vs.toArray }) (hi : IntsAre vs ns) (hl : ns.length ≤ sizeLine) (hr : Room k callerA)
    (F : ∀ base : Heap, K.In base → base.Ns mainGlobals mg → FnOk P w K mg base CX k fa fd [x] sp) (hbind : ∀ (s : Shared) (u : Value), BindsTo s fd ⟨[u], []⟩ [(x, u)])
    (hsp : ∀ H : Hp, Only H → SqL K H a (ns.map V.int) → sp [.ref a] H (fun v _ => v = .bl true) fun _ _ _ => False)
    (hCX : ∀ H e s', CX [] H s₁ (fun _ _ _ => False) e s' → False) :
    codeAny (model P w) callerA (.call (.ref fa) ⟨[.ref a], []⟩) (fun r s' => r = .ok (.ret (.bool true)) ∧ OldK s₁.heap s'.heap ∧ s'.os = s₁.os ∧ AllBare s'.gens) s₁ := by
  have rv := vals_ints hi
  have lenV := hi.length
  -- from an abstract heap in which nothing but the script may be tracked
  have core : ∀ H : Hp, Only H → SqL K H a (ns.map V.int) → HOk P w H s₁.heap → (∀ b, H b ≠ none → b = a) → (H a ≠ none → K.lookup a = none) →
      codeAny (model P w) callerA (.call (.ref fa) ⟨[.ref a], []⟩) (fun r s' => r = .ok (.ret (.bool true)) ∧ OldK s₁.heap s'.heap ∧ s'.os = s₁.os ∧ AllBare s'.gens) s₁ := by
    intro H hO hS hok hA hK
    have base_of : ∀ {b : Addr} {o : Obj}, s₁.heap.get? b = some o → H b = none → (hidT s₁.heap H).get? b = some o := fun e n => hidT_get e n
    have noA : ∀ {b : Addr} {o : Obj} {es : Array DictEntry} {ep : Nat}, s₁.heap.get? b = some o → o.data = .dict es ep → H b = none := fun {b o es ep} e d => by
      cases q : H b with
      | none => rfl
      | some u =>
        have e' : b = a := hA b (by rw [q]; simp)
        subst e'
        rw [ha] at e; cases e
        have d' : Data.seq vs.toArray _ = Data.dict es ep := d
        cases d'
    have nsK : ∀ {b : Addr} {m : Str → Option Value}, s₁.heap.Ns b m → (hidT s₁.heap H).Ns b m := fun {b m} ⟨o, es, ep, e, d, r⟩ => ⟨o, es, ep, base_of e (noA e d), d, r⟩
    have hKb : K.In (hidT s₁.heap H) := fun b o e => base_of (KX b o e) (by
      cases q : H b with
      | none => rfl
      | some u =>
        have e' : b = a := hA b (by rw [q]; simp)
        subst e'
        rw [hK (by rw [q]; simp)] at e; cases e)
    have hM : Mod K mg (hidT s₁.heap H) := ⟨hKb, nsK hns, ⟨mb, nsK hb, hbb⟩, let ⟨mc, h1, h2⟩ := hlim; ⟨mc, nsK h1, h2⟩⟩
    have e0 : Env0 P w K mg (hidT s₁.heap H) callerA [] s₁ H := ⟨rfl, hM, fun b o e => of_hidT e, Nat.le_of_eq (hidT_size _ _), trivial, fun b hb => absurd (show b ∈ ([] : List Addr) from hb) (by simp), hok, .of_eq hg⟩
    refine codeAny_mono ((F _ hKb (nsK hns)).run callerA [] s₁ H ⟨[.ref a], []⟩ [.ref a] [.ref a] _ _ hr e0 (hbind s₁ (.ref a)) (.cons rfl .nil) (hsp H hO hS)) fun r s' h => ?_
    cases r with
    | error e => exact (hCX H e s' h).elim
    | ok fl =>
      cases fl with
      | next => exact False.elim h
      | brk => exact False.elim h
      | cont => exact False.elim h
      | ret u =>
        obtain ⟨v, H', os, bare, un, hok', r', q⟩ := h
        have q' : v = .bl true := q
        subst q'
        obtain rfl : u = Value.bool true := r'
        refine ⟨rfl, OldK.of_keep fun b o e => ?_, os, bare⟩
        cases q : H b with
        | none => exact un.keep b o e q (by intro z; exact absurd (show b ∈ ([] : List Addr) from z) (by simp)) (by simp)
        | some u =>
          rcases hO b with z | ⟨ob, xs, z⟩
          · rw [q] at z; cases z
          · have z2 := un.frzs b ob _ z
            obtain ⟨e1, _⟩ := hok b _ z
            obtain ⟨e2, _⟩ := hok' b _ z2
            rw [e] at e1; cases e1
            exact e2
  cases hk : K.lookup a with
  | some o =>
    -- the script is one of the module's own objects
    have e := KX a o hk
    rw [ha] at e
    cases e
    refine core (fun _ => none) (fun _ => .inl rfl) (.inr ⟨_, vs.toArray, _, hk, rfl, rfl, rfl, by rw [List.size_toArray, lenV]; exact hl, by simpa using rv⟩) (fun b u z => by have z' : (none : Option HO) = some u := z; cases z') (fun b z => absurd rfl z) fun z => absurd rfl z
  | none =>
    refine core (fun b => if b = a then some (.frz { cls := .type "list", data := .seq vs.toArray } (.lst (ns.map V.int))) else none) (fun b => ?_) (.inl (.inr ⟨{ cls := .type "list", data := .seq vs.toArray }, if_pos rfl⟩)) (fun b u z => ?_) (fun b z => ?_) fun _ => hk
    · by_cases hb : b = a
      · exact .inr ⟨_, _, if_pos hb⟩
      · exact .inl (if_neg hb)
    · by_cases hb : b = a
      · have z' := (if_pos hb).symm.trans z
        cases z'
        subst hb
        exact ⟨ha, by rw [List.length_map]; exact hl, vs, _, rv, ha⟩
      · have z' := (if_neg hb).symm.trans z
        cases z'
    · by_cases hb : b = a
      · exact hb
      · exact absurd (if_neg hb) z
end L2

namespace L2
open PySem PySem.Spec PyProof.Rows

abbrev KOf {K : PySem.W.Frag} {h : Heap} (_ : K.In h) : PySem.W.Frag := K

/-- the goal that k_head leaves (case hc), from the law's promise. F gives the function object fd (K's own) once, then the promise over every base -/
theorem walk_of {l : PySem.W.OpenLaw} {n k : Nat} {q : Program} {loose : List Str} {XP : (Str → Option Value) → Heap → Prop} {YP : World → Heap → Prop} {d : DefRec} {K : Params → PySem.W.Frag} {CX : World → CXT} {sp : World → Sp} {x : Str}
    (hn : l.most = some n) (hn2 : n ≤ sizeLine) (hdf : d.params.defaults = []) (hr : Room k callerA)
    (hY : ∀ (w : World) (h : Heap), YP w h → (K w.params).In h)
    (F : ∀ (w : World) (mg : Str → Option Value) (fa : Addr) (h : Heap), (K w.params).In h → h.Ns mainGlobals mg → mg d.name = some (.ref fa) →
      ∃ fd : FuncData, (∀ (s : Shared) (u : Value), BindsTo s fd ⟨[u], []⟩ [(x, u)]) ∧
        ∀ base : Heap, (K w.params).In base → base.Ns mainGlobals mg → FnOk l.prog w (K w.params) mg base (CX w) k fa fd [x] (sp w))
    (hsp : ∀ (w : World) (H : Hp) (a : Addr) (ns : List Int), ns.length ≤ n → Only H → SqL (K w.params) H a (ns.map V.int) → sp w [.ref a] H (fun v _ => v = .bl true) fun _ _ _ => False)
    (hCX : ∀ (w : World) (H : Hp) (s : Shared) (e : Value) (s' : Shared), CX w [] H s (fun _ _ _ => False) e s' → False) :
    PySem.W.WalkO q loose XP YP l.row.toRowW d [] (fun f vs => PySem.call f vs) := by
  refine Att.attach_call hn hdf fun w s₀ s₁ mg mb fa o pm cd doc a vs ns G Y ho hd hcd hmg hobj hints hlen hg => ?_
  have KX := hY w _ Y
  obtain ⟨fd, hb, hF⟩ := F w mg fa _ KX G.T.g hmg
  exact law_call KX G.T.g G.T.b G.T.builtins G.T.nolimit hg hobj hints (Nat.le_trans hlen hn2) hr hF hb (fun H hO hS => hsp w H a ns hlen hO hS) fun H e s' => hCX w H s₁ e s'
/-- the same where the promise hangs on the written part alone: (sp := My.sp_law), no hole under a binder -/
theorem walk_ofK {l : PySem.W.OpenLaw} {n k : Nat} {q : Program} {loose : List Str} {XP : (Str → Option Value) → Heap → Prop} {YP : World → Heap → Prop} {d : DefRec} {K : Params → PySem.W.Frag} {CX : CXT} {sp : PySem.W.Frag → Sp} {x : Str}
    (hn : l.most = some n) (hn2 : n ≤ sizeLine) (hdf : d.params.defaults = []) (hr : Room k callerA)
    (hY : ∀ (w : World) (h : Heap), YP w h → (K w.params).In h)
    (F : ∀ (w : World) (mg : Str → Option Value) (fa : Addr) (h : Heap), (K w.params).In h → h.Ns mainGlobals mg → mg d.name = some (.ref fa) →
      ∃ fd : FuncData, (∀ (s : Shared) (u : Value), BindsTo s fd ⟨[u], []⟩ [(x, u)]) ∧
        ∀ base : Heap, (K w.params).In base → base.Ns mainGlobals mg → FnOk l.prog w (K w.params) mg base CX k fa fd [x] (sp (K w.params)))
    (hsp : ∀ (K : PySem.W.Frag) (H : Hp) (a : Addr) (ns : List Int), ns.length ≤ n → Only H → SqL K H a (ns.map V.int) → sp K [.ref a] H (fun v _ => v = .bl true) fun _ _ _ => False)
    (hCX : ∀ (H : Hp) (s : Shared) (e : Value) (s' : Shared), CX [] H s (fun _ _ _ => False) e s' → False) :
    PySem.W.WalkO q loose XP YP l.row.toRowW d [] (fun f vs => PySem.call f vs) :=
  walk_of (K := K) (CX := fun _ => CX) (sp := fun w => sp (K w.params)) hn hn2 hdf hr hY F (fun w H a ns h1 h2 h3 => hsp (K w.params) H a ns h1 h2 h3) fun _ H s e s' => hCX H s e s'
end L2

/- THE LAST THEOREM (shape; LID, My.* are yours):
   My.Adr: a structure of the addresses that your layer names (classes, functions); My.Txt K t: a structure (Prop) of the equations over K;
   My.txt_mk : {K} {implicit addresses ..} (e1 : nsIn K mainGlobals "law" = some (some (.ref f))) (e2 : K.lookup f = some ⟨oc, od, .func (fnOf "law" "law" params body scope dV kV doc pm an cdv ct), sl⟩) (e3 : codeIn K cdv "law" = true) .. : ∃ t, My.Txt K t

set_option maxRecDepth 100000 in
set_option maxHeartbeats 0 in
theorem PySem.Challenge.cw_LID_holds : PySem.Challenge.rw_LID.Holds := by
  w_on; o_law; k_head; (case hw => w_witness2)
  k_fill
  refine L2.walk_of (l := PySem.Challenge.rw_LID) (n := 63) (k := 40) (x := "script") (CX := fun w => ..) (sp := fun _ => My.sp_law) rfl (by decide) rfl ⟨rfl, by decide, by decide⟩ (fun w h Y => PySem.W.kIn_of Y) ?F ?S ?C
  case F =>
    intro w mg fa h KX G hmg
    have T : ∃ t, My.Txt (L2.KOf KX) t := by
      dsimp only [L2.KOf]                          -- K must stand as «<heap const> w.params» for k_is
      refine' My.txt_mk ?e1 ?e2 ?e3 ..
      (case e1 => PySem.W.k_is)                    -- in the order: a name -> its address -> its object -> its parts
      (case e2 => PySem.W.k_is)
      ..
    obtain ⟨t, T⟩ := T
    have e0 := hmg.symm.trans (PySem.W.mg_of KX G T.law)
    cases e0                                       -- fa is the law's own address
    exact ⟨_, fun s u => .of_eq rfl, fun base kb nb => My.law_fn T kb nb⟩     -- if «.of_eq rfl» comes too early: refine' ⟨_, ?b, fun base kb nb => My.law_fn T kb nb⟩; exact fun s u => .of_eq rfl
  case S => exact fun w H a ns hl hO hS => ..
  case C => exact ..
(the tactic k_is has no namespace: write k_is) -/

/-! SHORT WORDS over the layer: a def of the text, its body, what a loop and a test want. -/
namespace L2
open PySem PySem.Spec PyProof.Rows

/-! ### the text by places -/
/-- the j-th statement of a class's body -/
def inClass (s : Stmt) (j : Nat) : Stmt := match s with
  | .ClassDef _ _ _ body _ _ _ _ _ _ _ => body.getD j (.Pass ⟨0, 0, 0, 0⟩)
  | _ => .Pass ⟨0, 0, 0, 0⟩
def defArgs (s : Stmt) : Arguments := match s with
  | .FunctionDef _ a _ _ _ _ _ _ _ _ => a
  | _ => { posonlyargs := [], args := [], vararg := none, kwonlyargs := [], kw_defaults := [], kwarg := none, defaults := [] }
def defBody (s : Stmt) : List Stmt := match s with
  | .FunctionDef _ _ b _ _ _ _ _ _ _ => b
  | _ => []
def defScope (s : Stmt) : Scope := match s with
  | .FunctionDef _ _ _ _ _ _ sc _ _ _ => sc
  | _ => { kind := .function, names := [], isGenerator := false, isCoroutine := false }

/-! ### no exception leaves a def -/
abbrev CX0 : CXT := fun _ _ _ _ _ _ => False
abbrev E0 : XK := fun _ _ _ => False
theorem pass0 {X : Cx} : Passes CX0 X E0 := fun _ _ _ _ _ _ _ h => h.elim

/-! ### a def (or method) of the text as it stands behind the top -/
structure Fun (K : PySem.W.Frag) (x qual : Str) (st : Stmt) (f : Addr) (fd : FuncData) : Prop where
  ex : ∃ (oc : Value) (od : Option Addr) (kV doc pm : Value) (an : Option Addr) (cdv ct : Value) (osl : Array (Option Value)),
    fd = PySem.W.fnOf x qual (defArgs st) (defBody st) (defScope st) .none kV doc pm an cdv ct ∧ K.lookup f = some ⟨oc, od, .func fd, osl⟩ ∧ PySem.W.codeIn K cdv qual = true
  kp : PySem.W.keepIn K (.ref f) = true
section
variable {P : Program} {w : World} {K : PySem.W.Frag} {mg : Str → Option Value} {base : Heap}
/-- THE RULE for a def: its body as a term of rules, and the reading of that term -/
theorem Fun.ok {x qual : Str} {st : Stmt} {f : Addr} {fd : FuncData} {N ps : List Str} {k : Nat} {sp : Sp} (F : Fun K x qual st f fd) (S : FnScope N ps (defScope st)) (len : ∀ vs H Q E, sp vs H Q E → vs.length = ps.length)
    (hbody : ∀ (cdv : Value) (A : Around) (outer : List Env) (s : Shared) (H : Hp) (vs : List V) (Q : VK) (E : XK), Room k (A.deeper (envOfC qual (defScope st) s.heap.objs.size f cdv)) → sp vs H Q E →
      ∃ t, PSs (cxOf CX0 P w K mg base N qual (defScope st) f cdv A outer s H E).nox (defBody st) t ∧ t { nx := fun _ H' => Q .non H', rt := Q } (start N vs) H) : FnOk P w K mg base CX0 (k + 1) f fd ps sp := by
  obtain ⟨oc, od, kV, doc, pm, an, cdv, ct, osl, rfl, lk, hcd⟩ := F.ex
  refine fn_of lk hcd S len fun A outer s H vs Q E hr hsp => ?_
  obtain ⟨t, h, q⟩ := hbody cdv A outer s H vs Q E hr hsp
  exact ⟨t, h.nox, q⟩
/-- how its arguments bind (no defaults): h is «fun _ _ _ _ _ _ us hl => match us, hl with | [_, _], _ => rfl», one _ a parameter -/
theorem Fun.binds {x qual : Str} {st : Stmt} {f : Addr} {fd : FuncData} {ps : List Str} (F : Fun K x qual st f fd)
    (h : ∀ (kV doc pm : Value) (an : Option Addr) (cdv ct : Value) (us : List Value), us.length = ps.length → bindArgs (PySem.W.fnOf x qual (defArgs st) (defBody st) (defScope st) .none kV doc pm an cdv ct) ⟨us, []⟩ = pure (ps.zip us)) : Binds K fd ps [] := by
  obtain ⟨oc, od, kV, doc, pm, an, cdv, ct, osl, rfl, lk, hcd⟩ := F.ex
  exact .all (h kV doc pm an cdv ct)
theorem fun_mk {x qual : Str} {st : Stmt} {f : Addr} {oc : Value} {od an : Option Addr} {osl : Array (Option Value)} {kV doc pm cdv ct : Value} (l : K.lookup f = some ⟨oc, od, .func (PySem.W.fnOf x qual (defArgs st) (defBody st) (defScope st) .none kV doc pm an cdv ct), osl⟩)
    (c : PySem.W.codeIn K cdv qual = true) (k : PySem.W.keepIn K (.ref f) = true) : Fun K x qual st f (PySem.W.fnOf x qual (defArgs st) (defBody st) (defScope st) .none kV doc pm an cdv ct) := ⟨⟨oc, od, kV, doc, pm, an, cdv, ct, osl, rfl, l, c⟩, k⟩
end
theorem hu_of {A : Around} {k : Nat} (hr : Room k A) : A.units + 1 < cLine := Nat.lt_of_le_of_lt (Nat.add_le_add_left (by decide : 1 ≤ 64) _) hr.units
theorem small1000 {n : Nat} (h : n ≤ 1000) : n < sizeLine := Nat.lt_of_le_of_lt h (by decide)

/-! ### expressions in short: the name that stands in the i-th slot -/
section
variable {X : Cx}
theorem pv (i : Nat) {x : Str} {pos : Pos} (hN : X.N[i]? = some x := by rfl) (hv : Vis X.env.scope x := by first | exact Or.inl rfl | exact Or.inr (Or.inl rfl) | exact Or.inr (Or.inr rfl)) (hd : (x == ("__debug__" : Str)) = false := by decide)
    (hcd : (x == ("__classdict__" : Str)) = false := by decide) : PE X (.Name x pos) (tVar i) := pe_var hN hv hd hcd
end

/-! ### tests -/
theorem iteF {A B : Prop} (h : B) : if false = true then A else B := by
  rw [if_neg Bool.false_ne_true]
  exact h
theorem iteT {A B : Prop} (h : A) : if true = true then A else B := by
  rw [if_pos rfl]
  exact h
theorem ite2 {c A B : Prop} [Decidable c] (h1 : c → A) (h2 : ¬ c → B) : if c then A else B := by
  by_cases h : c
  · rw [if_pos h]
    exact h1 h
  · rw [if_neg h]
    exact h2 h
theorem iteNS {c A B : Prop} [Decidable c] (hc : c) (h : B) : if (!decide c) = true then A else B := by
  rw [decide_eq_true hc]
  exact iteF h

/-! ### heaps -/
/-- all that was tracked is as it was -/
def Same (H H' : Hp) : Prop := ∀ b o, H b = some o → H' b = some o
theorem Same.refl (H : Hp) : Same H H := fun _ _ h => h
theorem Same.trans {H H1 H2 : Hp} (a : Same H H1) (b : Same H1 H2) : Same H H2 := fun c o h => b c o (a c o h)
theorem Same.free {H H' : Hp} (e : Same H H') {l : Addr} (h : H' l = Option.none) : H l = Option.none := by
  cases q : H l with
  | none => rfl
  | some o =>
    rw [e l o q] at h
    cases h
theorem Same.seq {K : PySem.W.Frag} {H H' : Hp} {a : Addr} {xs : List V} (e : Same H H') (h : SqL K H a xs) : SqL K H' a xs := by
  rcases h with (h | ⟨o, h⟩) | h
  · exact .inl (.inl (e _ _ h))
  · exact .inl (.inr ⟨o, e _ _ h⟩)
  · exact .inr h

end L2
namespace L2
open PySem PySem.Spec PyProof.Rows
section
variable {X : Cx}
/-- len of a dict -/
theorem call_lenD : CallR X (.builtin "len") (fun xs H Q => ∃ a kvs, xs = [V.ref a] ∧ H a = some (.dK kvs) ∧ Q (.int kvs.length) H) := by
  intro pins s σ H xs us Q I r h
  obtain ⟨a, kvs, rfl, ha, q⟩ := h
  obtain ⟨u, rfl, ru⟩ := vals1 r
  cases ru
  exact d_len I (.inl ha) fun t s' I' => ⟨.int kvs.length, H, I', ⟨t, rfl⟩, q⟩
end

/-! ### a dict's pairs: keys that differ -/
section
variable {κ : Type} [DecidableEq κ]
theorem valV_not {kvs : List (κ × V)} {k : κ} (h : valV kvs k = none) : ¬ k ∈ kvs.map (·.1) := by
  intro m
  obtain ⟨p, hp, e⟩ := List.mem_map.mp m
  have q : (kvs.any fun kv => decide (kv.1 = k)) = true := List.any_eq_true.mpr ⟨p, hp, decide_eq_true e⟩
  rw [valV_any, h] at q
  exact absurd q (by simp)
theorem valV_in {kvs : List (κ × V)} {k : κ} {v : V} (h : valV kvs k = some v) : k ∈ kvs.map (·.1) := by
  have q : (kvs.any fun kv => decide (kv.1 = k)) = true := by
    rw [valV_any, h]
    all_goals rfl
  obtain ⟨p, hp, e⟩ := List.any_eq_true.mp q
  exact List.mem_map.mpr ⟨p, hp, of_decide_eq_true e⟩
theorem nd_snoc : ∀ {l : List κ} {k : κ}, l.Nodup → ¬ k ∈ l → (l ++ [k]).Nodup
  | [], k, _, _ => by simp
  | a :: r, k, h, hk => by
    obtain ⟨h1, h2⟩ := List.nodup_cons.mp h
    show (a :: (r ++ [k])).Nodup
    refine List.nodup_cons.mpr ⟨fun m => ?_, nd_snoc h2 fun m => hk (List.mem_cons.mpr (Or.inr m))⟩
    rcases List.mem_append.mp m with q | q
    · exact h1 q
    · exact hk (List.mem_cons.mpr (Or.inl (List.mem_singleton.mp q).symm))
theorem nd_putK {kvs : List (κ × V)} {k : κ} (v : V) (hn : (kvs.map (·.1)).Nodup) (h : valV kvs k = none) : ((putK kvs k v).map (·.1)).Nodup := by
  rw [putK_new v h, List.map_append]
  exact nd_snoc hn (valV_not h)
theorem dropK_pos {p : κ × V} {r : List (κ × V)} {k : κ} (e : p.1 = k) : dropK (p :: r) k = dropK r k := by
  unfold dropK
  rw [List.filter_cons, if_neg (by simp [e])]
theorem dropK_neg {p : κ × V} {r : List (κ × V)} {k : κ} (e : ¬ p.1 = k) : dropK (p :: r) k = p :: dropK r k := by
  unfold dropK
  rw [List.filter_cons, if_pos (by simp [e])]
theorem dropK_no : ∀ {kvs : List (κ × V)} {k : κ}, ¬ k ∈ kvs.map (·.1) → dropK kvs k = kvs
  | [], _, _ => rfl
  | p :: r, k, h => by
    have h' : ¬ k ∈ r.map (·.1) := fun m => by
      obtain ⟨q, hq, e⟩ := List.mem_map.mp m
      exact h (List.mem_map.mpr ⟨q, List.mem_cons.mpr (Or.inr hq), e⟩)
    rw [dropK_neg fun e => h (List.mem_map.mpr ⟨p, List.mem_cons.mpr (Or.inl rfl), e⟩), dropK_no h']
theorem dropK_mem {kvs : List (κ × V)} {k : κ} {p : κ × V} (h : p ∈ dropK kvs k) : p ∈ kvs := (List.mem_filter.mp h).1
theorem nd_dropK : ∀ {kvs : List (κ × V)} {k : κ}, (kvs.map (·.1)).Nodup → ((dropK kvs k).map (·.1)).Nodup
  | [], _, _ => List.nodup_nil
  | p :: r, k, h => by
    have h : (p.1 :: r.map (·.1)).Nodup := h
    obtain ⟨h1, h2⟩ := List.nodup_cons.mp h
    by_cases e : p.1 = k
    · rw [dropK_pos e]
      exact nd_dropK h2
    · rw [dropK_neg e]
      show (p.1 :: (dropK r k).map (·.1)).Nodup
      refine List.nodup_cons.mpr ⟨fun m => h1 ?_, nd_dropK h2⟩
      obtain ⟨q, hq, eq⟩ := List.mem_map.mp m
      exact List.mem_map.mpr ⟨q, dropK_mem hq, eq⟩
theorem dropK_len : ∀ {kvs : List (κ × V)} {k : κ}, (kvs.map (·.1)).Nodup → k ∈ kvs.map (·.1) → (dropK kvs k).length + 1 = kvs.length
  | [], _, _, m => by simp at m
  | p :: r, k, h, m => by
    have h : (p.1 :: r.map (·.1)).Nodup := h
    have m : k = p.1 ∨ k ∈ r.map (·.1) := List.mem_cons.mp m
    obtain ⟨h1, h2⟩ := List.nodup_cons.mp h
    by_cases e : p.1 = k
    · subst e
      rw [dropK_pos rfl, dropK_no h1]
      all_goals rfl
    · have m' : k ∈ r.map (·.1) := m.resolve_left fun z => e z.symm
      have q := dropK_len h2 m'
      rw [dropK_neg e, List.length_cons, List.length_cons]
      omega
end
end L2
set_option Elab.async false
set_option linter.all false
set_option maxRecDepth 100000
set_option maxHeartbeats 4000000
namespace Jb
open PySem PySem.Spec PyProof.Rows L2

/-- a def of the module as its callers see it -/
structure Cal (P : Program) (w : World) (K : PySem.W.Frag) (mg : Str → Option Value) (base : Heap) (k : Nat) (x : Str) (ps : List Str) (sp : Sp) : Prop where
  ex : ∃ f fd, FnOk P w K mg base CX0 k f fd ps sp ∧ mg x = some (.ref f) ∧ PySem.W.keepIn K (.ref f) = true ∧ Binds K fd ps []
theorem Cal.mono {P : Program} {w : World} {K : PySem.W.Frag} {mg : Str → Option Value} {base : Heap} {j k : Nat} {x : Str} {ps : List Str} {sp : Sp} (c : Cal P w K mg base j x ps sp) (h : j ≤ k) : Cal P w K mg base k x ps sp :=
  let ⟨f, fd, F, r⟩ := c.ex; ⟨f, fd, F.mono h, r⟩
section
variable {X : Cx} {e : Expr} {es : List Expr} {t : TA} {p pos : Pos} {a b : Expr} {ta tb : TE}
theorem pe_cal {k : Nat} {x : Str} {ps : List Str} {sp : Sp} (C : Cal X.prog X.w X.K X.mg X.base k x ps sp) (hr : Room k X.A) (hg : Gl X x) (ha : PA X (e :: es) t)
    (hdb : (x == ("__debug__" : Str)) = false := by decide) (he : starEach (e :: es) X.env = (false, eval e X.env) :: starEach es X.env := by rfl) (hpl : (backTo pos (starEach es X.env)).any (·.1) = false := by rfl) :
    PE X (.Call (.Name x p) (e :: es) [] pos) (tCall sp [] E0 t) := by
  obtain ⟨f, fd, F, hm, hk, hb⟩ := C.ex
  exact pe_call F hr hg hm hk hb .nil pass0 ha hdb he hpl
/-- a built-in type as a value -/
theorem pe_ty {x : Str} {n : String} (hg : Gl X x) (hm : X.mg x = none) (hv : bootBuiltins x = some (.type n)) (hn : x ≠ "__name__" := by decide) (hd : (x == ("__debug__" : Str)) = false := by decide) : PE X (.Name x pos) (tC (.ty n)) :=
  pe_bltn hg hm hv rfl hn hd
/-- // by a positive divisor below 2^64 -/
def CDivB (_ j : Int) : Prop := 0 < j ∧ j < 18446744073709551616
theorem op_fdivB : OpR X (binaryOp .FloorDiv) (rI CDivB fun i j => .int (i / j)) := opI fun i j _ _ _ _ _ hc q => by
  have h1 : (0 : Int) < j := hc.1
  have h2 : j < 18446744073709551616 := hc.2
  have h3 : j.natAbs < 2 ^ 64 := by omega
  have h4 : j.natAbs ≠ 0 := by omega
  have h5 : j.natAbs.log2 < 64 := (Nat.log2_lt h4).mpr h3
  exact floordiv_int (by omega) (by rw [Int.fdiv_eq_ediv_of_nonneg i (by omega)]; exact q) (.inl (PyProof.noPylong_of_log2 (by omega)))
/-- isinstance(x, T), T a built-in type -/
theorem call_isinst : CallR X (.builtin "isinstance") (fun xs H Q => ∃ x n t b, xs = [x, .ty n] ∧ TyOf X.K H x t ∧ PySem.W.kitOne X.K t (.type n) = some b ∧ Q (.bl b) H) := by
  intro pins s σ H xs us Q I r h
  obtain ⟨x, n, t, b, rfl, ty, e, q⟩ := h
  obtain ⟨u, w', rfl, r1, r2⟩ := vals2 r
  cases r2
  exact isinst_ok I r1 ty e fun tk => ⟨.bl b, H, I.tok tk, rfl, q⟩
theorem kit_int_int {K : PySem.W.Frag} : PySem.W.kitOne K (.type "int") (.type "int") = some true := by with_unfolding_all rfl
theorem kit_int_bool {K : PySem.W.Frag} : PySem.W.kitOne K (.type "int") (.type "bool") = some false := by with_unfolding_all rfl
end

theorem iteD {c A B : Prop} [Decidable c] (hc : c) (h : A) : if decide c = true then A else B := by rw [if_pos (decide_eq_true hc)]; exact h
theorem iteDN {c A B : Prop} [Decidable c] (hc : ¬ c) (h : B) : if decide c = true then A else B := by rw [if_neg (by simpa using hc)]; exact h
theorem iteN {c A B : Prop} [Decidable c] (hc : ¬ c) (h : A) : if (!decide c) = true then A else B := by rw [decide_eq_false hc]; exact iteT h
/-! ### heaps -/
/-- all that was tracked but at p is as it was -/
def But (p : Addr) (H H' : Hp) : Prop := ∀ b o, H b = some o → b ≠ p → H' b = some o
theorem But.refl {p : Addr} {H : Hp} : But p H H := fun _ _ h _ => h
theorem But.trans {p : Addr} {H H1 H2 : Hp} (a : But p H H1) (b : But p H1 H2) : But p H H2 := fun c o h n => b c o (a c o h n) n
theorem But.put {p : Addr} {H : Hp} {o : HO} : But p H (upd H p o) := fun b u h n => by rw [upd_ne n]; exact h
theorem But.new {p q : Addr} {H : Hp} {o : HO} (h : H q = none) : But p H (upd H q o) := fun b u e _ => by rw [upd_ne (ne_of_none e h)]; exact e
theorem But.same {p : Addr} {H H1 H2 : Hp} (a : Same H H1) (n : H p = none) (b : But p H1 H2) : Same H H2 := fun c o h => b c o (a c o h) (ne_of_none h n)
theorem Same.new {q : Addr} {H : Hp} {o : HO} (h : H q = none) : Same H (L2.upd H q o) := fun b u e => by rw [upd_ne (ne_of_none e h)]; exact e
theorem Same.but {p : Addr} {H H1 : Hp} (a : Same H H1) : But p H H1 := fun c o h _ => a c o h

/-! ### the tape -/
def Tape (H : Hp) (p : Addr) : Prop := ∃ d m : Int, H p = some (.lst [.int d, .int m]) ∧ 0 ≤ m ∧ m < 2147483648
theorem Tape.keep {H H' : Hp} {p : Addr} (t : Tape H p) (s : Same H H') : Tape H' p := let ⟨d, m, h, r⟩ := t; ⟨d, m, s _ _ h, r⟩
theorem Tape.new {H : Hp} {p q : Addr} {o : HO} (t : Tape H p) (h : H q = none) : Tape (upd H q o) p := t.keep (Same.new h)
def spTape (K : PySem.W.Frag) : Sp := fun vs H Q _ => ∃ (a : Addr) (ns : List Int) (k : Int), vs = [.ref a, .int k] ∧ SqL K H a (ns.map V.int) ∧ 0 ≤ k ∧ k ≤ 100 ∧
  ∀ p H', H p = none → Tape H' p → Same H H' → Q (.ref p) H'
def spDraw : Sp := fun vs H Q _ => ∃ (p : Addr) (many : Int), vs = [.ref p, .int many] ∧ Tape H p ∧ 0 < many ∧ many < 18446744073709551616 ∧
  ∀ r H', 0 ≤ r → r < many → Tape H' p → But p H H' → Q (.int r) H'
end Jb

set_option Elab.async false
set_option linter.all false
set_option maxRecDepth 100000
set_option maxHeartbeats 4000000
namespace Jb
open PySem PySem.Spec PyProof.Rows L2

/-! ### the cells that a block closes over -/
theorem forIn_fold {α β : Type} {l : List α} {f : α → β → Sem (ForInStep β)} (g : β → α → β) : ∀ (init : β), (∀ x ∈ l, ∀ c, f x c = pure (.yield (g c x))) → forIn l init f = pure (l.foldl g init) := by
  induction l with
  | nil => intro init _; rfl
  | cons x r ih =>
    intro init h
    rw [List.forIn_cons, h x List.mem_cons_self init]
    show (pure (ForInStep.yield (g init x)) >>= _) = _
    rw [pure_bind]
    exact ih (g init x) fun y hy c => h y (List.mem_cons_of_mem _ hy) c
def closF (env : Env) (cs : List (Str × Addr)) (y : Str × NameKind) : List (Str × Addr) := if y.2 == .free then (y.1, (env.cells.lookup y.1).getD 0) :: cs else cs
def closOf (scope : Scope) (env : Env) : List (Str × Addr) := scope.names.foldl (closF env) []
theorem closureFor_of {scope : Scope} {env : Env} (h : ∀ y ∈ scope.names, y.2 = .free → ∃ c, env.cells.lookup y.1 = some c) : closureFor scope env = pure (closOf scope env) := by
  unfold closureFor
  dsimp only
  rw [forIn_fold (closF env) [] fun y hy c => ?_]
  · rw [pure_bind]
    rfl
  · obtain ⟨n, k⟩ := y
    unfold closF
    dsimp only
    by_cases hk : (k == NameKind.free) = true
    · rw [if_pos hk, if_pos hk]
      obtain ⟨a, ha⟩ := h (n, k) hy (by simpa using hk)
      have ha : env.cells.lookup n = some a := ha
      unfold cellOf
      rw [ha]
      rfl
    · rw [if_neg hk, if_neg hk]
theorem closF_sub {env : Env} (R : Str → Addr → Prop) : ∀ (l : List (Str × NameKind)) (acc : List (Str × Addr)), (∀ x c, acc.lookup x = some c → R x c) → (∀ y ∈ l, y.2 = .free → R y.1 ((env.cells.lookup y.1).getD 0)) →
    ∀ x c, (l.foldl (closF env) acc).lookup x = some c → R x c
  | [], acc, h, _ => h
  | y :: r, acc, h, hy => by
    refine closF_sub R r (closF env acc y) (fun x c e => ?_) fun z hz => hy z (List.mem_cons_of_mem _ hz)
    unfold closF at e
    split at e
    · rename_i hk
      rw [List.lookup_cons] at e
      cases hx : (x == y.1) with
      | true =>
        rw [hx] at e
        have ex : x = y.1 := by simpa using hx
        cases e
        rw [ex]
        exact hy y List.mem_cons_self (by simpa using hk)
      | false =>
        rw [hx] at e
        exact h x c e
    · exact h x c e
theorem closF_has {env : Env} : ∀ (l : List (Str × NameKind)) (acc : List (Str × Addr)) (x : Str), ((∃ c, acc.lookup x = some c) ∨ (x, NameKind.free) ∈ l) → ∃ c, (l.foldl (closF env) acc).lookup x = some c
  | [], acc, x, h => by
    rcases h with h | h
    · exact h
    · cases h
  | y :: r, acc, x, h => by
    refine closF_has r (closF env acc y) x ?_
    rcases h with ⟨c, h⟩ | h
    · left
      unfold closF
      split
      · rw [List.lookup_cons]
        cases hx : (x == y.1) with
        | true => exact ⟨_, rfl⟩
        | false => exact ⟨c, h⟩
      · exact ⟨c, h⟩
    · rcases List.mem_cons.mp h with e | e
      · left
        unfold closF
        subst e
        rw [if_pos (by rfl), List.lookup_cons, show (x == x) = true by simp]
        exact ⟨_, rfl⟩
      · exact .inr e

/-! ### the block's context -/
def cxComp (X : Cx) (N' : List Str) (scope : Scope) (C : Addr) (s₂ : Shared) (H₂ : Hp) (fp : List Addr) : Cx :=
  { X with N := N', s₀ := s₂, H₀ := H₂, env := compEnvC scope (closOf scope X.env) C X.env, outer := X.stack, stack := X.stack, ex := fp, fn := fun _ => false, pn := [], xe := fun _ _ => False }
def capSt (cap : List (Option Nat)) (σ : L2.St) : L2.St := cap.map fun o => o.bind fun j => (σ[j]?).bind id
/-- what the text must say of a block; sc: the scope around it, N: the names around it -/
structure CompOk (sc : Scope) (N N' : List Str) (scope : Scope) (cap : List (Option Nat)) : Prop where
  kind : scope.kind = .function
  nocell : ∀ y ∈ scope.names, y.2 ≠ .cell
  nm : ∀ y ∈ scope.names, y.2 = .local → scope.names.lookup y.1 = some .local
  free : ∀ y ∈ scope.names, y.2 = .free → sc.names.lookup y.1 = some .cell ∨ sc.names.lookup y.1 = some .free
  len : cap.length = N'.length
  cap : ∀ i ∈ List.range cap.length, ∀ j ∈ List.range N.length, cap[i]? = some (some j) → N[j]? = N'[i]? ∧ ∀ x ∈ N'[i]?, scope.names.lookup x = some .free
theorem mem_of_look {α : Type} {l : List (Str × α)} {x : Str} {k : α} (h : l.lookup x = some k) : (x, k) ∈ l := PySem.mem_of_lookup h
theorem relabel_kind {scope : Scope} {env : Env} {x : Str} {k : NameKind} (hk : (relabel scope env).names.lookup x = some k) (hk2 : k = .cell ∨ k = .free) (hnc : ∀ y ∈ scope.names, y.2 ≠ .cell) : (x, NameKind.free) ∈ scope.names := by
  have h := mem_of_look hk
  obtain ⟨⟨n, q⟩, hm, e⟩ := List.mem_map.mp h
  dsimp only at e
  split at e
  · rename_i hc
    cases e
    have : q = .free := by
      have := (Bool.and_eq_true_iff.mp (Bool.and_eq_true_iff.mp hc).1).1
      simpa using this
    subst this
    exact hm
  · cases e
    rcases hk2 with z | z
    · subst z; exact absurd rfl (hnc _ hm)
    · subst z; exact hm
section
variable {X : Cx} {pins : List (Addr × Obj)} {σ : L2.St} {H : Hp} {s : Shared} {scope : Scope} {N' : List Str} {cap : List (Option Nat)} {fp : List Addr} {C : Addr}
theorem clos_sub (I : Inv X pins σ H s) (O : CompOk X.env.scope X.N N' scope cap) {x : Str} {c : Addr} (h : (closOf scope X.env).lookup x = some c) : X.env.cells.lookup x = some c := by
  refine closF_sub (fun x c => X.env.cells.lookup x = some c) scope.names [] (fun x c e => by simp at e) (fun y hy hk => ?_) x c h
  obtain ⟨c, e⟩ := I.ok.has y.1 (O.free y hy hk)
  rw [e]
  rfl
theorem comp_ok (I : Inv X pins σ H s) (O : CompOk X.env.scope X.N N' scope cap) (hf : ∀ b ∈ fp, FpOk X pins H b) (hlt : ∀ b ∈ fp, b < s.heap.objs.size) (hC : s.heap.objs.size ≤ C) : (cxComp X N' scope C s H fp).Ok where
  mod := I.ok.mod
  kind := O.kind
  glob := I.ok.glob
  blt := I.ok.blt
  above := hC
  inj := fun x y c h1 h2 => I.ok.inj x y c (clos_sub I O h1) (clos_sub I O h2)
  has := fun x h => by
    refine closF_has scope.names [] x (.inr ?_)
    rcases h with h | h
    · exact relabel_kind h (.inl rfl) O.nocell
    · exact relabel_kind h (.inr rfl) O.nocell
  cab := fun x c h _ => by cases h
  hd := I.ok.hd
  frames := I.ok.frames
  stk := .inl rfl
  exf := fun b hb => ⟨Nat.ne_of_lt (Nat.lt_of_lt_of_le (hlt b hb) hC), fun x c e => (hf b hb).2.2.2.2.1 x c (clos_sub I O e)⟩
  bs := I.bs
  bsz := Nat.le_trans I.ok.bsz I.sz
  noex := fun b o e hb => by
    rcases (hf b hb).2.2.2.1 with z | z
    · exact I.ok.noex b o e z
    · exact absurd (Nat.lt_of_lt_of_le (Heap.lt_size (I.ok.bs b o e).1) z) (Nat.lt_irrefl _)
  exfs := fun b hb z => by
    rcases List.mem_cons.mp (I.stkSub b z) with q | q
    · exact (hf b hb).2.1 q
    · exact (hf b hb).2.2.1 q
  funs := I.stack
  frf := I.stkFree

/-- the block's first state: its frame at C, its list at D -/
theorem comp_inv {h₁ : Heap} {tk : Nat} {D : Addr} {o : Obj} (I : Inv X pins σ H s) (O : CompOk X.env.scope X.N N' scope cap) (hf : ∀ b ∈ fp, FpOk X pins H b) (hlt : ∀ b ∈ fp, b < s.heap.objs.size)
    (hC : s.heap.objs.size ≤ C) (hD : s.heap.objs.size ≤ D) (hDC : D ≠ C) (old : ∀ b u, s.heap.get? b = some u → h₁.get? b = some u) {m : Str → Option Value} (hns : h₁.Ns C m) (hDo : h₁.get? D = some o) (hoc : ∀ v, o.data ≠ .cell v) :
    Inv (cxComp X N' scope C s H fp) [(D, o)] (capSt cap σ) H { s with heap := h₁, toks := tk } where
  ok := comp_ok I O hf hlt hC
  os := rfl
  bare := I.bare
  base := Un.kept old
  loc := by
    refine ⟨m, hns, fun i x v e1 e2 e3 => ?_⟩
    have e1 : N'[i]? = some x := e1
    unfold capSt at e2
    rw [List.getElem?_map] at e2
    cases hc : cap[i]? with
    | none => rw [hc] at e2; cases e2
    | some q =>
      rw [hc] at e2
      cases q with
      | none => cases e2
      | some j =>
        have e2 : (σ[j]?).bind id = some v := Option.some.inj e2
        have e2' : σ[j]? = some (some v) := by
          cases z : σ[j]? with
          | none => rw [z] at e2; cases e2
          | some y =>
            rw [z] at e2
            have : y = some v := e2
            rw [this]
        have hi : i < cap.length := (List.getElem?_eq_some_iff.mp hc).1
        have hj : j < X.N.length := by
          have := (List.getElem?_eq_some_iff.mp e2').1
          rw [I.len] at this
          exact this
        obtain ⟨c1, c2⟩ := O.cap i (List.mem_range.mpr hi) j (List.mem_range.mpr hj) hc
        have hfr : scope.names.lookup x = some .free := c2 x (by rw [e1]; rfl)
        have hN : X.N[j]? = some x := c1.trans e1
        have hfm := mem_of_look hfr
        have hvis : Vis X.env.scope x := (O.free _ hfm rfl).elim (fun z => .inr (.inl z)) fun z => .inr (.inr z)
        obtain ⟨m0, _, hl⟩ := I.loc
        obtain ⟨u, r, lk⟩ := hl j x v hN e2' hvis
        refine ⟨u, r, ?_⟩
        rcases lk with ⟨k, _⟩ | ⟨_, c, ec, hcell⟩
        · have k : X.env.scope.names.lookup x = some .local := k
          rcases O.free _ hfm rfl with z | z
          · rw [k] at z; cases z
          · rw [k] at z; cases z
        · right
          obtain ⟨c', ec'⟩ := closF_has (env := X.env) scope.names [] x (.inr hfm)
          have e3' := clos_sub I O ec'
          rw [ec] at e3'
          cases e3'
          refine ⟨?_, c, ec', ?_⟩
          · have e3 : Vis (relabel scope X.env) x := e3
            rcases e3 with e3 | e3 | e3
            · exfalso
              have hm := mem_of_look e3
              obtain ⟨⟨n, q⟩, hm', e⟩ := List.mem_map.mp hm
              dsimp only at e
              split at e
              · cases e
              · cases e
                have := O.nm _ hm' rfl
                rw [hfr] at this
                cases this
            · exact .inl e3
            · exact .inr e3
          · obtain ⟨oc, h1, h2⟩ := hcell
            exact ⟨oc, old _ _ h1, h2⟩
  cell := fun x c e => by
    obtain ⟨v, oc, h1, h2⟩ := I.cell x c (clos_sub I O e)
    exact ⟨v, oc, old _ _ h1, h2⟩
  free := I.hok.fresh hC
  freeC := fun x c e => I.freeC x c (clos_sub I O e)
  pin := fun p hp => by
    have e : p = (D, o) := by simpa [cxComp] using hp
    subst e
    refine ⟨hDo, I.hok.fresh hD, hDC, fun z => ?_, hoc⟩
    obtain ⟨b, hb, e⟩ := List.mem_filterMap.mp z
    have hz : D ∈ X.env.locals :: X.fs := I.stkSub D z
    rcases List.mem_cons.mp hz with q | q
    · exact absurd (Nat.lt_of_lt_of_le (by rw [q]; exact I.lt) hD) (Nat.lt_irrefl _)
    · exact I.nofs hD q
  hok := I.hok.kept old
  len := by
    unfold capSt
    rw [List.length_map]
    exact O.len
end

/-! ### the loop of a block -/
abbrev NoX : Value → Shared → Prop := fun _ _ => False
theorem anyx {α : Type} {M : Model} {A : Around} {t : Sem α} {Q : α → Shared → Prop} {E : Value → Shared → Prop} {s : Shared} (h : wpAny M A t Q NoX s) : wpAny M A t Q E s := wpAny_mono h (fun _ _ x => x) fun _ _ x => x.elim
section
variable {prog : Program} {w : World} {A : Around} {R : Result → Shared → Prop} {s : Shared}
theorem compLoop_any {elt target iter : Expr} {ifs : List Expr} {scope : Scope} {pos : Pos} {it acc : Value} {env : Env} (I : Nat → Shared → Prop)
    (turn : ∀ n s, I n s → wpAny (model prog w) A (pyNext it) (fun r s₁ => match r with
      | none => R (.ok .next) s₁
      | some v => wpAny (model prog w) A (letOwnedTupleGo target it v) (fun _ s₁' => wpAny (model prog w) A (assign target env v) (fun _ s₂ =>
          wpAny (model prog w) A (forIn ifs true fun c r => if r = true then do let ok ← isTrue c env (eval c env); pure (ForInStep.yield ok) else pure (ForInStep.yield r)) (fun ok s₃ =>
            if ok = true then wpAny (model prog w) A (eval elt env) (fun x s₄ => wpAny (model prog w) A (call (.builtin "list.append") [acc, x]) (fun _ s₅ => ∃ m, m < n ∧ I m s₅) NoX s₄) NoX s₃
            else ∃ m, m < n ∧ I m s₃) NoX s₂) NoX s₁') NoX s₁) NoX s)
    (n : Nat) (h : I n s) : codeAny (model prog w) A (.compLoop (.ListComp elt [⟨target, iter, ifs, 0⟩] scope pos) 0 it acc env) R s := by
  refine codeAny_loop rfl I (fun n s hI => ?_) n h
  show wpAny _ A ((compTurn (.ListComp elt [⟨target, iter, ifs, 0⟩] scope pos) 0 it acc env).onRaise (fun x => do noteFrame x env; theTreesLotGoes x)) _ _ s
  refine wpAny_noted ?_
  rw [compTurn_list]
  refine wpAny_bind (wpAny_standAt (wpAny_bind (wpAny_mono (turn n s hI) (fun r s₁ h₁ => ?_) fun _ _ h' => h'.elim)))
  cases r with
  | none => exact wpAny_pure h₁
  | some v =>
    refine wpAny_bind (wpAny_mono h₁ (fun _ s₁' h₁' => ?_) fun _ _ h' => h'.elim)
    refine wpAny_bind (wpAny_mono h₁' (fun _ s₂ h₂ => wpAny_bind (wpAny_mono h₂ (fun ok s₃ h₃ => ?_) fun _ _ h' => h'.elim)) fun _ _ h' => h'.elim)
    cases ok with
    | false => exact wpAny_pure ⟨rfl, h₃⟩
    | true =>
      exact wpAny_bind (wpAny_bind (wpAny_mono h₃ (fun x s₄ h₄ => wpAny_bind (wpAny_mono h₄ (fun _ s₅ h₅ => wpAny_pure (wpAny_pure ⟨rfl, h₅⟩)) fun _ _ h' => h'.elim)) fun _ _ h' => h'.elim))
end

/-! ### [elt for target in iter], with one test or none -/
/-- the tests -/
def PTs (X : Cx) (ifs : List Expr) (t : TT) : Prop :=
  ∀ (pins : List (Addr × Obj)) (s : Shared) (σ : L2.St) (H : Hp) (Q : Bool → Hp → Prop), Inv X pins σ H s → t σ H Q →
    wpAny (model X.prog X.w) X.A (forIn ifs true fun c r => if r = true then do let ok ← isTrue c X.env (eval c X.env); pure (ForInStep.yield ok) else pure (ForInStep.yield r)) (TP X pins σ Q) X.xe s
def tTrue : TT := fun _ H Q => Q true H
theorem pts_nil {X : Cx} : PTs X [] tTrue := fun _ _ _ H _ I h => wpAny_tests_nil ⟨H, I, h⟩
theorem pts_one {X : Cx} {c : Expr} {t : TT} (h : PT X c t) : PTs X [c] t := fun pins s σ H Q I q => wpAny_tests_one (h pins s σ H Q I q)
/-- what was known of the names is still known -/
def Kp (σ τ : L2.St) : Prop := ∀ (i : Nat) v, σ[i]? = some (some v) → τ[i]? = some (some v)
theorem Kp.nil : Kp [] [] := fun i v h => h
theorem Kp.none {σ τ : L2.St} {a : Option V} (h : Kp σ τ) : Kp (Option.none :: σ) (a :: τ) := fun i v e => by
  cases i with
  | zero => cases e
  | succ i => exact h i v e
theorem Kp.cons {σ τ : L2.St} {a : Option V} (h : Kp σ τ) : Kp (a :: σ) (a :: τ) := fun i v e => by
  cases i with
  | zero => exact e
  | succ i => exact h i v e
theorem Kp.refl {σ : L2.St} : Kp σ σ := fun _ _ h => h
/-- what the walk through J must keep, to hand on the list -/
def CompW (J : It) (H : Hp) (g : TG) (tt : TT) (te : TE) (σ : L2.St) (Q : List V → Hp → Prop) : Prop :=
  ∃ W : Nat → Nat → List V → Hp → Prop, (∃ m, W 0 m [] H) ∧ ∀ i m ys H, W i m ys H →
    (J.stop i H ∧ Q ys H) ∨ (J.go i H ∧ ys.length < sizeLine ∧ ∃ N : List V → Hp → Prop, (∀ ys' H', N ys' H' → ∃ m', m' < m ∧ W (i + 1) m' ys' H') ∧
      ∀ x H', J.yld i H x H' → g x σ H' fun σ2 H2 => Kp σ σ2 ∧ tt σ2 H2 fun b H3 => if b = true then te σ2 H3 fun v H4 => N (ys ++ [v]) H4 else N ys H3)
def tComp (cap : List (Option Nat)) (wi : TI) (g : TG) (tt : TT) (te : TE) : TE := fun σ H Q => wi σ H fun J H1 =>
  CompW J H1 g tt te (capSt cap σ) fun ys H2 => ys.length ≤ sizeLine ∧ ∀ D, H2 D = none → Q (.ref D) (upd H2 D (.lst ys))
section
variable {X : Cx} {elt target iter : Expr} {ifs : List Expr} {scope : Scope} {pos : Pos} {N' : List Str} {cap : List (Option Nat)} {wi : TI} {g : TG} {tt : TT} {te : TE}
def lobj (its : List Value) (n : Nat) : Obj := { cls := .type "list", data := .seq its.toArray n }
theorem comp_block {pins : List (Addr × Obj)} {σ : L2.St} {H : Hp} {s₂ : Shared} {it : Addr} {fp : List Addr} {tn : Nat → Heap → Prop} {J : It} {Q : List V → Hp → Prop} {RR : Value → Addr → Result → Shared → Prop} {E : Value → Shared → Prop}
    (hc : X.calm = true) (O : CompOk X.env.scope X.N N' scope cap) (I : Inv X pins σ H s₂) (T : Turn X.prog X.w X.K target J fp it tn) (st : tn 0 s₂.heap) (f2 : ∀ b ∈ fp, FpOk X pins H b)
    (hg : ∀ C, PG (cxComp X N' scope C s₂ H fp) target g) (ht : ∀ C, PTs (cxComp X N' scope C s₂ H fp) ifs tt) (he : ∀ C, PE (cxComp X N' scope C s₂ H fp) elt te) (cw : CompW J H g tt te (capSt cap σ) Q)
    (hRR : ∀ (D C : Addr) (s' : Shared) (H' : Hp) (ys : List V) (its : List Value) (n : Nat) (σ' : L2.St), s₂.heap.objs.size ≤ D → s₂.heap.objs.size ≤ C → D ≠ C → Inv (cxComp X N' scope C s₂ H fp) [(D, lobj its n)] σ' H' s' → Vals ys its → Q ys H' →
      RR (.ref D) C (.ok .next) s') :
    wpAny (model X.prog X.w) X.A (newList []) (fun acc s₃ => wpAny (model X.prog X.w) X.A (newFunctionEnv scope X.env.globals (closOf scope X.env) [] X.env.qual none .none (some X.env)) (fun cenv s₄ =>
      codeAny (model X.prog X.w) X.A (.compStart (.ListComp elt [⟨target, iter, ifs, 0⟩] scope pos) 0 (.ref it) acc { cenv with scope := relabel scope X.env }) (RR acc cenv.locals) s₄) E s₃) E s₂ := by
  refine wpAny_newObj_type (wpAny_newFunctionEnv O.nocell (by intro y hy; simp at hy) (fun h₁ hns₁ hsb₁ => ?_) O.kind)
  dsimp only at hns₁ hsb₁ ⊢
  generalize hH2 : s₂.heap.push { cls := .type "list", dict := none, data := .seq ([] : List Value).toArray } = H2 at hns₁ hsb₁ ⊢
  have hC : H2.objs.size = s₂.heap.objs.size + 1 := by rw [← hH2, Heap.size_push]
  have hDC : s₂.heap.objs.size ≠ H2.objs.size := by rw [hC]; exact Nat.ne_of_lt (Nat.lt_succ_self _)
  have hCle : s₂.heap.objs.size ≤ H2.objs.size := by rw [hC]; exact Nat.le_succ _
  have old : ∀ b o, s₂.heap.get? b = some o → h₁.get? b = some o := fun b o e => hsb₁.extBut b o (by rw [hC]; exact Nat.ne_of_lt (Nat.lt_succ_of_lt (Heap.lt_size e))) (Heap.get?_push_of_some _ (hH2 ▸ Heap.get?_push_of_some _ e))
  have hacc : h₁.get? s₂.heap.objs.size = some (lobj [] 0) := hsb₁.extBut _ _ hDC (Heap.get?_push_of_some _ (hH2 ▸ Heap.get?_push_size _ rfl))
  have hlt : ∀ b ∈ fp, b < s₂.heap.objs.size := fun b hb => by
    obtain ⟨o, e, _⟩ := T.obj 0 _ st b hb
    exact Heap.lt_size e
  have I1 := comp_inv (tk := s₂.toks + ([] : List (Str × Value)).length) I O f2 hlt hCle (Nat.le_refl _) hDC old hns₁ hacc (fun v z => by cases z)
  have st1 : tn 0 h₁ := T.keep _ _ _ st fun b _ o e => old b o e
  obtain ⟨W, ⟨m0, w0⟩, turn⟩ := cw
  generalize hD : s₂.heap.objs.size = D at *
  generalize hCC : H2.objs.size = C at *
  have stat : ∀ {H' : Hp} {o : Obj}, (∀ b ∈ fp, H' b = none) → ∀ b ∈ fp, FpOk (cxComp X N' scope C s₂ H fp) [(D, o)] H' b := fun {H' o} hn b hb => by
    refine ⟨hn b hb, Nat.ne_of_lt (Nat.lt_of_lt_of_le (hlt b hb) hCle), I1.ok.exfs b hb, .inl hb, (I1.ok.exf b hb).2, fun p hp => ?_⟩
    have e : p = (D, o) := by simpa [cxComp] using hp
    subst e
    exact Nat.ne_of_gt (hlt b hb)
  have loop : codeAny (model X.prog X.w) X.A (.compLoop (.ListComp elt [⟨target, iter, ifs, 0⟩] scope pos) 0 (.ref it) (.ref D) (compEnvC scope (closOf scope X.env) C X.env)) (RR (.ref D) C) { s₂ with heap := h₁, toks := s₂.toks + ([] : List (Str × Value)).length } := by
    refine compLoop_any (fun n s' => ∃ i ys its k H', Inv (cxComp X N' scope C s₂ H fp) [(D, lobj its k)] (capSt cap σ) H' s' ∧ Vals ys its ∧ tn i s'.heap ∧ (∀ b ∈ fp, H' b = none) ∧ W i n ys H') ?_ m0 ⟨0, [], [], 0, H, I1, .nil, st1, fun b hb => (f2 b hb).1, w0⟩
    rintro n s3 ⟨i, ys, its, k, H3, I3, rv, st3, fr3, w3⟩
    rcases turn i n ys H3 w3 with ⟨stop, qn⟩ | ⟨go, hsz, N, hN, step⟩
    · refine thn (T.done (cxComp X N' scope C s₂ H fp) rfl rfl rfl hc i _ s3 _ H3 NoX I3 (stat fr3) st3 stop) fun r s4 ⟨hr, I4⟩ => ?_
      subst hr
      exact hRR D C s4 H3 ys its k _ (Nat.le_refl _) hCle hDC I4 rv qn
    · refine thn (T.item (cxComp X N' scope C s₂ H fp) rfl rfl rfl hc i _ s3 _ H3 NoX I3 (stat fr3) st3 go) fun r s4 ⟨u, hr, h4⟩ => ?_
      subst hr
      refine thn h4 fun _ s5 ⟨x, H5, I5, r5, y5, st5, fr5⟩ => ?_
      have I5' := I5.pinned (stat fr5) (T.obj _ _ st5)
      refine thn (hg C _ s5 _ H5 x u _ I5' r5 (step x H5 y5)) fun _ s6 ⟨σ6, H6, I6, kp6, q6⟩ => ?_
      refine thn (ht C _ s6 σ6 H6 _ I6 q6) fun ok s7 ⟨H7, I7, q7⟩ => ?_
      have keepT : ∀ {s' : Shared} {H' : Hp} {σ' : L2.St}, Inv (cxComp X N' scope C s₂ H fp) ([(D, lobj its k)] ++ pinsAt fp s5.heap) σ' H' s' → tn (i + 1) s'.heap ∧ ∀ b ∈ fp, H' b = none := fun {s' H' σ'} Ix => by
        refine ⟨T.keep _ _ _ st5 fun b hb o e => (Ix.pin (b, o) (List.mem_append_right _ (List.mem_append_right _ (mem_pinsAt hb e)))).1, fun b hb => ?_⟩
        obtain ⟨o, e, d⟩ := T.obj _ _ st5 b hb
        exact (Ix.pin (b, o) (List.mem_append_right _ (List.mem_append_right _ (mem_pinsAt hb e)))).2.1
      have ln6 : (capSt cap σ).length = σ6.length := by rw [I6.len, I1.len]
      cases ok with
      | false =>
        have n7 : N ys H7 := by simpa using q7
        obtain ⟨m', hm, w7⟩ := hN _ _ n7
        exact ⟨m', hm, i + 1, ys, its, k, H7, I7.unpinned.weak ln6 kp6, rv, (keepT I7).1, (keepT I7).2, w7⟩
      | true =>
        have q7 : te σ6 H7 fun v H4 => N (ys ++ [v]) H4 := by simpa using q7
        refine thn (he C _ s7 σ6 H7 _ I7 q7) fun u8 s8 ⟨v, H8, I8, r8, n8⟩ => ?_
        obtain ⟨eD, nD, _, nfD, _⟩ := I8.pin (D, lobj its k) (List.mem_append_right _ (List.mem_append_left _ List.mem_cons_self))
        have lv := rv.length
        refine call_meets F.slot_list_append ⟨_, eD, rfl⟩ F.entry_list_append (F.args_list_append_2 _ _) (PySem.list_append D its.toArray k u8 (by rw [List.size_toArray]; omega)) ⟨eD, ?_⟩
        obtain ⟨m', hm, w8⟩ := hN _ _ n8
        obtain ⟨k', eN⟩ : ∃ k', (s8.heap.update D (Obj.mapSeq (·.push u8))).get? D = some (lobj (its ++ [u8]) k') := by
          have q := PySem.IsL.update eD (·.push u8)
          dsimp only at q
          rw [List.push_toArray] at q
          exact ⟨_, q⟩
        have I9 : Inv (cxComp X N' scope C s₂ H fp) (pinsAt fp s5.heap) σ6 H8 { s8 with heap := s8.heap.update D (Obj.mapSeq (·.push u8)) } := by
          refine Inv.turned (it := D) (t' := s8.toks) (I8.pins_of fun p hp => I8.pin p (List.mem_append_right _ (List.mem_append_right _ hp))) (fun b o hb e => (Heap.get?_update_other s8.heap (Obj.mapSeq _) (Ne.symm hb)).trans e) nD hDC (.inr (by rw [← hD]; exact Nat.le_refl _)) (fun x c e z => ?_) (fun p hp z => ?_)
          · obtain ⟨vc, oc, h1, _⟩ := I.cell x c (clos_sub I O e)
            have hh := Heap.lt_size h1
            rw [z, hD] at hh
            exact Nat.lt_irrefl _ hh
          · have hp : p ∈ pinsAt fp s5.heap := hp
            have hh := hlt p.1 (of_pinsAt hp).1
            rw [z] at hh
            exact Nat.lt_irrefl _ hh
        refine ⟨m', hm, i + 1, ys ++ [v], its ++ [u8], k', H8, (I9.weak ln6 kp6).pins_of (fun p hp => ?_), rv.append (.cons r8 .nil), ?_, fun b hb => ?_, w8⟩
        · have e : p = (D, lobj (its ++ [u8]) k') := List.mem_singleton.mp hp
          rw [e]
          exact ⟨eN, nD, hDC, nfD, fun v z => by cases z⟩
        · exact T.keep _ _ _ st5 fun b hb o e => (I9.pin (b, o) (List.mem_append_right _ (mem_pinsAt hb e))).1
        · obtain ⟨o, e, d⟩ := T.obj _ _ st5 b hb
          exact (I9.pin (b, o) (List.mem_append_right _ (mem_pinsAt hb e))).2.1
  exact codeAny_compStart_list loop (T.self _ 0 _ _ _ st1 loop)

theorem pe_comp (hx : X.xe = NoX) (hc : X.calm = true) (O : CompOk X.env.scope X.N N' scope cap) (hi : PI X target iter wi)
    (hg : ∀ C s₂ H fp, PG (cxComp X N' scope C s₂ H fp) target g) (ht : ∀ C s₂ H fp, PTs (cxComp X N' scope C s₂ H fp) ifs tt) (he : ∀ C s₂ H fp, PE (cxComp X N' scope C s₂ H fp) elt te)
    (hs : ∀ x, foldedSetIterable iter X.env x = pure x := by intro _; rfl) : PE X (.ListComp elt [⟨target, iter, ifs, 0⟩] scope pos) (tComp cap wi g tt te) := by
  intro pins s σ H Q I h
  rw [eval_ListComp]
  refine wpAny_comprehension_free (use := none) rfl hs (closureFor_of fun y hy hk => I.ok.has y.1 (O.free y hy hk)) O.kind O.nm (thn (hi pins s σ H _ I h) fun v s1 h1 => thn h1 fun itv s2 h2 => ?_)
  obtain ⟨it, fp, tn, J, H2, e, I2, T, st2, f2, cw⟩ := h2
  subst e
  refine comp_block (RR := fun acc C => compPost (model X.prog X.w) X.A X.xe none (EP X pins σ Q) acc C) hc O I2 T st2 f2 (fun C => hg C _ _ _) (fun C => ht C _ _ _) (fun C => he C _ _ _) cw ?_
  intro D C s' H' ys its n σ' hD hC hDC I' rv q
  obtain ⟨hz, q⟩ := q
  obtain ⟨m, hns, _⟩ := I'.loc
  refine ⟨m, hns, fun h' sb => ?_⟩
  obtain ⟨eD, nD, _, nfD, _⟩ := I'.pin (D, lobj its n) (List.mem_append_right _ List.mem_cons_self)
  have I'' : Inv X pins σ (upd H' D (.lst ys)) { s' with heap := h' } := by
    refine I2.call' (ch := fp) I'.os ?_ ?_ I'.bare (fun b hb => ⟨(f2 b hb).2.2.2.1, (f2 b hb).2.1, (f2 b hb).2.2.2.2.1, (f2 b hb).2.2.2.2.2⟩)
    · have ne : ∀ b o, s2.heap.get? b = some o → b ≠ C ∧ b ≠ D := fun b o e => ⟨Nat.ne_of_lt (Nat.lt_of_lt_of_le (Heap.lt_size e) hC), Nat.ne_of_lt (Nat.lt_of_lt_of_le (Heap.lt_size e) hD)⟩
      refine ⟨fun b o e n hb he => sb.extBut b o (ne b o e).1 (I'.base.keep b o e n hb he), fun b o e n hb he => ?_, fun b o e n he => ?_, fun b o e he => ?_, fun b xs e => ?_, fun b o u e => ?_, fun b ps e => ?_⟩
      · obtain ⟨sl, e1⟩ := I'.base.slot b o e n hb he
        exact ⟨sl, sb.extBut b _ (ne b o e).1 e1⟩
      · rw [upd_ne (ne b o e).2]
        exact I'.base.free b o e n he
      · obtain ⟨o', e1⟩ := I'.base.there b o e he
        exact ⟨o', sb.extBut b _ (ne b o e).1 e1⟩
      · have e1 := I'.base.tups b xs e
        rw [upd_ne (ne_of_none e1 nD)]
        exact e1
      · have e1 := I'.base.frzs b o u e
        rw [upd_ne (ne_of_none e1 nD)]
        exact e1
      · obtain ⟨more, e1⟩ := I'.base.tbls b ps e
        refine ⟨more, ?_⟩
        rw [upd_ne (ne_of_none e1 nD)]
        exact e1
    · intro b u e
      by_cases hb : b = D
      · subst hb
        rw [upd_same] at e
        cases e
        exact ⟨hz, its, n, rv, sb.extBut _ _ hDC eD⟩
      · rw [upd_ne hb] at e
        have nC : ∀ b u, H' b = some u → b ≠ C := fun b u e z => by
          have hf : H' C = none := I'.free
          rw [z, hf] at e
          cases e
        refine (I'.hok b u e).stay (fun c v hc q => sb.extBut c v ?_ q) (fun c q => by rw [upd_ne (ne_of_none q nD)]; exact q) fun c xs q => by rw [upd_ne (ne_of_none q nD)]; exact q
        rcases hc with z | z
        · rw [z]
          exact nC b u e
        · exact nC c _ z
  exact ⟨.ref D, _, I'', rfl, q D nD⟩
end
end Jb

set_option Elab.async false
set_option linter.all false
set_option maxRecDepth 100000
set_option maxHeartbeats 4000000
namespace Jb
open PySem PySem.Spec PyProof.Rows L2
section
variable {X : Cx} {pins : List (Addr × Obj)} {σ : L2.St} {H : Hp} {s : Shared}
/-! ### isinstance(x, (S, T, ..)), the classes built in -/
theorem kit_of {x : V} {u t : Value} (I : Inv X pins σ H s) (rx : RelV x u) (ty : TyOf X.K H x t) : ∃ Hq, PySem.W.KitX X.K u t Hq ∧ Hq s.heap ∧ u ≠ .builtin "__main__.__loader__#opaque" := by
  cases ty with
  | non => cases (show u = Value.none from rx); exact ⟨_, PySem.W.kitx_none, True.intro, fun z => nomatch z⟩
  | bl y => cases (show u = Value.bool y from rx); exact ⟨_, PySem.W.kitx_bool, True.intro, fun z => nomatch z⟩
  | int i => obtain ⟨t, q⟩ := (show ∃ t, u = Value.int i t from rx); cases q; exact ⟨_, PySem.W.kitx_int, True.intro, fun z => nomatch z⟩
  | str y => obtain ⟨t, q⟩ := (show ∃ t, u = Value.str y t from rx); cases q; exact ⟨_, PySem.W.kitx_str, True.intro, fun z => nomatch z⟩
  | flt y => obtain ⟨t, q⟩ := (show ∃ t, u = Value.float y t from rx); cases q; exact ⟨_, PySem.W.kitx_float, True.intro, fun z => nomatch z⟩
  | @lst a xs ea =>
    cases (show u = Value.ref a from rx)
    obtain ⟨_, _, n, _, h1⟩ := (show ObjOk X.prog X.w H s.heap a (.lst xs) from I.hok a _ ea)
    exact ⟨_, PySem.W.kitx_list, ⟨_, h1, rfl⟩, fun z => nomatch z⟩
  | @frz a ob xs ea =>
    cases (show u = Value.ref a from rx)
    obtain ⟨_, _, _, n, _, h1⟩ := (show ObjOk X.prog X.w H s.heap a (.frz ob (.lst xs)) from I.hok a _ ea)
    exact ⟨_, PySem.W.kitx_list, ⟨_, h1, rfl⟩, fun z => nomatch z⟩
  | @tup a xs ea =>
    cases (show u = Value.ref a from rx)
    obtain ⟨_, _, _, p⟩ := (show ObjOk X.prog X.w H s.heap a (.tup xs) from I.hok a _ ea)
    obtain ⟨o, h1, h2, _⟩ := p
    exact ⟨_, PySem.W.kitx_tuple, ⟨o, h1, h2⟩, fun z => nomatch z⟩
  | @dK a kvs ea =>
    cases (show u = Value.ref a from rx)
    obtain ⟨_, _, vs, _, p⟩ := (show ObjOk X.prog X.w H s.heap a (.dK kvs) from I.hok a _ ea)
    obtain ⟨o, es, ep, h1, h2, _⟩ := p
    exact ⟨_, PySem.W.kitx_dict, ⟨o, h1, h2.1⟩, fun z => nomatch z⟩
  | @dT a kvs ea =>
    cases (show u = Value.ref a from rx)
    obtain ⟨_, _, xs, _, o, es, ep, h1, h2, _⟩ := (show ObjOk X.prog X.w H s.heap a (.dT kvs) from I.hok a _ ea)
    exact ⟨_, PySem.W.kitx_dict, ⟨o, h1, h2.1⟩, fun z => nomatch z⟩
  | @ins a C dx fs ea cl ha hn htk hm =>
    cases (show u = Value.ref a from rx)
    obtain ⟨mA, O, _⟩ := ins_get I.hok ea
    obtain ⟨od, J, _⟩ := O.look
    exact ⟨_, PySem.W.kitx_own (cl.get _) cl.hd ha hn htk hm, J, fun z => nomatch z⟩
theorem vals_ty : ∀ {tys : List String} {us : List Value}, Vals (tys.map V.ty) us → us = tys.map Value.type
  | [], _, .nil => rfl
  | t :: r, _, .cons h q => by cases (show _ = Value.type t from h); rw [vals_ty q]; rfl
theorem call_isinstT : CallR X (.builtin "isinstance") (fun xs H Q => ∃ x tp tys t b, xs = [x, .ref tp] ∧ H tp = some (.tup (List.map V.ty tys)) ∧ TyOf X.K H x t ∧ PySem.W.kitAny X.K t (tys.map Value.type) = some b ∧ Q (.bl b) H) := by
  intro pins s σ H xs us Q I r h
  obtain ⟨x, tp, tys, t, b, rfl, htp, ty, e, q⟩ := h
  obtain ⟨u, w', rfl, r1, r2⟩ := vals2 r
  cases r2
  obtain ⟨Hq, Z, hz, hn⟩ := kit_of I r1 ty
  obtain ⟨_, its, rv, o, h1, h2, n, h3⟩ := (show ObjOk X.prog X.w H s.heap tp (.tup (tys.map V.ty)) from I.hok tp _ htp)
  rw [vals_ty rv] at h3
  obtain ⟨cls, dd, data, sl⟩ := o
  cases h2
  cases h3
  exact PySem.W.kia_tup Z I.kIn hz h1 e hn fun tk => ⟨.bl b, H, I.tok tk, rfl, q⟩
theorem kitLT_int {K : PySem.W.Frag} : PySem.W.kitAny K (.type "int") [.type "list", .type "tuple"] = some false := by with_unfolding_all rfl
theorem kitLT_str {K : PySem.W.Frag} : PySem.W.kitAny K (.type "str") [.type "list", .type "tuple"] = some false := by with_unfolding_all rfl
theorem kitLT_none {K : PySem.W.Frag} : PySem.W.kitAny K (.type "NoneType") [.type "list", .type "tuple"] = some false := by with_unfolding_all rfl
theorem kitLT_list {K : PySem.W.Frag} : PySem.W.kitAny K (.type "list") [.type "list", .type "tuple"] = some true := by with_unfolding_all rfl
theorem kitLT_tuple {K : PySem.W.Frag} : PySem.W.kitAny K (.type "tuple") [.type "list", .type "tuple"] = some true := by with_unfolding_all rfl
theorem kitLT_bool {K : PySem.W.Frag} : PySem.W.kitAny K (.type "bool") [.type "list", .type "tuple"] = some false := by with_unfolding_all rfl
theorem kit_str_str {K : PySem.W.Frag} : PySem.W.kitOne K (.type "str") (.type "str") = some true := by with_unfolding_all rfl
theorem kit_none_str {K : PySem.W.Frag} : PySem.W.kitOne K (.type "NoneType") (.type "str") = some false := by with_unfolding_all rfl
theorem kit_int_str {K : PySem.W.Frag} : PySem.W.kitOne K (.type "int") (.type "str") = some false := by with_unfolding_all rfl

/-! ### 'a b c'.split(' ') -/
theorem vals_strs : ∀ (tk : Nat) (l : List Str), Vals (l.map V.str) (strsFrom tk l)
  | _, [] => .nil
  | tk, x :: r => .cons ⟨_, rfl⟩ (vals_strs (tk + 1) r)
def rSplit : V → List V → Hp → VK → Prop := fun x vs H Q => ∃ (a b : Str) (l : List Str), x = .str a ∧ vs = [.str b] ∧ (decide (a.length < b.length) || decide (Builtin.Str.strKind a < Builtin.Str.strKind b)) = false ∧ (b.length == 0) = false ∧
  (Builtin.Str.occurrences a b 0 a.length (a.length + 1)).isEmpty = false ∧ a.length ≤ sizeLine ∧ Builtin.Str.partsBetween a (Builtin.Str.occurrences a b 0 a.length (a.length + 1)) b.length = l ∧ l.length ≤ sizeLine ∧
  ∀ p, H p = none → Q (.ref p) (upd H p (.lst (l.map V.str)))
theorem mt_split : MtR X "str.split" rSplit := by
  intro pins s σ H x vs v us Q I rx rv h
  obtain ⟨a, b, l, rfl, rfl, c1, c2, c3, c4, rfl, c5, q⟩ := h
  obtain ⟨t, rfl⟩ := rx
  obtain ⟨u, rfl, t', rfl⟩ := rv.one
  refine call_meets F.slot_str_split (typeIs_str s a t) F.entry_str_split (F.args_str_split_2 _ _) (meets_str_split_sep a b t t' c1 c2 c3 c4 c5) ?_
  exact ⟨.ref s.heap.objs.size, _, I.lnew (vals_strs _ _) (by rw [List.length_map]; exact c5), rfl, q _ I.fresh⟩
end

/-! ### forms of a comprehension -/
section
variable {K : PySem.W.Frag} {a : Addr} {xs : List V} {lo : Int} {n : Nat} {g : TG} {tt : TT} {te : TE} {σ : L2.St} {H : Hp} {Q : List V → Hp → Prop}
theorem comp_range (Pv : Nat → List V → Hp → Prop) (h0 : Pv 0 [] H)
    (hs : ∀ i ys H, i < n → Pv i ys H → ys.length < sizeLine ∧ g (.int (lo + i)) σ H fun σ2 H2 => Kp σ σ2 ∧ tt σ2 H2 fun b H3 => if b = true then te σ2 H3 fun v H4 => Pv (i + 1) (ys ++ [v]) H4 else Pv (i + 1) ys H3)
    (hd : ∀ ys H, Pv n ys H → Q ys H) : CompW (Itr lo n) H g tt te σ Q := by
  refine ⟨fun i m ys H => m = n - i ∧ i ≤ n ∧ Pv i ys H, ⟨n, by simp, Nat.zero_le _, h0⟩, ?_⟩
  rintro i m ys H ⟨rfl, hi, p⟩
  by_cases hlt : i < n
  · obtain ⟨hz, st⟩ := hs i ys H hlt p
    refine .inr ⟨hlt, hz, Pv (i + 1), fun ys' H' p' => ⟨n - (i + 1), by omega, rfl, hlt, p'⟩, fun x H' y => ?_⟩
    obtain ⟨e, y⟩ := y
    subst e y
    exact st
  · have e : i = n := by omega
    subst e
    exact .inl ⟨Nat.le_refl _, hd ys H p⟩
theorem comp_list (Pv : Nat → List V → Hp → Prop) (h0 : Pv 0 [] H) (hl : ∀ i ys H, i ≤ xs.length → Pv i ys H → SqL K H a xs)
    (hs : ∀ i x ys H, xs[i]? = some x → Pv i ys H → ys.length < sizeLine ∧ g x σ H fun σ2 H2 => Kp σ σ2 ∧ tt σ2 H2 fun b H3 => if b = true then te σ2 H3 fun v H4 => Pv (i + 1) (ys ++ [v]) H4 else Pv (i + 1) ys H3)
    (hd : ∀ ys H, Pv xs.length ys H → Q ys H) : CompW (Itl K a) H g tt te σ Q := by
  refine ⟨fun i m ys H => m = xs.length - i ∧ i ≤ xs.length ∧ Pv i ys H, ⟨xs.length, by simp, Nat.zero_le _, h0⟩, ?_⟩
  rintro i m ys H ⟨rfl, hi, p⟩
  have q := hl i ys H hi p
  by_cases hlt : i < xs.length
  · obtain ⟨hz, st⟩ := hs i xs[i] ys H (by simp [hlt]) p
    refine .inr ⟨⟨xs, xs[i], q, by simp [hlt]⟩, hz, Pv (i + 1), fun ys' H' p' => ⟨xs.length - (i + 1), by omega, rfl, hlt, p'⟩, fun x H' y => ?_⟩
    obtain ⟨e, y⟩ := y
    subst e
    have ex : xs[i] = x := by
      have := y xs q
      rw [List.getElem?_eq_getElem hlt] at this
      exact Option.some.inj this
    subst ex
    exact st
  · have e : i = xs.length := by omega
    subst e
    exact .inl ⟨⟨xs, q, Nat.le_refl _⟩, hd ys H p⟩
theorem comp_tup (Pv : Nat → List V → Hp → Prop) (h0 : Pv 0 [] H) (hl : ∀ i ys H, i ≤ xs.length → Pv i ys H → SqT K H a xs)
    (hs : ∀ i x ys H, xs[i]? = some x → Pv i ys H → ys.length < sizeLine ∧ g x σ H fun σ2 H2 => Kp σ σ2 ∧ tt σ2 H2 fun b H3 => if b = true then te σ2 H3 fun v H4 => Pv (i + 1) (ys ++ [v]) H4 else Pv (i + 1) ys H3)
    (hd : ∀ ys H, Pv xs.length ys H → Q ys H) : CompW (Itt K a) H g tt te σ Q := by
  refine ⟨fun i m ys H => m = xs.length - i ∧ i ≤ xs.length ∧ Pv i ys H, ⟨xs.length, by simp, Nat.zero_le _, h0⟩, ?_⟩
  rintro i m ys H ⟨rfl, hi, p⟩
  have q := hl i ys H hi p
  by_cases hlt : i < xs.length
  · obtain ⟨hz, st⟩ := hs i xs[i] ys H (by simp [hlt]) p
    refine .inr ⟨⟨xs, xs[i], q, by simp [hlt]⟩, hz, Pv (i + 1), fun ys' H' p' => ⟨xs.length - (i + 1), by omega, rfl, hlt, p'⟩, fun x H' y => ?_⟩
    obtain ⟨e, y⟩ := y
    subst e
    have ex : xs[i] = x := by
      have := y xs q
      rw [List.getElem?_eq_getElem hlt] at this
      exact Option.some.inj this
    subst ex
    exact st
  · have e : i = xs.length := by omega
    subst e
    exact .inl ⟨⟨xs, q, Nat.le_refl _⟩, hd ys H p⟩
end
end Jb

set_option Elab.async false
set_option linter.all false
set_option maxRecDepth 100000
set_option maxHeartbeats 4000000
namespace Jb
open PySem PySem.Spec PyProof.Rows L2
/-! ### data: what a value is, with what it holds -/
inductive Dt where
  | non | bl (b : Bool) | int (i : Int) | str (x : Str) | lst (ds : List Dt) | tup (ds : List Dt)
mutual
def eqD : Dt → Dt → Bool
  | .non, .non => true
  | .bl a, .bl b => a == b
  | .int a, .int b => a == b
  | .bl a, .int b => (if a then 1 else 0) == b
  | .int a, .bl b => a == (if b then 1 else 0)
  | .str a, .str b => a == b
  | .lst a, .lst b => eqL a b
  | .tup a, .tup b => eqL a b
  | _, _ => false
def eqL : List Dt → List Dt → Bool
  | [], [] => true
  | a :: r, b :: q => eqD a b && eqL r q
  | _, _ => false
end
mutual
def dp : Dt → Nat
  | .lst ds => dpL ds + 1
  | .tup ds => dpL ds + 1
  | _ => 0
def dpL : List Dt → Nat
  | [] => 0
  | d :: r => max (dp d) (dpL r)
end
mutual
def Brs (K : PySem.W.Frag) (H : Hp) : Dt → V → Prop
  | .non, v => v = .non
  | .bl b, v => v = .bl b
  | .int i, v => v = .int i
  | .str x, v => v = .str x
  | .lst ds, v => ∃ a xs, v = .ref a ∧ SqL K H a xs ∧ BrsL K H ds xs
  | .tup ds, v => ∃ a xs, v = .ref a ∧ SqT K H a xs ∧ BrsL K H ds xs
def BrsL (K : PySem.W.Frag) (H : Hp) : List Dt → List V → Prop
  | [], xs => xs = []
  | d :: r, xs => ∃ x ys, xs = x :: ys ∧ Brs K H d x ∧ BrsL K H r ys
end
mutual
theorem eqD_refl : ∀ d : Dt, eqD d d = true
  | .non => by simp [eqD]
  | .bl _ => by simp [eqD]
  | .int _ => by simp [eqD]
  | .str _ => by simp [eqD]
  | .lst ds => by simp [eqD, eqL_refl ds]
  | .tup ds => by simp [eqD, eqL_refl ds]
theorem eqL_refl : ∀ ds : List Dt, eqL ds ds = true
  | [] => by simp [eqL]
  | d :: r => by simp [eqL, eqD_refl d, eqL_refl r]
end
theorem BrsL.length {K : PySem.W.Frag} {H : Hp} : ∀ {ds : List Dt} {xs : List V}, BrsL K H ds xs → ds.length = xs.length
  | [], xs, h => by
    have h : xs = [] := by simpa [BrsL] using h
    rw [h]
    rfl
  | d :: r, xs, h => by
    obtain ⟨x, ys, rfl, _, h⟩ := (by simpa [BrsL] using h : ∃ x ys, xs = x :: ys ∧ Brs K H d x ∧ BrsL K H r ys)
    simp [BrsL.length h]
theorem BrsL.get {K : PySem.W.Frag} {H : Hp} : ∀ {ds : List Dt} {xs : List V} {j : Nat} {x : V}, BrsL K H ds xs → xs[j]? = some x → ∃ d, ds[j]? = some d ∧ Brs K H d x
  | [], xs, j, x, h, e => by
    have h : xs = [] := by simpa [BrsL] using h
    rw [h] at e
    simp at e
  | d :: r, xs, j, x, h, e => by
    obtain ⟨y, ys, rfl, hd, h⟩ := (by simpa [BrsL] using h : ∃ x ys, xs = x :: ys ∧ Brs K H d x ∧ BrsL K H r ys)
    cases j with
    | zero =>
      have : y = x := by simpa using e
      subst this
      exact ⟨d, rfl, hd⟩
    | succ j =>
      obtain ⟨d', h1, h2⟩ := BrsL.get h (j := j) (x := x) (by simpa using e)
      exact ⟨d', by simpa using h1, h2⟩
theorem eqL_len : ∀ {ds es : List Dt}, ds.length ≠ es.length → eqL ds es = false
  | [], [], h => absurd rfl h
  | [], _ :: _, _ => by simp [eqL]
  | _ :: _, [], _ => by simp [eqL]
  | d :: r, e :: q, h => by
    have : r.length ≠ q.length := by simpa using h
    simp [eqL, eqL_len this]
def eqJ (ds es : List Dt) (j : Nat) : Bool := eqD (ds.getD j .non) (es.getD j .non)
theorem eqJ_all : ∀ {ds es : List Dt}, ds.length = es.length → (List.range ds.length).all (eqJ ds es) = eqL ds es
  | [], [], _ => by simp [eqL]
  | [], _ :: _, h => by simp at h
  | _ :: _, [], h => by simp at h
  | d :: r, e :: q, h => by
    have h' : r.length = q.length := by simpa using h
    have ih := eqJ_all h'
    rw [List.length_cons, List.range_succ_eq_map, List.all_cons, List.all_map, eqL]
    congr 1
section
variable {X : Cx} {pins : List (Addr × Obj)} {σ : L2.St} {H : Hp} {s : Shared}
theorem not_both (I : Inv X pins σ H s) {a : Addr} {xs ys : List V} (h1 : SqL X.K H a xs) (h2 : SqT X.K H a ys) : False := by
  obtain ⟨its, _, p, _⟩ := I.list h1
  obtain ⟨jts, _, q, _⟩ := I.tuple h2
  obtain ⟨o, e1, c1, _⟩ := p.isList
  obtain ⟨o', e2, c2, _⟩ := q
  rw [e1] at e2
  cases e2
  rw [c1] at c2
  injection c2 with z
  exact absurd z (by decide)
mutual
theorem brs_inj (I : Inv X pins σ H s) : ∀ (d e : Dt) {v : V}, Brs X.K H d v → Brs X.K H e v → d = e
  | .non, e, v, h, h' => by
    simp only [Brs] at h
    subst h
    cases e <;> simp [Brs] at h' <;> rfl
  | .bl b, e, v, h, h' => by
    simp only [Brs] at h
    subst h
    cases e <;> simp [Brs] at h' <;> simp [h']
  | .int b, e, v, h, h' => by
    simp only [Brs] at h
    subst h
    cases e <;> simp [Brs] at h' <;> simp [h']
  | .str b, e, v, h, h' => by
    simp only [Brs] at h
    subst h
    cases e <;> simp [Brs] at h' <;> simp [h']
  | .lst ds, e, v, h, h' => by
    simp only [Brs] at h
    obtain ⟨a, xs, rfl, hq, hb⟩ := h
    cases e with
    | lst es =>
      simp only [Brs] at h'
      obtain ⟨a', ys, e1, hq', hb'⟩ := h'
      cases e1
      have := I.list_inj hq hq'
      subst this
      rw [brsL_inj I ds es hb hb']
    | tup es =>
      simp only [Brs] at h'
      obtain ⟨a', ys, e1, hq', hb'⟩ := h'
      cases e1
      exact (not_both I hq hq').elim
    | _ => simp [Brs] at h'
  | .tup ds, e, v, h, h' => by
    simp only [Brs] at h
    obtain ⟨a, xs, rfl, hq, hb⟩ := h
    cases e with
    | tup es =>
      simp only [Brs] at h'
      obtain ⟨a', ys, e1, hq', hb'⟩ := h'
      cases e1
      have := I.tuple_inj hq hq'
      subst this
      rw [brsL_inj I ds es hb hb']
    | lst es =>
      simp only [Brs] at h'
      obtain ⟨a', ys, e1, hq', hb'⟩ := h'
      cases e1
      exact (not_both I hq' hq).elim
    | _ => simp [Brs] at h'
theorem brsL_inj (I : Inv X pins σ H s) : ∀ (ds es : List Dt) {xs : List V}, BrsL X.K H ds xs → BrsL X.K H es xs → ds = es
  | [], es, xs, h, h' => by
    simp only [BrsL] at h
    subst h
    cases es with
    | nil => rfl
    | cons e r => simp [BrsL] at h'
  | d :: r, es, xs, h, h' => by
    simp only [BrsL] at h
    obtain ⟨x, ys, rfl, hd, hr⟩ := h
    cases es with
    | nil => simp [BrsL] at h'
    | cons e q =>
      simp only [BrsL] at h'
      obtain ⟨x', ys', e1, he, hq⟩ := h'
      cases e1
      rw [brs_inj I d e hd he, brsL_inj I r q hr hq]
end

open PySem.SeqAt in
mutual
theorem eq_at (I : Inv X pins σ H s) : ∀ (d e : Dt) {A : Around} {v u : V} {v' u' : Value}, Brs X.K H d v → Brs X.K H e u → RelV v v' → RelV u u' → A.units + dp d < cLine → A.units + dp e < cLine → EqAt A s v' u' (eqD d e)
  | .non, e, A, v, u, v', u', h, h', r, r', hu, hu' => by
    have hz : A.units < cLine := by omega
    simp only [Brs] at h
    subst h
    cases (show v' = Value.none from r)
    cases e with
    | non => simp only [Brs] at h'; subst h'; cases (show u' = Value.none from r'); exact EqAt.same _
    | bl b => simp only [Brs] at h'; subst h'; cases (show u' = Value.bool b from r'); exact EqAt.none_bool b
    | int b => simp only [Brs] at h'; subst h'; obtain ⟨t, q⟩ := (show ∃ t, u' = Value.int b t from r'); cases q; exact EqAt.none_int b t
    | str b => simp only [Brs] at h'; subst h'; obtain ⟨t, q⟩ := (show ∃ t, u' = Value.str b t from r'); cases q; exact EqAt.none_str b t
    | lst es => simp only [Brs] at h'; obtain ⟨a, xs, rfl, hq, _⟩ := h'; cases (show u' = Value.ref a from r'); obtain ⟨its, _, p, _⟩ := I.list hq; exact EqAt.none_list p.isList hz
    | tup es => simp only [Brs] at h'; obtain ⟨a, xs, rfl, hq, _⟩ := h'; cases (show u' = Value.ref a from r'); obtain ⟨its, _, p, _⟩ := I.tuple hq; exact EqAt.none_tuple p hz
  | .bl c, e, A, v, u, v', u', h, h', r, r', hu, hu' => by
    have hz : A.units < cLine := by omega
    simp only [Brs] at h
    subst h
    cases (show v' = Value.bool c from r)
    cases e with
    | non => simp only [Brs] at h'; subst h'; cases (show u' = Value.none from r'); exact EqAt.bool_none c
    | bl b => simp only [Brs] at h'; subst h'; cases (show u' = Value.bool b from r'); exact EqAt.bool_bool c b
    | int b => simp only [Brs] at h'; subst h'; obtain ⟨t, q⟩ := (show ∃ t, u' = Value.int b t from r'); cases q; exact EqAt.bool_int c b t
    | str b => simp only [Brs] at h'; subst h'; obtain ⟨t, q⟩ := (show ∃ t, u' = Value.str b t from r'); cases q; exact EqAt.bool_str c b t
    | lst es => simp only [Brs] at h'; obtain ⟨a, xs, rfl, hq, _⟩ := h'; cases (show u' = Value.ref a from r'); obtain ⟨its, _, p, _⟩ := I.list hq; exact EqAt.bool_list c p.isList hz
    | tup es => simp only [Brs] at h'; obtain ⟨a, xs, rfl, hq, _⟩ := h'; cases (show u' = Value.ref a from r'); obtain ⟨its, _, p, _⟩ := I.tuple hq; exact EqAt.bool_tuple c p hz
  | .int c, e, A, v, u, v', u', h, h', r, r', hu, hu' => by
    have hz : A.units < cLine := by omega
    simp only [Brs] at h
    subst h
    obtain ⟨tc, q⟩ := (show ∃ t, v' = Value.int c t from r)
    cases q
    cases e with
    | non => simp only [Brs] at h'; subst h'; cases (show u' = Value.none from r'); exact EqAt.int_none c tc
    | bl b => simp only [Brs] at h'; subst h'; cases (show u' = Value.bool b from r'); exact EqAt.int_bool c tc b
    | int b => simp only [Brs] at h'; subst h'; obtain ⟨t, q⟩ := (show ∃ t, u' = Value.int b t from r'); cases q; exact EqAt.int_int c tc b t
    | str b => simp only [Brs] at h'; subst h'; obtain ⟨t, q⟩ := (show ∃ t, u' = Value.str b t from r'); cases q; exact EqAt.int_str c tc b t
    | lst es => simp only [Brs] at h'; obtain ⟨a, xs, rfl, hq, _⟩ := h'; cases (show u' = Value.ref a from r'); obtain ⟨its, _, p, _⟩ := I.list hq; exact EqAt.int_list c tc p.isList hz
    | tup es => simp only [Brs] at h'; obtain ⟨a, xs, rfl, hq, _⟩ := h'; cases (show u' = Value.ref a from r'); obtain ⟨its, _, p, _⟩ := I.tuple hq; exact EqAt.int_tuple c tc p hz
  | .str c, e, A, v, u, v', u', h, h', r, r', hu, hu' => by
    have hz : A.units < cLine := by omega
    simp only [Brs] at h
    subst h
    obtain ⟨tc, q⟩ := (show ∃ t, v' = Value.str c t from r)
    cases q
    cases e with
    | non => simp only [Brs] at h'; subst h'; cases (show u' = Value.none from r'); exact EqAt.str_none c tc
    | bl b => simp only [Brs] at h'; subst h'; cases (show u' = Value.bool b from r'); exact EqAt.str_bool c tc b
    | int b => simp only [Brs] at h'; subst h'; obtain ⟨t, q⟩ := (show ∃ t, u' = Value.int b t from r'); cases q; exact EqAt.str_int c tc b t
    | str b => simp only [Brs] at h'; subst h'; obtain ⟨t, q⟩ := (show ∃ t, u' = Value.str b t from r'); cases q; exact EqAt.str_str c tc b t
    | lst es => simp only [Brs] at h'; obtain ⟨a, xs, rfl, hq, _⟩ := h'; cases (show u' = Value.ref a from r'); obtain ⟨its, _, p, _⟩ := I.list hq; exact EqAt.str_list c tc p.isList hz
    | tup es => simp only [Brs] at h'; obtain ⟨a, xs, rfl, hq, _⟩ := h'; cases (show u' = Value.ref a from r'); obtain ⟨its, _, p, _⟩ := I.tuple hq; exact EqAt.str_tuple c tc p hz
  | .lst ds, e, A, v, u, v', u', h, h', r, r', hu, hu' => by
    have hz : A.units < cLine := by omega
    have hd : A.in1.units + dpL ds < cLine := by
      have : dp (.lst ds) = dpL ds + 1 := by simp [dp]
      show A.units + 1 + dpL ds < cLine
      omega
    have h0 := h
    simp only [Brs] at h
    obtain ⟨b, ys, rfl, hp, hb⟩ := h
    cases (show v' = Value.ref b from r)
    obtain ⟨jts, rw', pw, _⟩ := I.list hp
    cases e with
    | non => simp only [Brs] at h'; subst h'; cases (show u' = Value.none from r'); exact EqAt.list_none pw.isList hz
    | bl c => simp only [Brs] at h'; subst h'; cases (show u' = Value.bool c from r'); exact EqAt.list_bool c pw.isList hz
    | int c => simp only [Brs] at h'; subst h'; obtain ⟨t, q⟩ := (show ∃ t, u' = Value.int c t from r'); cases q; exact EqAt.list_int c t pw.isList hz
    | str c => simp only [Brs] at h'; subst h'; obtain ⟨t, q⟩ := (show ∃ t, u' = Value.str c t from r'); cases q; exact EqAt.list_str c t pw.isList hz
    | tup es => simp only [Brs] at h'; obtain ⟨a, xs, rfl, hq, _⟩ := h'; cases (show u' = Value.ref a from r'); obtain ⟨its, _, p, _⟩ := I.tuple hq; exact EqAt.list_tuple pw.isList p hz
    | lst es =>
      have h0' := h'
      simp only [Brs] at h'
      obtain ⟨a, xs, rfl, hq, hb'⟩ := h'
      cases (show u' = Value.ref a from r')
      obtain ⟨its, rv, p, _⟩ := I.list hq
      have he : A.in1.units + dpL es < cLine := by
        have : dp (.lst es) = dpL es + 1 := by simp [dp]
        show A.units + 1 + dpL es < cLine
        omega
      by_cases hab : b = a
      · subst hab
        rw [brs_inj I _ _ h0 h0', eqD_refl]
        exact EqAt.same _
      · refine EqAt.of_refs hab ?_
        have l1 := hb.length
        have l2 := hb'.length
        have l3 := rw'.length
        have l4 := rv.length
        rw [show eqD (.lst ds) (.lst es) = eqL ds es by simp [eqD]]
        by_cases hl : ds.length = es.length
        · rw [← eqJ_all hl, show ds.length = jts.toArray.size by rw [List.size_toArray]; omega]
          exact RcAt.lists pw.isList p.isList (by rw [List.size_toArray, List.size_toArray]; omega) hz (eqL_at I ds es hb hb' rw' rv hd he)
        · rw [eqL_len hl]
          exact RcAt.lists_lengths pw.isList p.isList (by rw [List.size_toArray, List.size_toArray]; exact bne_iff_ne.mpr (by omega)) hz
  | .tup ds, e, A, v, u, v', u', h, h', r, r', hu, hu' => by
    have hz : A.units < cLine := by omega
    have hd : A.in1.units + dpL ds < cLine := by
      have : dp (.tup ds) = dpL ds + 1 := by simp [dp]
      show A.units + 1 + dpL ds < cLine
      omega
    have h0 := h
    simp only [Brs] at h
    obtain ⟨b, ys, rfl, hp, hb⟩ := h
    cases (show v' = Value.ref b from r)
    obtain ⟨jts, rw', pw, _⟩ := I.tuple hp
    cases e with
    | non => simp only [Brs] at h'; subst h'; cases (show u' = Value.none from r'); exact EqAt.tuple_none pw hz
    | bl c => simp only [Brs] at h'; subst h'; cases (show u' = Value.bool c from r'); exact EqAt.tuple_bool c pw hz
    | int c => simp only [Brs] at h'; subst h'; obtain ⟨t, q⟩ := (show ∃ t, u' = Value.int c t from r'); cases q; exact EqAt.tuple_int c t pw hz
    | str c => simp only [Brs] at h'; subst h'; obtain ⟨t, q⟩ := (show ∃ t, u' = Value.str c t from r'); cases q; exact EqAt.tuple_str c t pw hz
    | lst es => simp only [Brs] at h'; obtain ⟨a, xs, rfl, hq, _⟩ := h'; cases (show u' = Value.ref a from r'); obtain ⟨its, _, p, _⟩ := I.list hq; exact EqAt.tuple_list pw p.isList hz
    | tup es =>
      have h0' := h'
      simp only [Brs] at h'
      obtain ⟨a, xs, rfl, hq, hb'⟩ := h'
      cases (show u' = Value.ref a from r')
      obtain ⟨its, rv, p, _⟩ := I.tuple hq
      have he : A.in1.units + dpL es < cLine := by
        have : dp (.tup es) = dpL es + 1 := by simp [dp]
        show A.units + 1 + dpL es < cLine
        omega
      by_cases hab : b = a
      · subst hab
        rw [brs_inj I _ _ h0 h0', eqD_refl]
        exact EqAt.same _
      · refine EqAt.of_refs hab ?_
        have l1 := hb.length
        have l2 := hb'.length
        have l3 := rw'.length
        have l4 := rv.length
        rw [show eqD (.tup ds) (.tup es) = ((List.range (min jts.toArray.size its.toArray.size)).all (eqJ ds es) && jts.toArray.size == its.toArray.size) from ?_]
        · exact RcAt.tuples pw p hz (eqL_at I ds es hb hb' rw' rv hd he)
        · rw [show eqD (.tup ds) (.tup es) = eqL ds es by simp [eqD], List.size_toArray, List.size_toArray]
          by_cases hl : ds.length = es.length
          · rw [show min jts.length its.length = ds.length by omega, eqJ_all hl, show (jts.length == its.length) = true by simp; omega, Bool.and_true]
          · rw [eqL_len hl, show (jts.length == its.length) = false by simp; omega, Bool.and_false]
theorem eqL_at (I : Inv X pins σ H s) : ∀ (ds es : List Dt) {A : Around} {ys xs : List V} {jts its : List Value}, BrsL X.K H ds ys → BrsL X.K H es xs → Vals ys jts → Vals xs its → A.units + dpL ds < cLine → A.units + dpL es < cLine →
    ∀ j (h1 : j < jts.toArray.size) (h2 : j < its.toArray.size), EqAt A s jts.toArray[j] its.toArray[j] (eqJ ds es j)
  | [], es, A, ys, xs, jts, its, h, h', r, r', hu, hu', j, h1, h2 => by
    simp only [BrsL] at h
    subst h
    cases r
    simp at h1
  | d :: ds, es, A, ys, xs, jts, its, h, h', r, r', hu, hu', j, h1, h2 => by
    simp only [BrsL] at h
    obtain ⟨y, ys', rfl, hd, hr⟩ := h
    cases r with
    | cons ra rb =>
      cases es with
      | nil =>
        simp only [BrsL] at h'
        subst h'
        cases r'
        simp at h2
      | cons e es =>
        simp only [BrsL] at h'
        obtain ⟨x, xs', rfl, hd', hr'⟩ := h'
        cases r' with
        | cons ra' rb' =>
          have m1 : dpL (d :: ds) = max (dp d) (dpL ds) := by simp [dpL]
          have m2 : dpL (e :: es) = max (dp e) (dpL es) := by simp [dpL]
          cases j with
          | zero => exact eq_at I d e hd hd' ra ra' (by omega) (by omega)
          | succ j => exact eqL_at I ds es hr hr' rb rb' (by omega) (by omega) j (by simpa using h1) (by simpa using h2)
end
open PySem.SeqAt in
theorem rc_at (I : Inv X pins σ H s) (d e : Dt) {A : Around} {v u : V} {v' u' : Value} (h1 : Brs X.K H d v) (h2 : Brs X.K H e u) (r1 : RelV v v') (r2 : RelV u u') (hu : A.units + dp d < cLine) (hu' : A.units + dp e < cLine) : RcAt A s v' u' (eqD d e) := by
  have hz : A.units < cLine := by omega
  cases d with
  | non =>
    simp only [Brs] at h1; subst h1; cases (show _ = Value.none from r1)
    cases e with
    | non => (simp only [Brs] at h2; subst h2; cases (show _ = Value.none from r2)); exact RcAt.none_none
    | bl c2 => (simp only [Brs] at h2; subst h2; cases (show _ = Value.bool c2 from r2)); exact RcAt.none_bool c2
    | int c2 => (simp only [Brs] at h2; subst h2; obtain ⟨t2, q2⟩ := (show ∃ t, _ = Value.int c2 t from r2); cases q2); exact RcAt.none_int c2 t2
    | str c2 => (simp only [Brs] at h2; subst h2; obtain ⟨t2, q2⟩ := (show ∃ t, _ = Value.str c2 t from r2); cases q2); exact RcAt.none_str c2 t2
    | lst es => (simp only [Brs] at h2; obtain ⟨a2, xs2, rfl, hq2, hb2⟩ := h2; cases (show _ = Value.ref a2 from r2); obtain ⟨its2, rv2, p2, _⟩ := I.list hq2); exact RcAt.none_list p2.isList hz
    | tup es => (simp only [Brs] at h2; obtain ⟨a2, xs2, rfl, hq2, hb2⟩ := h2; cases (show _ = Value.ref a2 from r2); obtain ⟨its2, rv2, p2, _⟩ := I.tuple hq2); exact RcAt.none_tuple p2 hz
  | bl c1 =>
    simp only [Brs] at h1; subst h1; cases (show _ = Value.bool c1 from r1)
    cases e with
    | non => (simp only [Brs] at h2; subst h2; cases (show _ = Value.none from r2)); exact RcAt.bool_none c1
    | bl c2 => (simp only [Brs] at h2; subst h2; cases (show _ = Value.bool c2 from r2)); exact RcAt.bool_bool c1 c2
    | int c2 => (simp only [Brs] at h2; subst h2; obtain ⟨t2, q2⟩ := (show ∃ t, _ = Value.int c2 t from r2); cases q2); exact RcAt.bool_int c1 c2 t2
    | str c2 => (simp only [Brs] at h2; subst h2; obtain ⟨t2, q2⟩ := (show ∃ t, _ = Value.str c2 t from r2); cases q2); exact RcAt.bool_str c1 c2 t2
    | lst es => (simp only [Brs] at h2; obtain ⟨a2, xs2, rfl, hq2, hb2⟩ := h2; cases (show _ = Value.ref a2 from r2); obtain ⟨its2, rv2, p2, _⟩ := I.list hq2); exact RcAt.bool_list c1 p2.isList hz
    | tup es => (simp only [Brs] at h2; obtain ⟨a2, xs2, rfl, hq2, hb2⟩ := h2; cases (show _ = Value.ref a2 from r2); obtain ⟨its2, rv2, p2, _⟩ := I.tuple hq2); exact RcAt.bool_tuple c1 p2 hz
  | int c1 =>
    simp only [Brs] at h1; subst h1; obtain ⟨t1, q1⟩ := (show ∃ t, _ = Value.int c1 t from r1); cases q1
    cases e with
    | non => (simp only [Brs] at h2; subst h2; cases (show _ = Value.none from r2)); exact RcAt.int_none c1 t1
    | bl c2 => (simp only [Brs] at h2; subst h2; cases (show _ = Value.bool c2 from r2)); exact RcAt.int_bool c1 t1 c2
    | int c2 => (simp only [Brs] at h2; subst h2; obtain ⟨t2, q2⟩ := (show ∃ t, _ = Value.int c2 t from r2); cases q2); exact RcAt.int_int c1 t1 c2 t2
    | str c2 => (simp only [Brs] at h2; subst h2; obtain ⟨t2, q2⟩ := (show ∃ t, _ = Value.str c2 t from r2); cases q2); exact RcAt.int_str c1 t1 c2 t2
    | lst es => (simp only [Brs] at h2; obtain ⟨a2, xs2, rfl, hq2, hb2⟩ := h2; cases (show _ = Value.ref a2 from r2); obtain ⟨its2, rv2, p2, _⟩ := I.list hq2); exact RcAt.int_list c1 t1 p2.isList hz
    | tup es => (simp only [Brs] at h2; obtain ⟨a2, xs2, rfl, hq2, hb2⟩ := h2; cases (show _ = Value.ref a2 from r2); obtain ⟨its2, rv2, p2, _⟩ := I.tuple hq2); exact RcAt.int_tuple c1 t1 p2 hz
  | str c1 =>
    simp only [Brs] at h1; subst h1; obtain ⟨t1, q1⟩ := (show ∃ t, _ = Value.str c1 t from r1); cases q1
    cases e with
    | non => (simp only [Brs] at h2; subst h2; cases (show _ = Value.none from r2)); exact RcAt.str_none c1 t1
    | bl c2 => (simp only [Brs] at h2; subst h2; cases (show _ = Value.bool c2 from r2)); exact RcAt.str_bool c1 t1 c2
    | int c2 => (simp only [Brs] at h2; subst h2; obtain ⟨t2, q2⟩ := (show ∃ t, _ = Value.int c2 t from r2); cases q2); exact RcAt.str_int c1 t1 c2 t2
    | str c2 => (simp only [Brs] at h2; subst h2; obtain ⟨t2, q2⟩ := (show ∃ t, _ = Value.str c2 t from r2); cases q2); exact RcAt.str_str c1 t1 c2 t2
    | lst es => (simp only [Brs] at h2; obtain ⟨a2, xs2, rfl, hq2, hb2⟩ := h2; cases (show _ = Value.ref a2 from r2); obtain ⟨its2, rv2, p2, _⟩ := I.list hq2); exact RcAt.str_list c1 t1 p2.isList hz
    | tup es => (simp only [Brs] at h2; obtain ⟨a2, xs2, rfl, hq2, hb2⟩ := h2; cases (show _ = Value.ref a2 from r2); obtain ⟨its2, rv2, p2, _⟩ := I.tuple hq2); exact RcAt.str_tuple c1 t1 p2 hz
  | lst ds =>
    simp only [Brs] at h1; obtain ⟨a1, xs1, rfl, hq1, hb1⟩ := h1; cases (show _ = Value.ref a1 from r1); obtain ⟨its1, rv1, p1, _⟩ := I.list hq1
    cases e with
    | non => (simp only [Brs] at h2; subst h2; cases (show _ = Value.none from r2)); exact RcAt.list_none p1.isList hz
    | bl c2 => (simp only [Brs] at h2; subst h2; cases (show _ = Value.bool c2 from r2)); exact RcAt.list_bool c2 p1.isList hz
    | int c2 => (simp only [Brs] at h2; subst h2; obtain ⟨t2, q2⟩ := (show ∃ t, _ = Value.int c2 t from r2); cases q2); exact RcAt.list_int c2 t2 p1.isList hz
    | str c2 => (simp only [Brs] at h2; subst h2; obtain ⟨t2, q2⟩ := (show ∃ t, _ = Value.str c2 t from r2); cases q2); exact RcAt.list_str c2 t2 p1.isList hz
    | lst es =>
      simp only [Brs] at h2; obtain ⟨a2, xs2, rfl, hq2, hb2⟩ := h2; cases (show _ = Value.ref a2 from r2); obtain ⟨its2, rv2, p2, _⟩ := I.list hq2
      have hd : A.in1.units + dpL ds < cLine := by
        have : dp (.lst ds) = dpL ds + 1 := by simp [dp]
        show A.units + 1 + dpL ds < cLine
        omega
      have he : A.in1.units + dpL es < cLine := by
        have : dp (.lst es) = dpL es + 1 := by simp [dp]
        show A.units + 1 + dpL es < cLine
        omega
      have l1 := hb1.length
      have l2 := hb2.length
      have l3 := rv1.length
      have l4 := rv2.length
      rw [show eqD (.lst ds) (.lst es) = eqL ds es by simp [eqD]]
      by_cases hl : ds.length = es.length
      · rw [← eqJ_all hl, show ds.length = its1.toArray.size by rw [List.size_toArray]; omega]
        exact RcAt.lists p1.isList p2.isList (by rw [List.size_toArray, List.size_toArray]; omega) hz (eqL_at I ds es hb1 hb2 rv1 rv2 hd he)
      · rw [eqL_len hl]
        exact RcAt.lists_lengths p1.isList p2.isList (by rw [List.size_toArray, List.size_toArray]; exact bne_iff_ne.mpr (by omega)) hz
    | tup es => (simp only [Brs] at h2; obtain ⟨a2, xs2, rfl, hq2, hb2⟩ := h2; cases (show _ = Value.ref a2 from r2); obtain ⟨its2, rv2, p2, _⟩ := I.tuple hq2); exact RcAt.list_tuple p1.isList p2 hz
  | tup ds =>
    simp only [Brs] at h1; obtain ⟨a1, xs1, rfl, hq1, hb1⟩ := h1; cases (show _ = Value.ref a1 from r1); obtain ⟨its1, rv1, p1, _⟩ := I.tuple hq1
    cases e with
    | non => (simp only [Brs] at h2; subst h2; cases (show _ = Value.none from r2)); exact RcAt.tuple_none p1 hz
    | bl c2 => (simp only [Brs] at h2; subst h2; cases (show _ = Value.bool c2 from r2)); exact RcAt.tuple_bool c2 p1 hz
    | int c2 => (simp only [Brs] at h2; subst h2; obtain ⟨t2, q2⟩ := (show ∃ t, _ = Value.int c2 t from r2); cases q2); exact RcAt.tuple_int c2 t2 p1 hz
    | str c2 => (simp only [Brs] at h2; subst h2; obtain ⟨t2, q2⟩ := (show ∃ t, _ = Value.str c2 t from r2); cases q2); exact RcAt.tuple_str c2 t2 p1 hz
    | lst es => (simp only [Brs] at h2; obtain ⟨a2, xs2, rfl, hq2, hb2⟩ := h2; cases (show _ = Value.ref a2 from r2); obtain ⟨its2, rv2, p2, _⟩ := I.list hq2); exact RcAt.tuple_list p1 p2.isList hz
    | tup es =>
      simp only [Brs] at h2; obtain ⟨a2, xs2, rfl, hq2, hb2⟩ := h2; cases (show _ = Value.ref a2 from r2); obtain ⟨its2, rv2, p2, _⟩ := I.tuple hq2
      have hd : A.in1.units + dpL ds < cLine := by
        have : dp (.tup ds) = dpL ds + 1 := by simp [dp]
        show A.units + 1 + dpL ds < cLine
        omega
      have he : A.in1.units + dpL es < cLine := by
        have : dp (.tup es) = dpL es + 1 := by simp [dp]
        show A.units + 1 + dpL es < cLine
        omega
      have l1 := hb1.length
      have l2 := hb2.length
      have l3 := rv1.length
      have l4 := rv2.length
      rw [show eqD (.tup ds) (.tup es) = ((List.range (min its1.toArray.size its2.toArray.size)).all (eqJ ds es) && its1.toArray.size == its2.toArray.size) from ?_]
      · exact RcAt.tuples p1 p2 hz (eqL_at I ds es hb1 hb2 rv1 rv2 hd he)
      · rw [show eqD (.tup ds) (.tup es) = eqL ds es by simp [eqD], List.size_toArray, List.size_toArray]
        by_cases hl : ds.length = es.length
        · rw [show min its1.length its2.length = ds.length by omega, eqJ_all hl, show (its1.length == its2.length) = true by simp; omega, Bool.and_true]
        · rw [eqL_len hl, show (its1.length == its2.length) = false by simp; omega, Bool.and_false]
open PySem.SeqAt in
theorem rcne_at (I : Inv X pins σ H s) (d e : Dt) {A : Around} {v u : V} {v' u' : Value} (h1 : Brs X.K H d v) (h2 : Brs X.K H e u) (r1 : RelV v v') (r2 : RelV u u') (hu : A.units + dp d < cLine) (hu' : A.units + dp e < cLine) : RcNeAt A s v' u' (!eqD d e) := by
  have hz : A.units < cLine := by omega
  cases d with
  | non =>
    simp only [Brs] at h1; subst h1; cases (show _ = Value.none from r1)
    cases e with
    | non => (simp only [Brs] at h2; subst h2; cases (show _ = Value.none from r2)); exact RcNeAt.none_none
    | bl c2 => (simp only [Brs] at h2; subst h2; cases (show _ = Value.bool c2 from r2)); exact RcNeAt.none_bool c2
    | int c2 => (simp only [Brs] at h2; subst h2; obtain ⟨t2, q2⟩ := (show ∃ t, _ = Value.int c2 t from r2); cases q2); exact RcNeAt.none_int c2 t2
    | str c2 => (simp only [Brs] at h2; subst h2; obtain ⟨t2, q2⟩ := (show ∃ t, _ = Value.str c2 t from r2); cases q2); exact RcNeAt.none_str c2 t2
    | lst es => (simp only [Brs] at h2; obtain ⟨a2, xs2, rfl, hq2, hb2⟩ := h2; cases (show _ = Value.ref a2 from r2); obtain ⟨its2, rv2, p2, _⟩ := I.list hq2); exact RcNeAt.none_list p2.isList hz
    | tup es => (simp only [Brs] at h2; obtain ⟨a2, xs2, rfl, hq2, hb2⟩ := h2; cases (show _ = Value.ref a2 from r2); obtain ⟨its2, rv2, p2, _⟩ := I.tuple hq2); exact RcNeAt.none_tuple p2 hz
  | bl c1 =>
    simp only [Brs] at h1; subst h1; cases (show _ = Value.bool c1 from r1)
    cases e with
    | non => (simp only [Brs] at h2; subst h2; cases (show _ = Value.none from r2)); exact RcNeAt.bool_none c1
    | bl c2 => (simp only [Brs] at h2; subst h2; cases (show _ = Value.bool c2 from r2)); exact RcNeAt.bool_bool c1 c2
    | int c2 => (simp only [Brs] at h2; subst h2; obtain ⟨t2, q2⟩ := (show ∃ t, _ = Value.int c2 t from r2); cases q2); exact RcNeAt.bool_int c1 c2 t2
    | str c2 => (simp only [Brs] at h2; subst h2; obtain ⟨t2, q2⟩ := (show ∃ t, _ = Value.str c2 t from r2); cases q2); exact RcNeAt.bool_str c1 c2 t2
    | lst es => (simp only [Brs] at h2; obtain ⟨a2, xs2, rfl, hq2, hb2⟩ := h2; cases (show _ = Value.ref a2 from r2); obtain ⟨its2, rv2, p2, _⟩ := I.list hq2); exact RcNeAt.bool_list c1 p2.isList hz
    | tup es => (simp only [Brs] at h2; obtain ⟨a2, xs2, rfl, hq2, hb2⟩ := h2; cases (show _ = Value.ref a2 from r2); obtain ⟨its2, rv2, p2, _⟩ := I.tuple hq2); exact RcNeAt.bool_tuple c1 p2 hz
  | int c1 =>
    simp only [Brs] at h1; subst h1; obtain ⟨t1, q1⟩ := (show ∃ t, _ = Value.int c1 t from r1); cases q1
    cases e with
    | non => (simp only [Brs] at h2; subst h2; cases (show _ = Value.none from r2)); exact RcNeAt.int_none c1 t1
    | bl c2 => (simp only [Brs] at h2; subst h2; cases (show _ = Value.bool c2 from r2)); exact RcNeAt.int_bool c1 t1 c2
    | int c2 => (simp only [Brs] at h2; subst h2; obtain ⟨t2, q2⟩ := (show ∃ t, _ = Value.int c2 t from r2); cases q2); exact RcNeAt.int_int c1 t1 c2 t2
    | str c2 => (simp only [Brs] at h2; subst h2; obtain ⟨t2, q2⟩ := (show ∃ t, _ = Value.str c2 t from r2); cases q2); exact RcNeAt.int_str c1 t1 c2 t2
    | lst es => (simp only [Brs] at h2; obtain ⟨a2, xs2, rfl, hq2, hb2⟩ := h2; cases (show _ = Value.ref a2 from r2); obtain ⟨its2, rv2, p2, _⟩ := I.list hq2); exact RcNeAt.int_list c1 t1 p2.isList hz
    | tup es => (simp only [Brs] at h2; obtain ⟨a2, xs2, rfl, hq2, hb2⟩ := h2; cases (show _ = Value.ref a2 from r2); obtain ⟨its2, rv2, p2, _⟩ := I.tuple hq2); exact RcNeAt.int_tuple c1 t1 p2 hz
  | str c1 =>
    simp only [Brs] at h1; subst h1; obtain ⟨t1, q1⟩ := (show ∃ t, _ = Value.str c1 t from r1); cases q1
    cases e with
    | non => (simp only [Brs] at h2; subst h2; cases (show _ = Value.none from r2)); exact RcNeAt.str_none c1 t1
    | bl c2 => (simp only [Brs] at h2; subst h2; cases (show _ = Value.bool c2 from r2)); exact RcNeAt.str_bool c1 t1 c2
    | int c2 => (simp only [Brs] at h2; subst h2; obtain ⟨t2, q2⟩ := (show ∃ t, _ = Value.int c2 t from r2); cases q2); exact RcNeAt.str_int c1 t1 c2 t2
    | str c2 => (simp only [Brs] at h2; subst h2; obtain ⟨t2, q2⟩ := (show ∃ t, _ = Value.str c2 t from r2); cases q2); exact RcNeAt.str_str c1 t1 c2 t2
    | lst es => (simp only [Brs] at h2; obtain ⟨a2, xs2, rfl, hq2, hb2⟩ := h2; cases (show _ = Value.ref a2 from r2); obtain ⟨its2, rv2, p2, _⟩ := I.list hq2); exact RcNeAt.str_list c1 t1 p2.isList hz
    | tup es => (simp only [Brs] at h2; obtain ⟨a2, xs2, rfl, hq2, hb2⟩ := h2; cases (show _ = Value.ref a2 from r2); obtain ⟨its2, rv2, p2, _⟩ := I.tuple hq2); exact RcNeAt.str_tuple c1 t1 p2 hz
  | lst ds =>
    simp only [Brs] at h1; obtain ⟨a1, xs1, rfl, hq1, hb1⟩ := h1; cases (show _ = Value.ref a1 from r1); obtain ⟨its1, rv1, p1, _⟩ := I.list hq1
    cases e with
    | non => (simp only [Brs] at h2; subst h2; cases (show _ = Value.none from r2)); exact RcNeAt.list_none p1.isList hz
    | bl c2 => (simp only [Brs] at h2; subst h2; cases (show _ = Value.bool c2 from r2)); exact RcNeAt.list_bool c2 p1.isList hz
    | int c2 => (simp only [Brs] at h2; subst h2; obtain ⟨t2, q2⟩ := (show ∃ t, _ = Value.int c2 t from r2); cases q2); exact RcNeAt.list_int c2 t2 p1.isList hz
    | str c2 => (simp only [Brs] at h2; subst h2; obtain ⟨t2, q2⟩ := (show ∃ t, _ = Value.str c2 t from r2); cases q2); exact RcNeAt.list_str c2 t2 p1.isList hz
    | lst es =>
      simp only [Brs] at h2; obtain ⟨a2, xs2, rfl, hq2, hb2⟩ := h2; cases (show _ = Value.ref a2 from r2); obtain ⟨its2, rv2, p2, _⟩ := I.list hq2
      have hd : A.in1.units + dpL ds < cLine := by
        have : dp (.lst ds) = dpL ds + 1 := by simp [dp]
        show A.units + 1 + dpL ds < cLine
        omega
      have he : A.in1.units + dpL es < cLine := by
        have : dp (.lst es) = dpL es + 1 := by simp [dp]
        show A.units + 1 + dpL es < cLine
        omega
      have l1 := hb1.length
      have l2 := hb2.length
      have l3 := rv1.length
      have l4 := rv2.length
      rw [show eqD (.lst ds) (.lst es) = eqL ds es by simp [eqD]]
      by_cases hl : ds.length = es.length
      · rw [← eqJ_all hl, show ds.length = its1.toArray.size by rw [List.size_toArray]; omega]
        exact RcNeAt.lists p1.isList p2.isList (by rw [List.size_toArray, List.size_toArray]; omega) hz (eqL_at I ds es hb1 hb2 rv1 rv2 hd he)
      · rw [eqL_len hl]
        exact RcNeAt.lists_lengths p1.isList p2.isList (by rw [List.size_toArray, List.size_toArray]; exact bne_iff_ne.mpr (by omega)) hz
    | tup es => (simp only [Brs] at h2; obtain ⟨a2, xs2, rfl, hq2, hb2⟩ := h2; cases (show _ = Value.ref a2 from r2); obtain ⟨its2, rv2, p2, _⟩ := I.tuple hq2); exact RcNeAt.list_tuple p1.isList p2 hz
  | tup ds =>
    simp only [Brs] at h1; obtain ⟨a1, xs1, rfl, hq1, hb1⟩ := h1; cases (show _ = Value.ref a1 from r1); obtain ⟨its1, rv1, p1, _⟩ := I.tuple hq1
    cases e with
    | non => (simp only [Brs] at h2; subst h2; cases (show _ = Value.none from r2)); exact RcNeAt.tuple_none p1 hz
    | bl c2 => (simp only [Brs] at h2; subst h2; cases (show _ = Value.bool c2 from r2)); exact RcNeAt.tuple_bool c2 p1 hz
    | int c2 => (simp only [Brs] at h2; subst h2; obtain ⟨t2, q2⟩ := (show ∃ t, _ = Value.int c2 t from r2); cases q2); exact RcNeAt.tuple_int c2 t2 p1 hz
    | str c2 => (simp only [Brs] at h2; subst h2; obtain ⟨t2, q2⟩ := (show ∃ t, _ = Value.str c2 t from r2); cases q2); exact RcNeAt.tuple_str c2 t2 p1 hz
    | lst es => (simp only [Brs] at h2; obtain ⟨a2, xs2, rfl, hq2, hb2⟩ := h2; cases (show _ = Value.ref a2 from r2); obtain ⟨its2, rv2, p2, _⟩ := I.list hq2); exact RcNeAt.tuple_list p1 p2.isList hz
    | tup es =>
      simp only [Brs] at h2; obtain ⟨a2, xs2, rfl, hq2, hb2⟩ := h2; cases (show _ = Value.ref a2 from r2); obtain ⟨its2, rv2, p2, _⟩ := I.tuple hq2
      have hd : A.in1.units + dpL ds < cLine := by
        have : dp (.tup ds) = dpL ds + 1 := by simp [dp]
        show A.units + 1 + dpL ds < cLine
        omega
      have he : A.in1.units + dpL es < cLine := by
        have : dp (.tup es) = dpL es + 1 := by simp [dp]
        show A.units + 1 + dpL es < cLine
        omega
      have l1 := hb1.length
      have l2 := hb2.length
      have l3 := rv1.length
      have l4 := rv2.length
      rw [show eqD (.tup ds) (.tup es) = ((List.range (min its1.toArray.size its2.toArray.size)).all (eqJ ds es) && its1.toArray.size == its2.toArray.size) from ?_]
      · exact RcNeAt.tuples p1 p2 hz (eqL_at I ds es hb1 hb2 rv1 rv2 hd he)
      · rw [show eqD (.tup ds) (.tup es) = eqL ds es by simp [eqD], List.size_toArray, List.size_toArray]
        by_cases hl : ds.length = es.length
        · rw [show min its1.length its2.length = ds.length by omega, eqJ_all hl, show (its1.length == its2.length) = true by simp; omega, Bool.and_true]
        · rw [eqL_len hl, show (its1.length == its2.length) = false by simp; omega, Bool.and_false]
/-- ==, != of data -/
def rEqD (K : PySem.W.Frag) (A : Around) : R2 := fun x y H Q => ∃ d e, Brs K H d x ∧ Brs K H e y ∧ A.units + dp d < cLine ∧ A.units + dp e < cLine ∧ Q (.bl (eqD d e)) H
def rNeD (K : PySem.W.Frag) (A : Around) : R2 := fun x y H Q => ∃ d e, Brs K H d x ∧ Brs K H e y ∧ A.units + dp d < cLine ∧ A.units + dp e < cLine ∧ Q (.bl (!eqD d e)) H
theorem op_eqD : OpR X (compareOp .Eq) (rEqD X.K X.A) := by
  intro pins s σ H x y v u Q I rx ry h
  obtain ⟨d, e, h1, h2, hu, hu', q⟩ := h
  exact rc_at I d e h1 h2 rx ry hu hu' _ _ _ _ ⟨.bl (eqD d e), H, I, rfl, q⟩
theorem op_neD : OpR X (compareOp .NotEq) (rNeD X.K X.A) := by
  intro pins s σ H x y v u Q I rx ry h
  obtain ⟨d, e, h1, h2, hu, hu', q⟩ := h
  exact rcne_at I d e h1 h2 rx ry hu hu' _ _ _ _ ⟨.bl (!eqD d e), H, I, rfl, q⟩
end
end Jb

set_option Elab.async false
set_option linter.all false
set_option maxRecDepth 100000
set_option maxHeartbeats 4000000
namespace Jb
open PySem PySem.Spec PyProof.Rows L2
section
variable {prog : Program} {w : World} {A : Around} {E : Value → Shared → Prop} {s : Shared}
/-! ### slices of a tuple, with a step -/
theorem sliceApplied_st {sl : Addr} {vl vu vs : Value} {lo hi st : Option Int} {n : Nat} {Q : Int × Int × Nat → Shared → Prop} (hs : s.heap.IsSliceOf sl vl vu vs) (pl : IsPart vl lo) (pu : IsPart vu hi) (ps : IsPart vs st) (h0 : st.getD 1 ≠ 0)
    (h : Q ((Builtin.Slice.sliceAdjust lo hi (st.getD 1) (n : Int)).1, st.getD 1, Builtin.Slice.slicePlaces (Builtin.Slice.sliceAdjust lo hi (st.getD 1) (n : Int)).1 (Builtin.Slice.sliceAdjust lo hi (st.getD 1) (n : Int)).2 (st.getD 1)) s) :
    wpAny (model prog w) A (Builtin.Slice.sliceApplied (.ref sl) (pure (n : Int))) Q E s := by
  obtain ⟨os, hos, hcs, hds⟩ := id hs
  unfold Builtin.Slice.sliceApplied
  refine wpAny_bind (wpAny_bind (wpAny_field hos hds (x := vl) rfl (wpAny_bind (wpAny_field hos hds (x := vu) rfl (wpAny_bind (wpAny_field hos hds (x := vs) rfl (wpAny_pure ?_)))))))
  refine wpAny_bind (HT.slicePart_ ps ?_)
  have h1 : (st.getD 1 == 0) = false := by simpa using h0
  simp only [h1, Bool.false_eq_true, if_false, pure_bind]
  exact wpAny_bind (HT.slicePart_ pl (wpAny_bind (HT.slicePart_ pu (wpAny_pure h))))
/-- what is picked -/
def pickG {α : Type} (xs : List α) (l st : Int) (k : Nat) : List α := (List.range k).filterMap fun (m : Nat) => xs[(l + (m : Int) * st).toNat]?
theorem getItem_tuple_st {t sl : Addr} {items : List Value} {vl vu vs : Value} {lo hi st : Option Int} {Q : Value → Shared → Prop} (ht : IsTup s.heap t items.toArray) (hs : s.heap.IsSliceOf sl vl vu vs) (pl : IsPart vl lo) (pu : IsPart vu hi) (ps : IsPart vs st) (h0 : st.getD 1 ≠ 0)
    {l h' : Int} (ea : Builtin.Slice.sliceAdjust lo hi (st.getD 1) (items.length : Int) = (l, h')) {k : Nat} (ek : Builtin.Slice.slicePlaces l h' (st.getD 1) = k)
    (hw : (l = 0 ∧ st.getD 1 = 1 ∧ k = items.length) → Q (.ref t) s)
    (hn : ¬ (l = 0 ∧ st.getD 1 = 1 ∧ k = items.length) → Q (.ref s.heap.objs.size) { s with heap := s.heap.push { cls := .type "tuple", data := .seq (pickG items l (st.getD 1) k).toArray } })
    (hsz : (pickG items l (st.getD 1) k).length ≤ sizeLine) : wpAny (model prog w) A (getItem (.ref t) (.ref sl)) Q E s := by
  have htake : sizeOk (.seq (pickG items l (st.getD 1) k).toArray) := by
    show (pickG items l (st.getD 1) k).toArray.size ≤ sizeLine
    rw [List.size_toArray]
    exact hsz
  obtain ⟨os, hos, hcs, hds⟩ := id hs
  have hTs : s.TypeIs (.ref sl) "slice" := ⟨os, hos, hcs⟩
  unfold getItem
  try with_reducible refine wpAny_holding ?_
  first | refine wpAny_bind (wpAny_pure ?_) | skip
  refine wpAny_bind (wpAny_sequenceKey ht.typeIs (by decide) ?_)
  refine wpAny_bind (wpAny_callSpecial?_slot (name := Str.ofString "__getitem__") ht.typeIs PyProof.Rows.slot_tuple_getitem
    (wpAny_call_entry PyProof.Rows.slot_tuple_getitem ht.typeIs entry_tuple_getitem ?_ (args_tuple_getitem _ _)))
  show wpAny _ _ (Builtin.Tuple.tupleItemsOf (.ref t) >>= _) _ _ s
  refine wpAny_bind (tupleItemsOf_ ht ?_)
  refine wpAny_bind (wpAny_typeOf hTs ?_)
  rw [if_pos (by decide)]
  rw [List.size_toArray]
  refine wpAny_bind (sliceApplied_st hs pl pu ps h0 ?_)
  rw [ea, ek]
  dsimp only
  by_cases hc : (l = 0 ∧ st.getD 1 = 1 ∧ k = items.length)
  · rw [if_pos (by simp [hc])]
    refine wpAny_bind ?_
    unfold Builtin.Tuple.tupleIsExact
    refine wpAny_bind (wpAny_typeOf ht.typeIs (wpAny_pure ?_))
    rw [if_pos (by decide)]
    exact wpAny_bind (wpAny_rule (wpAny_pure ⟨_, rfl, wpAny_pure (hw hc)⟩))
  · rw [if_neg (by simpa using hc)]
    have e : (List.filterMap (fun (k : Nat) => items.toArray[(l + (k : Int) * st.getD 1).toNat]?) (List.range k)).toArray = (pickG items l (st.getD 1) k).toArray := by
      unfold pickG
      simp
    rw [e]
    exact wpAny_bind (m := Builtin.Tuple.tupleExact _) (wpAny_newObj_type (wpAny_pure ⟨_, rfl, wpAny_pure (hn hc)⟩) htake)
end
theorem vals_pick {xs : List V} {us : List Value} (r : Vals xs us) (f : Nat → Nat) : ∀ l : List Nat, Vals (l.filterMap fun m => xs[f m]?) (l.filterMap fun m => us[f m]?)
  | [] => .nil
  | m :: l => by
    have ih := vals_pick r f l
    rw [List.filterMap_cons, List.filterMap_cons]
    cases e : xs[f m]? with
    | none =>
      rw [r.none_of e]
      exact ih
    | some x =>
      obtain ⟨u, e', ru⟩ := r.get e
      rw [e']
      exact .cons ru ih
theorem pick_len {α : Type} (xs : List α) (l st : Int) (k : Nat) : (pickG xs l st k).length ≤ k := by
  unfold pickG
  have := List.length_filterMap_le (fun (m : Nat) => xs[(l + (m : Int) * st).toNat]?) (List.range k)
  rw [List.length_range] at this
  exact this
theorem pick_run1 {α : Type} (xs : List α) (i k : Nat) (h : i + k ≤ xs.length) : pickG xs (i : Int) 1 k = (xs.drop i).take k := by
  unfold pickG
  have e : (fun (m : Nat) => xs[((i : Int) + (m : Int) * 1).toNat]?) = fun m => xs[i + m]? := by
    funext m
    have : ((i : Int) + (m : Int) * 1).toNat = i + m := by omega
    rw [this]
  rw [e]
  induction k with
  | zero => simp
  | succ k ih =>
    rw [List.range_succ, List.filterMap_append, ih (by omega), List.take_add_one, List.getElem?_drop]
    congr 1
    try simp [List.getElem?_eq_getElem (show i + k < xs.length by omega)]
theorem pick_rev {α : Type} (xs : List α) : pickG xs ((xs.length : Int) - 1) (-1) xs.length = xs.reverse := by
  unfold pickG
  apply List.ext_getElem?
  intro j
  have key : ∀ n, n ≤ xs.length → (List.range n).filterMap (fun (m : Nat) => xs[((xs.length : Int) - 1 + (m : Int) * -1).toNat]?) = (xs.reverse).take n := by
    intro n
    induction n with
    | zero => intro _; simp
    | succ n ih =>
      intro hn
      rw [List.range_succ, List.filterMap_append, ih (by omega), List.take_add_one]
      congr 1
      have e1 : ((xs.length : Int) - 1 + (n : Int) * -1).toNat = xs.length - 1 - n := by omega
      rw [List.getElem?_reverse (by omega)]
      simp only [List.filterMap_cons, List.filterMap_nil, e1]
      rw [List.getElem?_eq_getElem (by omega)]
      try rfl
  rw [key xs.length (Nat.le_refl _), List.take_of_length_le (by simp)]
section
variable {X : Cx} {e : Expr} {te : TE} {p2 pos : Pos}
/-- t[lo:hi], the whole of it too -/
def rCut (K : PySem.W.Frag) : V → Option Int → Option Int → Hp → VK → Prop := fun x lo hi H Q => ∃ a xs, x = .ref a ∧ SqT K H a xs ∧ (cutV xs lo hi = xs → Q (.ref a) H) ∧ ∀ p, H p = none → Q (.ref p) (upd H p (.tup (cutV xs lo hi)))
theorem sl_cut : SlR X (rCut X.K) := by
  intro pins s σ H x v vl vu lo hi sl Q I rx hs pl pu h
  obtain ⟨a, xs, rfl, hx, q1, q2⟩ := h
  by_cases hw : (HT.sIx xs.length 0 lo = 0 ∧ HT.sIx xs.length xs.length hi = xs.length)
  · have rx0 := rx
    cases rx
    obtain ⟨its, r, ht, hz⟩ := I.tuple hx
    have hlen := r.length
    refine ⟨"tuple", _, PyProof.Rows.slot_tuple_getitem.lookup, ht.typeIs, ?_⟩
    have e1 : Builtin.Slice.sliceAdjust lo hi ((none : Option Int).getD 1) (its.length : Int) = (((0 : Nat) : Int), ((xs.length : Nat) : Int)) := by
      have e1 := HT.adjust_gen lo hi its.length
      rw [← hlen, hw.1, hw.2] at e1
      rw [← hlen]
      exact e1
    refine getItem_tuple_st (items := its) (st := none) ht hs pl pu .none (by decide) e1 rfl (fun _ => ?_) (fun hc => ?_) ?_
    · refine ⟨.ref a, H, I, rfl, q1 ?_⟩
      unfold cutV
      rw [hw.1, hw.2]
      simp
    · refine absurd ⟨rfl, rfl, ?_⟩ hc
      show Builtin.Slice.slicePlaces ((0 : Nat) : Int) ((xs.length : Nat) : Int) 1 = its.length
      rw [HT.places_gen]
      omega
    · refine Nat.le_trans (pick_len _ _ _ _) ?_
      show Builtin.Slice.slicePlaces ((0 : Nat) : Int) ((xs.length : Nat) : Int) 1 ≤ sizeLine
      rw [HT.places_gen]
      omega
  · exact sl_tup pins s σ H _ v vl vu lo hi sl Q I rx hs pl pu ⟨a, xs, rfl, hx, hw, q2⟩
/-- t[::st], st 1 or -1 -/
def rStep (K : PySem.W.Frag) : R2 := fun x y H Q => ∃ a xs, x = .ref a ∧ SqT K H a xs ∧ ((y = .int 1 ∧ Q (.ref a) H) ∨ (y = .int (-1) ∧ ∀ p, H p = none → Q (.ref p) (upd H p (.tup xs.reverse))))
theorem pe_step {es : Expr} {ts : TE} (he : PE X e te) (hs : PE X es ts) : PE X (.Subscript e (.Slice none none (some es) p2) pos) (tOp (rStep X.K) te ts) := by
  intro pins s σ H Q I h
  refine Subscript_ (thn (he pins s σ H _ I h) fun v s1 ⟨x, H1, I1, r1, q1⟩ => ?_)
  refine wpAny_Slice ?_
  rw [evalPart_none]
  refine wpAny_pure (wpAny_pure (wpAny_evalPart_some (thn (hs pins s1 σ H1 _ I1 q1) fun vs s2 ⟨y, H2, I2, r2, q2⟩ => ?_)))
  have I4 : Inv X pins σ H2 { s2 with heap := s2.heap.push { cls := .type "slice", data := .fields #[.none, .none, vs] } } := I2.kept (t' := s2.toks) fun b ob q => Heap.get?_push_of_some _ q
  have hsl : Heap.IsSliceOf (s2.heap.push { cls := .type "slice", data := .fields #[.none, .none, vs] }) s2.heap.objs.size .none .none vs := Heap.IsSliceOf.new ..
  obtain ⟨a, xs, rfl, hx, q⟩ := q2
  cases r1
  obtain ⟨its, r, ht, hz⟩ := I4.tuple hx
  have hlen := r.length
  show wpAny (model X.prog X.w) X.A (subscriptTail e (.Slice none none (some es) p2) (.ref a) (.ref s2.heap.objs.size)) (EP X pins σ Q) X.xe { s2 with heap := s2.heap.push { cls := .type "slice", data := .fields #[.none, .none, vs] } }
  refine tail_any (ops := [.ref a, .ref s2.heap.objs.size]) ht.typeIs PyProof.Rows.slot_tuple_getitem.lookup ?_ (by with_unfolding_all rfl)
  rcases q with ⟨rfl, q⟩ | ⟨rfl, q⟩
  · obtain ⟨t, rfl⟩ := r2
    have e1 : Builtin.Slice.sliceAdjust none none ((some (1 : Int)).getD 1) (its.length : Int) = (0, (its.length : Int)) := rfl
    have e2 : Builtin.Slice.slicePlaces 0 (its.length : Int) ((some (1 : Int)).getD 1) = its.length := by
      show Builtin.Slice.slicePlaces ((0 : Nat) : Int) (its.length : Int) 1 = its.length
      rw [HT.places_gen]
      omega
    refine getItem_tuple_st (items := its) (st := some 1) ht hsl .none .none (.int 1 t) (by decide) e1 e2 (fun _ => ⟨.ref a, H2, I4, rfl, q⟩) (fun hc => absurd ⟨rfl, rfl, rfl⟩ hc) ?_
    exact Nat.le_trans (pick_len _ _ _ _) (by omega)
  · obtain ⟨t, rfl⟩ := r2
    have e1 : Builtin.Slice.sliceAdjust none none ((some (-1 : Int)).getD 1) (its.length : Int) = ((its.length : Int) - 1, -1) := rfl
    have e2 : Builtin.Slice.slicePlaces ((its.length : Int) - 1) (-1) ((some (-1 : Int)).getD 1) = its.length := by
      show (if (-1 : Int) > 0 then _ else (if (its.length : Int) - 1 > -1 then ((its.length : Int) - 1 - (-1) - 1) / (- (-1)) + 1 else 0)).toNat = its.length
      rw [if_neg (by decide), show (- (-1 : Int)) = 1 by decide, Int.ediv_one]
      split <;> omega
    refine getItem_tuple_st (items := its) (st := some (-1)) ht hsl .none .none (.int (-1) t) (by decide) e1 e2 (fun hc => absurd hc.2.1 (by decide)) (fun _ => ?_) ?_
    · show EP X pins σ Q (.ref _) { s2 with heap := Heap.push _ { cls := .type "tuple", data := .seq (pickG its ((its.length : Int) - 1) (-1) its.length).toArray } }
      rw [pick_rev]
      refine ⟨.ref _, _, I4.laid (t' := s2.toks) (o := .tup xs.reverse) (fun b ob q => Heap.get?_push_of_some _ q) (Nat.le_refl _) ?_, rfl, q _ (I4.hok.fresh (Nat.le_refl _))⟩
      exact ⟨by rw [List.length_reverse]; exact hz, _, r.reverse, IsTup.new _ _⟩
    · exact Nat.le_trans (pick_len _ _ _ _) (by omega)
/-- t + u of any tuples -/
def rCatT0 (K : PySem.W.Frag) : R2 := fun x y H Q => ∃ a b xs ys, x = .ref a ∧ y = .ref b ∧ SqT K H a xs ∧ SqT K H b ys ∧ xs.length + ys.length ≤ sizeLine ∧
  (xs = [] → Q (.ref b) H) ∧ (xs ≠ [] → ys = [] → Q (.ref a) H) ∧ (xs ≠ [] → ys ≠ [] → ∀ p, H p = none → Q (.ref p) (upd H p (.tup (xs ++ ys))))
theorem op_catT0 : OpR X (binaryOp .Add) (rCatT0 X.K) := by
  intro pins s σ H x y v u Q I rx ry h
  obtain ⟨a, b, xs, ys, rfl, rfl, ha, hb, hz, q0, q1, q2⟩ := h
  by_cases hx : xs = []
  · cases rx
    cases ry
    obtain ⟨its, r1, p1, _⟩ := I.tuple ha
    obtain ⟨its2, r2, p2, _⟩ := I.tuple hb
    obtain ⟨⟨cls, dd, data, sl⟩, ho, hc, n, hd⟩ := id p1
    obtain ⟨⟨cls2, dd2, data2, sl2⟩, ho2, hc2, n2, hd2⟩ := id p2
    simp only at hc hd hc2 hd2
    subst hc hd hc2 hd2
    exact concat_meets ⟨_, ho, rfl⟩ ⟨_, ho2, rfl⟩ noFill_tuple_add seq_tuple_add PySem.F.slot_tuple_add PySem.F.entry_tuple_add (PySem.F.args_tuple_add_2 _ _)
      (tuple_addW0 a b its.toArray its2.toArray n n2 dd dd2 sl sl2 (by rw [r1.nil_iff.mpr hx]; rfl)) ⟨ho, ho2, ⟨.ref b, H, I, rfl, q0 hx⟩⟩
  · exact op_catT pins s σ H _ _ v u Q I rx ry ⟨a, b, xs, ys, rfl, rfl, ha, hb, hx, hz, q1 hx, q2 hx⟩
end
end Jb

set_option Elab.async false
set_option linter.all false
set_option maxRecDepth 100000
set_option maxHeartbeats 4000000
namespace Jb
open PySem PySem.Spec PyProof.Rows L2
section
variable {X : Cx} {pins : List (Addr × Obj)} {σ : L2.St} {H : Hp} {s : Shared} {h' : Heap}
/-- records of ours have turned, and a new object is laid -/
theorem inv_turn {fp : List Addr} {t' : Nat} {p : Addr} {o : HO} (I : Inv X pins σ H s) (hf : ∀ b ∈ fp, FpOk X pins H b) (keep : ∀ b u, b ∉ fp → s.heap.get? b = some u → h'.get? b = some u) (hp : s.heap.objs.size ≤ p)
    (new : ObjOk X.prog X.w (upd H p o) h' p o) : Inv X pins σ (upd H p o) { s with heap := h', toks := t' } := by
  have hn : H p = none := I.hok.fresh hp
  have nf : ∀ b u, H b = some u → b ∉ fp := fun b u e hb => by rw [(hf b hb).1] at e; cases e
  have np : ∀ b u, s.heap.get? b = some u → b ≠ p := fun b u e => Nat.ne_of_lt (Nat.lt_of_lt_of_le (Heap.lt_size e) hp)
  refine I.step (g' := s.gens) (d' := s.drawn) (ch := fp) (fun b hb => ⟨(hf b hb).2.2.2.1, (hf b hb).2.1, (hf b hb).2.2.2.2.1, (hf b hb).2.2.2.2.2⟩) (fun b u _ _ hc e _ => keep b u hc e) (fun b u _ _ hc e _ => ⟨u.slots, keep b u hc e⟩)
    (fun b u _ e n => by rw [upd_ne (np b u e)]; exact n) (fun b u hc e => ⟨u, keep b u hc e⟩) (fun b xs e => by rw [upd_ne (ne_of_none e hn)]; exact e) (fun b ob u e => by rw [upd_ne (ne_of_none e hn)]; exact e)
    (fun b ps e => ⟨#[], by rw [upd_ne (ne_of_none e hn), e]; simp⟩) (fun m hm => ?_) (fun b u e => ?_) I.bare
  · obtain ⟨ob, es, ep, ho, r⟩ := hm
    exact ⟨ob, es, ep, keep _ ob (fun z => (hf _ z).2.1 rfl) ho, r⟩
  · by_cases hb : b = p
    · subst hb
      rw [upd_same] at e
      cases e
      exact new
    · rw [upd_ne hb] at e
      refine (I.hok b u e).stay (fun c v hc q => keep c v ?_ q) (fun c q => by rw [upd_ne (ne_of_none q hn)]; exact q) fun c xs q => by rw [upd_ne (ne_of_none q hn)]; exact q
      rcases hc with z | z
      · rw [z]
        exact nf b u e
      · exact nf c _ z
/-- records of ours have turned -/
theorem inv_turns {fp : List Addr} {t' : Nat} (I : Inv X pins σ H s) (hf : ∀ b ∈ fp, FpOk X pins H b) (keep : ∀ b u, b ∉ fp → s.heap.get? b = some u → h'.get? b = some u) : Inv X pins σ H { s with heap := h', toks := t' } := by
  have nf : ∀ b u, H b = some u → b ∉ fp := fun b u e hb => by rw [(hf b hb).1] at e; cases e
  refine I.step (g' := s.gens) (d' := s.drawn) (ch := fp) (fun b hb => ⟨(hf b hb).2.2.2.1, (hf b hb).2.1, (hf b hb).2.2.2.2.1, (hf b hb).2.2.2.2.2⟩) (fun b u _ _ hc e _ => keep b u hc e) (fun b u _ _ hc e _ => ⟨u.slots, keep b u hc e⟩)
    (fun b u _ e n => n) (fun b u hc e => ⟨u, keep b u hc e⟩) (fun b xs e => e) (fun b ob u e => e) (fun b ps e => ⟨#[], by rw [e]; simp⟩) (fun m hm => ?_) (fun b u e => ?_) I.bare
  · obtain ⟨ob, es, ep, ho, r⟩ := hm
    exact ⟨ob, es, ep, keep _ ob (fun z => (hf _ z).2.1 rfl) ho, r⟩
  · refine (I.hok b u e).stay (fun c v hc q => keep c v ?_ q) (fun c q => q) fun c xs q => q
    rcases hc with z | z
    · rw [z]
      exact nf b u e
    · exact nf c _ z
end
/-! ### for i, x in enumerate(list) -/
def Ite (K : PySem.W.Frag) (a : Addr) : It :=
  ⟨fun i H => ∃ xs x, SqL K H a xs ∧ xs[i]? = some x, fun i H x H' => ∃ p v, H p = none ∧ x = .ref p ∧ (∀ xs, SqL K H a xs → xs[i]? = some v) ∧ H' = upd H p (.tup [.int i, v]), fun i H => ∃ xs, SqL K H a xs ∧ xs.length ≤ i⟩
theorem turn_enum {P : Program} {w : World} {K : PySem.W.Frag} {elts : List Expr} {x1} {pos : Pos} (a e it : Addr) (hne : e ≠ it) :
    Turn P w K (.Tuple elts x1 pos) (Ite K a) [e, it] e (fun i h => (∃ old, IsEnum h e it (i : Int) old) ∧ h.IsListIter it a i) where
  mem := by simp
  obj := fun i h st b hb => by
    obtain ⟨⟨old, he⟩, o, ho, c, d⟩ := st
    rcases List.mem_cons.mp hb with z | z
    · subst z
      exact ⟨_, he, fun v z => by cases z⟩
    · have z : b = it := by simpa using z
      subst z
      exact ⟨o, ho, fun v z => by rw [d] at z; cases z⟩
  keep := fun i h h' st k => by
    obtain ⟨⟨old, he⟩, hit⟩ := st
    exact ⟨⟨old, k e (by simp) _ he⟩, hit.at fun o q => k it (by simp) o q⟩
  item := by
    intro X hP hw hK hc i pins s σ H E I hf st hg
    subst hP hw hK
    obtain ⟨xs, x, hq, hx⟩ := hg
    obtain ⟨its, rv, p, hz⟩ := I.list hq
    obtain ⟨u, hu, ru⟩ := rv.get hx
    obtain ⟨⟨old, he⟩, hit⟩ := st
    refine wpAny_pyNext_enum_item he hit p.isList (x := u) (by simpa using hu) hne fun h1 ho1 hit1 ht1 hsz1 k1 => ?_
    refine ⟨.ref s.heap.objs.size, rfl, wpAny_letOwnedTupleGo_enum ho1 fun h2 he2 sb2 => ?_⟩
    have hel : e < s.heap.objs.size := Heap.lt_size he
    have hpe : s.heap.objs.size ≠ e := Nat.ne_of_gt hel
    have ht2 : h2.get? s.heap.objs.size = some { cls := .type "tuple", data := .seq #[.int i s.toks, u] } := sb2.extBut _ _ hpe ht1
    have I2 : Inv X pins σ (upd H s.heap.objs.size (.tup [.int i, x])) { s with heap := h2, toks := s.toks + 1 } := by
      refine inv_turn (fp := [e, it]) (t' := s.toks + 1) I hf (fun b o hb q => ?_) (Nat.le_refl _) ?_
      · have n1 : b ≠ e := fun z => hb (by simp [z])
        have n2 : b ≠ it := fun z => hb (by simp [z])
        exact sb2.extBut b o n1 (k1 b o n1 n2 q)
      · exact ⟨by show 2 ≤ sizeLine; decide, [.int i s.toks, u], .cons ⟨_, rfl⟩ (.cons ru .nil), _, ht2, rfl, _, rfl⟩
    refine ⟨.ref s.heap.objs.size, upd H s.heap.objs.size (.tup [.int i, x]), I2, rfl, ⟨_, x, I.hok.fresh (Nat.le_refl _), rfl, fun ys hy => by rw [I.list_inj hy hq]; exact hx, rfl⟩, ?_, fun b hb => ?_⟩
    · refine ⟨⟨u, ?_⟩, hit1.extBut sb2.extBut (Ne.symm hne)⟩
      have e1 : (((i + 1 : Nat)) : Int) = (i : Int) + 1 := by omega
      rw [e1]
      exact he2
    · rw [upd_ne]
      · exact (hf b hb).1
      · intro z
        rw [z] at hb
        rcases List.mem_cons.mp hb with q | q
        · exact hpe q
        · have q : s.heap.objs.size = it := by simpa using q
          obtain ⟨o, ho, _⟩ := hit
          exact absurd (Heap.lt_size ho) (by rw [q]; exact Nat.lt_irrefl _)
  done := by
    intro X hP hw hK hc i pins s σ H E I hf st hg
    subst hP hw hK
    obtain ⟨xs, hq, hx⟩ := hg
    obtain ⟨its, rv, p, hz⟩ := I.list hq
    obtain ⟨⟨old, he⟩, hit⟩ := st
    have hl := rv.length
    refine wpAny_pyNext_enum_end (I.ok.hd hc) he hit p.isList (by simp; omega) fun h1 eb => ⟨rfl, ?_⟩
    exact inv_turns (fp := [e, it]) (t' := s.toks) I hf fun b o hb q => eb b o (fun z => hb (by simp [z])) q
  self := fun A i s Q E st h => by
    obtain ⟨⟨old, he⟩, _⟩ := st
    exact wpAny_pyIter_enum he h
section
variable {X : Cx} {elts : List Expr} {x1 : Nat} {tpos : Pos}
def iEnum (K : PySem.W.Frag) (ta : TA) : TI := fun σ H R => ta σ H fun vs H1 => ∃ a, vs = [.ref a] ∧ (∃ xs, SqL K H1 a xs) ∧ R (Ite K a) H1
theorem pi_enum {a : Expr} {ta : TA} {p pos : Pos} {x1} (hg : Gl X "enumerate") (hm : X.mg "enumerate" = none) (ha : PA X [a] ta) (hs : starEach [a] X.env = [(false, eval a X.env)] := by rfl) : PI X (.Tuple elts x1 tpos) (.Call (.Name "enumerate" p) [a] [] pos) (iEnum X.K ta) := by
  intro pins s σ H R I h
  refine Call_ (ld_blt I hg hm boot_enumerate (PyProof.Rows.callWith_type1 (thn (ha pos pins s σ H _ I h) fun us s1 ⟨vs, H1, I1, r1, q1⟩ => ?_) hs rfl))
  obtain ⟨l, e, ⟨xs, hq⟩, q⟩ := q1
  subst e
  obtain ⟨u, rfl, ru⟩ := vals1 r1
  cases ru
  obtain ⟨its, rv, pl, hz⟩ := I1.list hq
  refine call_enumerate_list pl.isList fun h1 he hit hsz k1 => ?_
  have I2 : Inv X pins σ H1 { s1 with heap := h1 } := I1.kept (t' := s1.toks) k1
  refine wpAny_pyIter_enum he ?_
  refine ⟨s1.heap.objs.size + 1, [s1.heap.objs.size + 1, s1.heap.objs.size], _, _, H1, rfl, I2, turn_enum l _ _ (Nat.succ_ne_self _), ⟨⟨_, he⟩, hit⟩, fun b hb => ?_, q⟩
  have hb2 : s1.heap.objs.size ≤ b := by
    rcases List.mem_cons.mp hb with z | z
    · rw [z]; exact Nat.le_succ _
    · have z : b = s1.heap.objs.size := by simpa using z
      rw [z]; exact Nat.le_refl _
  exact I1.fpOk hb2 (I1.hok.fresh hb2)
end
theorem for_enum {K : PySem.W.Frag} {a : Addr} {xs : List V} {g : TG} {tb : TS} {D : Ends} {σ : L2.St} {H : Hp} (Pv : Nat → L2.St → Hp → Prop) (h0 : Pv 0 σ H) (hl : ∀ i σ H, i ≤ xs.length → Pv i σ H → SqL K H a xs)
    (hs : ∀ i x σ H p, xs[i]? = some x → Pv i σ H → H p = none → g (.ref p) σ (upd H p (.tup [.int i, x])) fun σ2 H2 => tb { D with nx := Pv (i + 1), ct := Pv (i + 1), bk := D.nx } σ2 H2) (hd : ∀ σ H, Pv xs.length σ H → D.nx σ H) :
    ∃ W : Nat → Nat → L2.St → Hp → Prop, (∃ m, W 0 m σ H) ∧ ∀ i m σ H, W i m σ H →
      ((Ite K a).stop i H ∧ D.nx σ H) ∨ ((Ite K a).go i H ∧ ∃ N : L2.St → Hp → Prop, (∀ σ' H', N σ' H' → ∃ m', m' < m ∧ W (i + 1) m' σ' H') ∧ ∀ x H', (Ite K a).yld i H x H' → g x σ H' fun σ2 H2 => tb { D with nx := N, ct := N, bk := D.nx } σ2 H2) := by
  refine ⟨fun i m σ H => m = xs.length - i ∧ i ≤ xs.length ∧ Pv i σ H, ⟨xs.length, by simp, Nat.zero_le _, h0⟩, ?_⟩
  rintro i m σ H ⟨rfl, hi, p⟩
  have q := hl i σ H hi p
  by_cases hlt : i < xs.length
  · refine .inr ⟨⟨xs, xs[i], q, by simp [hlt]⟩, Pv (i + 1), fun σ' H' p' => ⟨xs.length - (i + 1), by omega, rfl, hlt, p'⟩, fun x H' y => ?_⟩
    obtain ⟨r, v, hr, rfl, y, rfl⟩ := y
    exact hs i v σ _ r (y xs q) p hr
  · have e : i = xs.length := by omega
    subst e
    exact .inl ⟨⟨xs, q, Nat.le_refl _⟩, hd σ H p⟩
end Jb

set_option Elab.async false
set_option linter.all false
set_option maxRecDepth 100000
set_option maxHeartbeats 4000000
namespace PySem
open Sem (wp)
theorem F.first_AttributeError : ((Manifest.find? "AttributeError").elim false fun t => t.mro.contains "StopIteration" || t.mro.contains "SystemExit") = false := by decide +kernel
theorem F.sub_AttributeError : isSubtype (.type "AttributeError") (.type "AttributeError") = pure true := by rw [isSubtype_type]; kernel_rfl
section
variable {prog : Program} {w : World} {A : Around} {E : Value → Shared → Prop}
theorem wpAny_raiseAttr {α : Type} {o : Value} {name msg : Str} {Q : α → Shared → Prop} {h : Heap} {g : Array GenState} {d : Drawn} {t : Nat} {os : OsState} (hh : A.handled = none) (hm : msg.length ≤ sizeLine)
    (hq : ∀ h' tk e, (∀ b u, h.get? b = some u → h'.get? b = some u) → (∃ oe, h'.get? e = some oe ∧ oe.cls = .type "AttributeError") → E (.ref e) ⟨h', g, d, tk, os⟩) : wpAny (model prog w) A (raiseAttrError o name msg : Sem α) Q E ⟨h, g, d, t, os⟩ := by
  unfold raiseAttrError
  refine wpAny_bind (wpAny_mkStr (wpAny_bind ?_) hm)
  unfold newExc newTuple
  refine wpAny_bind (wpAny_newObj_type ?_)
  refine wpAny_bind (m := firstArgMember _ _) (wpAny_of_eq (a := Value.none) (by simp only [firstArgMember, F.first_AttributeError]; rfl) ?_)
  refine wpAny_newObj_type ?_
  refine wpAny_bind (wpAny_mkText (wpAny_bind ?_))
  dsimp only
  generalize hH1 : h.push { cls := .type "tuple", dict := none, data := .seq [Value.str msg t].toArray } = H1
  generalize hob : ({ cls := .type "AttributeError", dict := none, data := .fields (#[.ref h.objs.size, .none, .none, .none, .bool false, .none] ++ ownMembersOf (.type "AttributeError") [Value.str msg t]) } : Obj) = ob
  have he : (H1.push ob).get? H1.objs.size = some ob := Heap.get?_push_size _ (by subst hob; rfl)
  have hT : (⟨H1.push ob, g, d, t + 1 + 1, os⟩ : Shared).TypeIs (.ref H1.objs.size) "AttributeError" := ⟨_, he, by subst hob; rfl⟩
  have f1 := F.sub_AttributeError
  have old : ∀ b u, h.get? b = some u → (H1.push ob).get? b = some u := fun b u e => Heap.get?_push_of_some _ (hH1 ▸ Heap.get?_push_of_some _ e)
  have hcls : ob.cls = .type "AttributeError" := by subst hob; rfl
  obtain ⟨vs, hds, hv6, hv7⟩ : ∃ vs, ob.data = .fields vs ∧ vs[6]? = some unsetMember ∧ vs[7]? = some unsetMember := by subst hob; exact ⟨_, rfl, rfl, rfl⟩
  unfold noteAttr
  dsimp only
  refine wpAny_bind ?_
  unfold lacksNameAndObj
  refine wpAny_bind (wpAny_isInstance hT f1 ?_)
  simp only [Bool.not_true, Bool.false_eq_true, if_false]
  refine wpAny_bind (wpAny_load he ?_)
  rw [hds]
  dsimp only
  rw [hv6, hv7]
  show wpAny (model prog w) A (pure true) _ _ _
  refine wpAny_pure ?_
  rw [if_pos rfl]
  refine wpAny_bind (wpAny_rule (wpAny_bind (wpAny_typeOf hT ?_)))
  dsimp only
  unfold layMembers
  refine wpAny_bind (wpAny_load he ?_)
  rw [hds]
  dsimp only
  refine wpAny_update he ?_
  unfold raiseNew
  refine wpAny_bind (wpAny_handled ?_)
  rw [hh]
  dsimp only
  have hlt : h.objs.size < H1.objs.size := by rw [← hH1, Heap.size_push]; exact Nat.lt_succ_self _
  refine wpAny_throw (hq _ _ _ (fun b u e => ?_) ⟨_, Heap.get?_update_self _ he (Obj.isFreed_of_fields (Obj.data_mapFields hds _)), (Obj.cls_mapFields ..).trans hcls⟩)
  exact (Heap.get?_update_other (H1.push ob) _ (Ne.symm (Nat.ne_of_lt (Nat.lt_trans (Heap.lt_size e) hlt)))).trans (old b u e)
theorem F.lk_list_keys : typeLookup (.type "list") "keys" = pure none := by rw [typeLookup_type, builtinLookup_eq_fast]; kernel_rfl
theorem F.lk_list_getattr : typeLookup (.type "list") "__getattr__" = pure none := by rw [typeLookup_type, builtinLookup_eq_fast]; kernel_rfl
variable {h : Heap} {g : Array GenState} {d : Drawn} {t : Nat} {os : OsState} {a : Addr} {items : Array Value} {n : Nat}
def NoKeys (E : Value → Shared → Prop) (h : Heap) (g : Array GenState) (d : Drawn) (os : OsState) : Prop := ∀ h' tk e, (∀ b u, h.get? b = some u → h'.get? b = some u) → (∃ oe, h'.get? e = some oe ∧ oe.cls = .type "AttributeError") → E (.ref e) ⟨h', g, d, tk, os⟩
theorem keys_entry_list {tk : Tok} {Q : Fin → Shared → Prop} (hh : A.handled = none) (hx : h.get? a = some { cls := .type "list", data := .seq items n }) (hq : NoKeys E h g d os) :
    wpAny (model prog w) A (Builtin.«object.__getattribute__» ⟨[.ref a, .str "keys" tk], []⟩) Q E ⟨h, g, d, t, os⟩ := by
  have hT : (⟨h, g, d, t, os⟩ : Shared).TypeIs (.ref a) "list" := ⟨_, hx, rfl⟩
  have f4 := F.lk_list_keys
  repeat (any_goals (first | assumption | wp_step))
  exact wpAny_raiseAttr hh (by decide +kernel) hq
theorem keys_call_list {tk : Tok} {R : Result → Shared → Prop} (hh : A.handled = none) (hx : h.get? a = some { cls := .type "list", data := .seq items n }) (hq : NoKeys (fun e s => R (.error e) s) h g d os) :
    codeAny (model prog w) A (.call (.builtin "list.__getattribute__") ⟨[.ref a, .str "keys" tk], []⟩) R ⟨h, g, d, t, os⟩ :=
  codeAny_call_builtin F.slot_list_getattribute.plain F.entry_list_ga (F.slot_list_getattribute.check _ _ _ _ _ _ _ _ (show (⟨h, g, d, t, os⟩ : Shared).TypeIs (.ref a) "list" from ⟨_, hx, rfl⟩) (F.args_list_getattribute_2 _ _) (keys_entry_list hh hx hq))
theorem keys_by_list {tk : Tok} {Q : Value → Shared → Prop} (hh : A.handled = none) (hx : h.get? a = some { cls := .type "list", data := .seq items n }) (hq : NoKeys E h g d os) : wpAny (model prog w) A (getAttrBy (.ref a) (.str "keys" tk) false) Q E ⟨h, g, d, t, os⟩ := by
  have hT : (⟨h, g, d, t, os⟩ : Shared).TypeIs (.ref a) "list" := ⟨_, hx, rfl⟩
  have f2 := F.slot_list_getattribute.lookup
  have f3 := F.slot_list_getattribute.bind (.ref a)
  repeat (any_goals (first | assumption | wp_step))
  refine keys_call_list hh hx fun h' tk' e old he => ?_
  obtain ⟨oe, he1, he2⟩ := id he
  have hT' : (⟨h', g, d, tk', os⟩ : Shared).TypeIs (.ref e) "AttributeError" := ⟨oe, he1, he2⟩
  dsimp only
  unfold getattributeRaised
  refine wpAny_bind (wpAny_isInstance hT' F.sub_AttributeError ?_)
  rw [if_pos rfl]
  refine wpAny_bind (wpAny_of_eq (show hookBehind (.type "list") none = pure none from F.lk_list_getattr) ?_)
  show wpAny (model prog w) A (attributeErrorLeaves (.ref a) (.str "keys" tk) (.ref e) false false) Q E ⟨h', g, d, tk', os⟩
  unfold attributeErrorLeaves
  dsimp only
  rw [if_pos (show (!false) = true from rfl)]
  first | exact wpAny_throw (hq h' tk' e old he) | exact wpAny_bind (wpAny_throw (hq h' tk' e old he))
theorem keys_attr_list {Q : Option Value → Shared → Prop} (hh : A.handled = none) (hx : h.get? a = some { cls := .type "list", data := .seq items n })
    (hq : ∀ h' tk, (∀ b u, h.get? b = some u → h'.get? b = some u) → Q none ⟨h', g, d, tk, os⟩) : wpAny (model prog w) A (getAttr? (.ref a) "keys") Q E ⟨h, g, d, t, os⟩ := by
  unfold getAttr? getAttrBy?
  refine wpAny_bind (wpAny_mkText (wpAny_bind (wpAny_attempt (keys_by_list hh hx fun h' tk' e old he => ?_))))
  obtain ⟨oe, he1, he2⟩ := id he
  have hT' : (⟨h', g, d, tk', os⟩ : Shared).TypeIs (.ref e) "AttributeError" := ⟨oe, he1, he2⟩
  dsimp only
  refine wpAny_bind (wpAny_isInstance hT' F.sub_AttributeError ?_)
  rw [if_pos rfl]
  exact wpAny_pure (hq h' tk' old)
end
end PySem

set_option Elab.async false
set_option linter.all false
set_option maxRecDepth 100000
set_option maxHeartbeats 4000000
namespace PySem
namespace F
theorem entry_dict_update_loop : entryFor table "dict.update.loop" = some Builtin.«dict.update.loop» := entryFor_of_tree (by kernel_rfl)
theorem plain_dict_update_loop : plainId "dict.update.loop" = true := by decide +kernel
end F
end PySem
namespace Jb
open PySem PySem.Spec PyProof.Rows L2
section
variable {X : Cx} {pins : List (Addr × Obj)} {σ : L2.St} {A : Around}
def putAll (kvs : List (Key × V)) (prs : List (Key × V)) : List (Key × V) := prs.foldl (fun acc kv => putK acc kv.1 kv.2) kvs
theorem putAll_len : ∀ (prs kvs : List (Key × V)), (putAll kvs prs).length ≤ kvs.length + prs.length
  | [], kvs => by simp [putAll]
  | p :: r, kvs => by
    have h1 := putAll_len r (putK kvs p.1 p.2)
    have h2 := length_putK kvs p.1 p.2
    have e : putAll kvs (p :: r) = putAll (putK kvs p.1 p.2) r := rfl
    rw [e, List.length_cons]
    omega
theorem dict_loop {D it l : Addr} {xs : List V} {prs : List (Key × V)} {R : Result → Shared → Prop} (hh : A.handled = none) (hlen : prs.length = xs.length) : ∀ (m i : Nat) (kvs : List (Key × V)) (H : Hp) (s : Shared), xs.length - i = m → i ≤ xs.length →
    Inv X pins σ H s → H D = some (.dK kvs) → SqL X.K H l xs → FpOk X pins H it → s.heap.IsListIter it l i → (∀ (j : Nat) (k : Key) (v : V), prs[j]? = some (k, v) → ∃ p : Addr, xs[j]? = some (V.ref p) ∧ H p = some (.tup [kV k, v])) → kvs.length + m ≤ 100000 →
    (∀ s', Inv X pins σ (upd H D (.dK (putAll kvs (prs.drop i)))) s' → R (.ok (.ret .none)) s') → codeAny (model X.prog X.w) A (.builtin "dict.update.loop" ⟨[.ref D, .ref it, rawInt i, .none], []⟩) R s := by
  intro m
  induction m with
  | zero =>
    intro i kvs H s hm hi I hD hq hf hit hp hz k
    have e : i = xs.length := by omega
    subst e
    obtain ⟨its, rv, p, _⟩ := I.list hq
    have hl := rv.length
    refine codeAny_builtin F.entry_dict_update_loop ?_
    rw [Around.under_plainId F.plain_dict_update_loop _]
    unfold Builtin.«dict.update.loop»
    dsimp only
    refine wpAny_bind (wpAny_pyNext_list_end (show A.in1.handled = none from hh) hit p.isList (by simp; omega) fun h' eb => ?_)
    dsimp only
    have I1 : Inv X pins σ H { s with heap := h' } := inv_turns (fp := [it]) (t' := s.toks) I (fun b hb => by rw [List.mem_singleton.mp hb]; exact hf) fun b o hb q => eb b o (fun z => hb (by simp [z])) q
    have e1 : prs.drop xs.length = [] := by rw [← hlen, List.drop_length]
    have k1 := k _ (by
      rw [e1]
      show Inv X pins σ (upd H D (.dK kvs)) { s with heap := h' }
      have : upd H D (.dK kvs) = H := by
        funext b
        unfold upd
        split
        · rename_i z
          rw [z, hD]
        · rfl
      rw [this]
      exact I1)
    show wpAny (model X.prog X.w) A.in1 (Builtin.Dict.addKeywords D [] >>= fun _ => ret .none) _ _ _
    exact wpAny_bind (wpAny_pure (wpAny_pure k1))
  | succ m ih =>
    intro i kvs H s hm hi I hD hq hf hit hp hz k
    have hlt : i < xs.length := by omega
    obtain ⟨its, rv, p, _⟩ := I.list hq
    have hl := rv.length
    have hlp : i < prs.length := by omega
    obtain ⟨t, ht, hT⟩ := hp i prs[i].1 prs[i].2 (by rw [List.getElem?_eq_getElem hlp])
    obtain ⟨u, hu, ru⟩ := rv.get ht
    cases ru
    refine codeAny_builtin F.entry_dict_update_loop ?_
    rw [Around.under_plainId F.plain_dict_update_loop _]
    unfold Builtin.«dict.update.loop»
    dsimp only
    refine wpAny_bind (wpAny_pyNext_list_item hit p.isList (x := .ref t) (by simpa using hu) fun h1 hit1 sb1 => ?_)
    dsimp only
    have I1 : Inv X pins σ H { s with heap := h1 } := inv_turns (fp := [it]) (t' := s.toks) I (fun b hb => by rw [List.mem_singleton.mp hb]; exact hf) fun b o hb q => (sb1.2 b (fun z => hb (by simp [z]))).trans q
    obtain ⟨_, jts, rj, oj, ej, cj, nj, dj⟩ := (show ObjOk X.prog X.w H h1 t (.tup [kV prs[i].1, prs[i].2]) from I1.hok t _ hT)
    obtain ⟨ku, vu, rfl, rk, rw'⟩ := vals2 rj
    have hTT : (({ s with heap := h1 } : Shared)).TypeIs (.ref t) "tuple" := ⟨oj, ej, cj⟩
    refine wpAny_bind (wpAny_holding (wpAny_bind (wpAny_tryCatch ?_)))
    unfold Builtin.Dict.pairItems
    refine wpAny_bind (wpAny_typeOf hTT ?_)
    rw [if_pos (by decide)]
    refine wpAny_bind (wpAny_seqItems ej dj (wpAny_pure ?_))
    show wpAny (model X.prog X.w) A.in1 (holding [ku, vu] (dictSet D ku vu)) _ _ _
    obtain ⟨z, hd, vs, rel, dd⟩ := dk_of I1.hok hD
    have hz2 : vs.length ≤ sizeLine := by rw [← rel.length]; exact z
    have hsl : 200000 ≤ sizeLine := by decide
    have hl2 : (putK kvs prs[i].1 prs[i].2).length ≤ sizeLine := by have := length_putK kvs prs[i].1 prs[i].2; omega
    refine wpAny_holding (wpAny_dictSet_pairs (hsz := hz2) (kV_is rk) dd fun h2 dd2 sb2 => ?_)
    have I2 : Inv X pins σ (upd H D (.dK (putK kvs prs[i].1 prs[i].2))) { s with heap := h2, toks := s.toks + 1 } := by
      have he : ∃ q, h2.get? D = some q := let ⟨q, _, _, hq, _⟩ := dd2; ⟨q, hq⟩
      exact d_write (s := ({ s with heap := h1 } : Shared)) (t' := s.toks + 1) I1 (by rw [hD]; exact True.intro) sb2 he (dk_new hl2 hd (rel.put prs[i].1 rw') dd2)
    have nDt : ∀ p ys, H p = some (.tup ys) → p ≠ D := fun p ys e => ne_of e hD (by intro z; cases z)
    have nDi : it ≠ D := fun z => by have := hf.1; rw [z, hD] at this; cases this
    show wpAny (model X.prog X.w) A.in1 (again (.builtin "dict.update.loop" ⟨[.ref D, .ref it, rawInt ((i : Int) + 1), .none], []⟩)) _ _ _
    refine wpAny_pure ⟨plainId_quiet F.plain_dict_update_loop _, ?_⟩
    have ei : ((i : Int) + 1) = ((i + 1 : Nat) : Int) := by omega
    rw [ei]
    have hlk := length_putK kvs prs[i].1 prs[i].2
    refine ih (i + 1) (putK kvs prs[i].1 prs[i].2) _ _ (by omega) hlt I2 upd_same ?_ ?_ (hit1.extBut sb2.extBut nDi) ?_ (by omega) (fun s' I' => k s' ?_)
    · rcases hq with (hq | ⟨o, hq⟩) | hq
      · exact .inl (.inl (by rw [upd_ne (ne_of hq hD (by intro z; cases z))]; exact hq))
      · exact .inl (.inr ⟨o, by rw [upd_ne (ne_of hq hD (by intro z; cases z))]; exact hq⟩)
      · exact .inr hq
    · exact ⟨by rw [upd_ne nDi]; exact hf.1, hf.2⟩
    · intro j kk vv e
      obtain ⟨p, h1, h2⟩ := hp j kk vv e
      exact ⟨p, h1, by rw [upd_ne (nDt p _ h2)]; exact h2⟩
    · rw [upd_upd] at I'
      rw [List.drop_eq_getElem_cons hlp]
      exact I'
/-- dict([(k, v), ..]) of a list of pairs with written kinds of keys -/
theorem call_dict_pairs (hc : X.calm = true) : CallR X (.type "dict") (fun xs H Q => ∃ l ys prs, xs = [.ref l] ∧ H l = some (.lst ys) ∧ List.length prs = List.length ys ∧ List.length prs ≤ 50000 ∧
    (∀ (j : Nat) (k : Key) (v : V), prs[j]? = some (k, v) → ∃ p : Addr, ys[j]? = some (V.ref p) ∧ H p = some (.tup [kV k, v])) ∧ ∀ D, H D = none → Q (.ref D) (upd H D (.dK (putAll [] prs)))) := by
  intro pins s σ H xs us Q I r h
  obtain ⟨l, ys, prs, rfl, hl, hlen, hsz, hp, q⟩ := h
  obtain ⟨u, rfl, ru⟩ := vals1 r
  cases ru
  have hh : X.A.handled = none := I.ok.hd hc
  refine callType_codes (Q₁ := fun obj s₁ => obj = .ref s.heap.objs.size ∧ s₁ = { s with heap := s.heap.push { cls := .type "dict", data := .dict #[] } }) F.kt_called_dict (F.kt_typeCall_dict_1 _) F.entry_dict_init (kt_code_dict_new _ ⟨rfl, rfl⟩) ?_
  rintro obj s₁ ⟨rfl, rfl⟩
  have hD0 : H s.heap.objs.size = none := I.fresh
  have I1 : Inv X pins σ (upd H s.heap.objs.size (.dK [])) { s with heap := s.heap.push { cls := .type "dict", data := .dict #[] } } := I.laid (t' := s.toks) (fun _ _ z => Heap.get?_push_of_some _ z) (Nat.le_refl _) (dk_empty s.heap I.big)
  have hnew : (s.heap.push { cls := .type "dict", data := .dict #[] }).DictOf (mixKind X.prog X.w) s.heap.objs.size [] := Heap.DictOf.new s.heap
  have nl : l ≠ s.heap.objs.size := ne_of_none hl hD0
  have hl1 : (upd H s.heap.objs.size (.dK [])) l = some (.lst ys) := by rw [upd_ne nl]; exact hl
  obtain ⟨_, its, n, rv, el⟩ := (show ObjOk X.prog X.w _ _ l (.lst ys) from I1.hok l _ hl1)
  have hTl : ({ s with heap := s.heap.push { cls := .type "dict", data := .dict #[] } } : Shared).TypeIs (.ref l) "list" := ⟨_, el, rfl⟩
  refine ⟨hnew.typeIs, F.args_dict_init_2 _ _, ?_⟩
  unfold Builtin.«dict.__init__»
  refine wpAny_bind ?_
  unfold Builtin.Dict.selfAndRest
  refine wpAny_bind (wpAny_notOrdered_dict hnew.typeIs ?_)
  show wpAny _ _ (pure (s.heap.objs.size, [Value.ref l])) _ _ _
  refine wpAny_pure ?_
  show wpAny _ _ (Builtin.Dict.updateFrom "dict.__init__" s.heap.objs.size (.ref l) [] .none) _ _ _
  unfold Builtin.Dict.updateFrom
  refine wpAny_bind (wpAny_typeOf hTl ?_)
  rw [if_pos (by decide)]
  refine wpAny_bind (keys_attr_list (show X.A.in1.in1.handled = none from hh) el fun h2 tk2 old2 => ?_)
  rw [if_pos (by rfl)]
  have I2 : Inv X pins σ (upd H s.heap.objs.size (.dK [])) { s with heap := h2, toks := tk2 } := I1.kept (t' := tk2) old2
  obtain ⟨its2, rv2, p2, _⟩ := I2.list (SqL.of hl1)
  refine wpAny_bind (wpAny_rule (wpAny_bind (wpAny_pyIter_list p2.isList ?_)))
  have I3 : Inv X pins σ (upd H s.heap.objs.size (.dK [])) { s with heap := h2.push { cls := .type "list_iterator", data := .fields #[.ref l, .int 0 0] }, toks := tk2 } := I2.kept (t' := tk2) fun b o e => Heap.get?_push_of_some _ e
  have fit : FpOk X pins (upd H s.heap.objs.size (.dK [])) h2.objs.size := I2.fpOk (Nat.le_refl _) (I2.hok.fresh (Nat.le_refl _))
  refine wpAny_pure ⟨plainId_quiet F.plain_dict_update_loop _, ?_⟩
  refine dict_loop (A := X.A.in1) (l := l) (xs := ys) (prs := prs) hh hlen ys.length 0 [] _ _ rfl (Nat.zero_le _) I3 upd_same (SqL.of hl1) fit ⟨_, Heap.get?_push_size _ rfl, rfl, rfl⟩ ?_ (by simp; omega) fun s' I' => ?_
  · intro j k v e
    obtain ⟨p, h1, h2⟩ := hp j k v e
    exact ⟨p, h1, by rw [upd_ne (ne_of_none h2 hD0)]; exact h2⟩
  · rw [upd_upd, List.drop_zero] at I'
    exact ⟨rfl, .ref _, _, I', rfl, q _ hD0⟩
end
end Jb

set_option Elab.async false
set_option linter.all false
set_option maxRecDepth 100000
set_option maxHeartbeats 4000000
namespace Jb
open PySem PySem.Spec PyProof.Rows L2
section
variable {X : Cx} {st : Stmt} {rest : List Stmt} {t u : TS} {e : Expr} {te : TE}
/-- a place between statements: what holds there is said once, for all ways to it -/
def tCut (t u : TS) : TS := fun D σ H => ∃ N : L2.St → Hp → Prop, t { D with nx := N } σ H ∧ ∀ σ' H', N σ' H' → u D σ' H'
theorem pss_cut (h1 : PS X st t) (h2 : PSs X rest u) : PSs X (st :: rest) (tCut t u) := by
  intro pins s σ H D I h
  obtain ⟨N, h, k⟩ := h
  refine wpAny_execs_cons (thn (h1 pins s σ H { D with nx := N } I h) fun f s1 q => ?_)
  cases f with
  | next =>
    obtain ⟨σ', H', I', q⟩ := q
    exact h2 pins s1 σ' H' D I' (k _ _ q)
  | ret v => exact q
  | brk => exact q
  | cont => exact q
/-- what an expression comes to, said once -/
def tMid (te : TE) : TE := fun σ H Q => ∃ N : VK, te σ H N ∧ ∀ v H', N v H' → Q v H'
theorem pe_mid (h : PE X e te) : PE X e (tMid te) := by
  intro pins s σ H Q I q
  obtain ⟨N, q, k⟩ := q
  exact thn (h pins s σ H N I q) fun u s1 ⟨v, H1, I1, r1, q1⟩ => ⟨v, H1, I1, r1, k _ _ q1⟩
end
end Jb

set_option Elab.async false
set_option linter.all false
set_option maxRecDepth 100000
set_option maxHeartbeats 4000000
namespace Jb
open PySem PySem.Spec PyProof.Rows L2
/-! ### {key: value for target in iter}, as JbComp -/
section
variable {prog : Program} {w : World} {A : Around} {R : Result → Shared → Prop} {s : Shared}
theorem compLoopD_any {kx vx target iter : Expr} {ifs : List Expr} {scope : Scope} {pos : Pos} {it : Value} {D : Addr} {env : Env} (I : Nat → Shared → Prop)
    (turn : ∀ n s, I n s → wpAny (model prog w) A (pyNext it) (fun r s₁ => match r with
      | none => R (.ok .next) s₁
      | some v => wpAny (model prog w) A (letOwnedTupleGo target it v) (fun _ s₁' => wpAny (model prog w) A (assign target env v) (fun _ s₂ =>
          wpAny (model prog w) A (forIn ifs true fun c r => if r = true then do let ok ← isTrue c env (eval c env); pure (ForInStep.yield ok) else pure (ForInStep.yield r)) (fun ok s₃ =>
            if ok = true then wpAny (model prog w) A (eval kx env) (fun kv s₄ => wpAny (model prog w) A (eval vx env) (fun vv s₅ => wpAny (model prog w) A (dictSet D kv vv) (fun _ s₆ => ∃ m, m < n ∧ I m s₆) NoX s₅) NoX s₄) NoX s₃
            else ∃ m, m < n ∧ I m s₃) NoX s₂) NoX s₁') NoX s₁) NoX s)
    (n : Nat) (h : I n s) : codeAny (model prog w) A (.compLoop (.DictComp kx vx [⟨target, iter, ifs, 0⟩] scope pos) 0 it (.ref D) env) R s := by
  refine codeAny_loop rfl I (fun n s hI => ?_) n h
  show wpAny _ A ((compTurn (.DictComp kx vx [⟨target, iter, ifs, 0⟩] scope pos) 0 it (.ref D) env).onRaise (fun x => do noteFrame x env; theTreesLotGoes x)) _ _ s
  refine wpAny_noted ?_
  rw [compTurn_dict]
  refine wpAny_bind (wpAny_standAt (wpAny_bind (wpAny_mono (turn n s hI) (fun r s₁ h₁ => ?_) fun _ _ h' => h'.elim)))
  cases r with
  | none => exact wpAny_pure h₁
  | some v =>
    refine wpAny_bind (wpAny_mono h₁ (fun _ s₁' h₁' => ?_) fun _ _ h' => h'.elim)
    refine wpAny_bind (wpAny_mono h₁' (fun _ s₂ h₂ => wpAny_bind (wpAny_mono h₂ (fun ok s₃ h₃ => ?_) fun _ _ h' => h'.elim)) fun _ _ h' => h'.elim)
    cases ok with
    | false => exact wpAny_pure ⟨rfl, h₃⟩
    | true =>
      exact wpAny_bind (wpAny_bind (wpAny_mono h₃ (fun kv s₄ h₄ => wpAny_bind (wpAny_holding (wpAny_mono h₄ (fun vv s₅ h₅ => wpAny_bind (wpAny_standAt (wpAny_holding (wpAny_mono h₅ (fun _ s₆ h₆ => wpAny_pure ⟨rfl, h₆⟩) fun _ _ h' => h'.elim)))) fun _ _ h' => h'.elim))) fun _ _ h' => h'.elim))
end

/-- what the walk through J must keep, to hand on the dict -/
def DCompW (J : It) (H : Hp) (g : TG) (tt : TT) (tk tv : TE) (σ : L2.St) (Q : List (Key × V) → Hp → Prop) : Prop :=
  ∃ W : Nat → Nat → List (Key × V) → Hp → Prop, (∃ m, W 0 m [] H) ∧ ∀ i m ys H, W i m ys H →
    (J.stop i H ∧ Q ys H) ∨ (J.go i H ∧ ys.length < sizeLine ∧ ∃ N : List (Key × V) → Hp → Prop, (∀ ys' H', N ys' H' → ∃ m', m' < m ∧ W (i + 1) m' ys' H') ∧
      ∀ x H', J.yld i H x H' → g x σ H' fun σ2 H2 => Kp σ σ2 ∧ tt σ2 H2 fun b H3 => if b = true then tk σ2 H3 fun x H4 => ∃ k, x = kV k ∧ tv σ2 H4 fun v H5 => N (putK ys k v) H5 else N ys H3)
def tDComp (cap : List (Option Nat)) (wi : TI) (g : TG) (tt : TT) (tk tv : TE) : TE := fun σ H Q => wi σ H fun J H1 =>
  DCompW J H1 g tt tk tv (capSt cap σ) fun ys H2 => ys.length ≤ sizeLine ∧ ∀ D, H2 D = none → Q (.ref D) (upd H2 D (.dK ys))
section
variable {X : Cx} {kx vx target iter : Expr} {ifs : List Expr} {scope : Scope} {pos : Pos} {N' : List Str} {cap : List (Option Nat)} {wi : TI} {g : TG} {tt : TT} {tk tv : TE}
/-- an object that is a dict of these pairs -/
structure DO (P : Program) (w : World) (vs : List (Key × Value)) (o : Obj) : Prop where
  ex : o.ExactDict
  es : ∃ es ep, o.data = .dict es ep ∧ KeysOf (mixKind P w) es ∧ Pairs (mixKind P w) es.toList vs ∧ (vs.map (·.1)).Nodup
theorem DO.at {P : Program} {w : World} {vs : List (Key × Value)} {o : Obj} (d : DO P w vs o) {h : Heap} {a : Addr} (e : h.get? a = some o) : h.DictOf (mixKind P w) a vs := let ⟨es, ep, h1, h2, h3, h4⟩ := d.es; ⟨o, es, ep, e, d.ex, h1, h2, h3, h4⟩
theorem DO.of {P : Program} {w : World} {vs : List (Key × Value)} {h : Heap} {a : Addr} (d : h.DictOf (mixKind P w) a vs) : ∃ o, h.get? a = some o ∧ DO P w vs o := let ⟨o, es, ep, e, x, h1, h2, h3, h4⟩ := d; ⟨o, e, ⟨x, es, ep, h1, h2, h3, h4⟩⟩
theorem DO.nc {P : Program} {w : World} {vs : List (Key × Value)} {o : Obj} (d : DO P w vs o) : ∀ v, o.data ≠ .cell v := fun v z => by
  obtain ⟨es, ep, h1, _⟩ := d.es
  rw [h1] at z
  cases z
theorem comp_blockD {pins : List (Addr × Obj)} {σ : L2.St} {H : Hp} {s₂ : Shared} {it : Addr} {fp : List Addr} {tn : Nat → Heap → Prop} {J : It} {Q : List (Key × V) → Hp → Prop} {RR : Value → Addr → Result → Shared → Prop} {E : Value → Shared → Prop}
    (hc : X.calm = true) (O : CompOk X.env.scope X.N N' scope cap) (I : Inv X pins σ H s₂) (T : Turn X.prog X.w X.K target J fp it tn) (st : tn 0 s₂.heap) (f2 : ∀ b ∈ fp, FpOk X pins H b)
    (hg : ∀ C, PG (cxComp X N' scope C s₂ H fp) target g) (ht : ∀ C, PTs (cxComp X N' scope C s₂ H fp) ifs tt) (hk : ∀ C, PE (cxComp X N' scope C s₂ H fp) kx tk) (he : ∀ C, PE (cxComp X N' scope C s₂ H fp) vx tv) (cw : DCompW J H g tt tk tv (capSt cap σ) Q)
    (hRR : ∀ (D C : Addr) (s' : Shared) (H' : Hp) (ys : List (Key × V)) (its : List (Key × Value)) (o : Obj) (σ' : L2.St), s₂.heap.objs.size ≤ D → s₂.heap.objs.size ≤ C → D ≠ C → Inv (cxComp X N' scope C s₂ H fp) [(D, o)] σ' H' s' → KV ys its → DO X.prog X.w its o → Q ys H' →
      RR (.ref D) C (.ok .next) s') :
    wpAny (model X.prog X.w) X.A newDict (fun acc s₃ => wpAny (model X.prog X.w) X.A (newFunctionEnv scope X.env.globals (closOf scope X.env) [] X.env.qual none .none (some X.env)) (fun cenv s₄ =>
      codeAny (model X.prog X.w) X.A (.compStart (.DictComp kx vx [⟨target, iter, ifs, 0⟩] scope pos) 0 (.ref it) acc { cenv with scope := relabel scope X.env }) (RR acc cenv.locals) s₄) E s₃) E s₂ := by
  refine wpAny_newObj_type (wpAny_newFunctionEnv O.nocell (by intro y hy; simp at hy) (fun h₁ hns₁ hsb₁ => ?_) O.kind)
  dsimp only at hns₁ hsb₁ ⊢
  generalize hH2 : s₂.heap.push { cls := .type "dict", dict := none, data := .dict #[] } = H2 at hns₁ hsb₁ ⊢
  have hC : H2.objs.size = s₂.heap.objs.size + 1 := by rw [← hH2, Heap.size_push]
  have hDC : s₂.heap.objs.size ≠ H2.objs.size := by rw [hC]; exact Nat.ne_of_lt (Nat.lt_succ_self _)
  have hCle : s₂.heap.objs.size ≤ H2.objs.size := by rw [hC]; exact Nat.le_succ _
  have old : ∀ b o, s₂.heap.get? b = some o → h₁.get? b = some o := fun b o e => hsb₁.extBut b o (by rw [hC]; exact Nat.ne_of_lt (Nat.lt_succ_of_lt (Heap.lt_size e))) (Heap.get?_push_of_some _ (hH2 ▸ Heap.get?_push_of_some _ e))
  have hnew : H2.DictOf (mixKind X.prog X.w) s₂.heap.objs.size [] := hH2 ▸ Heap.DictOf.new s₂.heap
  obtain ⟨o0, eo0, do0⟩ := DO.of hnew
  have hacc : h₁.get? s₂.heap.objs.size = some o0 := hsb₁.extBut _ _ hDC (Heap.get?_push_of_some _ eo0)
  have hlt : ∀ b ∈ fp, b < s₂.heap.objs.size := fun b hb => by
    obtain ⟨o, e, _⟩ := T.obj 0 _ st b hb
    exact Heap.lt_size e
  have I1 := comp_inv (tk := s₂.toks + ([] : List (Str × Value)).length) I O f2 hlt hCle (Nat.le_refl _) hDC old hns₁ hacc do0.nc
  have st1 : tn 0 h₁ := T.keep _ _ _ st fun b _ o e => old b o e
  obtain ⟨W, ⟨m0, w0⟩, turn⟩ := cw
  generalize hD : s₂.heap.objs.size = D at *
  generalize hCC : H2.objs.size = C at *
  have stat : ∀ {H' : Hp} {o : Obj}, (∀ b ∈ fp, H' b = none) → ∀ b ∈ fp, FpOk (cxComp X N' scope C s₂ H fp) [(D, o)] H' b := fun {H' o} hn b hb => by
    refine ⟨hn b hb, Nat.ne_of_lt (Nat.lt_of_lt_of_le (hlt b hb) hCle), I1.ok.exfs b hb, .inl hb, (I1.ok.exf b hb).2, fun p hp => ?_⟩
    have e : p = (D, o) := by simpa [cxComp] using hp
    subst e
    exact Nat.ne_of_gt (hlt b hb)
  have loop : codeAny (model X.prog X.w) X.A (.compLoop (.DictComp kx vx [⟨target, iter, ifs, 0⟩] scope pos) 0 (.ref it) (.ref D) (compEnvC scope (closOf scope X.env) C X.env)) (RR (.ref D) C) { s₂ with heap := h₁, toks := s₂.toks + ([] : List (Str × Value)).length } := by
    refine compLoopD_any (fun n s' => ∃ i ys its k H', Inv (cxComp X N' scope C s₂ H fp) [(D, k)] (capSt cap σ) H' s' ∧ (KV ys its ∧ DO X.prog X.w its k) ∧ tn i s'.heap ∧ (∀ b ∈ fp, H' b = none) ∧ W i n ys H') ?_ m0 ⟨0, [], [], o0, H, I1, ⟨.nil, do0⟩, st1, fun b hb => (f2 b hb).1, w0⟩
    rintro n s3 ⟨i, ys, its, k, H3, I3, ⟨rv, dk⟩, st3, fr3, w3⟩
    rcases turn i n ys H3 w3 with ⟨stop, qn⟩ | ⟨go, hsz, N, hN, step⟩
    · refine thn (T.done (cxComp X N' scope C s₂ H fp) rfl rfl rfl hc i _ s3 _ H3 NoX I3 (stat fr3) st3 stop) fun r s4 ⟨hr, I4⟩ => ?_
      subst hr
      exact hRR D C s4 H3 ys its k _ (Nat.le_refl _) hCle hDC I4 rv dk qn
    · refine thn (T.item (cxComp X N' scope C s₂ H fp) rfl rfl rfl hc i _ s3 _ H3 NoX I3 (stat fr3) st3 go) fun r s4 ⟨u, hr, h4⟩ => ?_
      subst hr
      refine thn h4 fun _ s5 ⟨x, H5, I5, r5, y5, st5, fr5⟩ => ?_
      have I5' := I5.pinned (stat fr5) (T.obj _ _ st5)
      refine thn (hg C _ s5 _ H5 x u _ I5' r5 (step x H5 y5)) fun _ s6 ⟨σ6, H6, I6, kp6, q6⟩ => ?_
      refine thn (ht C _ s6 σ6 H6 _ I6 q6) fun ok s7 ⟨H7, I7, q7⟩ => ?_
      have keepT : ∀ {s' : Shared} {H' : Hp} {σ' : L2.St}, Inv (cxComp X N' scope C s₂ H fp) ([(D, k)] ++ pinsAt fp s5.heap) σ' H' s' → tn (i + 1) s'.heap ∧ ∀ b ∈ fp, H' b = none := fun {s' H' σ'} Ix => by
        refine ⟨T.keep _ _ _ st5 fun b hb o e => (Ix.pin (b, o) (List.mem_append_right _ (List.mem_append_right _ (mem_pinsAt hb e)))).1, fun b hb => ?_⟩
        obtain ⟨o, e, d⟩ := T.obj _ _ st5 b hb
        exact (Ix.pin (b, o) (List.mem_append_right _ (List.mem_append_right _ (mem_pinsAt hb e)))).2.1
      have ln6 : (capSt cap σ).length = σ6.length := by rw [I6.len, I1.len]
      cases ok with
      | false =>
        have n7 : N ys H7 := by simpa using q7
        obtain ⟨m', hm, w7⟩ := hN _ _ n7
        exact ⟨m', hm, i + 1, ys, its, k, H7, I7.unpinned.weak ln6 kp6, ⟨rv, dk⟩, (keepT I7).1, (keepT I7).2, w7⟩
      | true =>
        have q7 : tk σ6 H7 fun x H4 => ∃ k', x = kV k' ∧ tv σ6 H4 fun v H5 => N (putK ys k' v) H5 := by simpa using q7
        refine thn (hk C _ s7 σ6 H7 _ I7 q7) fun uk s8' ⟨xk, H8', I8', r8', kk, ek, q8'⟩ => ?_
        subst ek
        refine thn (he C _ s8' σ6 H8' _ I8' q8') fun u8 s8 ⟨v, H8, I8, r8, n8⟩ => ?_
        obtain ⟨eD, nD, _, nfD, _⟩ := I8.pin (D, k) (List.mem_append_right _ (List.mem_append_left _ List.mem_cons_self))
        have lv := rv.length
        refine wpAny_dictSet_pairs (kV_is r8') (dk.at eD) (fun h9 dd9 sb9 => ?_) (by omega)
        obtain ⟨m', hm, w8⟩ := hN _ _ n8
        obtain ⟨o9, eN, do9⟩ := DO.of dd9
        have I9 : Inv (cxComp X N' scope C s₂ H fp) (pinsAt fp s5.heap) σ6 H8 { s8 with heap := h9, toks := s8.toks + 1 } := by
          refine Inv.turned (it := D) (t' := s8.toks + 1) (I8.pins_of fun p hp => I8.pin p (List.mem_append_right _ (List.mem_append_right _ hp))) (fun b o hb e => sb9.extBut b o hb e) nD hDC (.inr (by rw [← hD]; exact Nat.le_refl _)) (fun x c e z => ?_) (fun p hp z => ?_)
          · obtain ⟨vc, oc, h1, _⟩ := I.cell x c (clos_sub I O e)
            have hh := Heap.lt_size h1
            rw [z, hD] at hh
            exact Nat.lt_irrefl _ hh
          · have hp : p ∈ pinsAt fp s5.heap := hp
            have hh := hlt p.1 (of_pinsAt hp).1
            rw [z] at hh
            exact Nat.lt_irrefl _ hh
        refine ⟨m', hm, i + 1, putK ys kk v, stored its kk u8, o9, H8, (I9.weak ln6 kp6).pins_of (fun p hp => ?_), ⟨rv.put kk r8, do9⟩, ?_, fun b hb => ?_, w8⟩
        · have e : p = (D, o9) := List.mem_singleton.mp hp
          rw [e]
          exact ⟨eN, nD, hDC, nfD, do9.nc⟩
        · exact T.keep _ _ _ st5 fun b hb o e => (I9.pin (b, o) (List.mem_append_right _ (mem_pinsAt hb e))).1
        · obtain ⟨o, e, d⟩ := T.obj _ _ st5 b hb
          exact (I9.pin (b, o) (List.mem_append_right _ (mem_pinsAt hb e))).2.1
  exact codeAny_compStart_dict loop (T.self _ 0 _ _ _ st1 loop)

theorem pe_dcomp (hx : X.xe = NoX) (hc : X.calm = true) (O : CompOk X.env.scope X.N N' scope cap) (hi : PI X target iter wi)
    (hg : ∀ C s₂ H fp, PG (cxComp X N' scope C s₂ H fp) target g) (ht : ∀ C s₂ H fp, PTs (cxComp X N' scope C s₂ H fp) ifs tt) (hk : ∀ C s₂ H fp, PE (cxComp X N' scope C s₂ H fp) kx tk) (he : ∀ C s₂ H fp, PE (cxComp X N' scope C s₂ H fp) vx tv)
    (hs : ∀ x, foldedSetIterable iter X.env x = pure x := by intro _; rfl) : PE X (.DictComp kx vx [⟨target, iter, ifs, 0⟩] scope pos) (tDComp cap wi g tt tk tv) := by
  intro pins s σ H Q I h
  rw [arm_eval_DictComp]
  dsimp only
  refine wpAny_comprehension_free (use := none) rfl hs (closureFor_of fun y hy hk => I.ok.has y.1 (O.free y hy hk)) O.kind O.nm (thn (hi pins s σ H _ I h) fun v s1 h1 => thn h1 fun itv s2 h2 => ?_)
  obtain ⟨it, fp, tn, J, H2, e, I2, T, st2, f2, cw⟩ := h2
  subst e
  refine comp_blockD (RR := fun acc C => compPost (model X.prog X.w) X.A X.xe none (EP X pins σ Q) acc C) hc O I2 T st2 f2 (fun C => hg C _ _ _) (fun C => ht C _ _ _) (fun C => hk C _ _ _) (fun C => he C _ _ _) cw ?_
  intro D C s' H' ys its o σ' hD hC hDC I' rv dk q
  obtain ⟨hz, q⟩ := q
  obtain ⟨m, hns, _⟩ := I'.loc
  refine ⟨m, hns, fun h' sb => ?_⟩
  obtain ⟨eD, nD, _, nfD, _⟩ := I'.pin (D, o) (List.mem_append_right _ List.mem_cons_self)
  have I'' : Inv X pins σ (upd H' D (.dK ys)) { s' with heap := h' } := by
    refine I2.call' (ch := fp) I'.os ?_ ?_ I'.bare (fun b hb => ⟨(f2 b hb).2.2.2.1, (f2 b hb).2.1, (f2 b hb).2.2.2.2.1, (f2 b hb).2.2.2.2.2⟩)
    · have ne : ∀ b o, s2.heap.get? b = some o → b ≠ C ∧ b ≠ D := fun b o e => ⟨Nat.ne_of_lt (Nat.lt_of_lt_of_le (Heap.lt_size e) hC), Nat.ne_of_lt (Nat.lt_of_lt_of_le (Heap.lt_size e) hD)⟩
      refine ⟨fun b o e n hb he => sb.extBut b o (ne b o e).1 (I'.base.keep b o e n hb he), fun b o e n hb he => ?_, fun b o e n he => ?_, fun b o e he => ?_, fun b xs e => ?_, fun b o u e => ?_, fun b ps e => ?_⟩
      · obtain ⟨sl, e1⟩ := I'.base.slot b o e n hb he
        exact ⟨sl, sb.extBut b _ (ne b o e).1 e1⟩
      · rw [upd_ne (ne b o e).2]
        exact I'.base.free b o e n he
      · obtain ⟨o', e1⟩ := I'.base.there b o e he
        exact ⟨o', sb.extBut b _ (ne b o e).1 e1⟩
      · have e1 := I'.base.tups b xs e
        rw [upd_ne (ne_of_none e1 nD)]
        exact e1
      · have e1 := I'.base.frzs b o u e
        rw [upd_ne (ne_of_none e1 nD)]
        exact e1
      · obtain ⟨more, e1⟩ := I'.base.tbls b ps e
        refine ⟨more, ?_⟩
        rw [upd_ne (ne_of_none e1 nD)]
        exact e1
    · intro b u e
      by_cases hb : b = D
      · subst hb
        rw [upd_same] at e
        cases e
        exact ⟨hz, beq_eq_false_iff_ne.mpr (Ne.symm (Nat.ne_of_lt (Nat.lt_of_lt_of_le I2.big hD))), its, rv, dk.at (sb.extBut _ _ hDC eD)⟩
      · rw [upd_ne hb] at e
        have nC : ∀ b u, H' b = some u → b ≠ C := fun b u e z => by
          have hf : H' C = none := I'.free
          rw [z, hf] at e
          cases e
        refine (I'.hok b u e).stay (fun c v hc q => sb.extBut c v ?_ q) (fun c q => by rw [upd_ne (ne_of_none q nD)]; exact q) fun c xs q => by rw [upd_ne (ne_of_none q nD)]; exact q
        rcases hc with z | z
        · rw [z]
          exact nC b u e
        · exact nC c _ z
  exact ⟨.ref D, _, I'', rfl, q D nD⟩
end
end Jb

set_option Elab.async false
set_option linter.all false
set_option maxRecDepth 100000
set_option maxHeartbeats 4000000
namespace Jb
open PySem PySem.Spec PyProof.Rows L2
/-! ### a dict's keys, walked while the dict stands still -/
def Itd (a : Addr) (ob : Obj) (kvs : List (Key × V)) : It :=
  ⟨fun i H => H a = some (.frz ob (.dK kvs)) ∧ i < kvs.length, fun i H x H' => H' = H ∧ ∃ p, kvs[i]? = some p ∧ x = kV p.1, fun i H => H a = some (.frz ob (.dK kvs)) ∧ kvs.length ≤ i⟩
theorem relV_key {P : Program} {w : World} {k : Key} {u : Value} (h : (mixKind P w).is k u = true) : RelV (kV k) u := by
  have h : keyIs k u = true := h
  rcases keyIs_shape h with ⟨i, t, rfl, rfl⟩ | ⟨x, t, rfl, rfl⟩
  · exact ⟨t, rfl⟩
  · exact ⟨t, rfl⟩
theorem paired_at {α β : Type} {F : α → β → Prop} : ∀ {xs : List α} {ys : List β}, Paired F xs ys → ∀ {i : Nat} {a : α} {b : β}, xs[i]? = some a → ys[i]? = some b → F a b
  | _, _, .nil, i, a, b, h, _ => by simp at h
  | _, _, .cons p r, 0, a, b, h1, h2 => by cases h1; cases h2; exact p
  | _, _, .cons p r, i + 1, a, b, h1, h2 => paired_at r (i := i) (by simpa using h1) (by simpa using h2)
theorem frz_at {X : Cx} {pins : List (Addr × Obj)} {σ : L2.St} {H : Hp} {s : Shared} {a : Addr} {ob : Obj} {kvs : List (Key × V)} {es : Array DictEntry} {ep : Nat} (I : Inv X pins σ H s) (e : H a = some (.frz ob (.dK kvs))) (hd : ob.data = .dict es ep) :
    ∃ vs, KV kvs vs ∧ s.heap.DictAt (mixKind X.prog X.w) a vs ep := by
  obtain ⟨h1, _, _, vs, rel, o, es', ep', g, x, d, r1, r2, r3⟩ := (show ObjOk X.prog X.w H s.heap a (.frz ob (.dK kvs)) from I.hok a _ e)
  rw [h1] at g
  cases g
  rw [hd] at d
  cases d
  exact ⟨vs, rel, ob, es, h1, x, hd, r1, r2, r3⟩
theorem turn_dict {P : Program} {w : World} {K : PySem.W.Frag} {tg : Expr} (a it : Addr) (ob : Obj) (kvs : List (Key × V)) :
    Turn P w K tg (Itd a ob kvs) [it] it (fun i h => ∃ es ep, ob.data = .dict es ep ∧ h.IsKeyIter it a i kvs.length ep) where
  mem := by simp
  obj := fun i h st b hb => by
    have e : b = it := by simpa using hb
    subst e
    obtain ⟨_, _, _, o, e, c, d⟩ := st
    exact ⟨o, e, fun v z => by rw [d] at z; cases z⟩
  keep := fun i h h' st k => let ⟨es, ep, hd, st⟩ := st; ⟨es, ep, hd, st.at fun o e => k it (by simp) o e⟩
  item := by
    intro X hP hw hK hc i pins s σ H E I hf st hg
    subst hP hw hK
    obtain ⟨e, hi⟩ := hg
    obtain ⟨es, ep, hd, st⟩ := st
    obtain ⟨vs, rel, dd⟩ := frz_at I e hd
    have hl := rel.length
    obtain ⟨f0, f1, f2, f3, f4, f5⟩ := hf it (by simp)
    have hiv : i < vs.length := by omega
    rw [hl] at st
    refine wpAny_pyNext_dict_item (k := vs[i].1) (v := vs[i].2) st dd (by rw [List.getElem?_eq_getElem hiv]) fun key h' hk st' sb => ?_
    have I1 : Inv X pins σ H { s with heap := h' } := I.turned (t' := s.toks) (fun b o hb e => sb.extBut b o hb e) f0 f1 f3 f4 f5
    obtain ⟨o, e2, c, d⟩ := id st'
    have ek : kvs[i].1 = vs[i].1 := (paired_at rel (List.getElem?_eq_getElem hi) (List.getElem?_eq_getElem hiv)).1
    refine ⟨key, rfl, go_of (s := { s with heap := h' }) e2 c d (by decide) ⟨kV kvs[i].1, H, I1, ?_, ⟨rfl, kvs[i], by rw [List.getElem?_eq_getElem hi], rfl⟩, ⟨es, ep, hd, by rw [hl]; exact st'⟩, fun b hb => (hf b hb).1⟩⟩
    rw [ek]
    exact relV_key hk
  done := by
    intro X hP hw hK hc i pins s σ H E I hf st hg
    subst hP hw hK
    obtain ⟨e, hi⟩ := hg
    obtain ⟨es, ep, hd, st⟩ := st
    obtain ⟨vs, rel, dd⟩ := frz_at I e hd
    have hl := rel.length
    obtain ⟨f0, f1, f2, f3, f4, f5⟩ := hf it (by simp)
    rw [hl] at st
    exact wpAny_pyNext_dict_end (I.ok.hd hc) st dd (List.getElem?_eq_none (by omega)) fun h' eb => ⟨rfl, I.turned (t' := s.toks) (fun b o hb e => eb b o hb e) f0 f1 f3 f4 f5⟩
  self := fun _ _ _ _ _ st h => let ⟨_, _, _, st⟩ := st; wpAny_pyIter_keyiter st h
section
variable {X : Cx} {tg e : Expr} {te : TE}
def iDict (tl : TE) : TI := fun σ H R => tl σ H fun x H1 => ∃ a kvs, x = .ref a ∧ H1 a = some (.dK kvs) ∧ ∀ ob, R (Itd a ob kvs) (upd H1 a (.frz ob (.dK kvs)))
theorem pi_dict (hl : PE X e te) : PI X tg e (iDict te) := by
  intro pins s σ H R I h
  refine thn (hl pins s σ H _ I h) fun v s1 ⟨x, H1, I1, r1, q1⟩ => ?_
  obtain ⟨a, kvs, ex, ha, q⟩ := q1
  subst ex
  cases r1
  obtain ⟨z, hd, vs, rel, dd⟩ := dk_of I1.hok ha
  obtain ⟨ep, ob, es, g, x, d, r1, r2, r3⟩ := dd.dictAt
  have dd' : s1.heap.DictAt (mixKind X.prog X.w) a vs ep := ⟨ob, es, g, x, d, r1, r2, r3⟩
  have I2 : Inv X pins σ (upd H1 a (.frz ob (.dK kvs))) s1 := d_write (t' := s1.toks) I1 (by rw [ha]; exact True.intro) ⟨rfl, fun _ _ => rfl⟩ ⟨ob, g⟩ ⟨g, z, hd, vs, rel, dd⟩
  refine wpAny_pyIter_dict hd dd' ?_
  refine ⟨s1.heap.objs.size, [s1.heap.objs.size], _, _, _, rfl, I2.kept (t' := s1.toks) fun b o e => Heap.get?_push_of_some _ e, turn_dict a _ ob kvs, ⟨es, ep, d, _, Heap.get?_push_size _ rfl, rfl, by rw [show kvs.length = vs.length from rel.length]; rfl⟩, fun b hb => ?_, q ob⟩
  have e : b = s1.heap.objs.size := by simpa using hb
  subst e
  exact I2.fpOk (Nat.le_refl _) (I2.hok.fresh (Nat.le_refl _))
/-- a dict that stood still may change again -/
theorem inv_thaw {pins : List (Addr × Obj)} {σ : L2.St} {H : Hp} {s : Shared} {a : Addr} {ob : Obj} {kvs : List (Key × V)} (I : Inv X pins σ H s) (e : H a = some (.frz ob (.dK kvs))) (h0 : X.H₀ a = none) : Inv X pins σ (upd H a (.dK kvs)) s where
  ok := I.ok
  os := I.os
  bare := I.bare
  base := ⟨I.base.keep, I.base.slot, fun b o g n hx => by rw [upd_ne (fun z => by have := I.base.free b o g n hx; rw [z, e] at this; cases this)]; exact I.base.free b o g n hx, I.base.there,
    fun b xs g => by rw [upd_ne (ne_of (I.base.tups b xs g) e (by intro z; cases z))]; exact I.base.tups b xs g, fun b o u g => by rw [upd_ne (ne_of_none g h0)]; exact I.base.frzs b o u g,
    fun b ps g => let ⟨more, z⟩ := I.base.tbls b ps g; ⟨more, by rw [upd_ne (ne_of z e (by intro z; cases z))]; exact z⟩⟩
  loc := I.loc
  cell := I.cell
  free := by rw [upd_ne (fun z => by have := I.free; rw [z, e] at this; cases this)]; exact I.free
  freeC := fun x c g => by rw [upd_ne (fun z => by have := I.freeC x c g; rw [z, e] at this; cases this)]; exact I.freeC x c g
  pin := fun p hp => let ⟨h1, h2, h3⟩ := I.pin p hp; ⟨h1, by rw [upd_ne (fun z => by rw [z, e] at h2; cases h2)]; exact h2, h3⟩
  hok := fun b u g => by
    by_cases hb : b = a
    · subst hb
      rw [upd_same] at g
      cases g
      obtain ⟨_, q⟩ := (show ObjOk X.prog X.w H s.heap b (.frz ob (.dK kvs)) from I.hok b _ e)
      exact q
    · rw [upd_ne hb] at g
      exact (I.hok b u g).stay (fun c v _ q => q) (fun c q => by rw [upd_ne (ne_of q e (by intro z; cases z))]; exact q) fun c xs q => by rw [upd_ne (ne_of q e (by intro z; cases z))]; exact q
  len := I.len
def tThaw (H0 : Hp) (te : TE) : TE := fun σ H Q => te σ H fun v H' => ∃ a ob kvs, H' a = some (.frz ob (.dK kvs)) ∧ H0 a = none ∧ Q v (upd H' a (.dK kvs))
theorem pe_thaw (h : PE X e te) : PE X e (tThaw X.H₀ te) := by
  intro pins s σ H Q I q
  exact thn (h pins s σ H _ I q) fun u s1 ⟨v, H1, I1, r1, a, ob, kvs, e1, h0, q1⟩ => ⟨v, _, inv_thaw I1 e1 h0, r1, q1⟩
end
/-! ### forms -/
section
variable {K : PySem.W.Frag} {a : Addr} {ob : Obj} {kvs : List (Key × V)} {xs : List V} {lo : Int} {n : Nat} {g : TG} {tt : TT} {te tk tv : TE} {σ : L2.St} {H : Hp}
theorem comp_dict {Q : List V → Hp → Prop} (Pv : Nat → List V → Hp → Prop) (h0 : Pv 0 [] H) (hl : ∀ i ys H, Pv i ys H → H a = some (.frz ob (.dK kvs)))
    (hs : ∀ i p ys H, kvs[i]? = some p → Pv i ys H → ys.length < sizeLine ∧ g (kV p.1) σ H fun σ2 H2 => Kp σ σ2 ∧ tt σ2 H2 fun b H3 => if b = true then te σ2 H3 fun v H4 => Pv (i + 1) (ys ++ [v]) H4 else Pv (i + 1) ys H3)
    (hd : ∀ ys H, Pv kvs.length ys H → Q ys H) : CompW (Itd a ob kvs) H g tt te σ Q := by
  refine ⟨fun i m ys H => m = kvs.length - i ∧ i ≤ kvs.length ∧ Pv i ys H, ⟨kvs.length, by simp, Nat.zero_le _, h0⟩, ?_⟩
  rintro i m ys H ⟨rfl, hi, p⟩
  have q := hl i ys H p
  by_cases hlt : i < kvs.length
  · obtain ⟨hz, st⟩ := hs i kvs[i] ys H (by simp [hlt]) p
    refine .inr ⟨⟨q, hlt⟩, hz, Pv (i + 1), fun ys' H' p' => ⟨kvs.length - (i + 1), by omega, rfl, hlt, p'⟩, fun x H' y => ?_⟩
    obtain ⟨e, p, hp, rfl⟩ := y
    subst e
    rw [List.getElem?_eq_getElem hlt] at hp
    cases hp
    exact st
  · have e : i = kvs.length := by omega
    subst e
    exact .inl ⟨⟨q, Nat.le_refl _⟩, hd ys H p⟩
theorem dcomp_dict {Q : List (Key × V) → Hp → Prop} (Pv : Nat → List (Key × V) → Hp → Prop) (h0 : Pv 0 [] H) (hl : ∀ i ys H, Pv i ys H → H a = some (.frz ob (.dK kvs)))
    (hs : ∀ i p ys H, kvs[i]? = some p → Pv i ys H → ys.length < sizeLine ∧ g (kV p.1) σ H fun σ2 H2 => Kp σ σ2 ∧ tt σ2 H2 fun b H3 => if b = true then tk σ2 H3 fun x H4 => ∃ k, x = kV k ∧ tv σ2 H4 fun v H5 => Pv (i + 1) (putK ys k v) H5 else Pv (i + 1) ys H3)
    (hd : ∀ ys H, Pv kvs.length ys H → Q ys H) : DCompW (Itd a ob kvs) H g tt tk tv σ Q := by
  refine ⟨fun i m ys H => m = kvs.length - i ∧ i ≤ kvs.length ∧ Pv i ys H, ⟨kvs.length, by simp, Nat.zero_le _, h0⟩, ?_⟩
  rintro i m ys H ⟨rfl, hi, p⟩
  have q := hl i ys H p
  by_cases hlt : i < kvs.length
  · obtain ⟨hz, st⟩ := hs i kvs[i] ys H (by simp [hlt]) p
    refine .inr ⟨⟨q, hlt⟩, hz, Pv (i + 1), fun ys' H' p' => ⟨kvs.length - (i + 1), by omega, rfl, hlt, p'⟩, fun x H' y => ?_⟩
    obtain ⟨e, p, hp, rfl⟩ := y
    subst e
    rw [List.getElem?_eq_getElem hlt] at hp
    cases hp
    exact st
  · have e : i = kvs.length := by omega
    subst e
    exact .inl ⟨⟨q, Nat.le_refl _⟩, hd ys H p⟩
theorem dcomp_list {Q : List (Key × V) → Hp → Prop} (Pv : Nat → List (Key × V) → Hp → Prop) (h0 : Pv 0 [] H) (hl : ∀ i ys H, i ≤ xs.length → Pv i ys H → SqL K H a xs)
    (hs : ∀ i x ys H, xs[i]? = some x → Pv i ys H → ys.length < sizeLine ∧ g x σ H fun σ2 H2 => Kp σ σ2 ∧ tt σ2 H2 fun b H3 => if b = true then tk σ2 H3 fun x H4 => ∃ k, x = kV k ∧ tv σ2 H4 fun v H5 => Pv (i + 1) (putK ys k v) H5 else Pv (i + 1) ys H3)
    (hd : ∀ ys H, Pv xs.length ys H → Q ys H) : DCompW (Itl K a) H g tt tk tv σ Q := by
  refine ⟨fun i m ys H => m = xs.length - i ∧ i ≤ xs.length ∧ Pv i ys H, ⟨xs.length, by simp, Nat.zero_le _, h0⟩, ?_⟩
  rintro i m ys H ⟨rfl, hi, p⟩
  have q := hl i ys H hi p
  by_cases hlt : i < xs.length
  · obtain ⟨hz, st⟩ := hs i xs[i] ys H (by simp [hlt]) p
    refine .inr ⟨⟨xs, xs[i], q, by simp [hlt]⟩, hz, Pv (i + 1), fun ys' H' p' => ⟨xs.length - (i + 1), by omega, rfl, hlt, p'⟩, fun x H' y => ?_⟩
    obtain ⟨e, y⟩ := y
    subst e
    have ex : xs[i] = x := by
      have := y xs q
      rw [List.getElem?_eq_getElem hlt] at this
      exact Option.some.inj this
    subst ex
    exact st
  · have e : i = xs.length := by omega
    subst e
    exact .inl ⟨⟨xs, q, Nat.le_refl _⟩, hd ys H p⟩
theorem dcomp_tup {Q : List (Key × V) → Hp → Prop} (Pv : Nat → List (Key × V) → Hp → Prop) (h0 : Pv 0 [] H) (hl : ∀ i ys H, i ≤ xs.length → Pv i ys H → SqT K H a xs)
    (hs : ∀ i x ys H, xs[i]? = some x → Pv i ys H → ys.length < sizeLine ∧ g x σ H fun σ2 H2 => Kp σ σ2 ∧ tt σ2 H2 fun b H3 => if b = true then tk σ2 H3 fun x H4 => ∃ k, x = kV k ∧ tv σ2 H4 fun v H5 => Pv (i + 1) (putK ys k v) H5 else Pv (i + 1) ys H3)
    (hd : ∀ ys H, Pv xs.length ys H → Q ys H) : DCompW (Itt K a) H g tt tk tv σ Q := by
  refine ⟨fun i m ys H => m = xs.length - i ∧ i ≤ xs.length ∧ Pv i ys H, ⟨xs.length, by simp, Nat.zero_le _, h0⟩, ?_⟩
  rintro i m ys H ⟨rfl, hi, p⟩
  have q := hl i ys H hi p
  by_cases hlt : i < xs.length
  · obtain ⟨hz, st⟩ := hs i xs[i] ys H (by simp [hlt]) p
    refine .inr ⟨⟨xs, xs[i], q, by simp [hlt]⟩, hz, Pv (i + 1), fun ys' H' p' => ⟨xs.length - (i + 1), by omega, rfl, hlt, p'⟩, fun x H' y => ?_⟩
    obtain ⟨e, y⟩ := y
    subst e
    have ex : xs[i] = x := by
      have := y xs q
      rw [List.getElem?_eq_getElem hlt] at this
      exact Option.some.inj this
    subst ex
    exact st
  · have e : i = xs.length := by omega
    subst e
    exact .inl ⟨⟨xs, q, Nat.le_refl _⟩, hd ys H p⟩
end
end Jb

set_option Elab.async false
set_option linter.all false
set_option maxRecDepth 100000
set_option maxHeartbeats 4000000
namespace Jb
open PySem PySem.Spec PyProof.Rows L2
/-! ### x = [..], x = {..}: a comprehension stored in a plain local -/
theorem comp_end {X : Cx} {pins : List (Addr × Obj)} {σ σ' : L2.St} {H2 H' : Hp} {s2 s' : Shared} {fp : List Addr} {N' : List Str} {scope : Scope} {D C : Addr} {o : Obj} {ob : HO} (I2 : Inv X pins σ H2 s2) (f2 : ∀ b ∈ fp, FpOk X pins H2 b)
    (hD : s2.heap.objs.size ≤ D) (hC : s2.heap.objs.size ≤ C) (hDC : D ≠ C) (I' : Inv (cxComp X N' scope C s2 H2 fp) [(D, o)] σ' H' s') (new : ∀ h', h'.get? D = some o → ObjOk X.prog X.w (upd H' D ob) h' D ob)
    (h' : Heap) (sb : Heap.SameBut C s'.heap h') : Inv X pins σ (upd H' D ob) { s' with heap := h' } := by
  obtain ⟨eD, nD, _, nfD, _⟩ := I'.pin (D, o) (List.mem_append_right _ List.mem_cons_self)
  refine I2.call' (ch := fp) I'.os ?_ ?_ I'.bare (fun b hb => ⟨(f2 b hb).2.2.2.1, (f2 b hb).2.1, (f2 b hb).2.2.2.2.1, (f2 b hb).2.2.2.2.2⟩)
  · have ne : ∀ b o, s2.heap.get? b = some o → b ≠ C ∧ b ≠ D := fun b o e => ⟨Nat.ne_of_lt (Nat.lt_of_lt_of_le (Heap.lt_size e) hC), Nat.ne_of_lt (Nat.lt_of_lt_of_le (Heap.lt_size e) hD)⟩
    refine ⟨fun b o e n hb he => sb.extBut b o (ne b o e).1 (I'.base.keep b o e n hb he), fun b o e n hb he => ?_, fun b o e n he => ?_, fun b o e he => ?_, fun b xs e => ?_, fun b o u e => ?_, fun b ps e => ?_⟩
    · obtain ⟨sl, e1⟩ := I'.base.slot b o e n hb he
      exact ⟨sl, sb.extBut b _ (ne b o e).1 e1⟩
    · rw [upd_ne (ne b o e).2]
      exact I'.base.free b o e n he
    · obtain ⟨o', e1⟩ := I'.base.there b o e he
      exact ⟨o', sb.extBut b _ (ne b o e).1 e1⟩
    · have e1 := I'.base.tups b xs e
      rw [upd_ne (ne_of_none e1 nD)]
      exact e1
    · have e1 := I'.base.frzs b o u e
      rw [upd_ne (ne_of_none e1 nD)]
      exact e1
    · obtain ⟨more, e1⟩ := I'.base.tbls b ps e
      refine ⟨more, ?_⟩
      rw [upd_ne (ne_of_none e1 nD)]
      exact e1
  · intro b u e
    by_cases hb : b = D
    · subst hb
      rw [upd_same] at e
      cases e
      exact new h' (sb.extBut _ _ hDC eD)
    · rw [upd_ne hb] at e
      have nC : ∀ b u, H' b = some u → b ≠ C := fun b u e z => by
        have hf : H' C = none := I'.free
        rw [z, hf] at e
        cases e
      refine (I'.hok b u e).stay (fun c v hc q => sb.extBut c v ?_ q) (fun c q => by rw [upd_ne (ne_of_none q nD)]; exact q) fun c xs q => by rw [upd_ne (ne_of_none q nD)]; exact q
      rcases hc with z | z
      · rw [z]
        exact nC b u e
      · exact nC c _ z

section
variable {X : Cx} {elt kx vx target iter : Expr} {ifs : List Expr} {scope : Scope} {pos pos' pos2 : Pos} {N' : List Str} {cap : List (Option Nat)} {wi : TI} {g : TG} {tt : TT} {te tk tv : TE}
theorem use_end {pins : List (Addr × Obj)} {σ σ' : L2.St} {H2 H' : Hp} {s2 s' : Shared} {fp : List Addr} {D C : Addr} {o : Obj} {ob : HO} {i : Nat} {x : Str} {Dn : Ends} (I2 : Inv X pins σ H2 s2) (f2 : ∀ b ∈ fp, FpOk X pins H2 b)
    (hD : s2.heap.objs.size ≤ D) (hC : s2.heap.objs.size ≤ C) (hDC : D ≠ C) (I' : Inv (cxComp X N' scope C s2 H2 fp) [(D, o)] σ' H' s') (new : ∀ h', h'.get? D = some o → ObjOk X.prog X.w (upd H' D ob) h' D ob)
    (hN : X.N.Nodup) (hi : X.N[i]? = some x) (hx : Loc X.env.scope x) (hf : X.fn x = true ∨ X.env.scope.names.lookup x = some .local) (q : Dn.nx (σ.set i (some (.ref D))) (upd H' D ob)) :
    wpAny (model X.prog X.w) X.A (assignAll (.ref D) ((assignEach [.Name x pos'] X.env).map (·.2))) (fun _ s'' => ∃ m, s''.heap.Ns C m ∧ ∀ h', Heap.SameBut C s''.heap h' → SP X pins Dn .next { s'' with heap := h' }) X.xe s' := by
  have I3 : Inv X pins σ (upd H' D ob) s' := comp_end I2 f2 hD hC hDC I' new s'.heap ⟨rfl, fun _ _ => rfl⟩
  obtain ⟨m, hns, _⟩ := I'.loc
  obtain ⟨nD1, nD, _, nfD, _⟩ := I'.pin (D, o) (List.mem_append_right _ List.mem_cons_self)
  have hns : s'.heap.Ns C m := hns
  have hC0 : upd H' D ob C = none := by
    rw [upd_ne (Ne.symm hDC)]
    exact I'.free
  obtain ⟨f0, f1, f2', f3, f4, f5⟩ := I2.fpOk hC (I2.hok.fresh hC)
  have fC : FpOk X pins (upd H' D ob) C := ⟨hC0, f1, f2', f3, f4, f5⟩
  obtain ⟨oC, es, ep, gC, dC, k1, k2⟩ := hns
  have I4 := I3.pinned (fp := [C]) (fun b hb => by rw [List.mem_singleton.mp hb]; exact fC) fun b hb => ⟨oC, by rw [List.mem_singleton.mp hb]; exact gC, fun v z => by rw [dC] at z; cases z⟩
  have ea : assignAll (.ref D) ((assignEach [.Name x pos'] X.env).map (·.2)) = assign (.Name x pos') X.env (.ref D) := by
    unfold assignAll
    simp [assignEach]
  rw [ea]
  refine wpAny_assign_Name (store_ok I4 hN hi hx (v := .ref D) rfl (fun s'' I5 => ⟨m, ?_, fun h' sb => ?_⟩) hf)
  · exact ⟨oC, es, ep, (I5.pin (C, oC) (List.mem_append_right _ (List.mem_append_right _ (mem_pinsAt (List.mem_singleton.mpr rfl) gC)))).1, dC, k1, k2⟩
  · exact ⟨_, _, I5.unpinned.turned (t' := s''.toks) (fun b o hb e => sb.extBut b o hb e) hC0 f1 f3 f4 f5, q⟩
theorem ps_setC {i : Nat} {x : Str} (hx : X.xe = NoX) (hc : X.calm = true) (hN : X.N.Nodup) (hi : X.N[i]? = some x) (hl : Loc X.env.scope x) (O : CompOk X.env.scope X.N N' scope cap) (hit : PI X target iter wi)
    (hg : ∀ C s₂ H fp, PG (cxComp X N' scope C s₂ H fp) target g) (ht : ∀ C s₂ H fp, PTs (cxComp X N' scope C s₂ H fp) ifs tt) (he : ∀ C s₂ H fp, PE (cxComp X N' scope C s₂ H fp) elt te)
    (hw : swapsWith (.ListComp elt [⟨target, iter, ifs, 0⟩] scope pos) (some (.Name x pos')) pos2.line X.env = pure true := by rfl) (hs : ∀ x, foldedSetIterable iter X.env x = pure x := by intro _; rfl)
    (hf : X.fn x = true ∨ X.env.scope.names.lookup x = some .local := by first | exact .inl rfl | exact .inr rfl | assumption) : PS X (.Assign [.Name x pos'] (.ListComp elt [⟨target, iter, ifs, 0⟩] scope pos) pos2) (tAsg (tComp cap wi g tt te) (gName i)) := by
  intro pins s σ H Dn I h
  rw [exec_Assign_arm]
  refine wpAny_bind (wpAny_standAt ?_)
  rw [show swapsWithSole [.Name x pos'] (.ListComp elt [⟨target, iter, ifs, 0⟩] scope pos) pos2.line X.env = pure true from hw]
  refine wpAny_bind (wpAny_pure ?_)
  rw [if_pos rfl, arm_evalThenUse_ListComp]
  refine wpAny_bind (wpAny_bind (wpAny_comprehension_free (use := some _) rfl hs (closureFor_of fun y hy hk => I.ok.has y.1 (O.free y hy hk)) O.kind O.nm (thn (hit pins s σ H _ I h) fun v s1 h1 => thn h1 fun itv s2 h2 => ?_)))
  obtain ⟨it, fp, tn, J, H2, e, I2, T, st2, f2, cw⟩ := h2
  subst e
  refine comp_block (RR := fun acc C => compPost (model X.prog X.w) X.A X.xe (some _) _ acc C) hc O I2 T st2 f2 (fun C => hg C _ _ _) (fun C => ht C _ _ _) (fun C => he C _ _ _) cw ?_
  intro D C s' H' ys its n σ' hD hC hDC I' rv q
  obtain ⟨hz, q⟩ := q
  have nD := (I'.pin (D, lobj its n) (List.mem_append_right _ List.mem_cons_self)).2.1
  refine thn (use_end (ob := .lst ys) (Dn := Dn) (pos' := pos') I2 f2 hD hC hDC I' (fun h' e => ⟨hz, its, n, rv, e⟩) hN hi hl hf (q D nD)) fun _ s'' ⟨m, h1, h2⟩ => ⟨m, h1, fun h' sb => wpAny_pure (wpAny_pure (h2 h' sb))⟩
theorem ps_setD {i : Nat} {x : Str} (hx : X.xe = NoX) (hc : X.calm = true) (hN : X.N.Nodup) (hi : X.N[i]? = some x) (hl : Loc X.env.scope x) (O : CompOk X.env.scope X.N N' scope cap) (hit : PI X target iter wi)
    (hg : ∀ C s₂ H fp, PG (cxComp X N' scope C s₂ H fp) target g) (ht : ∀ C s₂ H fp, PTs (cxComp X N' scope C s₂ H fp) ifs tt) (hk : ∀ C s₂ H fp, PE (cxComp X N' scope C s₂ H fp) kx tk) (he : ∀ C s₂ H fp, PE (cxComp X N' scope C s₂ H fp) vx tv)
    (hw : swapsWith (.DictComp kx vx [⟨target, iter, ifs, 0⟩] scope pos) (some (.Name x pos')) pos2.line X.env = pure true := by rfl) (hs : ∀ x, foldedSetIterable iter X.env x = pure x := by intro _; rfl)
    (hf : X.fn x = true ∨ X.env.scope.names.lookup x = some .local := by first | exact .inl rfl | exact .inr rfl | assumption) : PS X (.Assign [.Name x pos'] (.DictComp kx vx [⟨target, iter, ifs, 0⟩] scope pos) pos2) (tAsg (tDComp cap wi g tt tk tv) (gName i)) := by
  intro pins s σ H Dn I h
  rw [exec_Assign_arm]
  refine wpAny_bind (wpAny_standAt ?_)
  rw [show swapsWithSole [.Name x pos'] (.DictComp kx vx [⟨target, iter, ifs, 0⟩] scope pos) pos2.line X.env = pure true from hw]
  refine wpAny_bind (wpAny_pure ?_)
  rw [if_pos rfl, arm_evalThenUse_DictComp]
  refine wpAny_bind (wpAny_bind (wpAny_comprehension_free (use := some _) rfl hs (closureFor_of fun y hy hk => I.ok.has y.1 (O.free y hy hk)) O.kind O.nm (thn (hit pins s σ H _ I h) fun v s1 h1 => thn h1 fun itv s2 h2 => ?_)))
  obtain ⟨it, fp, tn, J, H2, e, I2, T, st2, f2, cw⟩ := h2
  subst e
  refine comp_blockD (RR := fun acc C => compPost (model X.prog X.w) X.A X.xe (some _) _ acc C) hc O I2 T st2 f2 (fun C => hg C _ _ _) (fun C => ht C _ _ _) (fun C => hk C _ _ _) (fun C => he C _ _ _) cw ?_
  intro D C s' H' ys its o σ' hD hC hDC I' rv dk q
  obtain ⟨hz, q⟩ := q
  have nD := (I'.pin (D, o) (List.mem_append_right _ List.mem_cons_self)).2.1
  refine thn (use_end (ob := .dK ys) (Dn := Dn) (pos' := pos') I2 f2 hD hC hDC I' (fun h' e => ⟨hz, beq_eq_false_iff_ne.mpr (Ne.symm (Nat.ne_of_lt (Nat.lt_of_lt_of_le I2.big hD))), its, rv, dk.at e⟩) hN hi hl hf (q D nD)) fun _ s'' ⟨m, h1, h2⟩ => ⟨m, h1, fun h' sb => wpAny_pure (wpAny_pure (h2 h' sb))⟩
end
end Jb

set_option Elab.async false
set_option linter.all false
set_option maxRecDepth 100000
set_option maxHeartbeats 4000000
namespace Jb
open PySem PySem.Spec PyProof.Rows L2
section
variable {X : Cx}
theorem kv_putAll : ∀ (more : List (Key × V)) {kvs : List (Key × V)} {vs ms : List (Key × Value)}, KV kvs vs → KV more ms → KV (putAll kvs more) (merged vs ms)
  | [], kvs, vs, _, r, .nil => r
  | p :: m, kvs, vs, _ :: ms, r, .cons h q => by
    have e1 : putAll kvs (p :: m) = putAll (putK kvs p.1 p.2) m := rfl
    rw [e1]
    have := kv_putAll m (r.put p.1 h.2) q
    rw [h.1] at this
    rw [h.1]
    exact this
/-- d.update(list of pairs), d.update(another dict) -/
def rUpdate : V → List V → Hp → VK → Prop := fun x vs H Q => ∃ D kvs, x = .ref D ∧ H D = some (.dK kvs) ∧
  ((∃ l ys prs, vs = [.ref l] ∧ H l = some (.lst ys) ∧ List.length prs = List.length ys ∧ kvs.length + List.length prs ≤ 50000 ∧ (∀ (j : Nat) (k : Key) (v : V), prs[j]? = some (k, v) → ∃ p : Addr, ys[j]? = some (V.ref p) ∧ H p = some (.tup [kV k, v])) ∧ Q .non (upd H D (.dK (putAll kvs prs)))) ∨
   (∃ o more, vs = [.ref o] ∧ o ≠ D ∧ H o = some (.dK more) ∧ kvs.length + more.length ≤ 50000 ∧ Q .non (upd H D (.dK (putAll kvs more)))))
theorem mt_update (hc : X.calm = true) : MtM X "dict.update" rUpdate := by
  intro pins s σ H x vs v us Q I rx rv h
  obtain ⟨D, kvs, rfl, hD, h⟩ := h
  cases rx
  have hh : X.A.handled = none := I.ok.hd hc
  have hsl : 200000 ≤ sizeLine := by decide
  obtain ⟨z, hdm, ds, rel, dd⟩ := dk_of I.hok hD
  rcases h with ⟨l, ys, prs, rfl, hl, hlen, hsz, hp, q⟩ | ⟨o, more, rfl, ho, hO, hsz, q⟩
  · obtain ⟨u, rfl, ru⟩ := rv.one
    cases ru
    obtain ⟨_, its, n, rvl, el⟩ := (show ObjOk X.prog X.w _ _ l (.lst ys) from I.hok l _ hl)
    have hTl : s.TypeIs (.ref l) "list" := ⟨_, el, rfl⟩
    refine call_meetsIn F.slot_dict_update dd.typeIs F.entry_dict_update (F.args_dict_update_2 _ _) (S := fun A R s' => A = X.A ∧ s' = s ∧ ∀ s2, Inv X pins σ (upd H D (.dK (putAll kvs prs))) s2 → R (.ok (.ret .none)) s2) ?_ ⟨rfl, rfl, fun s2 I2 => ⟨.non, _, I2, rfl, q⟩⟩
    rintro A R s' ⟨rfl, rfl, k⟩
    unfold Builtin.«dict.update»
    refine wpAny_bind ?_
    unfold Builtin.Dict.selfAndRest
    refine wpAny_bind (wpAny_notOrdered_dict dd.typeIs ?_)
    show wpAny _ _ (pure (D, [Value.ref l])) _ _ _
    refine wpAny_pure ?_
    show wpAny _ _ (Builtin.Dict.updateFrom "dict.update" D (.ref l) [] .none) _ _ _
    unfold Builtin.Dict.updateFrom
    refine wpAny_bind (wpAny_typeOf hTl ?_)
    rw [if_pos (by decide)]
    refine wpAny_bind (keys_attr_list (show X.A.in1.handled = none from hh) el fun h2 tk2 old2 => ?_)
    rw [if_pos (by rfl)]
    have I2 : Inv X pins σ H { s' with heap := h2, toks := tk2 } := I.kept (t' := tk2) old2
    obtain ⟨its2, rv2, p2, _⟩ := I2.list (SqL.of hl)
    refine wpAny_bind (wpAny_rule (wpAny_bind (wpAny_pyIter_list p2.isList ?_)))
    have I3 : Inv X pins σ H { s' with heap := h2.push { cls := .type "list_iterator", data := .fields #[.ref l, .int 0 0] }, toks := tk2 } := I2.kept (t' := tk2) fun b o e => Heap.get?_push_of_some _ e
    have fit : FpOk X pins H h2.objs.size := I2.fpOk (Nat.le_refl _) (I2.hok.fresh (Nat.le_refl _))
    refine wpAny_pure ⟨plainId_quiet F.plain_dict_update_loop _, ?_⟩
    refine dict_loop (A := X.A) (l := l) (xs := ys) (prs := prs) hh hlen ys.length 0 kvs _ _ rfl (Nat.zero_le _) I3 hD (SqL.of hl) fit ⟨_, Heap.get?_push_size _ rfl, rfl, rfl⟩ hp (by omega) fun s2 I4 => ?_
    rw [List.drop_zero] at I4
    exact k s2 I4
  · obtain ⟨u, rfl, ru⟩ := rv.one
    cases ru
    obtain ⟨z2, hdm2, ms, rel2, dd2⟩ := dk_of I.hok hO
    have l1 := rel.length
    have l2 := rel2.length
    refine call_meetsIn F.slot_dict_update dd.typeIs F.entry_dict_update (F.args_dict_update_2 _ _) (meets_dict_update (mixKind X.prog X.w) D o (Ne.symm ho) hdm2) ⟨ds, ms, dd, dd2, by omega, fun h' d1 d2 sb => ?_⟩
    have he : ∃ q, h'.get? D = some q := let ⟨q, _, _, hq, _⟩ := d1; ⟨q, hq⟩
    have hle := putAll_len more kvs
    exact ⟨.non, _, d_write (t' := s.toks) I (by rw [hD]; exact True.intro) sb he (dk_new (by omega) hdm (kv_putAll more rel rel2) d1), rfl, q⟩
end
end Jb

set_option Elab.async false
set_option linter.all false
set_option maxRecDepth 100000
set_option maxHeartbeats 4000000
namespace Jb
open PySem PySem.Spec PyProof.Rows L2
/-! ### repr of data -/
mutual
def pyD : Dt → PyData
  | .non => .none
  | .bl b => .bool b
  | .int i => .int i
  | .str x => .str x
  | .lst ds => .list (pyL ds)
  | .tup ds => .tuple (pyL ds)
def pyL : List Dt → List PyData
  | [] => []
  | d :: r => pyD d :: pyL r
end
mutual
theorem noDict : ∀ d : Dt, PyData.hasDict (pyD d) = false
  | .non => by simp [pyD, PyData.hasDict]
  | .bl _ => by simp [pyD, PyData.hasDict]
  | .int _ => by simp [pyD, PyData.hasDict]
  | .str _ => by simp [pyD, PyData.hasDict]
  | .lst ds => by simp [pyD, PyData.hasDict, noDictL ds]
  | .tup ds => by simp [pyD, PyData.hasDict, noDictL ds]
theorem noDictL : ∀ ds : List Dt, PyData.hasDictAll (pyL ds) = false
  | [] => by simp [pyL, PyData.hasDictAll]
  | d :: r => by simp [pyL, PyData.hasDictAll, noDict d, noDictL r]
end
mutual
theorem reads_of {X : Cx} {pins : List (Addr × Obj)} {σ : L2.St} {H : Hp} {s : Shared} (I : Inv X pins σ H s) : ∀ (d : Dt) (x : V) (u : Value), Brs X.K H d x → RelV x u → ∃ as, Reads s.heap u (pyD d) as
  | .non, x, u, h, r => by simp only [Brs] at h; subst h; cases (show u = Value.none from r); exact ⟨_, .none⟩
  | .bl b, x, u, h, r => by simp only [Brs] at h; subst h; cases (show u = Value.bool b from r); exact ⟨_, .bool b⟩
  | .int i, x, u, h, r => by simp only [Brs] at h; subst h; obtain ⟨t, rfl⟩ := (show ∃ t, u = Value.int i t from r); exact ⟨_, .int i t⟩
  | .str y, x, u, h, r => by simp only [Brs] at h; subst h; obtain ⟨t, rfl⟩ := (show ∃ t, u = Value.str y t from r); exact ⟨_, .str y t⟩
  | .lst ds, x, u, h, r => by
    simp only [Brs] at h
    obtain ⟨a, xs, rfl, hq, hb⟩ := h
    cases (show u = Value.ref a from r)
    obtain ⟨its, rv, p, _⟩ := I.list hq
    obtain ⟨as, ha⟩ := reads_all I ds xs its hb rv
    obtain ⟨o, h1, h2, n, h3⟩ := p.isList
    exact ⟨_, .list h1 h2 h3 ha⟩
  | .tup ds, x, u, h, r => by
    simp only [Brs] at h
    obtain ⟨a, xs, rfl, hq, hb⟩ := h
    cases (show u = Value.ref a from r)
    obtain ⟨its, rv, p, _⟩ := I.tuple hq
    obtain ⟨as, ha⟩ := reads_all I ds xs its hb rv
    obtain ⟨o, h1, h2, n, h3⟩ := p
    exact ⟨_, .tuple h1 h2 h3 ha⟩
theorem reads_all {X : Cx} {pins : List (Addr × Obj)} {σ : L2.St} {H : Hp} {s : Shared} (I : Inv X pins σ H s) : ∀ (ds : List Dt) (xs : List V) (us : List Value), BrsL X.K H ds xs → Vals xs us → ∃ as, ReadsAll s.heap us (pyL ds) as
  | [], xs, us, h, r => by simp only [BrsL] at h; subst h; cases r; exact ⟨_, .nil⟩
  | d :: ds, xs, us, h, r => by
    simp only [BrsL] at h
    obtain ⟨x, ys, rfl, h1, h2⟩ := h
    cases r with
    | cons p q =>
      obtain ⟨as, ha⟩ := reads_of I d x _ h1 p
      obtain ⟨bs, hb⟩ := reads_all I ds ys _ h2 q
      exact ⟨_, .cons ha hb⟩
end
section
variable {X : Cx}
def rRepr (K : PySem.W.Frag) (A : Around) : List V → Hp → VK → Prop := fun xs H Q => ∃ a d, xs = [.ref a] ∧ Brs K H d (.ref a) ∧ A.guards = some [] ∧ A.units + ((pyD d).depth + 1) < cLine ∧ (pyD d).showable = true ∧ (pyD d).shown.length ≤ sizeLine ∧ Q (.str (pyD d).shown) H
theorem call_repr : CallR X (.builtin "repr") (rRepr X.K X.A) := by
  intro pins s σ H xs us Q I r h
  obtain ⟨a, d, rfl, hb, hg, hu, hsh, hl, q⟩ := h
  obtain ⟨u, rfl, ru⟩ := vals1 r
  cases ru
  obtain ⟨as, ha⟩ := reads_of I d (.ref a) (.ref a) hb rfl
  exact repr_of_reads' ha hsh (fun z => by rw [noDict d] at z; cases z) hg hu (fun _ _ e => e) (fun h' u tk old => ⟨.str _, H, I.kept (t' := tk) old, ⟨_, rfl⟩, q⟩) hl
end
/-! ### lists of small numbers -/
theorem brs_ints {K : PySem.W.Frag} {H : Hp} : ∀ ns : List Int, BrsL K H (ns.map Dt.int) (ns.map V.int)
  | [] => rfl
  | x :: r => ⟨.int x, r.map V.int, rfl, rfl, brs_ints r⟩
theorem dp_ints : ∀ ns : List Int, dpL (ns.map Dt.int) = 0
  | [] => rfl
  | x :: r => by
    rw [List.map_cons]
    unfold dpL
    rw [dp_ints r]
    rfl
theorem toStr_len : ∀ i : Fin 1000, (Str.ofString (toString ((i.val : Nat) : Int))).length ≤ 3 := by decide +kernel
/-- numbers from 0 to 999 -/
def Small (ns : List Int) : Prop := ∀ n ∈ ns, 0 ≤ n ∧ n < 1000
theorem small_len {n : Int} (h0 : 0 ≤ n) (h1 : n < 1000) : (Str.ofString (toString n)).length ≤ 3 := by
  have e : n = ((n.toNat : Nat) : Int) := by omega
  have := toStr_len ⟨n.toNat, by omega⟩
  dsimp only at this
  rw [← e] at this
  exact this
theorem text_len : ∀ (ts : List Str) (k : Nat) (a : Str), (∀ t ∈ ts, t.length ≤ 3) → (textFrom k a ts).length ≤ a.length + 5 * ts.length
  | [], k, a, _ => by rw [textFrom.eq_1]; simp
  | t :: ts, k, a, h => by
    rw [textFrom.eq_2]
    have h1 := text_len ts (k + 1) (a ++ Str.ofString (if k > 0 then ", " else "") ++ t) fun x hx => h x (List.mem_cons_of_mem _ hx)
    have h2 := h t (List.mem_cons_self ..)
    rw [Str.length_append, Str.length_append] at h1
    have h3 : (Str.ofString (if k > 0 then ", " else "")).length ≤ 2 := by split <;> decide
    rw [List.length_cons]
    omega
theorem shownAll_ints : ∀ ns : List Int, PyData.shownAll (pyL (ns.map Dt.int)) = ns.map fun n => Str.ofString (toString n)
  | [] => by simp [pyL, PyData.shownAll]
  | n :: r => by simp [pyL, pyD, PyData.shownAll, PyData.shown, shownAll_ints r]
theorem shown_len {ns : List Int} (h : Small ns) (hl : ns.length ≤ 1000) : (pyD (.lst (ns.map Dt.int))).shown.length ≤ sizeLine := by
  have hz : 20000 ≤ sizeLine := by decide
  unfold pyD
  rw [PyData.shown.eq_5, shownAll_ints]
  unfold listText
  rw [Str.length_append]
  have h1 := text_len (ns.map fun n => Str.ofString (toString n)) 0 "[" (fun t ht => by
    obtain ⟨n, hn, rfl⟩ := List.mem_map.mp ht
    exact small_len (h n hn).1 (h n hn).2)
  rw [List.length_map] at h1
  have h2 : (Str.ofString "]").length = 1 := by decide
  have h3 : (Str.ofString "[").length = 1 := by decide
  omega
theorem showable_ints : ∀ ns : List Int, Small ns → PyData.showableAll (pyL (ns.map Dt.int)) = true
  | [], _ => by simp [pyL, PyData.showableAll]
  | n :: r, h => by
    have h1 := h n (List.mem_cons_self ..)
    have h2 : n.natAbs.log2 < 1920 := by
      by_cases h0 : n.natAbs = 0
      · rw [h0]; decide
      · exact (Nat.log2_lt h0).mpr (Nat.lt_of_lt_of_le (show n.natAbs < 2 ^ 10 by omega) (Nat.pow_le_pow_right (by decide) (by decide)))
    simp [pyL, pyD, PyData.showableAll, PyData.showable, h2, showable_ints r fun x hx => h x (List.mem_cons_of_mem _ hx)]
theorem depth_ints : ∀ ns : List Int, PyData.depthAll (pyL (ns.map Dt.int)) = 0
  | [] => by simp [pyL, PyData.depthAll]
  | n :: r => by simp [pyL, pyD, PyData.depthAll, PyData.depth, depth_ints r]
/-- repr of a list of small numbers -/
theorem repr_ints {K : PySem.W.Frag} {k : Nat} {A : Around} {H : Hp} {Q : VK} {a : Addr} {ns : List Int} (hr : Room k A) (h : H a = some (.lst (ns.map V.int))) (hs : Small ns) (hl : ns.length ≤ 1000) (q : Q (.str (pyD (.lst (ns.map Dt.int))).shown) H) : rRepr K A [.ref a] H Q := by
  refine ⟨a, .lst (ns.map Dt.int), rfl, ⟨a, _, rfl, SqL.of h, brs_ints ns⟩, hr.gd, ?_, ?_, shown_len hs hl, q⟩
  · have : (pyD (.lst (ns.map Dt.int))).depth ≤ 1 := by
      unfold pyD
      simp [PyData.depth, depth_ints ns]
    have := hr.units
    omega
  · unfold pyD
    rw [PyData.showable.eq_5]
    exact showable_ints ns hs
end Jb

set_option Elab.async false
set_option linter.all false
set_option maxRecDepth 100000
set_option maxHeartbeats 4000000
namespace PySem
open PySem.Builtin PySem.Builtin.SmallTypes
def risingN (id : String) : Builtin := fun args => do
  let x ← slotArgs "__next__" 0 args
  match x with
  | (self, snd) => do
    let seq ← field self 0
    let jp : Unit → Sem PySem.Fin := fun _ => do
      let y ← field self 1
      match y with
      | Value.int i tok => do
        let z ← seqItems? seq
        match z with
        | some xs =>
          match xs[i.toNat]? with
          | some v => do
            setField self 1 (rawInt (i + 1))
            ret v
          | none => do
            rule (toString id ++ toString ".end")
            setField self 0 Value.none
            stopIteration
        | _ => unsupported (toString "internal:" ++ toString id)
      | _ => unsupported (toString "internal:" ++ toString id)
    if (seq == Value.none) = true then do
      rule (toString id ++ toString ".ended")
      let r ← stopIteration
      jp r
    else jp ()
theorem tup_next_eq : Builtin.«tuple_iterator.__next__» = risingN "tuple_iterator.__next__" := rfl
section
variable {prog : Program} {w : World} {A : Around} {E : Value → Shared → Prop} {it t : Addr} {i : Nat} {items : Array Value} {h : Heap} {g : Array GenState} {d : Drawn} {tk : Nat} {os : OsState}
theorem nextOf_tuple_item {x : Value} {Q : Value → Shared → Prop} (st : h.IsTupleIter it t i) (p : h.IsTuple t items) (hx : items[i]? = some x)
    (hq : ∀ h', h'.IsTupleIter it t (i + 1) → Heap.SameBut it h h' → Q x ⟨h', g, d, tk, os⟩) : wpAny (model prog w) A (Builtin.SmallTypes.nextOf (.ref it)) Q E ⟨h, g, d, tk, os⟩ := by
  have hT : (⟨h, g, d, tk, os⟩ : Shared).TypeIs (.ref it) "tuple_iterator" := st.typeIs
  unfold Builtin.SmallTypes.nextOf
  refine wpAny_bind (wpAny_callSpecial?_slot hT F.slot_tuple_iterator_next ?_)
  obtain ⟨o, ho, hc, hd⟩ := st
  obtain ⟨ot, h1, h2, n, h3⟩ := p
  repeat (any_goals (first | assumption | wp_step))
  refine codeAny_call_builtin F.slot_tuple_iterator_next.plain F.entry_tuple_iterator_next (F.slot_tuple_iterator_next.check _ _ _ _ _ _ _ _ hT (F.args_tuple_iterator_next_1 _) ?_)
  rw [tup_next_eq]
  unfold risingN
  repeat (any_goals (first | assumption | wp_step))
  rw [hd]
  refine wpAny_pure (wpAny_pure ?_)
  show wpAny _ _ (if (Value.ref t == Value.none) = true then _ else _) _ _ _
  rw [show (Value.ref t == Value.none) = false from rfl, if_neg Bool.false_ne_true]
  repeat (any_goals (first | assumption | wp_step))
  rw [hd]
  refine wpAny_pure (wpAny_pure ?_)
  show wpAny _ _ (seqItems? (Value.ref t) >>= _) _ _ _
  refine wpAny_bind (wpAny_seqItems h1 h3 ?_)
  dsimp only
  have hi : (i : Int).toNat = i := Int.toNat_natCast i
  rw [hi, hx]
  dsimp only
  refine wpAny_bind (wpAny_setField ho hd (by show 1 < 2; decide) ?_)
  refine wpAny_pure ?_
  dsimp only
  refine wpAny_pure (hq _ ?_ ⟨Heap.size_update .., fun b hb => Heap.get?_update_other h _ (Ne.symm hb)⟩)
  refine ⟨_, Heap.get?_update_self _ ho (Obj.isFreed_of_fields (Obj.data_mapFields hd _)), (Obj.cls_mapFields ..).trans hc, ?_⟩
  rw [Obj.data_mapFields hd]
  have e1 : (((i + 1 : Nat)) : Int) = (i : Int) + 1 := by omega
  rw [e1]
  rfl
theorem stop_any {α : Type} {Q : α → Shared → Prop} (hh : A.handled = none)
    (hq : ∀ h' e, (∀ b o, h.get? b = some o → h'.get? b = some o) → (∃ o, h'.get? e = some o ∧ o.cls = .type "StopIteration") → E (.ref e) ⟨h', g, d, tk, os⟩) : wpAny (model prog w) A (stopIteration : Sem α) Q E ⟨h, g, d, tk, os⟩ := by
  unfold stopIteration
  repeat (any_goals (first | assumption | wp_step))
  unfold raiseNew
  refine wpAny_bind (wpAny_handled ?_)
  rw [hh]
  dsimp only
  exact wpAny_throw (hq _ _ (fun b o e => Heap.get?_push_of_some _ (Heap.get?_push_of_some _ e)) ⟨_, Heap.get?_push_size _ rfl, rfl⟩)
theorem nextOf_tuple_end {Q : Value → Shared → Prop} (hh : A.handled = none) (st : h.IsTupleIter it t i) (p : h.IsTuple t items) (hx : items[i]? = none)
    (hq : ∀ h' e, Heap.ExtBut it h h' → (∃ o, h'.get? e = some o ∧ o.cls = .type "StopIteration") → E (.ref e) ⟨h', g, d, tk, os⟩) : wpAny (model prog w) A (Builtin.SmallTypes.nextOf (.ref it)) Q E ⟨h, g, d, tk, os⟩ := by
  have hT : (⟨h, g, d, tk, os⟩ : Shared).TypeIs (.ref it) "tuple_iterator" := st.typeIs
  unfold Builtin.SmallTypes.nextOf
  refine wpAny_bind (wpAny_callSpecial?_slot hT F.slot_tuple_iterator_next ?_)
  obtain ⟨o, ho, hc, hd⟩ := st
  obtain ⟨ot, h1, h2, n, h3⟩ := p
  repeat (any_goals (first | assumption | wp_step))
  refine codeAny_call_builtin F.slot_tuple_iterator_next.plain F.entry_tuple_iterator_next (F.slot_tuple_iterator_next.check _ _ _ _ _ _ _ _ hT (F.args_tuple_iterator_next_1 _) ?_)
  rw [tup_next_eq]
  unfold risingN
  repeat (any_goals (first | assumption | wp_step))
  rw [hd]
  refine wpAny_pure (wpAny_pure ?_)
  show wpAny _ _ (if (Value.ref t == Value.none) = true then _ else _) _ _ _
  rw [show (Value.ref t == Value.none) = false from rfl, if_neg Bool.false_ne_true]
  repeat (any_goals (first | assumption | wp_step))
  rw [hd]
  refine wpAny_pure (wpAny_pure ?_)
  show wpAny _ _ (seqItems? (Value.ref t) >>= _) _ _ _
  refine wpAny_bind (wpAny_seqItems h1 h3 ?_)
  dsimp only
  have hi : (i : Int).toNat = i := Int.toNat_natCast i
  rw [hi, hx]
  dsimp only
  refine wpAny_bind (wpAny_rule ?_)
  refine wpAny_bind (wpAny_setField ho hd (by show 0 < 2; decide) ?_)
  refine stop_any (show A.in1.handled = none from hh) fun h' e old he => ?_
  exact hq h' e (fun b ob hb hg => old b ob ((Heap.get?_update_other h _ (Ne.symm hb)).trans hg)) he
theorem Draws.tuple (hh : A.handled = none) (it t : Addr) (hne : t ≠ it) (items : Array Value) : Draws prog w A it [it, t] items.size (fun i v => items[i]? = some v) fun i h => h.IsTupleIter it t i ∧ h.IsTuple t items where
  live := fun i h st => let ⟨o, ho, _⟩ := st.1; ⟨o, ho⟩
  frame := fun i h h' st k => ⟨st.1.at fun o e => k it (by simp) o e, let ⟨o, h1, h2⟩ := st.2; ⟨o, k t (by simp) o h1, h2⟩⟩
  item := fun i s Q E hi st k => by
    obtain ⟨h, g, d, tk, os⟩ := s
    refine nextOf_tuple_item st.1 st.2 (x := items[i]) (by simp [hi]) fun h' st' sb => k _ h' tk (by simp [hi]) ⟨st', ?_⟩ sb
    obtain ⟨o, h1, h2⟩ := st.2
    exact ⟨o, (sb.2 t hne).trans h1, h2⟩
  done := fun s Q E st k => by
    obtain ⟨h, g, d, tk, os⟩ := s
    exact nextOf_tuple_end hh st.1 st.2 (by simp) fun h' e eb he => k h' e eb he
theorem Draws.tupleEnd (hh : A.handled = none) (it t : Addr) (i : Nat) (items : Array Value) (hx : items[i]? = none) : Draws prog w A it [it, t] i (fun _ _ => False) fun j h => j = i ∧ h.IsTupleIter it t i ∧ h.IsTuple t items where
  live := fun j h st => let ⟨o, ho, _⟩ := st.2.1; ⟨o, ho⟩
  frame := fun j h h' st k => ⟨st.1, st.2.1.at fun o e => k it (by simp) o e, let ⟨o, h1, h2⟩ := st.2.2; ⟨o, k t (by simp) o h1, h2⟩⟩
  item := fun j s Q E hj st k => absurd st.1 (Nat.ne_of_lt hj)
  done := fun s Q E st k => by
    obtain ⟨h, g, d, tk, os⟩ := s
    exact nextOf_tuple_end hh st.2.1 st.2.2 hx fun h' e eb he => k h' e eb he
theorem enum_new_tuple {Q : PySem.Fin → Shared → Prop} (hp : h.IsTuple t items)
    (hq : Q (.done (.ret (.ref (h.objs.size + 1)))) ⟨(h.push { cls := .type "tuple_iterator", data := .fields #[.ref t, .int 0 0] }).push { cls := .type "enumerate", data := .fields #[.none, .bool false, .ref h.objs.size, rawInt 0, .none, .none] }, g, d, tk, os⟩) :
    wpAny (model prog w) A (Builtin.«enumerate.__new__» ⟨[.type "enumerate", .ref t], []⟩) Q E ⟨h, g, d, tk, os⟩ := by
  have f1 := sub_enumerate
  repeat (any_goals (first | assumption | wp_step))
  refine wpAny_stack fun st _ _ _ => ?_
  refine wpAny_pure ?_
  have key : wpAny (model prog w) A (do let it ← pyIter (.ref t); let r ← Builtin.SmallTypes.newRecord (Value.type "enumerate") (Builtin.SmallTypes.ownedTupleFields ++ [it, rawInt 0, Value.none, Value.none]); ret r) Q E ⟨h, g, d, tk, os⟩ := by
    refine wpAny_bind (wpAny_pyIter_tuple hp ?_)
    repeat (any_goals (first | assumption | wp_step))
    rw [Heap.size_push]
    exact hq
  dsimp only
  split
  · split
    · refine wpAny_bind (wpAny_of_eq (a := (Value.ref t, none)) (by rfl) ?_)
      exact key
    · refine wpAny_bind (wpAny_of_eq (a := (Value.ref t, none)) (by rfl) ?_)
      exact key
  · rw [if_neg (by decide)]
    refine wpAny_bind (wpAny_of_eq (a := (Value.ref t, none)) (by rfl) ?_)
    exact key
theorem call_enumerate_tuple {Q : Value → Shared → Prop} (hp : h.IsTuple t items)
    (hq : ∀ h', IsEnum h' (h.objs.size + 1) h.objs.size 0 .none → h'.IsTupleIter h.objs.size t 0 → h'.objs.size = h.objs.size + 2 → (∀ b o, h.get? b = some o → h'.get? b = some o) → Q (.ref (h.objs.size + 1)) ⟨h', g, d, tk, os⟩) :
    wpAny (model prog w) A (call (.type "enumerate") [.ref t]) Q E ⟨h, g, d, tk, os⟩ := by
  have e1 : ((h.push { cls := .type "tuple_iterator", data := .fields #[.ref t, .int 0 0] }).push { cls := .type "enumerate", data := .fields #[.none, .bool false, .ref h.objs.size, rawInt 0, .none, .none] }).get? (h.objs.size + 1) = some { cls := .type "enumerate", data := .fields #[.none, .bool false, .ref h.objs.size, rawInt 0, .none, .none] } := by
    rw [← Heap.size_push h { cls := .type "tuple_iterator", data := .fields #[.ref t, .int 0 0] }]
    exact Heap.get?_push_size _ rfl
  refine callType_newIn F.called_enumerate (by decide) (F.typeCall_enumerate_1 _) (F.newCall_enumerate_1 _) (fun obj => F.args_object_init_2 _ _) F.entry_enumerate_new (S := fun A' R s' => s' = ⟨h, g, d, tk, os⟩ ∧ R (.ok (.ret (.ref (h.objs.size + 1)))) ⟨(h.push { cls := .type "tuple_iterator", data := .fields #[.ref t, .int 0 0] }).push { cls := .type "enumerate", data := .fields #[.none, .bool false, .ref h.objs.size, rawInt 0, .none, .none] }, g, d, tk, os⟩) ?_ ⟨rfl, ⟨⟨_, e1, rfl⟩, hq _ e1 ⟨_, Heap.get?_push_of_some _ (Heap.get?_push_size _ rfl), rfl, rfl⟩ (by rw [Heap.size_push, Heap.size_push]) fun b o e => Heap.get?_push_of_some _ (Heap.get?_push_of_some _ e)⟩⟩
  rintro A' R s' ⟨rfl, hR⟩
  exact enum_new_tuple hp hR
end
end PySem
namespace Jb
open PySem PySem.Spec PyProof.Rows L2
/-- number, item of a tuple -/
def IteT (K : PySem.W.Frag) (a : Addr) : It :=
  ⟨fun i H => ∃ xs x, SqT K H a xs ∧ xs[i]? = some x, fun i H x H' => ∃ p v, H p = none ∧ x = .ref p ∧ (∀ xs, SqT K H a xs → xs[i]? = some v) ∧ H' = upd H p (.tup [.int i, v]), fun i H => ∃ xs, SqT K H a xs ∧ xs.length ≤ i⟩
theorem turn_enumT {P : Program} {w : World} {K : PySem.W.Frag} {elts : List Expr} {x1} {pos : Pos} (a e it : Addr) (hne : e ≠ it) (hea : e ≠ a) (hia : it ≠ a) :
    Turn P w K (.Tuple elts x1 pos) (IteT K a) [e, it] e (fun i h => (∃ old, IsEnum h e it (i : Int) old) ∧ h.IsTupleIter it a i) where
  mem := by simp
  obj := fun i h st b hb => by
    obtain ⟨⟨old, he⟩, o, ho, c, d⟩ := st
    rcases List.mem_cons.mp hb with z | z
    · subst z
      exact ⟨_, he, fun v z => by cases z⟩
    · have z : b = it := by simpa using z
      subst z
      exact ⟨o, ho, fun v z => by rw [d] at z; cases z⟩
  keep := fun i h h' st k => by
    obtain ⟨⟨old, he⟩, hit⟩ := st
    exact ⟨⟨old, k e (by simp) _ he⟩, hit.at fun o q => k it (by simp) o q⟩
  item := by
    intro X hP hw hK hc i pins s σ H E I hf st hg
    subst hP hw hK
    obtain ⟨xs, x, hq, hx⟩ := hg
    obtain ⟨its, rv, p, hz⟩ := I.tuple hq
    obtain ⟨u, hu, ru⟩ := rv.get hx
    obtain ⟨⟨old, he⟩, hit⟩ := st
    have hil : i < its.toArray.size := by simp; exact (List.getElem?_eq_some_iff.mp hu).1
    have p' : s.heap.IsTuple a its.toArray := p
    refine wpAny_pyNext_enum_itemD (Draws.tuple (show X.A.in1.handled = none from I.ok.hd hc) it a (Ne.symm hia) its.toArray) he ⟨hit, p'⟩ hil hne (fun z => by rcases List.mem_cons.mp z with q | q; exact hne q; exact hea (List.mem_singleton.mp q)) fun y h1 tk hy ho1 hit1 ht1 hsz1 k1 => ?_
    have ey : y = u := by
      have : its[i]? = some y := by simpa using hy
      rw [hu] at this
      exact (Option.some.inj this).symm
    subst ey
    refine ⟨.ref s.heap.objs.size, rfl, wpAny_letOwnedTupleGo_enum ho1 fun h2 he2 sb2 => ?_⟩
    have hel : e < s.heap.objs.size := Heap.lt_size he
    have hpe : s.heap.objs.size ≠ e := Nat.ne_of_gt hel
    have ht2 : h2.get? s.heap.objs.size = some { cls := .type "tuple", data := .seq #[.int i tk, y] } := sb2.extBut _ _ hpe ht1
    have I2 : Inv X pins σ (upd H s.heap.objs.size (.tup [.int i, x])) { s with heap := h2, toks := tk + 1 } := by
      refine inv_turn (fp := [e, it]) (t' := tk + 1) I hf (fun b o hb q => ?_) (Nat.le_refl _) ?_
      · have n1 : b ≠ e := fun z => hb (by simp [z])
        have n2 : b ≠ it := fun z => hb (by simp [z])
        exact sb2.extBut b o n1 (k1 b o n1 n2 q)
      · exact ⟨by show 2 ≤ sizeLine; decide, [.int i tk, y], .cons ⟨_, rfl⟩ (.cons ru .nil), _, ht2, rfl, _, rfl⟩
    refine ⟨.ref s.heap.objs.size, upd H s.heap.objs.size (.tup [.int i, x]), I2, rfl, ⟨_, x, I.hok.fresh (Nat.le_refl _), rfl, fun ys hy => by rw [I.tuple_inj hy hq]; exact hx, rfl⟩, ?_, fun b hb => ?_⟩
    · refine ⟨⟨y, ?_⟩, hit1.1.extBut sb2.extBut (Ne.symm hne)⟩
      have e1 : (((i + 1 : Nat)) : Int) = (i : Int) + 1 := by omega
      rw [e1]
      exact he2
    · rw [upd_ne]
      · exact (hf b hb).1
      · intro z
        rw [z] at hb
        rcases List.mem_cons.mp hb with q | q
        · exact hpe q
        · have q : s.heap.objs.size = it := by simpa using q
          obtain ⟨o, ho, _⟩ := hit
          exact absurd (Heap.lt_size ho) (by rw [q]; exact Nat.lt_irrefl _)
  done := by
    intro X hP hw hK hc i pins s σ H E I hf st hg
    subst hP hw hK
    obtain ⟨xs, hq, hx⟩ := hg
    obtain ⟨its, rv, p, hz⟩ := I.tuple hq
    obtain ⟨⟨old, he⟩, hit⟩ := st
    have hl := rv.length
    have p' : s.heap.IsTuple a its.toArray := p
    refine wpAny_pyNext_enum_endD (Draws.tupleEnd (show X.A.in1.handled = none from I.ok.hd hc) it a i its.toArray (by simp; omega)) he ⟨rfl, hit, p'⟩ fun h1 eb => ⟨rfl, ?_⟩
    exact inv_turns (fp := [e, it]) (t' := s.toks) I hf fun b o hb q => eb b o (fun z => hb (by simp [z])) q
  self := fun A i s Q E st h => by
    obtain ⟨⟨old, he⟩, _⟩ := st
    exact wpAny_pyIter_enum he h
section
variable {X : Cx} {elts : List Expr} {x1 : Nat} {tpos : Pos} {tg e : Expr} {te : TE}
/-- for i, x in enumerate(list or tuple) -/
def iEnumS (K : PySem.W.Frag) (ta : TA) : TI := fun σ H R => ta σ H fun vs H1 => ∃ a, vs = [.ref a] ∧ (((∃ xs, SqL K H1 a xs) ∧ R (Ite K a) H1) ∨ ((∃ xs, SqT K H1 a xs) ∧ R (IteT K a) H1))
theorem pi_enumS {a : Expr} {ta : TA} {p pos : Pos} {x1} (hg : Gl X "enumerate") (hm : X.mg "enumerate" = none) (ha : PA X [a] ta) (hs : starEach [a] X.env = [(false, eval a X.env)] := by rfl) : PI X (.Tuple elts x1 tpos) (.Call (.Name "enumerate" p) [a] [] pos) (iEnumS X.K ta) := by
  intro pins s σ H R I h
  refine Call_ (ld_blt I hg hm boot_enumerate (PyProof.Rows.callWith_type1 (thn (ha pos pins s σ H _ I h) fun us s1 ⟨vs, H1, I1, r1, q1⟩ => ?_) hs rfl))
  obtain ⟨l, e, q⟩ := q1
  subst e
  obtain ⟨u, rfl, ru⟩ := vals1 r1
  cases ru
  have fin : ∀ b ∈ [s1.heap.objs.size + 1, s1.heap.objs.size], FpOk X pins H1 b := fun b hb => by
    have hb2 : s1.heap.objs.size ≤ b := by
      rcases List.mem_cons.mp hb with z | z
      · rw [z]; exact Nat.le_succ _
      · have z : b = s1.heap.objs.size := by simpa using z
        rw [z]; exact Nat.le_refl _
    exact I1.fpOk hb2 (I1.hok.fresh hb2)
  rcases q with ⟨⟨xs, hq⟩, q⟩ | ⟨⟨xs, hq⟩, q⟩
  · obtain ⟨its, rv, pl, hz⟩ := I1.list hq
    refine call_enumerate_list pl.isList fun h1 he hit hsz k1 => ?_
    have I2 : Inv X pins σ H1 { s1 with heap := h1 } := I1.kept (t' := s1.toks) k1
    refine wpAny_pyIter_enum he ?_
    exact ⟨s1.heap.objs.size + 1, [s1.heap.objs.size + 1, s1.heap.objs.size], _, _, H1, rfl, I2, turn_enum l _ _ (Nat.succ_ne_self _), ⟨⟨_, he⟩, hit⟩, fin, q⟩
  · obtain ⟨its, rv, pl, hz⟩ := I1.tuple hq
    have pl' : s1.heap.IsTuple l its.toArray := pl
    have hlt : l < s1.heap.objs.size := let ⟨_, h1, _⟩ := pl'; Heap.lt_size h1
    obtain ⟨hp, g, d, tk, os⟩ := s1
    refine call_enumerate_tuple pl' fun h1 he hit hsz k1 => ?_
    have I2 : Inv X pins σ H1 { heap := h1, gens := g, drawn := d, toks := tk, os := os } := I1.kept (t' := tk) k1
    refine wpAny_pyIter_enum he ?_
    exact ⟨hp.objs.size + 1, [hp.objs.size + 1, hp.objs.size], _, _, H1, rfl, I2, turn_enumT l _ _ (Nat.succ_ne_self _) (Nat.ne_of_gt (Nat.lt_succ_of_lt hlt)) (Nat.ne_of_gt hlt), ⟨⟨_, he⟩, hit⟩, fin, q⟩
/-- for x in list or tuple -/
def iSeq (K : PySem.W.Frag) (te : TE) : TI := fun σ H R => te σ H fun x H1 => ∃ a, x = .ref a ∧ (((∃ xs, SqL K H1 a xs) ∧ R (Itl K a) H1) ∨ ((∃ xs, SqT K H1 a xs) ∧ R (Itt K a) H1))
theorem pi_seq (hl : PE X e te) : PI X tg e (iSeq X.K te) := by
  intro pins s σ H R I h
  refine thn (hl pins s σ H _ I h) fun v s1 ⟨x, H1, I1, r1, q1⟩ => ?_
  obtain ⟨a, ex, q⟩ := q1
  subst ex
  cases r1
  have fin : ∀ b ∈ [s1.heap.objs.size], FpOk X pins H1 b := fun b hb => by
    rw [List.mem_singleton.mp hb]
    exact I1.fpOk (Nat.le_refl _) (I1.hok.fresh (Nat.le_refl _))
  rcases q with ⟨⟨xs, hq⟩, q⟩ | ⟨⟨xs, hq⟩, q⟩
  · obtain ⟨its, rv, p, hz⟩ := I1.list hq
    refine wpAny_pyIter_list p.isList ?_
    exact ⟨s1.heap.objs.size, [s1.heap.objs.size], _, _, H1, rfl, I1.kept (t' := s1.toks) fun b o e => Heap.get?_push_of_some _ e, turn_list a _, ⟨_, Heap.get?_push_size _ rfl, rfl, rfl⟩, fin, q⟩
  · obtain ⟨its, rv, p, hz⟩ := I1.tuple hq
    refine wpAny_pyIter_tuple (show s1.heap.IsTuple a its.toArray from p) ?_
    exact ⟨s1.heap.objs.size, [s1.heap.objs.size], _, _, H1, rfl, I1.kept (t' := s1.toks) fun b o e => Heap.get?_push_of_some _ e, turn_tuple a _, ⟨_, Heap.get?_push_size _ rfl, rfl, rfl⟩, fin, q⟩
end
theorem for_enumT {K : PySem.W.Frag} {a : Addr} {xs : List V} {g : TG} {tb : TS} {D : Ends} {σ : L2.St} {H : Hp} (Pv : Nat → L2.St → Hp → Prop) (h0 : Pv 0 σ H) (hl : ∀ i σ H, i ≤ xs.length → Pv i σ H → SqT K H a xs)
    (hs : ∀ i x σ H p, xs[i]? = some x → Pv i σ H → H p = none → g (.ref p) σ (upd H p (.tup [.int i, x])) fun σ2 H2 => tb { D with nx := Pv (i + 1), ct := Pv (i + 1), bk := D.nx } σ2 H2) (hd : ∀ σ H, Pv xs.length σ H → D.nx σ H) :
    ∃ W : Nat → Nat → L2.St → Hp → Prop, (∃ m, W 0 m σ H) ∧ ∀ i m σ H, W i m σ H →
      ((IteT K a).stop i H ∧ D.nx σ H) ∨ ((IteT K a).go i H ∧ ∃ N : L2.St → Hp → Prop, (∀ σ' H', N σ' H' → ∃ m', m' < m ∧ W (i + 1) m' σ' H') ∧ ∀ x H', (IteT K a).yld i H x H' → g x σ H' fun σ2 H2 => tb { D with nx := N, ct := N, bk := D.nx } σ2 H2) := by
  refine ⟨fun i m σ H => m = xs.length - i ∧ i ≤ xs.length ∧ Pv i σ H, ⟨xs.length, by simp, Nat.zero_le _, h0⟩, ?_⟩
  rintro i m σ H ⟨rfl, hi, p⟩
  have q := hl i σ H hi p
  by_cases hlt : i < xs.length
  · refine .inr ⟨⟨xs, xs[i], q, by simp [hlt]⟩, Pv (i + 1), fun σ' H' p' => ⟨xs.length - (i + 1), by omega, rfl, hlt, p'⟩, fun x H' y => ?_⟩
    obtain ⟨r, v, hr, rfl, y, rfl⟩ := y
    exact hs i v σ _ r (y xs q) p hr
  · have e : i = xs.length := by omega
    subst e
    exact .inl ⟨⟨xs, q, Nat.le_refl _⟩, hd σ H p⟩
end Jb

set_option Elab.async false
set_option linter.all false
set_option maxRecDepth 100000
set_option maxHeartbeats 4000000
namespace Jb
open PySem PySem.Spec PyProof.Rows L2
set_option autoImplicit true
structure Shut (p : Prop) : Prop where
  mk :: (out : p)
theorem qpss_nil  : Shut (PSs X [] tNext) := ⟨pss_nil⟩
theorem qpss_one {st : Stmt} (h1 : Shut (PS X st t)) : Shut (PSs X [st] t) := ⟨pss_one h1.out⟩
theorem qpss_cons {st : Stmt} {rest : List Stmt} (h1 : Shut (PS X st t)) (h2 : Shut (PSs X rest u)) : Shut (PSs X (st :: rest) (tSeq t u)) := ⟨pss_cons h1.out h2.out⟩
theorem qpss_cut {st : Stmt} {rest : List Stmt} (h1 : Shut (PS X st t)) (h2 : Shut (PSs X rest u)) : Shut (PSs X (st :: rest) (tCut t u)) := ⟨pss_cut h1.out h2.out⟩
theorem qps_set {i : Nat} {x : Str} {e : Expr} {te : TE} {pos' : Pos} (hN : X.N.Nodup) (hi : X.N[i]? = some x) (hx : Loc X.env.scope x) (he : Shut (PE X e te)) (hs : swapsWith e (some (.Name x pos')) pos.line X.env = pure false := by rfl) (hf : X.fn x = true ∨ X.env.scope.names.lookup x = some .local := by first | exact .inl rfl | exact .inr rfl | assumption) : Shut (PS X (.Assign [.Name x pos'] e pos) (tAsg te (gName i))) := ⟨ps_set hN hi hx he.out hs hf⟩
theorem qps_asg {tg e : Expr} {te : TE} {g : TG} (he : Shut (PE X e te)) (hg : Shut (PG X tg g)) (hs : swapsWithSole [tg] e pos.line X.env = pure false := by rfl) (hw : swappedStores [tg] e X.env = pure none := by rfl) (h1 : (assignEach [tg] X.env).map (·.2) = [assign tg X.env] := by rfl) : Shut (PS X (.Assign [tg] e pos) (tAsg te g)) := ⟨ps_asg he.out hg.out hs hw h1⟩
theorem qps_par {i j : Nat} {x y : Str} {a b : Expr} {ta : TA} {px py pt : Pos} {kt k2 pt2} (hc : X.calm = true) (hN : X.N.Nodup) (hi : X.N[i]? = some x) (hj : X.N[j]? = some y) (hij : i ≠ j) (hx : X.env.scope.names.lookup x = some .local) (hy : X.env.scope.names.lookup y = some .local) (ha : Shut (PA X [a, b] ta)) (hw : swappedStores [.Tuple [.Name x px, .Name y py] kt pt] (.Tuple [a, b] k2 pt2) X.env = pure (some [x, y])) (hs : swapsWithSole [.Tuple [.Name x px, .Name y py] kt pt] (.Tuple [a, b] k2 pt2) pos.line X.env = pure false := by rfl) : Shut (PS X (.Assign [.Tuple [.Name x px, .Name y py] kt pt] (.Tuple [a, b] k2 pt2) pos) (tPar i j ta)) := ⟨ps_par hc hN hi hj hij hx hy ha.out hw hs⟩
theorem qps_aug {i : Nat} {x : Str} {e : Expr} {te : TE} {op : Operator} {ti : TIp} {pos' : Pos} (hN : X.N.Nodup) (hi : X.N[i]? = some x) (hx : Loc X.env.scope x) (he : Shut (PE X e te)) (ho : PIp X op ti) (hf : X.fn x = true ∨ X.env.scope.names.lookup x = some .local := by first | exact .inl rfl | exact .inr rfl | assumption) : Shut (PS X (.AugAssign (.Name x pos') op e pos) (tAug i te ti)) := ⟨ps_aug hN hi hx he.out ho hf⟩
theorem qps_if {c : Expr} {a b : List Stmt} {tc : TT} (hc : Shut (PT X c tc)) (ha : Shut (PSs X a t)) (hb : Shut (PSs X b u)) : Shut (PS X (.If c a b pos) (tIfS tc t u)) := ⟨ps_if hc.out ha.out hb.out⟩
theorem qps_for {iter : Expr} {body : List Stmt} {wi : TI} {g : TG} {tb : TS} {pos : Pos} (hp : PassesOwn (model X.prog X.w) X.A X.env X.xe) (hc : X.calm = true) (hi : Shut (PI X tg iter wi)) (hg : Shut (PG X tg g)) (hb : Shut (PSs X body tb)) (hs : ∀ x, foldedSetIterable iter X.env x = pure x := by intro _; rfl) : Shut (PS X (.For tg iter body [] pos) (tFor wi g tb)) := ⟨ps_for hp hc hi.out hg.out hb.out hs⟩
theorem qps_while {c : Expr} {body : List Stmt} {tc : TT} {tb : TS} (hp : PassesOwn (model X.prog X.w) X.A X.env X.xe) (hc : Shut (PT X c tc)) (hb : Shut (PSs X body tb)) : Shut (PS X (.While c body [] pos) (tWhile tc tb)) := ⟨ps_while hp hc.out hb.out⟩
theorem qps_ret (he : Shut (PE X e te)) : Shut (PS X (.Return (some e) pos) (tRet te)) := ⟨ps_ret he.out⟩
theorem qps_retN  : Shut (PS X (.Return none pos) tRetN) := ⟨ps_retN⟩
theorem qps_expr (he : Shut (PE X e te)) (hs : swapsWith e none pos.line X.env = pure false := by rfl) : Shut (PS X (.Expr e pos) (tDrop te)) := ⟨ps_expr he.out hs⟩
theorem qps_pass  : Shut (PS X (.Pass pos) tNext) := ⟨ps_pass⟩
theorem qps_break  : Shut (PS X (.Break pos) tBreak) := ⟨ps_break⟩
theorem qps_continue  : Shut (PS X (.Continue pos) tCont) := ⟨ps_continue⟩
theorem qps_dput {value : Expr} (hu : X.A.units + 1 < cLine) (ho : Shut (PE X o td)) (hi : Shut (PE X i ty)) (hv : Shut (PE X value tv)) (hs : swapsWith value (some (.Subscript o i pos')) pos.line X.env = pure false) : Shut (PS X (.Assign [.Subscript o i pos'] value pos) (sDPut td ty tv)) := ⟨ps_dput hu ho.out hi.out hv.out hs⟩
theorem qps_ddel (ho : Shut (PE X o td)) (hi : Shut (PE X i ty)) : Shut (PS X (.Delete [.Subscript o i tpos] pos) (sDDel td ty)) := ⟨ps_ddel ho.out hi.out⟩
theorem qpg_name {i : Nat} {x : Str} (hN : X.N.Nodup) (hi : X.N[i]? = some x) (hx : Loc X.env.scope x) (hf : X.fn x = true ∨ X.env.scope.names.lookup x = some .local := by first | exact .inl rfl | exact .inr rfl | assumption) : Shut (PG X (.Name x pos) (gName i)) := ⟨pg_name hN hi hx hf⟩
theorem qpg_tup {es : List Expr} {k : Nat} {t : TGs} {n : Nat} (hc : X.calm = true) (h : Shut (PGs X es t)) (hn : (assignEach es X.env).length = n := by rfl) (hst : (assignEach es X.env).findIdx? (·.1) = none := by rfl) : Shut (PG X (.Tuple es k pos) (gTup X.K n t)) := ⟨pg_tup hc h.out hn hst⟩
theorem qpg_sub {o i : Expr} {to ti : TE} {t : TSet} (ho : Shut (PE X o to)) (hi : Shut (PE X i ti)) (hs : PSet X t) (ha : ∀ v, assign (.Subscript o i pos) X.env v = (do
      let ov ← holding [v] (eval o X.env)
      let iv ← holding [v, ov] (eval i X.env)
      standAt pos
      holding [v, ov, iv] (setItem ov iv v)
      release [v, ov, iv] []) := by intro _; rfl) : Shut (PG X (.Subscript o i pos) (gSub to ti t)) := ⟨pg_sub ho.out hi.out hs ha⟩
theorem qpgs_nil  : Shut (PGs X [] gNil) := ⟨pgs_nil⟩
theorem qpgs_cons {e : Expr} {es : List Expr} {t : TG} {u : TGs} (h1 : Shut (PG X e t)) (h2 : Shut (PGs X es u)) (hs : (assignEach (e :: es) X.env).map (·.2) = assign e X.env :: (assignEach es X.env).map (·.2) := by rfl) : Shut (PGs X (e :: es) (gCons t u)) := ⟨pgs_cons h1.out h2.out hs⟩
theorem qpi_range1 {a : Expr} {ta : TA} {p pos : Pos} (hg : Gl X "range") (hm : X.mg "range" = none) (ha : Shut (PA X [a] ta)) (hs : starEach [a] X.env = [(false, eval a X.env)] := by rfl) : Shut (PI X tg (.Call (.Name "range" p) [a] [] pos) (iRng1 ta)) := ⟨pi_range1 hg hm ha.out hs⟩
theorem qpi_range2 {a b : Expr} {ta : TA} {p pos : Pos} (hg : Gl X "range") (hm : X.mg "range" = none) (ha : Shut (PA X [a, b] ta)) (hs : starEach [a, b] X.env = [(false, eval a X.env), (false, eval b X.env)] := by rfl) (hs2 : starEach [b] X.env = [(false, eval b X.env)] := by rfl) : Shut (PI X tg (.Call (.Name "range" p) [a, b] [] pos) (iRng2 ta)) := ⟨pi_range2 hg hm ha.out hs hs2⟩
theorem qpi_list {l : Expr} {tl : TE} (hl : Shut (PE X l tl)) : Shut (PI X tg l (iList X.K tl)) := ⟨pi_list hl.out⟩
theorem qpi_tup {l : Expr} {tl : TE} (hl : Shut (PE X l tl)) : Shut (PI X tg l (iTup X.K tl)) := ⟨pi_tup hl.out⟩
theorem qpi_enum {a : Expr} {ta : TA} {p pos : Pos} {x1} (hg : Gl X "enumerate") (hm : X.mg "enumerate" = none) (ha : Shut (PA X [a] ta)) (hs : starEach [a] X.env = [(false, eval a X.env)] := by rfl) : Shut (PI X (.Tuple elts x1 tpos) (.Call (.Name "enumerate" p) [a] [] pos) (iEnum X.K ta)) := ⟨pi_enum hg hm ha.out hs⟩
theorem qpi_enumS {a : Expr} {ta : TA} {p pos : Pos} {x1} (hg : Gl X "enumerate") (hm : X.mg "enumerate" = none) (ha : Shut (PA X [a] ta)) (hs : starEach [a] X.env = [(false, eval a X.env)] := by rfl) : Shut (PI X (.Tuple elts x1 tpos) (.Call (.Name "enumerate" p) [a] [] pos) (iEnumS X.K ta)) := ⟨pi_enumS hg hm ha.out hs⟩
theorem qpi_seq (hl : Shut (PE X e te)) : Shut (PI X tg e (iSeq X.K te)) := ⟨pi_seq hl.out⟩
theorem qpi_dict (hl : Shut (PE X e te)) : Shut (PI X tg e (iDict te)) := ⟨pi_dict hl.out⟩
theorem qps_setC {tt : TT} {ifs : List Expr} {i : Nat} {x : Str} (hx : X.xe = NoX) (hc : X.calm = true) (hN : X.N.Nodup) (hi : X.N[i]? = some x) (hl : Loc X.env.scope x) (O : CompOk X.env.scope X.N N' scope cap) (hit : Shut (PI X target iter wi)) (hg : ∀ C s₂ H fp, Shut (PG (cxComp X N' scope C s₂ H fp) target g)) (ht : ∀ C s₂ H fp, Shut (PTs (cxComp X N' scope C s₂ H fp) ifs tt)) (he : ∀ C s₂ H fp, Shut (PE (cxComp X N' scope C s₂ H fp) elt te)) (hw : swapsWith (.ListComp elt [⟨target, iter, ifs, 0⟩] scope pos) (some (.Name x pos')) pos2.line X.env = pure true := by rfl) (hs : ∀ x, foldedSetIterable iter X.env x = pure x := by intro _; rfl) (hf : X.fn x = true ∨ X.env.scope.names.lookup x = some .local := by first | exact .inl rfl | exact .inr rfl | assumption) : Shut (PS X (.Assign [.Name x pos'] (.ListComp elt [⟨target, iter, ifs, 0⟩] scope pos) pos2) (tAsg (tComp cap wi g tt te) (gName i))) := ⟨ps_setC hx hc hN hi hl O hit.out (fun C s₂ H fp => (hg C s₂ H fp).out) (fun C s₂ H fp => (ht C s₂ H fp).out) (fun C s₂ H fp => (he C s₂ H fp).out) hw hs hf⟩
theorem qps_setD {tt : TT} {ifs : List Expr} {i : Nat} {x : Str} (hx : X.xe = NoX) (hc : X.calm = true) (hN : X.N.Nodup) (hi : X.N[i]? = some x) (hl : Loc X.env.scope x) (O : CompOk X.env.scope X.N N' scope cap) (hit : Shut (PI X target iter wi)) (hg : ∀ C s₂ H fp, Shut (PG (cxComp X N' scope C s₂ H fp) target g)) (ht : ∀ C s₂ H fp, Shut (PTs (cxComp X N' scope C s₂ H fp) ifs tt)) (hk : ∀ C s₂ H fp, Shut (PE (cxComp X N' scope C s₂ H fp) kx tk)) (he : ∀ C s₂ H fp, Shut (PE (cxComp X N' scope C s₂ H fp) vx tv)) (hw : swapsWith (.DictComp kx vx [⟨target, iter, ifs, 0⟩] scope pos) (some (.Name x pos')) pos2.line X.env = pure true := by rfl) (hs : ∀ x, foldedSetIterable iter X.env x = pure x := by intro _; rfl) (hf : X.fn x = true ∨ X.env.scope.names.lookup x = some .local := by first | exact .inl rfl | exact .inr rfl | assumption) : Shut (PS X (.Assign [.Name x pos'] (.DictComp kx vx [⟨target, iter, ifs, 0⟩] scope pos) pos2) (tAsg (tDComp cap wi g tt tk tv) (gName i))) := ⟨ps_setD hx hc hN hi hl O hit.out (fun C s₂ H fp => (hg C s₂ H fp).out) (fun C s₂ H fp => (ht C s₂ H fp).out) (fun C s₂ H fp => (hk C s₂ H fp).out) (fun C s₂ H fp => (he C s₂ H fp).out) hw hs hf⟩
theorem qpe_thaw (h : Shut (PE X e te)) : Shut (PE X e (tThaw X.H₀ te)) := ⟨pe_thaw h.out⟩
theorem qpps_nil {X : Cx} {pos : Pos} : Shut (PPs X pos [] [] []) := ⟨pps_nil⟩
theorem qpps_cons {X : Cx} {pos : Pos} {k v : Expr} {ks : List (Option Expr)} {vs : List Expr} {tk tv : TE} {trs : List (TE × TE)} (hk : Shut (PE X k tk)) (hv : Shut (PE X v tv)) (hr : Shut (PPs X pos ks vs trs)) : Shut (PPs X pos (some k :: ks) (v :: vs) ((tk, tv) :: trs)) := ⟨pps_cons hk.out hv.out hr.out⟩
theorem qpe_op {op : Operator} {r : R2} (ho : OpR X (binaryOp op) r) (ha : Shut (PE X a ta)) (hb : Shut (PE X b tb)) : Shut (PE X (.BinOp a op b pos) (tOp r ta tb)) := ⟨pe_op ho ha.out hb.out⟩
theorem qpe_un {op : UnaryOp} {r : V → Hp → VK → Prop} (ho : UnR X (unaryOp op) r) (ha : Shut (PE X a ta)) : Shut (PE X (.UnaryOp op a pos) (tUn r ta)) := ⟨pe_un ho ha.out⟩
theorem qpe_cmpR {op : CmpOp} {r : R2} (ho : OpR X (compareOp op) r) (ha : Shut (PE X a ta)) (hb : Shut (PE X b tb)) (hm : behindInMarks op b = false) : Shut (PE X (.Compare a [op] [b] pos) (tOp r ta tb)) := ⟨pe_cmpR ho ha.out hb.out hm⟩
theorem qpt_cmpR {op : CmpOp} {r : R2} (ho : OpR X (compareOp op) r) (ha : Shut (PE X a ta)) (hb : Shut (PE X b tb)) (hm : behindInMarks op b = false) : Shut (PT X (.Compare a [op] [b] pos) (tTest (tOp r ta tb))) := ⟨pt_cmpR ho ha.out hb.out hm⟩
theorem qpt_not (ha : Shut (PT X a tA)) : Shut (PT X (.UnaryOp .Not a pos) (tNot tA)) := ⟨pt_not ha.out⟩
theorem qpt_val {e : Expr} {t : TE} (h : Shut (PE X e t)) (he : ∀ whole, isTrue e X.env whole = (do let v ← whole; standAt e.pos; holding [v] (truthy v)) := by intro _; rfl) : Shut (PT X e (tB t)) := ⟨pt_val h.out he⟩
theorem qpt_chain {op op' : CmpOp} {r r' : R2} (ho : OpR X (compareOp op) r) (ho' : OpR X (compareOp op') r') (ha : Shut (PE X a ta)) (hb : Shut (PE X b tb)) (hc : Shut (PE X c tc)) (hm : lastMarks [op, op'] [b, c] = false := by with_unfolding_all rfl) : Shut (PT X (.Compare a [op, op'] [b, c] pos) (tTest (tChain r r' ta tb tc))) := ⟨pt_chain ho ho' ha.out hb.out hc.out hm⟩
theorem qpt_truth (ha : Shut (PE X a ta)) (he : ∀ whole, isTrue a X.env whole = (do let v ← whole; standAt a.pos; holding [v] (truthy v))) : Shut (PT X a (fun σ H Q => ta σ H fun x H' => ∃ k, TruV X.K x H' k ∧ Q k H')) := ⟨pt_truth ha.out he⟩
theorem qPWpt {X : Cx} {e : Expr} {t : TT} (h : Shut (PW X e t)) : Shut (PT X e t) := ⟨PW.pt h.out⟩
theorem qpw_and {rest : List Expr} (ha : Shut (PT X a tA)) (hb : Shut (PW X (.BoolOp .And (b :: rest) pos) tB')) : Shut (PW X (.BoolOp .And (a :: b :: rest) pos) (tAnd tA tB')) := ⟨pw_and ha.out hb.out⟩
theorem qpw_and1 (ha : Shut (PT X a tA)) : Shut (PW X (.BoolOp .And [a] pos) tA) := ⟨pw_and1 ha.out⟩
theorem qpw_or {rest : List Expr} (ha : Shut (PT X a tA)) (hb : Shut (PW X (.BoolOp .Or (b :: rest) pos) tB')) : Shut (PW X (.BoolOp .Or (a :: b :: rest) pos) (tOr tA tB')) := ⟨pw_or ha.out hb.out⟩
theorem qpw_or1 (ha : Shut (PT X a tA)) : Shut (PW X (.BoolOp .Or [a] pos) tA) := ⟨pw_or1 ha.out⟩
theorem qpe_and {rest : List Expr} (ha : Shut (PE X a ta)) (hb : Shut (PE X (.BoolOp .And (b :: rest) pos) tb)) : Shut (PE X (.BoolOp .And (a :: b :: rest) pos) (tAndV ta tb)) := ⟨pe_and ha.out hb.out⟩
theorem qpe_or {rest : List Expr} (ha : Shut (PE X a ta)) (hb : Shut (PE X (.BoolOp .Or (b :: rest) pos) tb)) : Shut (PE X (.BoolOp .Or (a :: b :: rest) pos) (tOrV ta tb)) := ⟨pe_or ha.out hb.out⟩
theorem qpe_one {op} {t : TE} (h : Shut (PE X a t)) : Shut (PE X (.BoolOp op [a] pos) t) := ⟨pe_one h.out⟩
theorem qpe_not (ha : Shut (PE X a ta)) : Shut (PE X (.UnaryOp .Not a pos) (tNotV ta)) := ⟨pe_not ha.out⟩
theorem qpe_ifExp {c : Expr} (hc : Shut (PT X c tA)) (ha : Shut (PE X a ta)) (hb : Shut (PE X b tb)) : Shut (PE X (.IfExp c a b pos) (tIf tA ta tb)) := ⟨pe_ifExp hc.out ha.out hb.out⟩
theorem qpe_int {i j pos} : Shut (PE X (.Constant (.int i) j pos) (tC (.int i))) := ⟨pe_int⟩
theorem qpe_str {x j pos} : Shut (PE X (.Constant (.str x) j pos) (tC (.str x))) := ⟨pe_str⟩
theorem qpe_bl {b j pos} : Shut (PE X (.Constant (.bool b) j pos) (tC (.bl b))) := ⟨pe_bl⟩
theorem qpe_non {j pos} : Shut (PE X (.Constant .none j pos) (tC .non)) := ⟨pe_non⟩
theorem qpv (i : Nat) {x : Str} {pos : Pos} (hN : X.N[i]? = some x := by rfl) (hv : Vis X.env.scope x := by first | exact Or.inl rfl | exact Or.inr (Or.inl rfl) | exact Or.inr (Or.inr rfl)) (hd : (x == ("__debug__" : Str)) = false := by decide) (hcd : (x == ("__classdict__" : Str)) = false := by decide) : Shut (PE X (.Name x pos) (tVar i)) := ⟨pv i hN hv hd hcd⟩
theorem qpe_tup {x1} (h : Shut (PA X es t)) : Shut (PE X (.Tuple es x1 pos) (tTup t)) := ⟨pe_tup h.out⟩
theorem qpe_lst (h : Shut (PA X es t)) : Shut (PE X (.List es pos) (tLst t)) := ⟨pe_lst h.out⟩
theorem qpa_nil  : Shut (PA X [] tNil) := ⟨pa_nil⟩
theorem qpa_cons (ha : Shut (PE X e te)) (hr : Shut (PA X es t)) (hs : starEach (e :: es) X.env = (false, eval e X.env) :: starEach es X.env := by rfl) : Shut (PA X (e :: es) (tCons te t)) := ⟨pa_cons ha.out hr.out hs⟩
theorem qpe_ix {r : R2} (hr : IxR X r) (ha : Shut (PE X a ta)) (hb : Shut (PE X b tb)) (hs : PlainIx b) : Shut (PE X (.Subscript a b pos) (tOp r ta tb)) := ⟨pe_ix hr ha.out hb.out hs⟩
theorem qpe_slice {lo hi : Option Expr} {r : V → Option Int → Option Int → Hp → VK → Prop} (hr : SlR X r) (he : Shut (PE X e te)) (hl : Shut (PO X lo tl)) (hu : Shut (PO X hi th)) : Shut (PE X (.Subscript e (.Slice lo hi none p2) pos) (tSl r te tl th)) := ⟨pe_slice hr he.out hl.out hu.out⟩
theorem qpo_none  : Shut (PO X none tNoPart) := ⟨po_none⟩
theorem qpo_some (h : Shut (PE X e te)) : Shut (PO X (some e) (tPart te)) := ⟨po_some h.out⟩
theorem qpe_step {es : Expr} {ts : TE} (he : Shut (PE X e te)) (hs : Shut (PE X es ts)) : Shut (PE X (.Subscript e (.Slice none none (some es) p2) pos) (tOp (rStep X.K) te ts)) := ⟨pe_step he.out hs.out⟩
theorem qpe_cal {k : Nat} {x : Str} {ps : List Str} {sp : Sp} (C : Cal X.prog X.w X.K X.mg X.base k x ps sp) (hr : Room k X.A) (hg : Gl X x) (ha : Shut (PA X (e :: es) t)) (hdb : (x == ("__debug__" : Str)) = false := by decide) (he : starEach (e :: es) X.env = (false, eval e X.env) :: starEach es X.env := by rfl) (hpl : (backTo pos (starEach es X.env)).any (·.1) = false := by rfl) : Shut (PE X (.Call (.Name x p) (e :: es) [] pos) (tCall sp [] E0 t)) := ⟨pe_cal C hr hg ha.out hdb he hpl⟩
theorem qpe_callB {id : String} (hc : CallR X (.builtin id) r) (hg : Gl X x) (hm : X.mg x = none) (hv : bootBuiltins x = some (.builtin id)) (ha : Shut (PA X (e :: es) t)) (hn : x ≠ "__name__" := by decide) (hdb : (x == ("__debug__" : Str)) = false := by decide) (he : starEach (e :: es) X.env = (false, eval e X.env) :: starEach es X.env := by rfl) (hpl : (backTo pos (starEach es X.env)).any (·.1) = false := by rfl) : Shut (PE X (.Call (.Name x p) (e :: es) [] pos) (tCB r t)) := ⟨pe_callB hc hg hm hv ha.out hn hdb he hpl⟩
theorem qpe_callTy (hc : CallR X (.type T) r) (hg : Gl X x) (hm : X.mg x = none) (hv : bootBuiltins x = some (.type T)) (ha : Shut (PA X (e :: es) t)) (hn : x ≠ "__name__" := by decide) (hdb : (x == ("__debug__" : Str)) = false := by decide) (he : starEach (e :: es) X.env = (false, eval e X.env) :: starEach es X.env := by rfl) (hpl : (backTo pos (starEach es X.env)).any (·.1) = false := by rfl) : Shut (PE X (.Call (.Name x p) (e :: es) [] pos) (tCB r t)) := ⟨pe_callTy hc hg hm hv ha.out hn hdb he hpl⟩
theorem qpe_callTy0 (hc : CallR X (.type T) r) (hg : Gl X x) (hm : X.mg x = none) (hv : bootBuiltins x = some (.type T)) (hn : x ≠ "__name__" := by decide) (hdb : (x == ("__debug__" : Str)) = false := by decide) : Shut (PE X (.Call (.Name x p) [] [] pos) (tCB r tNil)) := ⟨pe_callTy0 hc hg hm hv hn hdb⟩
theorem qpe_bm {id : String} {to : TE} (pa : PlainAttrs T) (slot : Slot T name id) (hty : typeOf (.builtin id) = pure (.type "method_descriptor")) (hm : MtR X id r) (ho : Shut (PE X o to)) (ha : Shut (PA X (e :: es) t)) (hbase : attributeBase o name X.env (eval o X.env) = eval o X.env := by rfl) (hfew : ((backTo cpos (starEach (e :: es) X.env)).all (fun x => !x.1) && (backToKw cpos (keywordEach [] X.env)).all (fun x => x.1.isSome)
      && decide ((e :: es).length + ([] : List Keyword).length + (if ([] : List Keyword).isEmpty then 0 else 1) < 30)) = true := by rfl) (hline : (apos.endLine == cpos.line) = true := by rfl) (hs : starEach (e :: es) X.env = (false, eval e X.env) :: starEach es X.env := by rfl) (hplain : (backTo cpos (starEach es X.env)).any (·.1) = false := by rfl) : Shut (PE X (.Call (.Attribute o name apos) (e :: es) [] cpos) (tBM X.K T r to t)) := ⟨pe_bm pa slot hty hm ho.out ha.out hbase hfew hline hs hplain⟩
theorem qpe_bm0 {id : String} {to : TE} (pa : PlainAttrs T) (slot : Slot T name id) (hty : typeOf (.builtin id) = pure (.type "method_descriptor")) (hm : MtR X id r) (ho : Shut (PE X o to)) (hbase : attributeBase o name X.env (eval o X.env) = eval o X.env := by rfl) (hline : (apos.endLine == cpos.line) = true := by rfl) : Shut (PE X (.Call (.Attribute o name apos) [] [] cpos) (tBM0 X.K T r to)) := ⟨pe_bm0 pa slot hty hm ho.out hbase hline⟩
theorem qpe_comp {tt : TT} {ifs : List Expr} (hx : X.xe = NoX) (hc : X.calm = true) (O : CompOk X.env.scope X.N N' scope cap) (hi : Shut (PI X target iter wi)) (hg : ∀ C s₂ H fp, Shut (PG (cxComp X N' scope C s₂ H fp) target g)) (ht : ∀ C s₂ H fp, Shut (PTs (cxComp X N' scope C s₂ H fp) ifs tt)) (he : ∀ C s₂ H fp, Shut (PE (cxComp X N' scope C s₂ H fp) elt te)) (hs : ∀ x, foldedSetIterable iter X.env x = pure x := by intro _; rfl) : Shut (PE X (.ListComp elt [⟨target, iter, ifs, 0⟩] scope pos) (tComp cap wi g tt te)) := ⟨pe_comp hx hc O hi.out (fun C s₂ H fp => (hg C s₂ H fp).out) (fun C s₂ H fp => (ht C s₂ H fp).out) (fun C s₂ H fp => (he C s₂ H fp).out) hs⟩
theorem qpe_dcomp {tt : TT} {ifs : List Expr} (hx : X.xe = NoX) (hc : X.calm = true) (O : CompOk X.env.scope X.N N' scope cap) (hi : Shut (PI X target iter wi)) (hg : ∀ C s₂ H fp, Shut (PG (cxComp X N' scope C s₂ H fp) target g)) (ht : ∀ C s₂ H fp, Shut (PTs (cxComp X N' scope C s₂ H fp) ifs tt)) (hk : ∀ C s₂ H fp, Shut (PE (cxComp X N' scope C s₂ H fp) kx tk)) (he : ∀ C s₂ H fp, Shut (PE (cxComp X N' scope C s₂ H fp) vx tv)) (hs : ∀ x, foldedSetIterable iter X.env x = pure x := by intro _; rfl) : Shut (PE X (.DictComp kx vx [⟨target, iter, ifs, 0⟩] scope pos) (tDComp cap wi g tt tk tv)) := ⟨pe_dcomp hx hc O hi.out (fun C s₂ H fp => (hg C s₂ H fp).out) (fun C s₂ H fp => (ht C s₂ H fp).out) (fun C s₂ H fp => (hk C s₂ H fp).out) (fun C s₂ H fp => (he C s₂ H fp).out) hs⟩
theorem qpts_nil {X : Cx} : Shut (PTs X [] tTrue) := ⟨pts_nil⟩
theorem qpts_one {X : Cx} {c : Expr} {t : TT} (h : Shut (PT X c t)) : Shut (PTs X [c] t) := ⟨pts_one h.out⟩
theorem qpe_dget (hu : X.A.units + 1 < cLine) (ho : Shut (PE X o td)) (hi : Shut (PE X i ty)) (hs : NoSl i) : Shut (PE X (.Subscript o i pos) (tDGet td ty)) := ⟨pe_dget hu ho.out hi.out hs⟩
theorem qpe_dget1 (hu : X.A.units + 1 < cLine) (ho : Shut (PE X o td)) (he : Shut (PE X e ty)) (m : M1 X o "get" apos e cpos) : Shut (PE X (.Call (.Attribute o "get" apos) [e] [] cpos) (tDGet1 td ty)) := ⟨pe_dget1 hu ho.out he.out m⟩
theorem qpe_dget2 (hu : X.A.units + 1 < cLine) (ho : Shut (PE X o td)) (he : Shut (PE X e ty)) (hf : Shut (PE X f tx)) (m : M2 X o "get" apos e f cpos) : Shut (PE X (.Call (.Attribute o "get" apos) [e, f] [] cpos) (tDGet2 td ty tx)) := ⟨pe_dget2 hu ho.out he.out hf.out m⟩
theorem qpe_disp {X : Cx} {pos : Pos} {keys : List (Option Expr)} {values : List Expr} {trs : List (TE × TE)} (h : Shut (PPs X pos keys values trs)) (hall : keys.all (·.isSome) = true) (hl : keys.length = values.length) (h0 : keys ≠ []) (h15 : keys.length ≤ 15) : Shut (PE X (.Dict keys values pos) (tDisp trs)) := ⟨pe_disp h.out hall hl h0 h15⟩
theorem qpe_dnewK  : Shut (PE X (.Dict [] [] pos) tDNewK) := ⟨pe_dnewK⟩
theorem qpe_ty {x : Str} {n : String} (hg : Gl X x) (hm : X.mg x = none) (hv : bootBuiltins x = some (.type n)) (hn : x ≠ "__name__" := by decide) (hd : (x == ("__debug__" : Str)) = false := by decide) : Shut (PE X (.Name x pos) (tC (.ty n))) := ⟨pe_ty hg hm hv hn hd⟩
theorem qpe_mid (h : Shut (PE X e te)) : Shut (PE X e (tMid te)) := ⟨pe_mid h.out⟩
theorem qps_daug {value : Expr} {op : Operator} {rd : V → V → Hp → VK → Prop} (hu : X.A.units + 1 < cLine) (ho : Shut (PE X o td)) (hi : Shut (PE X i ty)) (hv : Shut (PE X value tv)) (hop : InOp X op rd) (ha : ∀ ov iv new, augStore i ov iv new = (do holding [new, ov, iv] (setItem ov iv new); release [new, ov, iv] []; pure .next)) : Shut (PS X (.AugAssign (.Subscript o i tpos) op value pos) (sDAug td ty tv rd)) := ⟨ps_daug hu ho.out hi.out hv.out hop ha⟩
theorem _root_.L2.Fun.okS {P : Program} {w : World} {K : PySem.W.Frag} {mg : Str → Option Value} {base : Heap} {x qual : Str} {st : Stmt} {f : Addr} {fd : FuncData} {N ps : List Str} {k : Nat} {sp : Sp} (F : Fun K x qual st f fd) (S : FnScope N ps (defScope st)) (len : ∀ vs H Q E, sp vs H Q E → vs.length = ps.length)
    (hbody : ∀ (cdv : Value) (A : Around) (outer : List Env) (s : Shared) (H : Hp) (vs : List V) (Q : VK) (E : XK), Room k (A.deeper (envOfC qual (defScope st) s.heap.objs.size f cdv)) → sp vs H Q E →
      ∃ t, Shut (PSs (cxOf CX0 P w K mg base N qual (defScope st) f cdv A outer s H E).nox (defBody st) t) ∧ t { nx := fun _ H' => Q .non H', rt := Q } (start N vs) H) : FnOk P w K mg base CX0 (k + 1) f fd ps sp :=
  F.ok S len fun cdv A outer s H vs Q E hr hsp => let ⟨t, h, q⟩ := hbody cdv A outer s H vs Q E hr hsp; ⟨t, h.out, q⟩
end Jb

set_option linter.all false
/-! ### joinings gone through, by labels -/
namespace Jb
abbrev Jo (S : Type) := S × S × Int
section
variable {S : Type} [DecidableEq S]
def stepL (l : S → S) (j : Jo S) : S → S := fun x => if l x = l j.1 then l j.2.1 else l x
def labM (js : List (Jo S)) (l : S → S) : S → S := js.foldl stepL l
def heldFrom (l : S → S) : Nat → List (Jo S) → List Nat
  | _, [] => []
  | i, j :: r => if l j.1 = l j.2.1 then heldFrom l (i + 1) r else i :: heldFrom (stepL l j) (i + 1) r
theorem held_cons (l : S → S) (i : Nat) (j : Jo S) (r : List (Jo S)) : heldFrom l i (j :: r) = if l j.1 = l j.2.1 then heldFrom l (i + 1) r else i :: heldFrom (stepL l j) (i + 1) r := rfl
def heldM (js : List (Jo S)) : List Nat := heldFrom (fun x => x) 0 js
/-- the same are alike -/
def Ker (l m : S → S) : Prop := ∀ a b, l a = l b ↔ m a = m b
def Sub (l m : S → S) : Prop := ∀ a b, l a = l b → m a = m b
theorem ker_step (l : S → S) (j : Jo S) (a b : S) : stepL l j a = stepL l j b ↔ (l a = l b ∨ (l a = l j.1 ∧ l b = l j.2.1) ∨ (l a = l j.2.1 ∧ l b = l j.1)) := by
  unfold stepL
  by_cases h1 : l a = l j.1 <;> by_cases h2 : l b = l j.1
  · simp [h1, h2]
  · rw [if_pos h1, if_neg h2]
    constructor
    · intro h; exact .inr (.inl ⟨h1, h.symm⟩)
    · rintro (h | ⟨_, h⟩ | ⟨_, h⟩)
      · exact absurd (h.symm.trans h1) h2
      · exact h.symm
      · exact absurd h h2
  · rw [if_neg h1, if_pos h2]
    constructor
    · intro h; exact .inr (.inr ⟨h, h2⟩)
    · rintro (h | ⟨h, _⟩ | ⟨h, _⟩)
      · exact absurd (h.trans h2) h1
      · exact absurd h h1
      · exact h
  · rw [if_neg h1, if_neg h2]
    constructor
    · intro h; exact .inl h
    · rintro (h | ⟨h, _⟩ | ⟨_, h⟩)
      · exact h
      · exact absurd h h1
      · exact absurd h h2
theorem Ker.refl (l : S → S) : Ker l l := fun _ _ => Iff.rfl
theorem Ker.symm {l m : S → S} (h : Ker l m) : Ker m l := fun a b => (h a b).symm
theorem Ker.trans {l m n : S → S} (h : Ker l m) (k : Ker m n) : Ker l n := fun a b => (h a b).trans (k a b)
theorem Ker.sub {l m : S → S} (h : Ker l m) : Sub l m := fun a b => (h a b).mp
theorem Ker.step {l m : S → S} (h : Ker l m) (j : Jo S) : Ker (stepL l j) (stepL m j) := fun a b => by
  rw [ker_step, ker_step, h a b, h a j.1, h b j.2.1, h a j.2.1, h b j.1]
theorem step_same {l : S → S} {j : Jo S} (h : l j.1 = l j.2.1) : stepL l j = l := by
  funext x
  unfold stepL
  split
  · rename_i z; rw [z, h]
  · rfl
theorem Sub.step {l m : S → S} (h : Sub l m) (j : Jo S) : Sub (stepL l j) (stepL m j) := fun a b e => by
  rw [ker_step] at e ⊢
  rcases e with e | ⟨e, f⟩ | ⟨e, f⟩
  · exact .inl (h _ _ e)
  · exact .inr (.inl ⟨h _ _ e, h _ _ f⟩)
  · exact .inr (.inr ⟨h _ _ e, h _ _ f⟩)
theorem sub_step (l : S → S) (j : Jo S) : Sub l (stepL l j) := fun a b e => by rw [ker_step]; exact .inl e
theorem held_ker : ∀ (js : List (Jo S)) {l m : S → S} (i : Nat), Ker l m → heldFrom l i js = heldFrom m i js
  | [], _, _, _, _ => rfl
  | j :: r, l, m, i, h => by
    unfold heldFrom
    by_cases e : l j.1 = l j.2.1
    · rw [if_pos e, if_pos ((h _ _).mp e), held_ker r (i + 1) h]
    · rw [if_neg e, if_neg fun z => e ((h _ _).mpr z), held_ker r (i + 1) (h.step j)]
theorem held_ge : ∀ (js : List (Jo S)) (l : S → S) (i m : Nat), m ∈ heldFrom l i js → i ≤ m ∧ m < i + js.length
  | [], _, _, _, h => by simp [heldFrom] at h
  | j :: r, l, i, m, h => by
    unfold heldFrom at h
    split at h
    · have := held_ge r l (i + 1) m h
      rw [List.length_cons]; omega
    · rcases List.mem_cons.mp h with z | z
      · rw [List.length_cons]; omega
      · have := held_ge r _ (i + 1) m z
        rw [List.length_cons]; omega
theorem held_nd : ∀ (js : List (Jo S)) (l : S → S) (i : Nat), (heldFrom l i js).Nodup
  | [], _, _ => by simp [heldFrom]
  | j :: r, l, i => by
    unfold heldFrom
    split
    · exact held_nd r l (i + 1)
    · refine List.nodup_cons.mpr ⟨fun z => ?_, held_nd r _ (i + 1)⟩
      have := (held_ge r _ (i + 1) i z).1
      omega
theorem held_sub : ∀ (js : List (Jo S)) {l m : S → S} (i : Nat), Sub l m → ∀ x ∈ heldFrom m i js, x ∈ heldFrom l i js
  | [], _, _, _, _, x, h => by simp [heldFrom] at h
  | j :: r, l, m, i, s, x, h => by
    unfold heldFrom at h ⊢
    by_cases e : m j.1 = m j.2.1
    · rw [if_pos e] at h
      by_cases e' : l j.1 = l j.2.1
      · rw [if_pos e']; exact held_sub r (i + 1) s x h
      · rw [if_neg e']
        refine List.mem_cons_of_mem _ (held_sub r (i + 1) (l := stepL l j) (m := m) ?_ x h)
        have := s.step j
        rw [step_same e] at this
        exact this
    · rw [if_neg e] at h
      rw [if_neg fun z => e (s _ _ z)]
      rcases List.mem_cons.mp h with z | z
      · exact z ▸ List.mem_cons_self ..
      · exact List.mem_cons_of_mem _ (held_sub r (i + 1) (s.step j) x z)
theorem labM_app (a b : List (Jo S)) (l : S → S) : labM (a ++ b) l = labM b (labM a l) := by
  unfold labM
  rw [List.foldl_append]
theorem held_app : ∀ (a b : List (Jo S)) (l : S → S) (i : Nat), heldFrom l i (a ++ b) = heldFrom l i a ++ heldFrom (labM a l) (i + a.length) b
  | [], b, l, i => by simp [heldFrom, labM]
  | j :: r, b, l, i => by
    rw [List.cons_append, held_cons, held_cons]
    have e1 : i + (j :: r).length = i + 1 + r.length := by rw [List.length_cons]; omega
    by_cases e : l j.1 = l j.2.1
    · have e2 : labM (j :: r) l = labM r l := by unfold labM; rw [List.foldl_cons, step_same e]
      rw [if_pos e, if_pos e, held_app r b l (i + 1), e1, e2]
    · rw [if_neg e, if_neg e, held_app r b _ (i + 1), e1]
      rfl
/-- least: what is alike by any function that keeps the joinings -/
theorem lab_least : ∀ (js : List (Jo S)) {l f : S → S}, Sub l f → (∀ j ∈ js, f j.1 = f j.2.1) → Sub (labM js l) f
  | [], _, _, h, _ => h
  | j :: r, l, f, h, k => by
    refine lab_least r (l := stepL l j) (fun a b e => ?_) fun x hx => k x (List.mem_cons_of_mem _ hx)
    have kj := k j (List.mem_cons_self ..)
    rw [ker_step] at e
    rcases e with e | ⟨e, g⟩ | ⟨e, g⟩
    · exact h _ _ e
    · rw [h _ _ e, h _ _ g, kj]
    · rw [h _ _ e, h _ _ g, kj]
theorem lab_sub : ∀ (js : List (Jo S)) (l : S → S), Sub l (labM js l)
  | [], l => fun _ _ e => e
  | j :: r, l => fun a b e => lab_sub r (stepL l j) a b (sub_step l j a b e)
theorem lab_has : ∀ (js : List (Jo S)) (l : S → S), ∀ j ∈ js, labM js l j.1 = labM js l j.2.1
  | [], _, j, h => by simp at h
  | j :: r, l, x, h => by
    rcases List.mem_cons.mp h with z | z
    · subst z
      exact lab_sub r (stepL l x) _ _ (by rw [ker_step]; exact .inr (.inl ⟨rfl, rfl⟩))
    · exact lab_has r (stepL l j) x z
/-- alike by the same joinings, in whatever order and however often -/
theorem ker_mem {a b : List (Jo S)} (h : ∀ j ∈ a, j ∈ b ∨ j.1 = j.2.1) (k : ∀ j ∈ b, j ∈ a ∨ j.1 = j.2.1) : Ker (labM a fun x => x) (labM b fun x => x) := by
  have side : ∀ {a b : List (Jo S)}, (∀ j ∈ a, j ∈ b ∨ j.1 = j.2.1) → Sub (labM a fun x => x) (labM b fun x => x) := fun {a b} h => lab_least a (lab_sub b _) fun j hj => by
    rcases h j hj with z | z
    · exact lab_has b _ j z
    · rw [z]
  exact fun x y => ⟨side h x y, side k x y⟩
/-! ### how many classes -/
def cl (l : S → S) : List S → Nat
  | [] => 0
  | x :: r => cl l r + if ∃ y ∈ r, l y = l x then 0 else 1
theorem cl_ker {l m : S → S} (h : Ker l m) : ∀ N : List S, cl l N = cl m N
  | [] => rfl
  | x :: r => by
    unfold cl
    rw [cl_ker h r]
    have : (∃ y ∈ r, l y = l x) ↔ ∃ y ∈ r, m y = m x := ⟨fun ⟨y, hy, e⟩ => ⟨y, hy, (h _ _).mp e⟩, fun ⟨y, hy, e⟩ => ⟨y, hy, (h _ _).mpr e⟩⟩
    by_cases z : ∃ y ∈ r, l y = l x
    · rw [if_pos z, if_pos (this.mp z)]
    · rw [if_neg z, if_neg fun q => z (this.mpr q)]
theorem cl_step (l : S → S) (j : Jo S) (hne : l j.1 ≠ l j.2.1) : ∀ N : List S, cl (stepL l j) N + (if (∃ y ∈ N, l y = l j.1) ∧ ∃ y ∈ N, l y = l j.2.1 then 1 else 0) = cl l N
  | [] => by simp [cl]
  | x :: r => by
    have ih := cl_step l j hne r
    have oc : ∀ v, (∃ y ∈ x :: r, l y = v) ↔ (l x = v ∨ ∃ y ∈ r, l y = v) := fun v => by simp
    have hs : (∃ y ∈ r, stepL l j y = stepL l j x) ↔ ((∃ y ∈ r, l y = l x) ∨ ((∃ y ∈ r, l y = l j.1) ∧ l x = l j.2.1) ∨ ((∃ y ∈ r, l y = l j.2.1) ∧ l x = l j.1)) := by
      constructor
      · rintro ⟨y, hy, e⟩
        rw [ker_step] at e
        rcases e with e | ⟨e, f⟩ | ⟨e, f⟩
        · exact .inl ⟨y, hy, e⟩
        · exact .inr (.inl ⟨⟨y, hy, e⟩, f⟩)
        · exact .inr (.inr ⟨⟨y, hy, e⟩, f⟩)
      · rintro (⟨y, hy, e⟩ | ⟨⟨y, hy, e⟩, f⟩ | ⟨⟨y, hy, e⟩, f⟩)
        · exact ⟨y, hy, by rw [ker_step]; exact .inl e⟩
        · exact ⟨y, hy, by rw [ker_step]; exact .inr (.inl ⟨e, f⟩)⟩
        · exact ⟨y, hy, by rw [ker_step]; exact .inr (.inr ⟨e, f⟩)⟩
    unfold cl
    simp only [oc, hs]
    by_cases xo : l x = l j.1
    · have xu : ¬ l x = l j.2.1 := fun z => hne (xo.symm.trans z)
      simp only [xo, hne, true_or, false_or, true_and, and_false, and_true, or_false]
      by_cases p : ∃ y ∈ r, l y = l j.1 <;> by_cases q : ∃ y ∈ r, l y = l j.2.1 <;> simp only [p, q, true_and, and_true, false_and, and_false, or_true, true_or, or_false, false_or, if_true, if_false] at ih ⊢ <;> omega
    · by_cases xu : l x = l j.2.1
      · have hne' : ¬ l j.2.1 = l j.1 := fun z => hne z.symm
        simp only [xu, hne', true_or, false_or, true_and, and_false, and_true, or_false]
        by_cases p : ∃ y ∈ r, l y = l j.1 <;> by_cases q : ∃ y ∈ r, l y = l j.2.1 <;> simp only [p, q, true_and, and_true, false_and, and_false, or_true, true_or, or_false, false_or, if_true, if_false] at ih ⊢ <;> omega
      · simp only [xo, xu, false_or, and_false, or_false]
        by_cases z : ∃ y ∈ r, l y = l x <;> simp only [z, if_true, if_false] at ih ⊢ <;> omega
/-- as many hold as there are classes less -/
theorem held_count (N : List S) : ∀ (js : List (Jo S)) (l : S → S) (i : Nat), (∀ j ∈ js, j.1 ∈ N ∧ j.2.1 ∈ N) → (heldFrom l i js).length + cl (labM js l) N = cl l N
  | [], l, i, _ => by simp [heldFrom, labM]
  | j :: r, l, i, h => by
    have hj := h j (List.mem_cons_self ..)
    have hr : ∀ j ∈ r, j.1 ∈ N ∧ j.2.1 ∈ N := fun x hx => h x (List.mem_cons_of_mem _ hx)
    have e0 : labM (j :: r) l = labM r (stepL l j) := rfl
    unfold heldFrom
    rw [e0]
    by_cases e : l j.1 = l j.2.1
    · rw [if_pos e, step_same e]
      exact held_count N r l (i + 1) hr
    · rw [if_neg e, List.length_cons]
      have h1 := held_count N r (stepL l j) (i + 1) hr
      have h2 := cl_step l j e N
      rw [if_pos ⟨⟨_, hj.1, rfl⟩, ⟨_, hj.2, rfl⟩⟩] at h2
      omega
/-! ### one left out -/
theorem held_shift : ∀ (js : List (Jo S)) (l : S → S) (i k : Nat), (heldFrom l i js).length = (heldFrom l k js).length
  | [], _, _, _ => rfl
  | j :: r, l, i, k => by
    unfold heldFrom
    split
    · exact held_shift r l _ _
    · rw [List.length_cons, List.length_cons, held_shift r _ (i + 1) (k + 1)]
theorem len_sub : ∀ (A B : List Nat), A.Nodup → (∀ x ∈ A, x ∈ B) → A.length ≤ B.length
  | [], B, _, _ => Nat.zero_le _
  | x :: r, B, nd, h => by
    have hx := h x (List.mem_cons_self ..)
    have nd' := List.nodup_cons.mp nd
    have := len_sub r (B.erase x) nd'.2 fun y hy => (List.mem_erase_of_ne (fun (z : y = x) => nd'.1 (z ▸ hy))).mpr (h y (List.mem_cons_of_mem _ hy))
    rw [List.length_erase_of_mem hx] at this
    have : 0 < B.length := List.length_pos_of_mem hx
    rw [List.length_cons]
    omega
theorem held_loop (a b : List (Jo S)) (x : S) (s : Int) (l : S → S) (i : Nat) : heldFrom l i (a ++ (x, x, s) :: b) = heldFrom l i a ++ heldFrom (labM a l) (i + a.length + 1) b := by
  rw [held_app, held_cons, if_pos rfl]
/-- n is needed just where without it fewer hold -/
theorem place_iff (a b : List (Jo S)) (j : Jo S) (x : S) (s : Int) :
    (a.length ∈ heldM (a ++ j :: b) ∧ ∀ m ∈ heldM (a ++ (x, x, s) :: b), m ∈ heldM (a ++ j :: b)) ↔ (heldM (a ++ b)).length < (heldM (a ++ j :: b)).length := by
  unfold heldM
  rw [held_loop, held_app a b, held_app a (j :: b), List.length_append, List.length_append, Nat.zero_add, held_cons]
  rw [held_shift b _ a.length (a.length + 1)]
  generalize hla : labM a (fun x => x) = la
  have na : ∀ m ∈ heldFrom (fun x : S => x) 0 a, m < a.length := fun m hm => by have := held_ge a _ 0 m hm; omega
  by_cases e : la j.1 = la j.2.1
  · rw [if_pos e]
    constructor
    · rintro ⟨h, _⟩
      rcases List.mem_append.mp h with z | z
      · have := na _ z; omega
      · have := (held_ge b _ _ _ z).1; omega
    · intro h; omega
  · rw [if_neg e, List.length_cons]
    have nd1 := held_nd b la (a.length + 1)
    have nd2 := held_nd b (stepL la j) (a.length + 1)
    have sb := held_sub b (a.length + 1) (sub_step la j)
    constructor
    · rintro ⟨_, h⟩
      have := len_sub (heldFrom la (a.length + 1) b) (heldFrom (stepL la j) (a.length + 1) b) nd1 (fun m hm => by
        have hg := (held_ge b _ _ _ hm).1
        rcases List.mem_append.mp (h m (List.mem_append_right _ hm)) with z | z
        · have := na _ z; omega
        · rcases List.mem_cons.mp z with q | q
          · omega
          · exact q)
      omega
    · intro h
      refine ⟨List.mem_append_right _ (List.mem_cons_self ..), fun m hm => ?_⟩
      rcases List.mem_append.mp hm with z | z
      · exact List.mem_append_left _ z
      · refine List.mem_append_right _ (List.mem_cons_of_mem _ ?_)
        by_cases q : m ∈ heldFrom (stepL la j) (a.length + 1) b
        · exact q
        · have := len_sub (m :: heldFrom (stepL la j) (a.length + 1) b) (heldFrom la (a.length + 1) b) (List.nodup_cons.mpr ⟨q, nd2⟩) (fun y hy => by
            rcases List.mem_cons.mp hy with w | w
            · rw [w]; exact z
            · exact sb y w)
          rw [List.length_cons] at this
          omega
/-- twice over, none is needed -/
theorem twice (js a b : List (Jo S)) (j : Jo S) (N : List S) (hN : ∀ j ∈ js, j.1 ∈ N ∧ j.2.1 ∈ N) (h : js ++ js = a ++ j :: b) : (heldM (a ++ b)).length = (heldM (js ++ js)).length := by
  have hall : ∀ x ∈ a ++ b, x ∈ js ++ js := fun x hx => by
    rw [h]
    rcases List.mem_append.mp hx with z | z
    · exact List.mem_append_left _ z
    · exact List.mem_append_right _ (List.mem_cons_of_mem _ z)
  have hj : j ∈ a ++ b := by
    have hl : a.length < (js ++ js).length := by rw [h, List.length_append, List.length_cons]; omega
    rw [List.length_append] at hl
    have at_n : (js ++ js)[a.length]? = some j := by rw [h, List.getElem?_append_right (Nat.le_refl _), Nat.sub_self]; rfl
    by_cases c : a.length < js.length
    · have e1 : (js ++ js)[a.length + js.length]? = some j := by
        rw [List.getElem?_append_right (by omega), Nat.add_sub_cancel]
        rw [List.getElem?_append_left c] at at_n
        exact at_n
      rw [h, List.getElem?_append_right (by omega)] at e1
      have e2 : a.length + js.length - a.length = (js.length - 1) + 1 := by omega
      rw [e2, List.getElem?_cons_succ] at e1
      exact List.mem_append_right _ (List.mem_of_getElem? e1)
    · have e1 : (js ++ js)[a.length - js.length]? = some j := by
        rw [List.getElem?_append_left (by omega)]
        rw [List.getElem?_append_right (by omega)] at at_n
        exact at_n
      rw [h, List.getElem?_append_left (by omega)] at e1
      exact List.mem_append_left _ (List.mem_of_getElem? e1)
  have k : Ker (labM (a ++ b) fun x => x) (labM (js ++ js) fun x => x) := ker_mem (fun x hx => .inl (hall x hx)) fun x hx => by
    rw [h] at hx
    rcases List.mem_append.mp hx with z | z
    · exact .inl (List.mem_append_left _ z)
    · rcases List.mem_cons.mp z with q | q
      · rw [q]; exact .inl hj
      · exact .inl (List.mem_append_right _ q)
  have n2 : ∀ x ∈ js ++ js, x.1 ∈ N ∧ x.2.1 ∈ N := fun x hx => (List.mem_append.mp hx).elim (hN x) (hN x)
  have c1 := held_count N (a ++ b) (fun x => x) 0 fun x hx => n2 x (hall x hx)
  have c2 := held_count N (js ++ js) (fun x => x) 0 n2
  rw [cl_ker k N] at c1
  unfold heldM
  omega
end
end Jb

set_option linter.all false
namespace Jb
section
variable {S : Type} [DecidableEq S]
theorem held_up : ∀ (js : List (Jo S)) (l : S → S) (i : Nat), heldFrom l (i + 1) js = (heldFrom l i js).map (· + 1)
  | [], _, _ => rfl
  | j :: r, l, i => by
    rw [held_cons, held_cons]
    split
    · exact held_up r l (i + 1)
    · rw [List.map_cons, held_up r _ (i + 1)]
/-- the numbers without one, put back -/
theorem held_back (a b : List (Jo S)) (x : S) (s : Int) : heldM (a ++ (x, x, s) :: b) = (heldM (a ++ b)).map fun m => if a.length ≤ m then m + 1 else m := by
  unfold heldM
  rw [held_loop, held_app a b, List.map_append, Nat.zero_add, held_up]
  congr 1
  · conv => lhs; rw [← List.map_id (heldFrom (fun x => x) 0 a)]
    refine List.map_congr_left fun m hm => ?_
    have := held_ge a _ 0 m hm
    rw [if_neg (by omega)]
    rfl
  · refine List.map_congr_left fun m hm => ?_
    have := held_ge b _ _ m hm
    rw [if_pos (by omega)]
theorem held_inc : ∀ (js : List (Jo S)) (l : S → S) (i : Nat), (heldFrom l i js).Pairwise (· < ·)
  | [], _, _ => by simp [heldFrom]
  | j :: r, l, i => by
    rw [held_cons]
    split
    · exact held_inc r l (i + 1)
    · refine List.pairwise_cons.mpr ⟨fun m hm => ?_, held_inc r _ (i + 1)⟩
      have := (held_ge r _ (i + 1) m hm).1
      omega
theorem cl_sub {l m : S → S} (h : Sub l m) : ∀ N : List S, cl m N ≤ cl l N
  | [] => Nat.le_refl _
  | x :: r => by
    unfold cl
    have ih := cl_sub h r
    by_cases z : ∃ y ∈ r, l y = l x
    · obtain ⟨y, hy, e⟩ := z
      rw [if_pos ⟨y, hy, h _ _ e⟩, if_pos ⟨y, hy, e⟩]
      omega
    · rw [if_neg z]
      split <;> omega
/-- at most one comes in its place -/
theorem one_new (a b : List (Jo S)) (j : Jo S) (s : Int) (N : List S) (hN : ∀ x ∈ a ++ j :: b, x.1 ∈ N ∧ x.2.1 ∈ N) (hn : a.length ∈ heldM (a ++ j :: b)) :
    (∀ m ∈ heldM (a ++ j :: b), m ≠ a.length → m ∈ heldM (a ++ (j.1, j.1, s) :: b)) ∧ a.length ∉ heldM (a ++ (j.1, j.1, s) :: b) ∧
    ∀ m ∈ heldM (a ++ (j.1, j.1, s) :: b), ∀ k ∈ heldM (a ++ (j.1, j.1, s) :: b), m ∉ heldM (a ++ j :: b) → k ∉ heldM (a ++ j :: b) → m = k := by
  have hj := hN j (by simp)
  have hN2 : ∀ x ∈ a ++ (j.1, j.1, s) :: b, x.1 ∈ N ∧ x.2.1 ∈ N := fun x hx => by
    rcases List.mem_append.mp hx with z | z
    · exact hN x (List.mem_append_left _ z)
    · rcases List.mem_cons.mp z with z | z
      · rw [z]; exact ⟨hj.1, hj.1⟩
      · exact hN x (List.mem_append_right _ (List.mem_cons_of_mem _ z))
  have c1 := held_count N (a ++ j :: b) (fun x => x) 0 hN
  have c2 := held_count N (a ++ (j.1, j.1, s) :: b) (fun x => x) 0 hN2
  have sb : Sub (labM (a ++ (j.1, j.1, s) :: b) fun x => x) (labM (a ++ j :: b) fun x => x) := lab_least _ (lab_sub _ _) fun x hx => by
    rcases List.mem_append.mp hx with z | z
    · exact lab_has _ _ x (List.mem_append_left _ z)
    · rcases List.mem_cons.mp z with z | z
      · rw [z]
      · exact lab_has _ _ x (List.mem_append_right _ (List.mem_cons_of_mem _ z))
  have c3 := cl_sub sb N
  have le : (heldM (a ++ (j.1, j.1, s) :: b)).length ≤ (heldM (a ++ j :: b)).length := by unfold heldM; omega
  have na : ∀ m ∈ heldFrom (fun x : S => x) 0 a, m < a.length := fun m hm => by have := held_ge a _ 0 m hm; omega
  have h1 : ∀ m ∈ heldM (a ++ j :: b), m ≠ a.length → m ∈ heldM (a ++ (j.1, j.1, s) :: b) := fun m hm hne => by
    unfold heldM at hm ⊢
    rw [held_loop, Nat.zero_add]
    rw [held_app a (j :: b), Nat.zero_add, held_cons] at hm
    rcases List.mem_append.mp hm with z | z
    · exact List.mem_append_left _ z
    · refine List.mem_append_right _ ?_
      split at z
      · exact z
      · rcases List.mem_cons.mp z with q | q
        · exact absurd q hne
        · exact held_sub b (a.length + 1) (sub_step _ j) m q
  have h2 : a.length ∉ heldM (a ++ (j.1, j.1, s) :: b) := fun z => by
    unfold heldM at z
    rw [held_loop, Nat.zero_add] at z
    rcases List.mem_append.mp z with q | q
    · have := na _ q; omega
    · have := (held_ge b _ _ _ q).1; omega
  refine ⟨h1, h2, fun m hm k hk mh kh => ?_⟩
  by_cases e : m = k
  · exact e
  · exfalso
    have ndh := held_nd (a ++ j :: b) (fun x => x) 0
    have nd2 : ((heldM (a ++ j :: b)).erase a.length).Nodup := ndh.erase _
    have := len_sub (m :: k :: (heldM (a ++ j :: b)).erase a.length) (heldM (a ++ (j.1, j.1, s) :: b)) (List.nodup_cons.mpr ⟨fun z => by
      rcases List.mem_cons.mp z with q | q
      · exact e q
      · exact mh (List.mem_of_mem_erase q), List.nodup_cons.mpr ⟨fun z => kh (List.mem_of_mem_erase z), nd2⟩⟩) (fun y hy => by
        rcases List.mem_cons.mp hy with q | q
        · rw [q]; exact hm
        · rcases List.mem_cons.mp q with q | q
          · rw [q]; exact hk
          · exact h1 y (List.mem_of_mem_erase q) (fun z => by rw [z] at q; exact (List.Nodup.not_mem_erase ndh) q))
    rw [List.length_cons, List.length_cons, List.length_erase_of_mem hn] at this
    have : 0 < (heldM (a ++ j :: b)).length := List.length_pos_of_mem hn
    omega
end
theorem inc_eq : ∀ (A B : List Int), A.Pairwise (· < ·) → B.Pairwise (· < ·) → (∀ x, x ∈ A ↔ x ∈ B) → A = B
  | [], [], _, _, _ => rfl
  | [], y :: B, _, _, h => absurd ((h y).mpr (List.mem_cons_self ..)) (by simp)
  | x :: A, [], _, _, h => absurd ((h x).mp (List.mem_cons_self ..)) (by simp)
  | x :: A, y :: B, pa, pb, h => by
    have pa' := List.pairwise_cons.mp pa
    have pb' := List.pairwise_cons.mp pb
    have e : x = y := by
      have h1 := (h x).mp (List.mem_cons_self ..)
      have h2 := (h y).mpr (List.mem_cons_self ..)
      rcases List.mem_cons.mp h1 with z | z
      · exact z
      · rcases List.mem_cons.mp h2 with q | q
        · exact q.symm
        · have := pb'.1 x z; have := pa'.1 y q; omega
    subst e
    congr 1
    refine inc_eq A B pa'.2 pb'.2 fun z => ⟨fun hz => ?_, fun hz => ?_⟩
    · rcases List.mem_cons.mp ((h z).mp (List.mem_cons_of_mem _ hz)) with q | q
      · have := pa'.1 z hz; omega
      · exact q
    · rcases List.mem_cons.mp ((h z).mpr (List.mem_cons_of_mem _ hz)) with q | q
      · have := pb'.1 z hz; omega
      · exact q
end Jb

set_option Elab.async false
set_option linter.all false
set_option maxRecDepth 100000
set_option maxHeartbeats 4000000
namespace PySem
open PySem.Builtin PySem.Builtin.List
theorem F.lk_rev_len : typeLookup (.type "list_reverseiterator") "__len__" = pure none := by rw [typeLookup_type, builtinLookup_eq_fast]; kernel_rfl
theorem F.lk_rev_hint : typeLookup (.type "list_reverseiterator") "__length_hint__" = pure (some (.builtin "list_reverseiterator.__length_hint__")) := by rw [typeLookup_type, builtinLookup_eq_fast]; kernel_rfl
theorem F.sub_rev : isSubtype (.type "list_reverseiterator") (.type "list_reverseiterator") = pure true := by rw [isSubtype_type]; kernel_rfl
theorem F.jb_entry_ext : entryFor table "list.extend.loop" = some Builtin.«list.extend.loop» := entryFor_of_tree (by kernel_rfl)
theorem F.jb_plain_ext : plainId "list.extend.loop" = true := by decide +kernel
section
variable {prog : Program} {w : World} {A : Around} {E : Value → Shared → Prop} {it l D : Addr} {items : Array Value} {g : Array GenState} {d : Drawn} {tk : Nat} {os : OsState}
theorem hint_rev {Q : Bool → Shared → Prop} {h : Heap} (hT : (⟨h, g, d, tk, os⟩ : Shared).TypeIs (.ref it) "list_reverseiterator")
    (hq : Q false ⟨h, g, d, tk, os⟩) : wpAny (model prog w) A (listLengthHint (.ref it)) Q E ⟨h, g, d, tk, os⟩ := by
  unfold listLengthHint
  refine wpAny_bind (wpAny_specialOf hT F.lk_rev_len ?_)
  show wpAny _ _ (specialOf (.ref it) "__length_hint__" >>= _) _ _ _
  refine wpAny_bind (wpAny_specialOf hT F.lk_rev_hint ?_)
  have hsp : splitId "list_reverseiterator.__length_hint__" = some ("list_reverseiterator", "__length_hint__") := by decide +kernel
  dsimp only
  rw [hsp]
  refine wpAny_bind (wpAny_isInstance hT F.sub_rev ?_)
  rw [if_neg (by decide)]
  split
  · rw [if_neg (by decide)]
    exact wpAny_pure hq
  · rename_i z
    exact absurd (by rfl) z
def LO (xs : Array Value) (c : Nat) : Obj := { cls := .type "list", data := .seq xs c }
theorem ext_loop {R : Result → Shared → Prop} (hh : A.handled = none) (n1 : D ≠ it) (n2 : D ≠ l) (n3 : l ≠ it) : ∀ (m : Nat) (acc : Array Value) (c : Nat) (h : Heap), h.get? D = some (LO acc c) → h.IsRevIter it l ((m : Int) - 1) → h.IsList l items → m ≤ items.size → acc.size + m ≤ sizeLine →
    (∀ h' c', (∀ b o, b ≠ it → b ≠ D → h.get? b = some o → h'.get? b = some o) → h'.get? D = some (LO (acc ++ (items.toList.take m).reverse.toArray) c') → R (.ok (.ret .none)) ⟨h', g, d, tk, os⟩) →
    codeAny (model prog w) A (.builtin "list.extend.loop" ⟨[.ref D, .ref it, .none], []⟩) R ⟨h, g, d, tk, os⟩ := by
  intro m
  induction m with
  | zero =>
    intro acc c h hD hit hl hm hs k
    refine codeAny_builtin F.jb_entry_ext ?_
    rw [Around.under_plainId F.jb_plain_ext _]
    unfold Builtin.«list.extend.loop»
    dsimp only
    refine wpAny_bind (wpAny_pyNext_rev_end (show A.in1.handled = none from hh) hit fun h' eb => ?_)
    refine wpAny_pure ?_
    exact k h' c (fun b o b1 _ e => eb b o b1 e) (by rw [eb D _ n1 hD]; simp)
  | succ m ih =>
    intro acc c h hD hit hl hm hs k
    have hlt : m < items.size := hm
    have e1 : (((m + 1 : Nat)) : Int) - 1 = (m : Int) := by omega
    rw [e1] at hit
    refine codeAny_builtin F.jb_entry_ext ?_
    rw [Around.under_plainId F.jb_plain_ext _]
    unfold Builtin.«list.extend.loop»
    dsimp only
    refine wpAny_bind (wpAny_pyNext_rev_item hit hl (x := items[m]) (by simp [hlt]) fun h1 hit1 sb1 => ?_)
    dsimp only
    have hD1 : h1.get? D = some (LO acc c) := (sb1.2 D n1).trans hD
    show wpAny _ _ (updateSeq D (fun x => x.push items[m]) >>= _) _ _ _
    refine wpAny_bind (wpAny_updateSeq hD1 rfl ?_ (by omega) (by rw [Array.size_push]; omega))
    have q : IsL (h1.update D (Obj.mapSeq (·.push items[m]))) D (acc.push items[m]) _ := PySem.IsL.update (show IsL h1 D acc c from hD1) (·.push items[m])
    refine wpAny_pure ⟨plainId_quiet F.jb_plain_ext _, ?_⟩
    refine ih (acc.push items[m]) _ _ q ?_ ?_ (by omega) (by rw [Array.size_push]; omega) fun h' c' kp e => k h' c' (fun b o b1 b2 hb => kp b o b1 b2 ((Heap.get?_update_other h1 _ (Ne.symm b2)).trans ((sb1.2 b b1).trans hb))) ?_
    · exact hit1.at fun o e => (Heap.get?_update_other h1 _ n1).trans e
    · obtain ⟨o, h1', h2⟩ := hl
      exact ⟨o, (Heap.get?_update_other h1 _ n2).trans ((sb1.2 l n3).trans h1'), h2⟩
    · rw [e]
      congr 2
      rw [List.take_add_one]
      have e3 : items.toList[m]? = some items[m] := by simp [hlt]
      rw [e3]
      simp
theorem list_init_rev {Q : PySem.Fin → Shared → Prop} {h : Heap} {i : Int} (hD : h.get? D = some (LO #[] 0)) (hit : h.IsRevIter it l i) (n1 : D ≠ it)
    (hq : ∀ h' c', (∀ b, b ≠ D → h'.get? b = h.get? b) → h'.get? D = some (LO #[] c') → Q (.again (.builtin "list.extend.loop" ⟨[.ref D, .ref it, .none], []⟩)) ⟨h', g, d, tk, os⟩) :
    wpAny (model prog w) A (Builtin.«list.__init__» ⟨[.ref D, .ref it], []⟩) Q E ⟨h, g, d, tk, os⟩ := by
  unfold Builtin.«list.__init__»
  show wpAny _ _ (listItems (.ref D) >>= _) _ _ _
  refine wpAny_bind (wpAny_listItems hD rfl ?_)
  show wpAny _ _ (updateSeq D (fun _ => #[]) >>= _) _ _ _
  refine wpAny_bind (wpAny_updateSeq hD rfl ?_ (by decide) (by decide))
  have q1 : IsL (h.update D (Obj.mapSeq fun _ => #[])) D #[] _ := PySem.IsL.update (show IsL h D #[] 0 from hD) (fun _ => #[])
  have k1 : ∀ b, b ≠ D → (h.update D (Obj.mapSeq fun _ => #[])).get? b = h.get? b := fun b hb => Heap.get?_update_other h _ (Ne.symm hb)
  refine wpAny_bind (wpAny_letGo ?_)
  show wpAny _ _ (listExtendWith (.ref D) (.ref it) .none) _ _ ⟨h.update D (Obj.mapSeq fun _ => #[]), g, d, tk, os⟩
  generalize h.update D (Obj.mapSeq fun _ => #[]) = h1 at q1 k1 ⊢
  have hit1 : h1.IsRevIter it l i := hit.at fun o e => (k1 it (Ne.symm n1)).trans e
  have hT : (⟨h1, g, d, tk, os⟩ : Shared).TypeIs (.ref it) "list_reverseiterator" := hit1.typeIs
  unfold listExtendWith
  refine wpAny_bind (wpAny_typeOf hT ?_)
  have hsr : listSameRef (.ref D) (.ref it) = false := by
    unfold listSameRef
    simp [n1]
  rw [hsr, if_neg (by decide)]
  refine wpAny_bind (wpAny_pyIter_revIter hit1 ?_)
  refine wpAny_bind (wpAny_holding (hint_rev hT ?_))
  dsimp only
  split
  · refine wpAny_bind (wpAny_rule ?_)
    unfold listTouch
    refine wpAny_bind (wpAny_bind ?_)
    show wpAny _ _ (updateSeq D (fun x => x.push .none)) _ _ _
    refine wpAny_updateSeq q1 rfl ?_ (by decide) (by decide)
    have q2 : IsL (h1.update D (Obj.mapSeq (·.push .none))) D (#[].push .none) _ := PySem.IsL.update q1 (·.push .none)
    show wpAny _ _ (updateSeq D (fun x => x.pop)) _ _ _
    refine wpAny_updateSeq q2 rfl ?_ (by decide) (by decide)
    have q3 : IsL ((h1.update D (Obj.mapSeq (·.push .none))).update D (Obj.mapSeq (·.pop))) D ((#[].push .none).pop) _ := PySem.IsL.update q2 (·.pop)
    refine wpAny_pure (hq _ _ (fun b hb => ?_) q3)
    exact (Heap.get?_update_other _ _ (Ne.symm hb)).trans ((Heap.get?_update_other h1 _ (Ne.symm hb)).trans (k1 b hb))
  · exact wpAny_pure (hq h1 _ k1 q1)
end
end PySem
namespace Jb
open PySem PySem.Spec PyProof.Rows L2
section
variable {X : Cx} {e : Expr} {t : TA} {p1 p2 q1 q2 : Pos}
def tListRev (K : PySem.W.Frag) (t : TA) : TE := fun σ H Q => t σ H fun vs H1 => ∃ a xs, vs = [.ref a] ∧ SqL K H1 a xs ∧ ∀ p, H1 p = none → Q (.ref p) (upd H1 p (.lst xs.reverse))
theorem pe_listrev (hg : Gl X "list") (hm : X.mg "list" = none) (hmr : X.mg "reversed" = none) (ha : PA X [e] t) (hg2 : Gl X "reversed" := by rfl) (hs : starEach [e] X.env = [(false, eval e X.env)] := by rfl) (hc : X.calm = true := by rfl) :
    PE X (.Call (.Name "list" p1) [.Call (.Name "reversed" p2) [e] [] q2] [] q1) (tListRev X.K t) := by
  intro pins s σ H Q I h
  refine wpAny_Call_Name_kw (ld_blt I hg hm boot_list ?_)
  refine PyProof.Rows.callWith_type1 ?_ rfl rfl
  show wpAny _ _ (spliced ((false, eval (.Call (.Name "reversed" p2) [e] [] q2) X.env) :: backTo q1 (starEach [] X.env))) _ _ s
  refine Calls.spliced_cons ?_
  refine wpAny_Call_Name_kw (ld_blt I hg2 hmr boot_reversed ?_)
  refine PyProof.Rows.callWith_type1 (thn (ha q2 pins s σ H _ I h) fun us s1 ⟨vs, H1, I1, r1, q1'⟩ => ?_) hs rfl
  obtain ⟨a, xs, ev, hq, q⟩ := q1'
  subst ev
  obtain ⟨u, rfl, ru⟩ := vals1 r1
  cases ru
  obtain ⟨its, rv, pl, hz⟩ := I1.list hq
  refine call_reversed_list pl.isList ?_
  refine Calls.spliced_nil ?_
  obtain ⟨h0, g, d, tk, os⟩ := s1
  have hlen := rv.length
  have hl0 : a < h0.objs.size := let ⟨_, h1, _⟩ := pl.isList; Heap.lt_size h1
  have hh : X.A.handled = none := I1.ok.hd hc
  refine callType_codes (Q₁ := fun obj s₁ => obj = .ref (h0.objs.size + 1) ∧ s₁ = ⟨(h0.push (revObj a ((its.toArray.size : Int) - 1))).push { cls := .type "list", data := .seq #[] }, g, d, tk, os⟩) F.called_list (F.typeCall_list_1 _) F.entry_list_init (code_list_new _ ⟨by dsimp only; rw [Heap.size_push], rfl⟩) ?_
  rintro obj s₁ ⟨rfl, rfl⟩
  have eD : ((h0.push (revObj a ((its.toArray.size : Int) - 1))).push { cls := .type "list", data := .seq #[] }).get? (h0.objs.size + 1) = some (LO #[] 0) := by
    rw [← Heap.size_push h0 (revObj a ((its.toArray.size : Int) - 1))]
    exact Heap.get?_push_size _ rfl
  have eI : ((h0.push (revObj a ((its.toArray.size : Int) - 1))).push { cls := .type "list", data := .seq #[] }).IsRevIter h0.objs.size a ((its.toArray.size : Int) - 1) := ⟨_, Heap.get?_push_of_some _ (Heap.get?_push_size _ rfl), rfl, rfl⟩
  have n1 : h0.objs.size + 1 ≠ h0.objs.size := Nat.succ_ne_self _
  refine ⟨⟨_, eD, rfl⟩, F.args_list_init_2 _ _, list_init_rev eD eI n1 fun h' c' kp eD' => ⟨plainId_quiet F.jb_plain_ext _, ?_⟩⟩
  have old : ∀ b o, h0.get? b = some o → h'.get? b = some o := fun b o e => by
    rw [kp b (Nat.ne_of_lt (Nat.lt_succ_of_lt (Heap.lt_size e)))]
    exact Heap.get?_push_of_some _ (Heap.get?_push_of_some _ e)
  refine ext_loop (items := its.toArray) (A := X.A.in1) hh n1 (Nat.ne_of_gt (Nat.lt_succ_of_lt hl0)) (Nat.ne_of_lt hl0) its.toArray.size #[] c' h' eD' (eI.at fun o e => ?_) ?_ (Nat.le_refl _) (by simp; omega) fun h2 c2 kp2 e2 => ?_
  · rw [kp _ (Ne.symm n1)]; exact e
  · obtain ⟨o, h1, h2⟩ := pl.isList
    exact ⟨o, old _ _ h1, h2⟩
  · refine ⟨rfl, .ref (h0.objs.size + 1), upd H1 (h0.objs.size + 1) (.lst xs.reverse), I1.laid (t' := tk) (fun b o e => ?_) (Nat.le_succ _) ?_, rfl, q _ (I1.hok.fresh (Nat.le_succ _))⟩
    · exact kp2 b o (Nat.ne_of_lt (Heap.lt_size e)) (Nat.ne_of_lt (Nat.lt_succ_of_lt (Heap.lt_size e))) (old b o e)
    · refine ⟨by rw [List.length_reverse]; omega, its.reverse, c2, rv.reverse, ?_⟩
      rw [e2]
      simp [LO]
theorem qpe_listrev (hg : Gl X "list") (hm : X.mg "list" = none) (hmr : X.mg "reversed" = none) (ha : Shut (PA X [e] t)) (hg2 : Gl X "reversed" := by rfl) (hs : starEach [e] X.env = [(false, eval e X.env)] := by rfl) (hc : X.calm = true := by rfl) :
    Shut (PE X (.Call (.Name "list" p1) [.Call (.Name "reversed" p2) [e] [] q2] [] q1) (tListRev X.K t)) := ⟨pe_listrev hg hm hmr ha.out hg2 hs hc⟩
end
end Jb

set_option Elab.async false
set_option linter.all false
set_option maxRecDepth 100000
set_option maxHeartbeats 4000000
namespace Jb
open PySem PySem.Spec PyProof.Rows L2
theorem vals_ints : ∀ {us : List Value} {ns : List Int}, IntsAre us ns → Vals (ns.map V.int) us
  | _, _, .nil => .nil
  | _, _, .cons n t r => .cons ⟨t, rfl⟩ (vals_ints r)
theorem vals_carried : ∀ {us : List Value} {ns : List Int}, CarriedAll us (ns.map PyData.int) → Vals (ns.map V.int) us
  | [], [], _ => .nil
  | u :: us, n :: ns, h => by
    cases h with
    | cons p q =>
      refine .cons ?_ (vals_carried q)
      cases p
      exact ⟨_, rfl⟩
section
variable {X : Cx} {e : Expr} {t : TA} {p1 p2 q1 q2 : Pos}
/-- sorted of a list of ints, fewer than 64 -/
def rSorted (K : PySem.W.Frag) : List V → Hp → VK → Prop := fun xs H Q => ∃ a ns, xs = [.ref a] ∧ SqL K H a (List.map V.int ns) ∧ List.length ns < 64 ∧ ∀ ms, List.Perm ms ns → List.Pairwise (· ≤ ·) ms → ∀ p, H p = none → Q (.ref p) (upd H p (.lst (ms.map V.int)))
theorem call_sorted : CallR X (.builtin "sorted") (rSorted X.K) := by
  intro pins s σ H xs us Q I r h
  obtain ⟨a, ns, rfl, hq, hl, q⟩ := h
  obtain ⟨u, rfl, ru⟩ := vals1 r
  cases ru
  obtain ⟨its, rv, pl, hz⟩ := I.list hq
  have hlen := rv.length
  rw [List.length_map] at hlen
  refine sorted_ints pl.isList (intsAre_of rv) (by omega) fun out ms io pm pw => ?_
  obtain ⟨c, ec⟩ := sortedAll_at s.heap its out
  have hml : ms.length = ns.length := pm.length_eq
  have hz2 : 64 ≤ sizeLine := by decide
  refine ⟨.ref (s.heap.objs.size + 1), upd H (s.heap.objs.size + 1) (.lst (ms.map V.int)), I.laid (t' := s.toks) (fun b o e => sortedAll_old e) (Nat.le_succ _) ?_, rfl, q ms pm pw _ (I.hok.fresh (Nat.le_succ _))⟩
  refine ⟨by rw [List.length_map]; omega, out.toList, c, vals_ints io, ?_⟩
  rw [ec]
/-- repr of a number or of None -/
def rRepr1 : List V → Hp → VK → Prop := fun xs H Q => (∃ i : Int, xs = [.int i] ∧ i.natAbs < 1000000 ∧ Q (.str (Str.ofString (toString i))) H) ∨ (xs = [.non] ∧ Q (.str "None") H)
theorem call_repr1 : CallR X (.builtin "repr") rRepr1 := by
  intro pins s σ H xs us Q I r h
  rcases h with ⟨i, rfl, hi, q⟩ | ⟨rfl, q⟩
  · obtain ⟨u, rfl, ru⟩ := vals1 r
    obtain ⟨tk, rfl⟩ := (show ∃ t, u = Value.int i t from ru)
    have h2 : i.natAbs.log2 < 1920 := by
      by_cases h0 : i.natAbs = 0
      · rw [h0]; decide
      · exact (Nat.log2_lt h0).mpr (Nat.lt_of_lt_of_le (show i.natAbs < 2 ^ 20 by omega) (Nat.pow_le_pow_right (by decide) (by decide)))
    exact P.repr_of_int h2 ⟨.str _, H, I.tok _, ⟨_, rfl⟩, q⟩
  · obtain ⟨u, rfl, ru⟩ := vals1 r
    cases (show u = Value.none from ru)
    exact P.repr_of_none ⟨.str _, H, I.tok _, ⟨_, rfl⟩, q⟩
/-- list(range(n)) -/
def tListRange (t : TA) : TE := fun σ H Q => t σ H fun vs H1 => ∃ n : Nat, vs = [.int n] ∧ n ≤ 1000 ∧ ∀ p, H1 p = none → Q (.ref p) (upd H1 p (.lst (((List.range n).map fun i : Nat => (i : Int)).map V.int)))
theorem pe_listrange (hg : Gl X "list") (hm : X.mg "list" = none) (hmr : X.mg "range" = none) (ha : PA X [e] t) (hg2 : Gl X "range" := by rfl) (hs : starEach [e] X.env = [(false, eval e X.env)] := by rfl) (hc : X.calm = true := by rfl) :
    PE X (.Call (.Name "list" p1) [.Call (.Name "range" p2) [e] [] q2] [] q1) (tListRange t) := by
  intro pins s σ H Q I h
  refine wpAny_Call_Name_kw (ld_blt I hg hm boot_list ?_)
  refine PyProof.Rows.callWith_type1 ?_ rfl rfl
  show wpAny _ _ (spliced ((false, eval (.Call (.Name "range" p2) [e] [] q2) X.env) :: backTo q1 (starEach [] X.env))) _ _ s
  refine Calls.spliced_cons ?_
  refine wpAny_Call_Name_kw (ld_blt I hg2 hmr boot_range ?_)
  refine PyProof.Rows.callWith_type1 (thn (ha q2 pins s σ H _ I h) fun us s1 ⟨vs, H1, I1, r1, q1'⟩ => ?_) hs rfl
  obtain ⟨n, ev, hn, q⟩ := q1'
  subst ev
  obtain ⟨u, rfl, ru⟩ := vals1 r1
  obtain ⟨tn, rfl⟩ := (show ∃ t, u = Value.int (n : Int) t from ru)
  refine call_range_1 ?_
  refine Calls.spliced_nil ?_
  obtain ⟨h0, g, d, tk, os⟩ := s1
  have I2 : Inv X pins σ H1 ⟨h0.push { cls := .type "range", data := .fields #[.int 0 tk, .int (n : Int) tn, .int 1 (tk + 1)] }, g, d, tk + 1 + 1, os⟩ := I1.kept (t' := tk + 1 + 1) fun b o e => Heap.get?_push_of_some _ e
  obtain ⟨m, hns, _⟩ := I2.loc
  have hz : 2000 ≤ sizeLine := by decide
  have hfr : Fr ({} : Heap) X.env.locals (h0.push { cls := .type "range", data := .fields #[.int 0 tk, .int (n : Int) tn, .int 1 (tk + 1)] }) m := ⟨hns, fun b o e => by simp [Heap.get?] at e, Nat.zero_le _⟩
  refine list_rangeD (news := []) (n := n) (I2.ok.hd hc) hfr (fun p hp => by simp at hp) (IsRange.new h0 0 n 1 tk tn (tk + 1)) ?_ ?_ (by omega) fun h' tk' ys fr nw old e0 il np ca => ?_
  · exact small_one (by decide) (by decide) (by omega) (by omega)
  · unfold Builtin.Range.rangeSize
    rw [if_pos (by decide)]
    split
    · omega
    · omega
  · obtain ⟨c, ec⟩ := np.1
    have hv : Vals (((List.range n).map fun i : Nat => (i : Int)).map V.int) ys := by
      refine vals_carried ?_
      have : rangeInts 0 1 n = (List.range n).map fun i : Nat => (i : Int) := by
        unfold rangeInts
        refine List.map_congr_left fun i _ => ?_
        omega
      rw [← this]
      exact ca
    refine ⟨.ref _, upd H1 _ (.lst (((List.range n).map fun i : Nat => (i : Int)).map V.int)), I2.laid (t' := tk') old (Nat.le_refl _) ⟨by simp; omega, ys, c, hv, ec⟩, rfl, q _ (I2.hok.fresh (Nat.le_refl _))⟩
theorem qpe_listrange (hg : Gl X "list") (hm : X.mg "list" = none) (hmr : X.mg "range" = none) (ha : Shut (PA X [e] t)) (hg2 : Gl X "range" := by rfl) (hs : starEach [e] X.env = [(false, eval e X.env)] := by rfl) (hc : X.calm = true := by rfl) :
    Shut (PE X (.Call (.Name "list" p1) [.Call (.Name "range" p2) [e] [] q2] [] q1) (tListRange t)) := ⟨pe_listrange hg hm hmr ha.out hg2 hs hc⟩
end
end Jb

set_option Elab.async false
set_option linter.all false
set_option maxRecDepth 100000
set_option maxHeartbeats 4000000
namespace Jb
open PySem PySem.Spec PyProof.Rows L2
def top (i : Nat) : Stmt := PySem.Challenge.pw_joinback_k17_in_place_of.main.body.getD i (.Pass ⟨0, 0, 0, 0⟩)
abbrev s_eldest : Stmt := top 1
abbrev s_in_place_of : Stmt := top 2
abbrev s_law_begin : Stmt := top 4
abbrev s_law_take : Stmt := top 5
abbrev s_law_names : Stmt := top 6
abbrev s_law_joinings : Stmt := top 7
abbrev s_law_holding : Stmt := top 8
abbrev s_law_without : Stmt := top 9
abbrev s_law_right : Stmt := top 10
abbrev s_law : Stmt := top 11
structure Blt (mg : Str → Option Value) : Prop where
  divmod : mg "divmod" = none
  enumerate : mg "enumerate" = none
  int_ : mg "int" = none
  len : mg "len" = none
  list_ : mg "list" = none
  range : mg "range" = none
  repr : mg "repr" = none
  sorted : mg "sorted" = none
  tuple : mg "tuple" = none
abbrev DQ (Q : VK) : Ends := { nx := fun _ H' => Q .non H', rt := Q }
theorem Room_u1 {k : Nat} {A : Around} (r : Room k A) : A.units + 1 < cLine := by have := r.units; omega
theorem Room_dp {k n : Nat} {A : Around} (r : Room k A) (h : n ≤ 64) : A.units + n < cLine := by have := r.units; omega
/-! ### the state of the draws -/
def sKvs (c : Addr) (t : Int) : List (Key × V) := [(Sum.inr "cells", .ref c), (Sum.inr "turn", .int t)]
structure Stt (H : Hp) (d c : Addr) (t : Int) : Prop where
  D : H d = some (.dK (sKvs c t))
  C : ∃ ns : List Int, H c = some (.lst (ns.map V.int)) ∧ 0 < ns.length ∧ ns.length ≤ 63
  t0 : 0 ≤ t
theorem put_turn (c : Addr) (t u : Int) : putK (sKvs c t) (Sum.inr "turn") (.int u) = sKvs c u := by rfl
/-- all that was tracked but the state is as it was -/
def But2 (d c : Addr) (H H' : Hp) : Prop := ∀ b o, H b = some o → b ≠ d → b ≠ c → H' b = some o
theorem But2.refl {d c : Addr} {H : Hp} : But2 d c H H := fun _ _ h _ _ => h
theorem But2.trans {d c : Addr} {H H1 H2 : Hp} (a : But2 d c H H1) (b : But2 d c H1 H2) : But2 d c H H2 := fun x o h n m => b x o (a x o h n m) n m
theorem But2.of {d c : Addr} {H H' : Hp} (s : Same H H') : But2 d c H H' := fun x o h _ _ => s x o h
theorem But2.putD {d c : Addr} {H : Hp} {o : HO} : But2 d c H (upd H d o) := fun b u h n _ => by rw [upd_ne n]; exact h
theorem But2.putC {d c : Addr} {H : Hp} {o : HO} : But2 d c H (upd H c o) := fun b u h _ n => by rw [upd_ne n]; exact h
theorem But2.putN {d c q : Addr} {H G : Hp} {o : HO} (b : But2 d c H G) (h : H q = none) : But2 d c H (upd G q o) := fun x u e n m => by rw [upd_ne (ne_of_none e h)]; exact b x u e n m
theorem Stt.ne {H : Hp} {d c : Addr} {t : Int} (s : Stt H d c t) : d ≠ c := let ⟨_, h, _⟩ := s.C; ne_of s.D h (by intro z; cases z)
theorem Stt.keep {H H' : Hp} {d c : Addr} {t : Int} (s : Stt H d c t) (e : Same H H') : Stt H' d c t := ⟨e _ _ s.D, let ⟨ns, h, r⟩ := s.C; ⟨ns, e _ _ h, r⟩, s.t0⟩
theorem Stt.neD {H : Hp} {d c q : Addr} {t : Int} (s : Stt H d c t) (h : H q = none) : q ≠ d := fun z => by rw [z, s.D] at h; cases h
theorem Stt.neC {H : Hp} {d c q : Addr} {t : Int} (s : Stt H d c t) (h : H q = none) : q ≠ c := fun z => by obtain ⟨_, g, _⟩ := s.C; rw [z, g] at h; cases h
theorem Stt.tupD {H : Hp} {d c q : Addr} {t : Int} {xs : List V} (s : Stt H d c t) (h : H q = some (.tup xs)) : q ≠ d := ne_of h s.D (by intro z; cases z)
theorem Stt.tupC {H : Hp} {d c q : Addr} {t : Int} {xs : List V} (s : Stt H d c t) (h : H q = some (.tup xs)) : q ≠ c := let ⟨_, g, _⟩ := s.C; ne_of h g (by intro z; cases z)
theorem But2.none {d c q : Addr} {H G : Hp} (b : But2 d c H G) (n : q ≠ d) (m : q ≠ c) (h : G q = none) : H q = none := by
  cases e : H q with
  | none => rfl
  | some o => rw [b q o e n m] at h; cases h
section
variable {P : Program} {w : World} {K : PySem.W.Frag} {mg : Str → Option Value} {base : Heap}

def spTake : Sp := fun vs H Q _ => ∃ (d c : Addr) (many t : Int), vs = [.ref d, .int many] ∧ Stt H d c t ∧ t < 1000000 ∧ 0 < many ∧ many < 1000000 ∧ ∀ r H', 0 ≤ r → r < many → Stt H' d c (t + 1) → But2 d c H H' → Q (.int r) H'
theorem sc_law_take : FnScope ["_law_state", "_law_many", "_law_turn", "_law_spot", "_law_cell", "_law_digit", "_law_mixed"] ["_law_state", "_law_many"] (defScope s_law_take) := ⟨rfl, rfl, rfl, by decide +kernel, rfl, by decide +kernel, by decide +kernel⟩

theorem ok_take {f : Addr} {fd : FuncData} (F : Fun K "_law_take" "_law_take" s_law_take f fd) (B : Blt mg) : FnOk P w K mg base CX0 1 f fd ["_law_state", "_law_many"] spTake := by
  have nd := sc_law_take.nd
  refine F.okS sc_law_take (fun vs H Q E h => ?_) (fun cdv A outer s H vs Q E hr h => ?_)
  · obtain ⟨d, c, many, t, rfl, _⟩ := h
    rfl
  · obtain ⟨d, c, many, t, rfl, S, ht, m0, m1, q⟩ := h
    have hu := Room_u1 hr
    refine ⟨_, (qpss_cons (qps_set (i := 2) nd rfl (Or.inl rfl) (qpe_op op_add (qpe_dget hu (qpv 0) qpe_str (fun _ _ => rfl)) qpe_int))
      (qpss_cons (qps_dput hu (qpv 0) qpe_str (qpv 2) rfl)
      (qpss_cons (qps_set (i := 3) nd rfl (Or.inl rfl) (qpe_op op_mod (qpv 2) (qpe_callB call_len_seq (by rfl) B.len boot_len (qpa_cons (qpe_dget hu (qpv 0) qpe_str (fun _ _ => rfl)) qpa_nil))))
      (qpss_cons (qps_set (i := 4) nd rfl (Or.inl rfl) (qpe_ix ix_list (qpe_dget hu (qpv 0) qpe_str (fun _ _ => rfl)) (qpv 3) (fun _ _ => rfl)))
      (qpss_cons (qps_if (qpt_cmpR op_ge (qpv 4) (qpe_op op_pow qpe_int qpe_int) (nomark _)) (qpss_cons (qps_asg (qpe_callB call_divmod (by rfl) B.divmod boot_divmod (qpa_cons (qpv 4) (qpa_cons (qpv 1) qpa_nil))) (qpg_tup rfl (qpgs_cons (qpg_sub (qpe_dget hu (qpv 0) qpe_str (fun _ _ => rfl)) (qpv 3) set_list) (qpgs_cons (qpg_name (i := 5) nd rfl (Or.inl rfl)) qpgs_nil))))
      (qpss_one (qps_ret (qpv 5)))) qpss_nil)
      (qpss_cons (qps_set (i := 6) nd rfl (Or.inl rfl) (qpe_op op_mod (qpe_op op_mul (qpe_op op_add (qpe_op op_add (qpe_op op_mod (qpv 4) qpe_int) (qpe_op op_mul (qpe_op op_mul (qpv 2) (qpv 2)) qpe_int)) qpe_int) qpe_int) qpe_int))
      (qpss_cons (qps_set (i := 6) nd rfl (Or.inl rfl) (qpe_op op_mod (qpe_op op_mul (qpv 6) (qpv 6)) qpe_int))
      (qpss_one (qps_ret (qpe_op op_mod (qpe_op op_fdivB (qpe_op op_mod (qpe_op op_mul (qpe_op op_add (qpv 6) (qpe_op op_mul (qpv 2) qpe_int)) qpe_int) qpe_int) qpe_int) (qpv 1))))))))))), ?_⟩
    obtain ⟨ns, hc, n0, n1⟩ := S.C
    have hne := S.ne
    have gT : ∀ {G : Hp} {v : V}, G d = some (.dK [(Sum.inr "cells", .ref c), (Sum.inr "turn", v)]) → DGet G d (.str "turn") (some v) := fun h => DGet.k (k := Sum.inr "turn") h
    have gC : ∀ {G : Hp} {v : V}, G d = some (.dK [(Sum.inr "cells", .ref c), (Sum.inr "turn", v)]) → DGet G d (.str "cells") (some (.ref c)) := fun h => DGet.k (k := Sum.inr "cells") h
    refine ⟨_, rfl, d, _, rfl, gT S.D, _, _, rfl, rfl, ?_⟩
    refine ⟨_, rfl, _, rfl, d, _, rfl, DPut.k (k := Sum.inr "turn") S.D (by show 2 < sizeLine; decide), ?_⟩
    rw [put_turn]
    have D1 : (upd H d (.dK (sKvs c (t + 1)))) d = some (.dK (sKvs c (t + 1))) := upd_same
    have C1 : (upd H d (.dK (sKvs c (t + 1)))) c = some (.lst (ns.map V.int)) := by rw [upd_ne (Ne.symm hne)]; exact hc
    refine ⟨_, rfl, _, rfl, d, _, rfl, gC D1, c, _, rfl, .inl (SqL.of C1), _, _, rfl, rfl, (by rw [List.length_map]; omega), ?_⟩
    have hm0 := Int.emod_nonneg (t + 1) (b := ((ns.map V.int).length : Int)) (by rw [List.length_map]; omega)
    have hm1 := Int.emod_lt_of_pos (t + 1) (b := ((ns.map V.int).length : Int)) (by rw [List.length_map]; omega)
    have eS : (fun i j : Int => V.int (i % j)) (t + 1) ((ns.map V.int).length : Int) = .int ((t + 1) % ((ns.map V.int).length : Int)) := rfl
    generalize hsp : (t + 1) % ((ns.map V.int).length : Int) = sp at *
    rw [List.length_map] at hm1
    obtain ⟨cell, hat, hcell⟩ : ∃ cell : Int, atI (ns.map V.int) sp = some (.int cell) ∧ True := by
      have e : sp = ((sp.toNat : Nat) : Int) := by omega
      have hl : sp.toNat < ns.length := by omega
      refine ⟨ns[sp.toNat], ?_, trivial⟩
      have z : atI (ns.map V.int) ((sp.toNat : Nat) : Int) = some (.int ns[sp.toNat]) := atI_nat (by rw [List.getElem?_map, List.getElem?_eq_getElem hl]; rfl)
      rw [← e] at z
      exact z
    refine ⟨_, rfl, d, _, rfl, gC D1, _, rfl, c, _, sp, _, rfl, ?_, SqL.of C1, hat, ?_⟩
    · rw [← hsp]
    refine ⟨_, rfl, _, _, rfl, rfl, ⟨by decide, by decide, by decide⟩, _, _, rfl, rfl, _, rfl, ite2 (fun _ => ?_) (fun _ => ?_)⟩
    · refine ⟨_, rfl, _, rfl, cell, many, rfl, ⟨m0, by omega⟩, fun tp htp => ?_⟩
      have St := Same.new (o := .tup [.int (cell / many), .int (cell % many)]) htp
      refine ⟨tp, _, rfl, SqT.of upd_same, rfl, _, _, rfl, ?_⟩
      refine ⟨_, rfl, d, _, rfl, gC (St _ _ D1), _, rfl, c, _, sp, sp.toNat, rfl, (by rw [← hsp]), St _ _ C1, ?_, _, _, rfl, rfl, ?_⟩
      · unfold ixN
        rw [if_pos hm0, if_pos (by rw [List.length_map]; exact hm1)]
      refine ⟨_, rfl, ?_⟩
      refine q _ _ (Int.emod_nonneg _ (by omega)) (Int.emod_lt_of_pos _ m0) ⟨by rw [upd_ne hne]; exact St _ _ D1, ⟨ns.set sp.toNat (cell / many), ?_, by rw [List.length_set]; exact n0, by rw [List.length_set]; exact n1⟩, by have := S.t0; omega⟩ ?_
      · rw [upd_same, List.map_set]
      · exact ((But2.putD).trans (But2.of St)).trans But2.putC
    · refine ⟨_, rfl, _, _, rfl, rfl, (by show (0 : Int) < 2147483629; decide), _, rfl, _, rfl, _, _, rfl, rfl, .inl ⟨by have := S.t0; omega, by omega⟩, _, _, rfl, rfl, .inr ⟨by decide, by decide⟩, _, _, rfl, rfl, _, _, rfl, rfl, _, _, rfl, rfl, .inr ⟨by decide, by decide⟩, _, _, rfl, rfl, (by show (0 : Int) < 2147483647; decide), ?_⟩
      have b0 := Int.emod_nonneg ((cell % 2147483629 + (t + 1) * (t + 1) * 7919 + 11) * 48271) (show (2147483647 : Int) ≠ 0 by decide)
      have b1 := Int.emod_lt_of_pos ((cell % 2147483629 + (t + 1) * (t + 1) * 7919 + 11) * 48271) (show (0 : Int) < 2147483647 by decide)
      dsimp only
      generalize (cell % 2147483629 + (t + 1) * (t + 1) * 7919 + 11) * 48271 % 2147483647 = mx at b0 b1 ⊢
      refine ⟨_, rfl, _, rfl, _, _, rfl, rfl, .inl ⟨by omega, by omega⟩, _, _, rfl, rfl, (by show (0 : Int) < 2147483587; decide), ?_⟩
      refine ⟨_, rfl, _, rfl, _, _, rfl, rfl, .inr ⟨by decide, by decide⟩, _, _, rfl, rfl, _, _, rfl, rfl, .inr ⟨by decide, by decide⟩, _, _, rfl, rfl, (by show (0 : Int) < 2147483629; decide), _, _, rfl, rfl, ⟨by decide, by decide⟩, _, rfl, _, _, rfl, rfl, m0, ?_⟩
      exact q _ _ (Int.emod_nonneg _ (by omega)) (Int.emod_lt_of_pos _ m0) ⟨D1, ⟨ns, C1, n0, n1⟩, by have := S.t0; omega⟩ But2.putD
end
end Jb

set_option Elab.async false
set_option linter.all false
set_option maxRecDepth 100000
set_option maxHeartbeats 4000000
namespace Jb
open PySem PySem.Spec PyProof.Rows L2

theorem cut_map {α : Type} (f : α → V) (ns : List α) (lo hi : Option Int) : ∃ ms : List α, cutV (ns.map f) lo hi = ms.map f ∧ ms.length ≤ ns.length ∧ ∀ x ∈ ms, x ∈ ns := by
  unfold cutV
  refine ⟨(ns.drop (HT.sIx (ns.map f).length 0 lo)).take (HT.sIx (ns.map f).length (ns.map f).length hi - HT.sIx (ns.map f).length 0 lo), by rw [List.map_take, List.map_drop], ?_, fun x hx => List.mem_of_mem_drop (List.mem_of_mem_take hx)⟩
  rw [List.length_take, List.length_drop]
  omega
theorem eqD_nil {ds : List Dt} (h : ds ≠ []) : eqD (.lst ds) (.lst []) = false := by
  cases ds with
  | nil => exact absurd rfl h
  | cons j r => simp [eqD, eqL]
theorem brs_strs {K : PySem.W.Frag} {H : Hp} : ∀ ns : List Str, BrsL K H (ns.map Dt.str) (ns.map V.str)
  | [] => rfl
  | x :: r => ⟨.str x, r.map V.str, rfl, rfl, brs_strs r⟩
theorem dp_strs : ∀ ns : List Str, dpL (ns.map Dt.str) = 0
  | [] => rfl
  | x :: r => by
    rw [List.map_cons]
    unfold dpL
    rw [dp_strs r]
    rfl
section
variable {P : Program} {w : World} {K : PySem.W.Frag} {mg : Str → Option Value} {base : Heap}

def spBegin (K : PySem.W.Frag) : Sp := fun vs H Q _ => ∃ (a : Addr) (ns : List Int), vs = [.ref a] ∧ SqL K H a (ns.map V.int) ∧ ns.length ≤ 63 ∧ ∀ d c H', Same H H' → H d = none → H c = none → Stt H' d c 0 → Q (.ref d) H'
theorem sc_law_begin : FnScope ["_law_script", "_law_cells"] ["_law_script"] (defScope s_law_begin) := ⟨rfl, rfl, rfl, by decide +kernel, rfl, by decide +kernel, by decide +kernel⟩

theorem ok_begin {f : Addr} {fd : FuncData} (F : Fun K "_law_begin" "_law_begin" s_law_begin f fd) (B : Blt mg) : FnOk P w K mg base CX0 1 f fd ["_law_script"] (spBegin K) := by
  have nd := sc_law_begin.nd
  refine F.okS sc_law_begin (fun vs H Q E h => ?_) (fun cdv A outer s H vs Q E hr h => ?_)
  · obtain ⟨a, ns, rfl, _⟩ := h
    rfl
  · obtain ⟨a, ns, rfl, hS, hl, q⟩ := h
    refine ⟨_, (qpss_cons (qps_set (i := 1) nd rfl (Or.inl rfl) (qpe_callTy call_list_of (by rfl) B.list_ boot_list (qpa_cons (qpe_slice sl_list (qpv 0) qpo_none (qpo_some qpe_int)) qpa_nil)))
      (qpss_cut (qps_if (qpt_cmpR op_eqD (qpv 1) (qpe_lst qpa_nil) (nomark _)) (qpss_one (qps_set (i := 1) nd rfl (Or.inl rfl) (qpe_lst (qpa_cons qpe_int qpa_nil)))) qpss_nil)
      (qpss_one (qps_ret (qpe_disp (qpps_cons qpe_str (qpv 1) (qpps_cons qpe_str qpe_int qpps_nil)) rfl rfl (fun z => nomatch z) (by decide)))))), ?_⟩
    refine ⟨_, rfl, _, rfl, a, _, rfl, hS, fun p1 hp1 => ?_⟩
    dsimp only [tNoPart]
    obtain ⟨ms, hms, hml, _⟩ := cut_map V.int ns none (some 63)
    refine ⟨p1, _, rfl, .inl (SqL.of upd_same), fun c1 hc1 => ?_⟩
    have S1 := (Same.new (o := .lst (cutV (ns.map V.int) none (some 63))) hp1).trans (Same.new (o := .lst (cutV (ns.map V.int) none (some 63))) hc1)
    have hc1H : H c1 = none := by
      cases e : H c1 with
      | none => rfl
      | some o => rw [Same.new hp1 c1 o e] at hc1; cases hc1
    refine ⟨fun σ G => ∃ (c : Addr) (ms : List Int), σ = [some (.ref a), some (.ref c)] ∧ Same H G ∧ H c = none ∧ G c = some (.lst (ms.map V.int)) ∧ 0 < ms.length ∧ ms.length ≤ 63, ?_, ?_⟩
    · refine ⟨_, rfl, (by show 0 ≤ sizeLine; decide), fun e0 he0 => ?_⟩
      have S0 := Same.new (o := .lst []) he0
      refine ⟨.lst (ms.map Dt.int), .lst [], ⟨c1, _, rfl, SqL.of (S0 _ _ upd_same), by rw [hms]; exact brs_ints ms⟩, ⟨e0, [], rfl, SqL.of upd_same, rfl⟩, Room_dp hr (by unfold dp; rw [dp_ints]; decide), Room_dp hr (by decide), _, rfl, ?_⟩
      by_cases hm : ms = []
      · subst hm
        refine iteT ⟨(by show 1 ≤ sizeLine; decide), fun c2 hc2 => ?_⟩
        refine ⟨c2, [7], rfl, (S1.trans S0).trans (Same.new hc2), ?_, upd_same, by decide, by decide⟩
        cases e : H c2 with
        | none => rfl
        | some o => rw [S0 c2 o (S1 c2 o e)] at hc2; cases hc2
      · rw [eqD_nil (by intro z; exact hm (List.map_eq_nil_iff.mp z))]
        exact iteF ⟨c1, ms, rfl, S1.trans S0, hc1H, by rw [S0 _ _ upd_same, hms], List.length_pos_iff.mpr hm, by omega⟩
    rintro σ G ⟨c, ms, rfl, SG, hcH, hc, m0, m1⟩
    refine fun d hd => ⟨_, rfl, upd_same, sKvs c 0, rfl, (by show 2 ≤ 15; decide), ?_⟩
    have hcd : c ≠ d := fun z => by rw [z, hd] at hc; cases hc
    have hdH : H d = none := by
      cases e : H d with
      | none => rfl
      | some o => rw [SG d o e] at hd; cases hd
    refine q d c _ (fun b o e => ?_) hdH hcH ⟨by rw [upd_same]; rfl, ⟨ms, by rw [upd_ne hcd, upd_ne hcd]; exact hc, m0, m1⟩, by decide⟩
    rw [upd_ne (ne_of_none e hdH), upd_ne (ne_of_none e hdH)]
    exact SG b o e
def names16 : List Str := ["b", "aa", "zebra", "c", "quartzes", "ab", "m", "knows", "d", "mm", "likes", "z", "a", "ba", "abcdefgh", "y"]
theorem split16 : Builtin.Str.partsBetween (Str.ofString "b aa zebra c quartzes ab m knows d mm likes z a ba abcdefgh y") (Builtin.Str.occurrences (Str.ofString "b aa zebra c quartzes ab m knows d mm likes z a ba abcdefgh y") (Str.ofString " ") 0 (Str.ofString "b aa zebra c quartzes ab m knows d mm likes z a ba abcdefgh y").length ((Str.ofString "b aa zebra c quartzes ab m knows d mm likes z a ba abcdefgh y").length + 1)) (Str.ofString " ").length = names16 := by decide +kernel
theorem eight {r x y : Int} (h0 : 0 ≤ r) (h1 : r < 8) (x0 : 0 ≤ x) (x1 : x < 5) (y0 : 0 ≤ y) (y1 : y < 3) : ∃ v : Int, atI [V.int 4, .int 5, .int 6, .int 7, .int 8, .int 6, .int (10 + x), .int y] r = some (.int v) ∧ 0 ≤ v ∧ v ≤ 14 := by
  have e : r = 0 ∨ r = 1 ∨ r = 2 ∨ r = 3 ∨ r = 4 ∨ r = 5 ∨ r = 6 ∨ r = 7 := by omega
  rcases e with e | e | e | e | e | e | e | e <;> subst e <;> exact ⟨_, rfl, by omega, by omega⟩
theorem cut_to {α : Type} (f : α → V) (ns : List α) {m : Int} (h : 0 ≤ m) : ∃ ms : List α, cutV (ns.map f) none (some m) = ms.map f ∧ ms.length ≤ m.toNat ∧ ∀ x ∈ ms, x ∈ ns := by
  unfold cutV
  refine ⟨(ns.drop 0).take (HT.sIx (ns.map f).length (ns.map f).length (some m)), ?_, ?_, fun x hx => List.mem_of_mem_drop (List.mem_of_mem_take hx)⟩
  · show List.take (HT.sIx (ns.map f).length (ns.map f).length (some m) - 0) (List.drop 0 (ns.map f)) = _
    rw [Nat.sub_zero, List.map_take, List.map_drop]
  · rw [List.length_take]
    show min (if m < 0 then _ else min m.toNat (ns.map f).length) _ ≤ _
    rw [if_neg (by omega)]
    omega
def spNames : Sp := fun vs H Q _ => ∃ (d c : Addr) (t : Int), vs = [.ref d] ∧ Stt H d c t ∧ t < 900000 ∧ ∀ (na : Addr) (ns : List Str) H', ns.length ≤ 14 → Stt H' d c (t + 4) → But2 d c H H' → H na = none → H' na = some (.lst (ns.map V.str)) → Q (.ref na) H'
theorem sc_law_names : FnScope ["_law_state", "_law_many", "_law_some", "_law_first"] ["_law_state"] (defScope s_law_names) := ⟨rfl, rfl, rfl, by decide +kernel, rfl, by decide +kernel, by decide +kernel⟩

theorem ok_names {f : Addr} {fd : FuncData} (F : Fun K "_law_names" "_law_names" s_law_names f fd) (B : Blt mg) (c_law_take : Cal P w K mg base 1 "_law_take" ["_law_state", "_law_many"] spTake) : FnOk P w K mg base CX0 2 f fd ["_law_state"] spNames := by
  have nd := sc_law_names.nd
  refine F.okS sc_law_names (fun vs H Q E h => ?_) (fun cdv A outer s H vs Q E hr h => ?_)
  · obtain ⟨d, c, t, rfl, _⟩ := h
    rfl
  · obtain ⟨d, c, t, rfl, S, ht, q⟩ := h
    refine ⟨_, (qpss_cons (qps_set (i := 1) nd rfl (Or.inl rfl) (qpe_ix ix_list (qpe_lst (qpa_cons qpe_int (qpa_cons qpe_int (qpa_cons qpe_int (qpa_cons qpe_int (qpa_cons qpe_int (qpa_cons qpe_int (qpa_cons (qpe_op op_add qpe_int (qpe_cal c_law_take (hr.mono (by decide)) rfl (qpa_cons (qpv 0) (qpa_cons qpe_int qpa_nil)))) (qpa_cons (qpe_cal c_law_take (hr.mono (by decide)) rfl (qpa_cons (qpv 0) (qpa_cons qpe_int qpa_nil))) qpa_nil))))))))) (qpe_cal c_law_take (hr.mono (by decide)) rfl (qpa_cons (qpv 0) (qpa_cons qpe_int qpa_nil))) (fun _ _ => rfl)))
      (qpss_cons (qps_set (i := 2) nd rfl (Or.inl rfl) (qpe_bm PySem.F.plainAttrs_str PySem.F.slot_str_split PySem.F.type_str_split mt_split qpe_str (qpa_cons qpe_str qpa_nil)))
      (qpss_cons (qps_set (i := 3) nd rfl (Or.inl rfl) (qpe_cal c_law_take (hr.mono (by decide)) rfl (qpa_cons (qpv 0) (qpa_cons (qpe_callB call_len_seq (by rfl) B.len boot_len (qpa_cons (qpv 2) qpa_nil)) qpa_nil))))
      (qpss_one (qps_ret (qpe_slice sl_list (qpe_op op_cat (qpe_slice sl_list (qpv 2) (qpo_some (qpv 3)) qpo_none) (qpe_slice sl_list (qpv 2) qpo_none (qpo_some (qpv 3)))) qpo_none (qpo_some (qpv 1)))))))), ?_⟩
    refine ⟨_, rfl, d, c, 5, t, rfl, S, by omega, by decide, by decide, fun r1 H1 r10 r11 S1 B1 => ⟨_, _, rfl, rfl, ?_⟩⟩
    refine ⟨_, rfl, d, c, 3, t + 1, rfl, S1, by omega, by decide, by decide, fun r2 H2 r20 r21 S2 B2 => ⟨(by show 8 ≤ sizeLine; decide), fun l hl => ?_⟩⟩
    refine ⟨_, rfl, d, c, 8, t + 1 + 1, rfl, S2.keep (Same.new hl), by omega, by decide, by decide, fun r3 H3 r30 r31 S3 B3 => ?_⟩
    obtain ⟨many, hmany, mn0, mn1⟩ := eight r30 r31 r10 r11 r20 r21
    refine ⟨l, _, r3, _, rfl, rfl, SqL.of (B3 l _ upd_same (S2.neD hl) (S2.neC hl)), hmany, ?_⟩
    refine ⟨rfl, _, _, names16, rfl, rfl, by decide +kernel, by decide +kernel, by decide +kernel, by decide +kernel, split16, by decide, fun sp hsp => ?_⟩
    have Ss := Same.new (o := .lst (names16.map V.str)) hsp
    refine ⟨_, rfl, _, rfl, sp, _, rfl, .inl (SqL.of upd_same), d, c, 16, t + 1 + 1 + 1, rfl, S3.keep Ss, by omega, by decide, by decide, fun ff H4 f0 f1 S4 B4 => ?_⟩
    have hsp4 : H4 sp = some (.lst (names16.map V.str)) := B4 _ _ upd_same (S3.neD hsp) (S3.neC hsp)
    have Ball : But2 d c H H4 := (((B1.trans B2).trans (But2.of (Same.new hl))).trans B3).trans ((But2.of Ss).trans B4)
    obtain ⟨m1, e1, l1, _⟩ := cut_map V.str names16 (some ff) none
    obtain ⟨m2, e2, l2, _⟩ := cut_map V.str names16 none (some ff)
    have l16 : names16.length = 16 := rfl
    have hz : 200000 ≤ sizeLine := by decide
    refine ⟨_, rfl, _, rfl, _, rfl, ?_⟩
    dsimp only [tNoPart]
    refine ⟨sp, _, rfl, SqL.of hsp4, fun p1 hp1 => ?_⟩
    rw [e1]
    have T1 := Same.new (o := .lst (m1.map V.str)) hp1
    refine ⟨_, rfl, _, rfl, _, rfl, sp, _, rfl, SqL.of (T1 _ _ hsp4), fun p2 hp2 => ?_⟩
    rw [e2]
    have T2 := Same.new (o := .lst (m2.map V.str)) hp2
    refine ⟨p1, p2, _, _, rfl, rfl, T2 _ _ upd_same, upd_same, by rw [List.length_map, List.length_map]; omega, fun p3 hp3 => ?_⟩
    rw [← List.map_append]
    have T3 := Same.new (o := .lst ((m1 ++ m2).map V.str)) hp3
    obtain ⟨ns, e4, l4, _⟩ := cut_to V.str (m1 ++ m2) mn0
    refine ⟨_, rfl, _, rfl, p3, _, rfl, SqL.of upd_same, fun na hna => ?_⟩
    have T4 := Same.new (o := .lst (ns.map V.str)) hna
    have TA := (T1.trans T2).trans (T3.trans T4)
    have S5 := S4.keep TA
    rw [e4]
    have hnaH : H na = none := by
      have e : H4 na = none := by
        cases e : H4 na with
        | none => rfl
        | some o => rw [((T1.trans T2).trans T3) na o e] at hna; cases hna
      exact Ball.none (S4.neD e) (S4.neC e) e
    exact q na ns _ (by omega) (by have z : t + 1 + 1 + 1 + 1 = t + 4 := by omega
                                   rw [← z]; exact S5) (Ball.trans (But2.of TA)) hnaH upd_same
end
end Jb

set_option Elab.async false
set_option linter.all false
set_option maxRecDepth 100000
set_option maxHeartbeats 4000000
namespace Jb
open PySem PySem.Spec PyProof.Rows L2
/-! ### joinings on the heap -/
abbrev Jn := Jo Str
def JnAt (H : Hp) (xs : List V) (js : List Jn) : Prop := xs.length = js.length ∧ ∀ (i : Nat) (o t : Str) (st : Int), js[i]? = some (o, t, st) → ∃ p : Addr, xs[i]? = some (V.ref p) ∧ H p = some (.tup [.str o, .str t, .int st])
def SqA (K : PySem.W.Frag) (H : Hp) (a : Addr) (xs : List V) : Prop := SqL K H a xs ∨ SqT K H a xs
theorem JnAt.nil {H : Hp} : JnAt H [] [] := ⟨rfl, fun i o t st e => by simp at e⟩
theorem JnAt.keep {H H' : Hp} {xs : List V} {js : List Jn} (h : JnAt H xs js) (s : Same H H') : JnAt H' xs js := ⟨h.1, fun i o t st e => let ⟨p, h1, h2⟩ := h.2 i o t st e; ⟨p, h1, s _ _ h2⟩⟩
theorem Same.sqT {K : PySem.W.Frag} {H H' : Hp} {a : Addr} {xs : List V} (e : Same H H') (h : SqT K H a xs) : SqT K H' a xs := by
  rcases h with (h | ⟨o, h⟩) | h
  · exact .inl (.inl (e _ _ h))
  · exact .inl (.inr ⟨o, e _ _ h⟩)
  · exact .inr h
theorem Same.sqA {K : PySem.W.Frag} {H H' : Hp} {a : Addr} {xs : List V} (e : Same H H') (h : SqA K H a xs) : SqA K H' a xs := h.imp e.seq (Same.sqT e)
def jD (j : Jn) : Dt := .tup [.str j.1, .str j.2.1, .int j.2.2]
theorem JnAt.tl {H : Hp} {x : V} {xs : List V} {j : Jn} {js : List Jn} (h : JnAt H (x :: xs) (j :: js)) : JnAt H xs js := ⟨by have := h.1; simpa using this, fun i o t st e => h.2 (i + 1) o t st (by simpa using e)⟩
theorem JnAt.brs {K : PySem.W.Frag} {H : Hp} : ∀ {js : List Jn} {xs : List V}, JnAt H xs js → BrsL K H (js.map jD) xs
  | [], xs, h => by
    have : xs = [] := List.eq_nil_of_length_eq_zero h.1
    rw [this]
    simp [BrsL]
  | j :: js, [], h => by have := h.1; simp at this
  | j :: js, x :: xs, h => by
    rw [List.map_cons]
    unfold BrsL
    refine ⟨x, xs, rfl, ?_, h.tl.brs⟩
    obtain ⟨p, e1, e2⟩ := h.2 0 j.1 j.2.1 j.2.2 rfl
    have e3 : x = .ref p := by simpa using e1
    unfold jD Brs
    refine ⟨p, _, e3, SqT.of e2, ?_⟩
    simp [BrsL, Brs]
theorem dp_js (js : List Jn) : dp (.lst (js.map jD)) ≤ 2 := by
  have h : ∀ js : List Jn, dpL (js.map jD) ≤ 1 := by
    intro js
    induction js with
    | nil => simp [dpL]
    | cons j r ih =>
      rw [List.map_cons]
      unfold dpL
      have : dp (jD j) ≤ 1 := by simp [jD, dp, dpL]
      omega
  unfold dp
  have := h js
  omega
theorem JnAt.put {H : Hp} {q : Addr} {o : HO} {xs : List V} {js : List Jn} (h : JnAt H xs js) (n : ∀ ys, H q ≠ some (.tup ys)) : JnAt (upd H q o) xs js := ⟨h.1, fun i a b st g => let ⟨r, h1, h2⟩ := h.2 i a b st g; ⟨r, h1, by rw [upd_ne (fun z => n _ (z ▸ h2))]; exact h2⟩⟩
theorem JnAt.add {H : Hp} {q : Addr} {xs : List V} {js : List Jn} {o t : Str} {st : Int} (h : JnAt H xs js) (e : H q = some (.tup [.str o, .str t, .int st])) : JnAt H (xs ++ [.ref q]) (js ++ [(o, t, st)]) := by
  refine ⟨by simp [h.1], fun i a b s g => ?_⟩
  by_cases hi : i < js.length
  · rw [List.getElem?_append_left hi] at g
    obtain ⟨r, h1, h2⟩ := h.2 i a b s g
    exact ⟨r, by rw [List.getElem?_append_left (by rw [h.1]; exact hi)]; exact h1, h2⟩
  · rw [List.getElem?_append_right (by omega)] at g
    have hz : i - js.length = 0 := by
      have := (List.getElem?_eq_some_iff.mp g).1
      simp at this
      omega
    rw [hz] at g
    have : (o, t, st) = (a, b, s) := by simpa using g
    cases this
    refine ⟨q, ?_, e⟩
    rw [List.getElem?_append_right (by rw [h.1]; omega), h.1, hz]
    rfl
theorem JnAt.set {H : Hp} {q : Addr} {xs : List V} {js : List Jn} {o t : Str} {st : Int} (h : JnAt H xs js) (k : Nat) (e : H q = some (.tup [.str o, .str t, .int st])) : JnAt H (xs.set k (.ref q)) (js.set k (o, t, st)) := by
  refine ⟨by simp [h.1], fun i a b s g => ?_⟩
  by_cases hi : k = i
  · subst hi
    have hl : k < js.length := by have := (List.getElem?_eq_some_iff.mp g).1; simpa using this
    rw [List.getElem?_set_self hl] at g
    have : (o, t, st) = (a, b, s) := by simpa using g
    cases this
    exact ⟨q, by rw [List.getElem?_set_self (by rw [h.1]; exact hl)], e⟩
  · rw [List.getElem?_set_ne hi] at g
    obtain ⟨r, h1, h2⟩ := h.2 i a b s g
    exact ⟨r, by rw [List.getElem?_set_ne hi]; exact h1, h2⟩
theorem JnAt.app {H : Hp} {xs ys : List V} {js ks : List Jn} (h : JnAt H xs js) (g : JnAt H ys ks) : JnAt H (xs ++ ys) (js ++ ks) := by
  refine ⟨by simp [h.1, g.1], fun i a b s e => ?_⟩
  by_cases hi : i < js.length
  · rw [List.getElem?_append_left hi] at e
    obtain ⟨r, h1, h2⟩ := h.2 i a b s e
    exact ⟨r, by rw [List.getElem?_append_left (by rw [h.1]; exact hi)]; exact h1, h2⟩
  · rw [List.getElem?_append_right (by omega)] at e
    obtain ⟨r, h1, h2⟩ := g.2 _ a b s e
    exact ⟨r, by rw [List.getElem?_append_right (by rw [h.1]; omega), h.1]; exact h1, h2⟩
theorem JnAt.take {H : Hp} {xs : List V} {js : List Jn} (h : JnAt H xs js) (k : Nat) : JnAt H (xs.take k) (js.take k) := by
  refine ⟨by simp [h.1], fun i a b s e => ?_⟩
  have hk : i < k := by have := (List.getElem?_eq_some_iff.mp e).1; rw [List.length_take] at this; omega
  rw [List.getElem?_take_of_lt hk] at e
  obtain ⟨r, h1, h2⟩ := h.2 i a b s e
  exact ⟨r, by rw [List.getElem?_take_of_lt hk]; exact h1, h2⟩
theorem JnAt.drop {H : Hp} {xs : List V} {js : List Jn} (h : JnAt H xs js) (k : Nat) : JnAt H (xs.drop k) (js.drop k) := by
  refine ⟨by simp [h.1], fun i a b s e => ?_⟩
  rw [List.getElem?_drop] at e
  obtain ⟨r, h1, h2⟩ := h.2 _ a b s e
  exact ⟨r, by rw [List.getElem?_drop]; exact h1, h2⟩
theorem at_str {ns : List Str} {r : Int} (h0 : 0 ≤ r) (h1 : r < ns.length) : ∃ x, atI (ns.map V.str) r = some (.str x) ∧ x ∈ ns := by
  have e : r = ((r.toNat : Nat) : Int) := by omega
  have hl : r.toNat < ns.length := by omega
  refine ⟨ns[r.toNat], ?_, List.getElem_mem hl⟩
  have z : atI (ns.map V.str) ((r.toNat : Nat) : Int) = some (.str ns[r.toNat]) := atI_nat (by rw [List.getElem?_map, List.getElem?_eq_getElem hl]; rfl)
  rw [← e] at z
  exact z
theorem at_int {ns : List Int} {r : Int} (h0 : 0 ≤ r) (h1 : r < ns.length) : ∃ x, atI (ns.map V.int) r = some (.int x) := by
  have e : r = ((r.toNat : Nat) : Int) := by omega
  have hl : r.toNat < ns.length := by omega
  refine ⟨ns[r.toNat], ?_⟩
  have z : atI (ns.map V.int) ((r.toNat : Nat) : Int) = some (.int ns[r.toNat]) := atI_nat (by rw [List.getElem?_map, List.getElem?_eq_getElem hl]; rfl)
  rw [← e] at z
  exact z
theorem at_jn {H : Hp} {xs : List V} {js : List Jn} {r : Int} (h : JnAt H xs js) (h0 : 0 ≤ r) (h1 : r < xs.length) : ∃ (q : Addr) (j : Jn), atI xs r = some (.ref q) ∧ j ∈ js ∧ js[r.toNat]? = some j ∧ H q = some (.tup [.str j.1, .str j.2.1, .int j.2.2]) := by
  have e : r = ((r.toNat : Nat) : Int) := by omega
  have hl : r.toNat < js.length := by have := h.1; omega
  obtain ⟨q, e1, e2⟩ := h.2 r.toNat js[r.toNat].1 js[r.toNat].2.1 js[r.toNat].2.2 (by rw [List.getElem?_eq_getElem hl])
  refine ⟨q, js[r.toNat], ?_, List.getElem_mem hl, List.getElem?_eq_getElem hl, e2⟩
  rw [e]
  exact atI_nat e1
theorem tTrue_if {σ : L2.St} {H : Hp} {F G : Hp → Prop} (h : F H) : tTrue σ H (fun b H3 => if b = true then F H3 else G H3) := by
  show if true = true then F H else G H
  rw [if_pos rfl]
  exact h
end Jb

set_option Elab.async false
set_option linter.all false
set_option maxRecDepth 100000
set_option maxHeartbeats 4000000
namespace Jb
open PySem PySem.Spec PyProof.Rows L2

/-- what stands while joinings are drawn -/
structure JQ (H : Hp) (d c fa : Addr) (ns : List Str) (xs : List V) (js : List Jn) (G : Hp) (t : Int) : Prop where
  S : Stt G d c t
  B : But2 d c H G
  F : G fa = some (.lst xs)
  J : JnAt G xs js
  N : ∀ j ∈ js, j.1 ∈ ns ∧ j.2.1 ∈ ns
theorem JnAt.but2 {H H' : Hp} {d c : Addr} {t : Int} {xs : List V} {js : List Jn} (h : JnAt H xs js) (s : Stt H d c t) (b : But2 d c H H') : JnAt H' xs js := ⟨h.1, fun i o u st e => let ⟨q, h1, h2⟩ := h.2 i o u st e; ⟨q, h1, b _ _ h2 (s.tupD h2) (s.tupC h2)⟩⟩
theorem JQ.but {H G G' : Hp} {d c fa : Addr} {ns : List Str} {xs : List V} {js : List Jn} {t u : Int} (h : JQ H d c fa ns xs js G t) (n1 : fa ≠ d) (n2 : fa ≠ c) (s : Stt G' d c u) (b : But2 d c G G') : JQ H d c fa ns xs js G' u := ⟨s, h.B.trans b, b _ _ h.F n1 n2, h.J.but2 h.S b, h.N⟩
theorem JQ.same {H G G' : Hp} {d c fa : Addr} {ns : List Str} {xs : List V} {js : List Jn} {t : Int} (h : JQ H d c fa ns xs js G t) (n1 : fa ≠ d) (n2 : fa ≠ c) (s : Same G G') : JQ H d c fa ns xs js G' t := h.but n1 n2 (h.S.keep s) (But2.of s)
/-- the list of joinings is written anew -/
theorem JQ.put {H G : Hp} {d c fa : Addr} {ns : List Str} {xs ys : List V} {js ks : List Jn} {t : Int} (h : JQ H d c fa ns xs js G t) (n1 : fa ≠ d) (n2 : fa ≠ c) (hf : H fa = none) (hk : JnAt G ys ks) (hn : ∀ j ∈ ks, j.1 ∈ ns ∧ j.2.1 ∈ ns) : JQ H d c fa ns ys ks (upd G fa (.lst ys)) t :=
  ⟨⟨by rw [upd_ne (Ne.symm n1)]; exact h.S.D, let ⟨ms, g, r⟩ := h.S.C; ⟨ms, by rw [upd_ne (Ne.symm n2)]; exact g, r⟩, h.S.t0⟩, h.B.putN hf, upd_same, hk.put (fun zs z => by rw [h.F] at z; cases z), hn⟩
theorem ix_last {n : Nat} (h : 0 < n) : ixN n (-1) = some (n - 1) := by
  unfold ixN
  rw [if_neg (by omega), if_pos (by omega)]
  congr 1
  omega
section
variable {P : Program} {w : World} {K : PySem.W.Frag} {mg : Str → Option Value} {base : Heap}

def spJoinings : Sp := fun vs H Q _ => ∃ (d c na : Addr) (t : Int) (ns : List Str), vs = [.ref d, .ref na] ∧ Stt H d c t ∧ t < 800000 ∧ H na = some (.lst (ns.map V.str)) ∧ na ≠ c ∧ ns.length ≤ 14 ∧
  ∀ ja xs (js : List Jn) H' u, JQ H d c ja ns xs js H' u → u ≤ t + 1000 → H ja = none → xs.length ≤ 28 → Q (.ref ja) H'
def csc_law_joinings_1 : Scope := { kind := PySem.ScopeKind.function, names := [ (PySem.Str.ofString ".0", PySem.NameKind.local), (PySem.Str.ofString "_law_name", PySem.NameKind.local), (PySem.Str.ofString "_law_take", PySem.NameKind.globalImplicit), (PySem.Str.ofString "_law_state", PySem.NameKind.free)], isGenerator := false, isCoroutine := false, more := [] : PySem.Scope }
theorem nd_law_joinings_1 : (["_law_name", "_law_state"] : List Str).Nodup := by decide +kernel
theorem co_law_joinings_1 : CompOk (defScope s_law_joinings) ["_law_state", "_law_names_here", "_law_spots", "_law_found", "_law_turn", "_law_k", "_law_j", "_law_step", "_law_way", "_law_one", "_law_other"] ["_law_name", "_law_state"] csc_law_joinings_1 [none, some 0] := ⟨rfl, by decide +kernel, by decide +kernel, by decide +kernel, rfl, by decide +kernel⟩
def csc_law_joinings_2 : Scope := { kind := PySem.ScopeKind.function, names := [(PySem.Str.ofString ".0", PySem.NameKind.local), (PySem.Str.ofString "_law_spot", PySem.NameKind.local)], isGenerator := false, isCoroutine := false, more := [] : PySem.Scope }
theorem nd_law_joinings_2 : (["_law_spot"] : List Str).Nodup := by decide +kernel
theorem co_law_joinings_2 : CompOk (defScope s_law_joinings) ["_law_state", "_law_names_here", "_law_spots", "_law_found", "_law_turn", "_law_k", "_law_j", "_law_step", "_law_way", "_law_one", "_law_other"] ["_law_spot"] csc_law_joinings_2 [none] := ⟨rfl, by decide +kernel, by decide +kernel, by decide +kernel, rfl, by decide +kernel⟩
theorem sc_law_joinings : FnScope ["_law_state", "_law_names_here", "_law_spots", "_law_found", "_law_turn", "_law_k", "_law_j", "_law_step", "_law_way", "_law_one", "_law_other"] ["_law_state", "_law_names_here"] (defScope s_law_joinings) := ⟨rfl, rfl, rfl, by decide +kernel, rfl, by decide +kernel, by decide +kernel⟩

theorem ok_joinings {f : Addr} {fd : FuncData} (F : Fun K "_law_joinings" "_law_joinings" s_law_joinings f fd) (B : Blt mg) (c_law_take : Cal P w K mg base 1 "_law_take" ["_law_state", "_law_many"] spTake) : FnOk P w K mg base CX0 2 f fd ["_law_state", "_law_names_here"] spJoinings := by
  have nd := sc_law_joinings.nd
  refine F.okS sc_law_joinings (fun vs H Q E h => ?_) (fun cdv A outer s H vs Q E hr h => ?_)
  · obtain ⟨d, c, na, t, ns, rfl, _⟩ := h
    rfl
  · obtain ⟨d, c, na, t, ns, rfl, S, ht, hna, hnc, hnl, q⟩ := h
    have hsl : 200000 ≤ sizeLine := by decide
    have hnd : na ≠ d := ne_of hna S.D (by intro z; cases z)
    refine ⟨_, (qpss_cons (qps_setC rfl rfl (i := 2) nd rfl (Or.inl rfl) co_law_joinings_1 (qpi_list (qpv 1)) (fun C s₂ H fp => (qpg_name (i := 0) nd_law_joinings_1 rfl (Or.inl rfl))) (fun C s₂ H fp => qpts_nil) (fun C s₂ H fp => (qpe_op op_sub (qpe_cal c_law_take (hr.mono (by decide)) rfl (qpa_cons (qpv 1) (qpa_cons qpe_int qpa_nil))) qpe_int)))
      (qpss_cut (qps_if (qpt_cmpR op_eq (qpe_cal c_law_take (hr.mono (by decide)) rfl (qpa_cons (qpv 0) (qpa_cons qpe_int qpa_nil))) qpe_int (nomark _)) (qpss_one (qps_setC rfl rfl (i := 2) nd rfl (Or.inl rfl) co_law_joinings_2 (qpi_list (qpv 2)) (fun C s₂ H fp => (qpg_name (i := 0) nd_law_joinings_2 rfl (Or.inl rfl))) (fun C s₂ H fp => qpts_nil) (fun C s₂ H fp => (qpe_op op_mul (qpv 0) qpe_int)))) qpss_nil)
      (qpss_cons (qps_set (i := 3) nd rfl (Or.inl rfl) (qpe_lst qpa_nil))
      (qpss_cons (qps_for PassesOwn.never rfl (qpi_range1 rfl B.range (qpa_cons (qpe_cal c_law_take (hr.mono (by decide)) rfl (qpa_cons (qpv 0) (qpa_cons (qpe_op op_add (qpe_op op_mul qpe_int (qpe_callB call_len_seq (by rfl) B.len boot_len (qpa_cons (qpv 1) qpa_nil))) qpe_int) qpa_nil))) qpa_nil)) (qpg_name (i := 4) nd rfl (Or.inl rfl)) (qpss_cons (qps_par (i := 5) (j := 6) rfl nd rfl rfl (by decide) rfl rfl (qpa_cons (qpe_cal c_law_take (hr.mono (by decide)) rfl (qpa_cons (qpv 0) (qpa_cons (qpe_callB call_len_seq (by rfl) B.len boot_len (qpa_cons (qpv 1) qpa_nil)) qpa_nil))) (qpa_cons (qpe_cal c_law_take (hr.mono (by decide)) rfl (qpa_cons (qpv 0) (qpa_cons (qpe_callB call_len_seq (by rfl) B.len boot_len (qpa_cons (qpv 1) qpa_nil)) qpa_nil))) qpa_nil)) rfl)
      (qpss_cons (qps_set (i := 7) nd rfl (Or.inl rfl) (qpe_op op_sub (qpe_ix ix_list (qpv 2) (qpv 6) (fun _ _ => rfl)) (qpe_ix ix_list (qpv 2) (qpv 5) (fun _ _ => rfl))))
      (qpss_cut (qps_if (qpt_cmpR op_eq (qpe_cal c_law_take (hr.mono (by decide)) rfl (qpa_cons (qpv 0) (qpa_cons qpe_int qpa_nil))) qpe_int (nomark _)) (qpss_one (qps_set (i := 7) nd rfl (Or.inl rfl) (qpe_op op_sub (qpe_cal c_law_take (hr.mono (by decide)) rfl (qpa_cons (qpv 0) (qpa_cons qpe_int qpa_nil))) qpe_int))) qpss_nil)
      (qpss_cons (qps_expr (qpe_bm PySem.F.plainAttrs_list PySem.F.slot_list_append PySem.F.type_list_append mt_append (qpv 3) (qpa_cons (qpe_tup (qpa_cons (qpe_ix ix_list (qpv 1) (qpv 5) (fun _ _ => rfl)) (qpa_cons (qpe_ix ix_list (qpv 1) (qpv 6) (fun _ _ => rfl)) (qpa_cons (qpv 7) qpa_nil)))) qpa_nil)))
      (qpss_cons (qps_set (i := 8) nd rfl (Or.inl rfl) (qpe_cal c_law_take (hr.mono (by decide)) rfl (qpa_cons (qpv 0) (qpa_cons qpe_int qpa_nil))))
      (qpss_cut (qps_if (qpt_cmpR op_eq (qpv 8) qpe_int (nomark _)) (qpss_one (qps_asg (qpe_ix ix_list (qpv 3) (qpe_cal c_law_take (hr.mono (by decide)) rfl (qpa_cons (qpv 0) (qpa_cons (qpe_callB call_len_seq (by rfl) B.len boot_len (qpa_cons (qpv 3) qpa_nil)) qpa_nil))) (fun _ _ => rfl)) (qpg_sub (qpv 3) (qpe_un un_neg qpe_int) set_list))) qpss_nil)
      (qpss_one (qps_if (qpt_cmpR op_eq (qpv 8) qpe_int (nomark _)) (qpss_cons (qps_asg (qpe_ix ix_list (qpv 3) (qpe_cal c_law_take (hr.mono (by decide)) rfl (qpa_cons (qpv 0) (qpa_cons (qpe_callB call_len_seq (by rfl) B.len boot_len (qpa_cons (qpv 3) qpa_nil)) qpa_nil))) (fun _ _ => rfl)) (qpg_tup rfl (qpgs_cons (qpg_name (i := 9) nd rfl (Or.inl rfl)) (qpgs_cons (qpg_name (i := 10) nd rfl (Or.inl rfl)) (qpgs_cons (qpg_name (i := 7) nd rfl (Or.inl rfl)) qpgs_nil)))))
      (qpss_one (qps_asg (qpe_tup (qpa_cons (qpv 10) (qpa_cons (qpv 9) (qpa_cons (qpe_un un_neg (qpv 7)) qpa_nil)))) (qpg_sub (qpv 3) (qpe_un un_neg qpe_int) set_list)))) qpss_nil)))))))))
      (qpss_one (qps_ret (qpv 3))))))), ?_⟩
    refine ⟨_, rfl, na, rfl, ⟨_, SqL.of hna⟩, comp_list (K := K) (a := na) (xs := ns.map V.str) (fun i ys G => Stt G d c (t + i) ∧ But2 d c H G ∧ ∃ ms : List Int, ys = ms.map V.int ∧ ms.length = i)
      ⟨by rw [show t + ((0 : Nat) : Int) = t by omega]; exact S, But2.refl, [], rfl, rfl⟩ (fun i ys G _ hg => SqL.of (hg.2.1 na _ hna hnd hnc)) ?_ ?_⟩
    · rintro i x ys G hi ⟨SG, BG, ms, rfl, hml⟩
      have hil : i < ns.length := by have := (List.getElem?_eq_some_iff.mp hi).1; rw [List.length_map] at this; exact this
      refine ⟨by rw [List.length_map]; omega, Kp.none (Kp.cons Kp.nil), tTrue_if ?_⟩
      refine ⟨_, rfl, d, c, 19, t + i, rfl, SG, by omega, by decide, by decide, fun r G1 r0 r1 S1 B1 => ⟨_, _, rfl, rfl, ?_⟩⟩
      refine ⟨by rw [show t + ((i + 1 : Nat) : Int) = t + i + 1 by omega]; exact S1, BG.trans B1, ms ++ [r - 9], by rw [List.map_append]; rfl, by rw [List.length_append, List.length_singleton, hml]⟩
    · rintro ys G ⟨SG, BG, ms, rfl, hml⟩
      rw [List.length_map] at SG hml
      refine ⟨by rw [List.length_map]; omega, fun sa hsa => ?_⟩
      have Ss := Same.new (o := .lst (ms.map V.int)) hsa
      refine ⟨fun σ G' => ∃ (sb : Addr) (ps : List Int) (x3 x4 x5 x6 x7 x8 x9 x10 : Option V), σ = [some (.ref d), some (.ref na), some (.ref sb), x3, x4, x5, x6, x7, x8, x9, x10] ∧ Stt G' d c (t + ns.length + 1) ∧ But2 d c H G' ∧ G' sb = some (.lst (ps.map V.int)) ∧ ps.length = ns.length ∧ sb ≠ d ∧ sb ≠ c, ?_, ?_⟩
      · refine ⟨_, rfl, d, c, 6, t + ns.length, rfl, SG.keep Ss, by omega, by decide, by decide, fun r1 G1 r10 r11 S1 B1 => ?_⟩
        have hsa1 : G1 sa = some (.lst (ms.map V.int)) := B1 _ _ upd_same (SG.neD hsa) (SG.neC hsa)
        have B01 := (BG.trans (But2.of Ss)).trans B1
        refine ⟨rfl, _, rfl, ite2 (fun _ => ?_) (fun _ => ?_)⟩
        · refine ⟨_, rfl, sa, rfl, ⟨_, SqL.of hsa1⟩, comp_list (K := K) (a := sa) (xs := ms.map V.int) (fun i ys G => G = G1 ∧ ∃ ps : List Int, ys = ps.map V.int ∧ ps.length = i) ⟨rfl, [], rfl, rfl⟩ (fun i ys G _ hg => by rw [hg.1]; exact SqL.of hsa1) ?_ ?_⟩
          · rintro i x ys G' hi ⟨rfl, ps, rfl, hpl⟩
            have hil : i < ms.length := by have := (List.getElem?_eq_some_iff.mp hi).1; rw [List.length_map] at this; exact this
            have ex : x = .int ms[i] := by rw [List.getElem?_map, List.getElem?_eq_getElem hil] at hi; exact (Option.some.inj hi).symm
            subst ex
            refine ⟨by rw [List.length_map]; omega, Kp.none Kp.nil, tTrue_if ?_⟩
            exact ⟨_, rfl, _, _, rfl, rfl, .inr ⟨by decide, by decide⟩, rfl, ps ++ [ms[i] * 50000000021], by rw [List.map_append]; rfl, by rw [List.length_append, List.length_singleton, hpl]⟩
          · rintro ys G' ⟨rfl, ps, rfl, hpl⟩
            rw [List.length_map] at hpl
            refine ⟨by rw [List.length_map]; omega, fun sb hsb => ?_⟩
            exact ⟨sb, ps, _, _, _, _, _, _, _, _, rfl, S1.keep (Same.new hsb), B01.trans (But2.of (Same.new hsb)), upd_same, by omega, S1.neD hsb, S1.neC hsb⟩
        · exact ⟨sa, ms, _, _, _, _, _, _, _, _, rfl, S1, B01, hsa1, hml, SG.neD hsa, SG.neC hsa⟩
      rintro σ2 G2 ⟨sb, ps, x3, x4, x5, x6, x7, x8, x9, x10, rfl, S2, B2, hsb, hpl, sbd, sbc⟩
      refine ⟨(by show 0 ≤ sizeLine; decide), fun fa hfa => ?_⟩
      have fad : fa ≠ d := S2.neD hfa
      have fac : fa ≠ c := S2.neC hfa
      have fsb : fa ≠ sb := fun z => by rw [z, hsb] at hfa; cases hfa
      have hfaH : H fa = none := B2.none fad fac hfa
      have Sf := Same.new (o := .lst []) hfa
      have hna3 := Sf _ _ (B2 na _ hna hnd hnc)
      refine ⟨_, rfl, _, rfl, na, _, rfl, .inl (SqL.of hna3), _, _, rfl, rfl, .inl ⟨by decide, by decide⟩, _, _, rfl, rfl, d, c, _, t + ns.length + 1, rfl, S2.keep Sf, by omega, (by rw [List.length_map]; omega), (by rw [List.length_map]; omega), fun m H3 m0 m1 S3 B3 => ?_⟩
      rw [List.length_map] at m1
      have J3 : JQ H d c fa ns [] [] H3 (t + ns.length + 1 + 1) := ⟨S3, (B2.trans (But2.of Sf)).trans B3, B3 _ _ upd_same fad fac, JnAt.nil, fun j h => by simp at h⟩
      have hsb3 : H3 sb = some (.lst (ps.map V.int)) := B3 _ _ (Sf _ _ hsb) sbd sbc
      refine ⟨m, rfl, by omega, by omega, for_range (fun i σ G => ∃ xs js u x4 x5 x6 x7 x8 x9 x10, σ = [some (.ref d), some (.ref na), some (.ref sb), some (.ref fa), x4, x5, x6, x7, x8, x9, x10] ∧ JQ H d c fa ns xs js G u ∧ G sb = some (.lst (ps.map V.int)) ∧ xs.length ≤ i ∧ u ≤ t + ns.length + 2 + 6 * i)
        ⟨[], [], _, _, _, _, _, _, _, _, rfl, J3, hsb3, Nat.le_refl _, by omega⟩ ?_ ?_⟩
      · rintro i σ G hi ⟨xs, js, u, x4, x5, x6, x7, x8, x9, x10, rfl, J, hsbG, hxi, hut⟩
        have hns : 0 < ns.length := by omega
        have hnaG := J.B na _ hna hnd hnc
        refine ⟨_, rfl, _, rfl, na, _, rfl, .inl (SqL.of hnaG), d, c, _, u, rfl, J.S, by omega, (by rw [List.length_map]; omega), (by rw [List.length_map]; omega), fun k G1 k0 k1 S1 B1 => ?_⟩
        rw [List.length_map] at k1
        have J1 := J.but fad fac S1 B1
        refine ⟨_, rfl, _, rfl, na, _, rfl, .inl (SqL.of (J1.B na _ hna hnd hnc)), d, c, _, u + 1, rfl, J1.S, by omega, (by rw [List.length_map]; omega), (by rw [List.length_map]; omega), fun j G2 j0 j1 S2 B2 => ?_⟩
        rw [List.length_map] at j1
        have J2 := J1.but fad fac S2 B2
        have hsb2 : G2 sb = some (.lst (ps.map V.int)) := B2 _ _ (B1 _ _ hsbG sbd sbc) sbd sbc
        refine ⟨_, _, rfl, ?_⟩
        obtain ⟨pj, hpj⟩ := at_int (ns := ps) j0 (by omega)
        obtain ⟨pk, hpk⟩ := at_int (ns := ps) k0 (by omega)
        refine ⟨_, rfl, _, rfl, sb, _, j, _, rfl, rfl, SqL.of hsb2, hpj, _, rfl, _, rfl, sb, _, k, _, rfl, rfl, SqL.of hsb2, hpk, _, _, rfl, rfl, ?_⟩
        refine ⟨fun σ G => ∃ (st : Int) (v : Int) (x8 x9 x10 : Option V), σ = [some (.ref d), some (.ref na), some (.ref sb), some (.ref fa), some (.int (0 + i)), some (.int k), some (.int j), some (.int st), x8, x9, x10] ∧ JQ H d c fa ns xs js G v ∧ G sb = some (.lst (ps.map V.int)) ∧ v ≤ u + 4, ?_, ?_⟩
        · refine ⟨_, rfl, d, c, 3, u + 1 + 1, rfl, J2.S, by omega, by decide, by decide, fun r3 G3 _ _ S3 B3 => ?_⟩
          have J3 := J2.but fad fac S3 B3
          have hsb3 := B3 _ _ hsb2 sbd sbc
          refine ⟨rfl, _, rfl, ite2 (fun _ => ?_) (fun _ => ?_)⟩
          · refine ⟨_, rfl, d, c, 9, u + 1 + 1 + 1, rfl, J3.S, by omega, by decide, by decide, fun r4 G4 _ _ S4 B4 => ⟨_, _, rfl, rfl, ?_⟩⟩
            exact ⟨_, _, _, _, _, rfl, J3.but fad fac S4 B4, B4 _ _ hsb3 sbd sbc, by omega⟩
          · exact ⟨_, _, _, _, _, rfl, J3, hsb3, by omega⟩
        rintro σ4 G4 ⟨st, v, y8, y9, y10, rfl, J4, hsb4, hv⟩
        have hna4 := J4.B na _ hna hnd hnc
        obtain ⟨ok_, hok, hokn⟩ := at_str k0 k1
        obtain ⟨oj_, hoj, hojn⟩ := at_str j0 j1
        refine ⟨_, rfl, .inl ⟨rfl, _, SqL.of J4.F⟩, _, rfl, _, rfl, na, _, k, _, rfl, rfl, SqL.of hna4, hok, _, rfl, _, rfl, na, _, j, _, rfl, rfl, SqL.of hna4, hoj, _, rfl, (by show 3 ≤ sizeLine; decide), fun nq hnq => ?_⟩
        have Sn := Same.new (o := .tup [.str ok_, .str oj_, .int st]) hnq
        have J5 := J4.same fad fac Sn
        refine ⟨fa, xs, _, rfl, rfl, J5.F, by omega, ?_⟩
        have J6 := J5.put fad fac hfaH (J5.J.add upd_same) (fun jj hj => by
          rcases List.mem_append.mp hj with z | z
          · exact J5.N jj z
          · have z : jj = (ok_, oj_, st) := by simpa using z
            rw [z]
            exact ⟨hokn, hojn⟩)
        have hsb6 : (upd (upd G4 nq (.tup [.str ok_, .str oj_, .int st])) fa (.lst (xs ++ [.ref nq]))) sb = some (.lst (ps.map V.int)) := by rw [upd_ne (Ne.symm fsb)]; exact Sn _ _ hsb4
        generalize hX : xs ++ [V.ref nq] = X at J6 hsb6 ⊢
        generalize hK : js ++ [(ok_, oj_, st)] = Kj at J6
        have hXl : X.length = xs.length + 1 := by rw [← hX]; simp
        refine ⟨_, rfl, d, c, 12, v, rfl, J6.S, by omega, by decide, by decide, fun wy G7 _ _ S7 B7 => ?_⟩
        have J7 := J6.but fad fac S7 B7
        have hsb7 := B7 _ _ hsb6 sbd sbc
        refine ⟨fun σ G => ∃ (X : List V) (Kj : List Jn) (v' : Int) (x9 x10 : Option V), σ = [some (.ref d), some (.ref na), some (.ref sb), some (.ref fa), some (.int (0 + i)), some (.int k), some (.int j), some (.int st), some (.int wy), x9, x10] ∧ JQ H d c fa ns X Kj G v' ∧ G sb = some (.lst (ps.map V.int)) ∧ X.length = xs.length + 1 ∧ v' ≤ u + 6 ∧ (wy = 1 → v' ≤ u + 5), ?_, ?_⟩
        · refine ⟨_, rfl, rfl, _, rfl, ite2 (fun hw0 => ?_) (fun _ => ?_)⟩
          · have hw0 : wy = 0 := by simpa using hw0
            refine ⟨_, rfl, _, rfl, _, rfl, fa, X, rfl, .inl (SqL.of J7.F), d, c, _, v + 1, rfl, J7.S, by omega, (by show (0 : Int) < (X.length : Int); omega), (by show (X.length : Int) < _; omega), fun r8 G8 r80 r81 S8 B8 => ?_⟩
            have J8 := J7.but fad fac S8 B8
            obtain ⟨qq, jj, hat, hjm, _, hqq⟩ := at_jn J8.J r80 r81
            refine ⟨fa, X, r8, _, rfl, rfl, SqL.of J8.F, hat, _, rfl, _, rfl, fa, X, -1, X.length - 1, rfl, rfl, J8.F, ix_last (by omega), ?_⟩
            refine ⟨_, _, _, _, _, rfl, J8.put fad fac hfaH (J8.J.set (X.length - 1) hqq) (fun x hx => ?_), by rw [upd_ne (Ne.symm fsb)]; exact B8 _ _ hsb7 sbd sbc, by rw [List.length_set]; exact hXl, by omega, fun z => by omega⟩
            rcases List.mem_or_eq_of_mem_set hx with z | z
            · exact J8.N x z
            · rw [z]; exact J8.N jj hjm
          · exact ⟨X, Kj, v + 1, _, _, rfl, J7, hsb7, hXl, by omega, fun _ => by omega⟩
        rintro σ9 G9 ⟨X9, K9, v9, z9, z10, rfl, J9, hsb9, hX9, hv9, hv1⟩
        refine ⟨_, rfl, rfl, _, rfl, ite2 (fun hw1 => ?_) (fun _ => ?_)⟩
        · have hw1 : wy = 1 := by simpa using hw1
          have hv1 := hv1 hw1
          refine ⟨_, rfl, _, rfl, _, rfl, fa, X9, rfl, .inl (SqL.of J9.F), d, c, _, v9, rfl, J9.S, by omega, (by show (0 : Int) < (X9.length : Int); omega), (by show (X9.length : Int) < _; omega), fun r8 G8 r80 r81 S8 B8 => ?_⟩
          have J8 := J9.but fad fac S8 B8
          obtain ⟨qq, jj, hat, hjm, _, hqq⟩ := at_jn J8.J r80 r81
          refine ⟨fa, X9, r8, _, rfl, rfl, SqL.of J8.F, hat, qq, _, rfl, SqT.of hqq, rfl, _, _, rfl, _, _, rfl, _, _, rfl, rfl, ?_⟩
          refine ⟨_, rfl, _, rfl, _, rfl, _, rfl, (by show 3 ≤ sizeLine; decide), fun nt hnt => ?_⟩
          have Sn := Same.new (o := .tup [.str jj.2.1, .str jj.1, .int (-jj.2.2)]) hnt
          have JA := J8.same fad fac Sn
          refine ⟨_, rfl, _, rfl, fa, X9, -1, X9.length - 1, rfl, rfl, JA.F, ix_last (by omega), ?_⟩
          refine ⟨_, _, _, _, _, _, _, _, _, _, rfl, JA.put fad fac hfaH (JA.J.set (X9.length - 1) upd_same) (fun x hx => ?_), by rw [upd_ne (Ne.symm fsb)]; exact Sn _ _ (B8 _ _ hsb9 sbd sbc), by rw [List.length_set]; omega, by omega⟩
          rcases List.mem_or_eq_of_mem_set hx with z | z
          · exact JA.N x z
          · rw [z]; exact ⟨(JA.N jj hjm).2, (JA.N jj hjm).1⟩
        · exact ⟨X9, K9, v9, _, _, _, _, _, _, _, rfl, J9, hsb9, by omega, by omega⟩
      · rintro σ G ⟨xs, js, u, x4, x5, x6, x7, x8, x9, x10, rfl, J, hsbG, hxi, hut⟩
        refine ⟨_, rfl, ?_⟩
        exact q fa xs js G u J (by omega) hfaH (by omega)
end
end Jb

set_option Elab.async false
set_option linter.all false
set_option maxRecDepth 100000
set_option maxHeartbeats 4000000
namespace Jb
open PySem PySem.Spec PyProof.Rows L2
/-! ### labels in a dict -/
theorem val_in {kvs : List (Key × V)} {k : Key} : k ∈ kvs.map (·.1) ↔ ∃ v, valV kvs k = some v := by
  constructor
  · intro h
    cases e : valV kvs k with
    | some v => exact ⟨v, rfl⟩
    | none => exact absurd h (valV_not e)
  · rintro ⟨v, h⟩
    exact valV_in h
theorem keys_put {kvs : List (Key × V)} {k : Key} {v : V} {x : Key} (h : x ∈ (putK kvs k v).map (·.1)) : x = k ∨ x ∈ kvs.map (·.1) := by
  rw [val_in] at h
  obtain ⟨y, h⟩ := h
  rw [valV_put] at h
  by_cases e : x = k
  · exact .inl e
  · rw [if_neg e] at h
    exact .inr (val_in.mpr ⟨y, h⟩)
open Classical in
theorem putAll_val (v : V) : ∀ (prs kvs : List (Key × V)) (k : Key), (∀ p ∈ prs, p.2 = v) → valV (putAll kvs prs) k = if k ∈ prs.map (fun p : Key × V => p.1) then some v else valV kvs k
  | [], kvs, k, _ => by simp [putAll]
  | p :: r, kvs, k, h => by
    have e : putAll kvs (p :: r) = putAll (putK kvs p.1 p.2) r := rfl
    rw [e, putAll_val v r _ k fun q hq => h q (List.mem_cons_of_mem _ hq), valV_put, List.map_cons]
    have hv := h p (List.mem_cons_self ..)
    by_cases h1 : k ∈ r.map (·.1)
    · rw [if_pos h1, if_pos (List.mem_cons_of_mem _ h1)]
    · rw [if_neg h1]
      by_cases h2 : k = p.1
      · rw [if_pos h2, if_pos (by rw [h2]; exact List.mem_cons_self ..), hv]
      · rw [if_neg h2, if_neg (by intro z; rcases List.mem_cons.mp z with q | q; exact h2 q; exact h1 q)]
/-- what a name is marked with -/
def labK (kvs : List (Key × V)) (x : Str) : Str := match valV kvs (Sum.inr x) with
  | some (.str y) => y
  | _ => x
structure WF (kvs : List (Key × V)) : Prop where
  str : ∀ k ∈ kvs.map (·.1), ∃ x y : Str, k = Sum.inr x ∧ valV kvs k = some (.str y)
  cl : ∀ x y : Str, valV kvs (Sum.inr x) = some (.str y) → ∃ v, valV kvs (Sum.inr y) = some v
theorem labK_some {kvs : List (Key × V)} {x y : Str} (h : valV kvs (Sum.inr x) = some (.str y)) : labK kvs x = y := by
  unfold labK
  rw [h]
theorem labK_none {kvs : List (Key × V)} {x : Str} (h : valV kvs (Sum.inr x) = none) : labK kvs x = x := by
  unfold labK
  rw [h]
theorem WF.val {kvs : List (Key × V)} (w : WF kvs) (x : Str) : valV kvs (Sum.inr x) = none ∨ valV kvs (Sum.inr x) = some (.str (labK kvs x)) := by
  cases e : valV kvs (Sum.inr x) with
  | none => exact .inl rfl
  | some v =>
    obtain ⟨x', y, e1, e2⟩ := w.str _ (val_in.mpr ⟨v, e⟩)
    rw [labK_some e2, ← e2, e]
    exact .inr rfl
/-- two classes brought together -/
theorem mark_step {kvs prs : List (Key × V)} {one other : Str} {st : Int} (w : WF kvs) (hne : labK kvs one ≠ labK kvs other)
    (hp : ∀ p ∈ prs, p.2 = .str (labK kvs one)) (hk : ∀ k, k ∈ prs.map (·.1) ↔ valV kvs k = some (.str (labK kvs other))) :
    WF (putAll (putAll kvs prs) [(Sum.inr one, .str (labK kvs one)), (Sum.inr other, .str (labK kvs one))]) ∧
    labK (putAll (putAll kvs prs) [(Sum.inr one, .str (labK kvs one)), (Sum.inr other, .str (labK kvs one))]) = stepL (labK kvs) (other, one, st) := by
  generalize hm : labK kvs one = mk at *
  have val : ∀ k, valV (putAll (putAll kvs prs) [(Sum.inr one, .str mk), (Sum.inr other, .str mk)]) k = if k = Sum.inr one ∨ k = Sum.inr other ∨ valV kvs k = some (.str (labK kvs other)) then some (.str mk) else valV kvs k := fun k => by
    rw [putAll_val (.str mk) _ _ _ (by intro p hp; simp at hp; rcases hp with z | z <;> rw [z]), putAll_val (.str mk) prs _ _ hp]
    by_cases h1 : k = Sum.inr one ∨ k = Sum.inr other
    · rw [if_pos (by simpa using h1), if_pos (by rcases h1 with z | z; exact .inl z; exact .inr (.inl z))]
    · rw [if_neg (by simpa using h1)]
      by_cases h2 : k ∈ prs.map (·.1)
      · rw [if_pos h2, if_pos (.inr (.inr ((hk k).mp h2)))]
      · rw [if_neg h2, if_neg (by rintro (z | z | z); exact h1 (.inl z); exact h1 (.inr z); exact h2 ((hk k).mpr z))]
  have mkin : ∃ v, valV (putAll (putAll kvs prs) [(Sum.inr one, .str mk), (Sum.inr other, .str mk)]) (Sum.inr mk) = some v := by
    rw [val]
    split
    · exact ⟨_, rfl⟩
    · rename_i h
      rcases w.val one with z | z
      · rw [labK_none z] at hm
        exact absurd (.inl (by rw [hm])) h
      · rw [hm] at z
        exact w.cl one mk z
  refine ⟨⟨fun k h => ?_, fun x y h => ?_⟩, ?_⟩
  · obtain ⟨v, hv⟩ := val_in.mp h
    rw [val] at hv
    rw [val]
    split at hv
    · rename_i c
      rw [if_pos c]
      rcases c with z | z | z
      · exact ⟨one, mk, z, rfl⟩
      · exact ⟨other, mk, z, rfl⟩
      · obtain ⟨x', y', e1, _⟩ := w.str k (val_in.mpr ⟨_, z⟩)
        exact ⟨x', mk, e1, rfl⟩
    · rename_i c
      rw [if_neg c]
      exact w.str k (val_in.mpr ⟨v, hv⟩)
  · rw [val] at h
    split at h
    · cases h
      exact mkin
    · obtain ⟨v, hv⟩ := w.cl x y h
      rw [val]
      split
      · exact ⟨_, rfl⟩
      · exact ⟨v, hv⟩
  · funext x
    unfold stepL
    dsimp only
    rw [hm]
    have vx := val (Sum.inr x)
    by_cases c : (Sum.inr x : Key) = Sum.inr one ∨ (Sum.inr x : Key) = Sum.inr other ∨ valV kvs (Sum.inr x) = some (.str (labK kvs other))
    · rw [if_pos c] at vx
      rw [labK_some vx]
      rcases c with z | z | z
      · have z : x = one := by injection z
        rw [z, hm, if_neg hne]
      · have z : x = other := by injection z
        rw [z, if_pos rfl]
      · rw [labK_some z, if_pos rfl]
    · rw [if_neg c] at vx
      have e1 : labK (putAll (putAll kvs prs) [(Sum.inr one, .str mk), (Sum.inr other, .str mk)]) x = labK kvs x := by
        unfold labK
        rw [vx]
      rw [e1, if_neg]
      intro z
      rcases w.val x with q | q
      · rw [labK_none q] at z
        rcases w.val other with q2 | q2
        · rw [labK_none q2] at z
          exact c (.inr (.inl (by rw [z])))
        · obtain ⟨v, hv⟩ := w.cl other _ q2
          rw [← z, q] at hv
          cases hv
      · rw [z] at q
        exact c (.inr (.inr q))
theorem ker_swap (l : Str → Str) (o u : Str) (s s' : Int) : Ker (stepL l (u, o, s)) (stepL l (o, u, s')) := fun a b => by
  rw [ker_step, ker_step]
  constructor
  · rintro (h | ⟨h, g⟩ | ⟨h, g⟩)
    · exact .inl h
    · exact .inr (.inr ⟨h, g⟩)
    · exact .inr (.inl ⟨h, g⟩)
  · rintro (h | ⟨h, g⟩ | ⟨h, g⟩)
    · exact .inl h
    · exact .inr (.inr ⟨h, g⟩)
    · exact .inr (.inl ⟨h, g⟩)
def hv (js : List Jn) : List V := (heldM js).map fun n : Nat => V.int (n : Int)
theorem take_snoc {α : Type} {l : List α} {i : Nat} {x : α} (h : l[i]? = some x) : l.take (i + 1) = l.take i ++ [x] := by
  rw [List.take_add_one, h]
  rfl
theorem lab_snoc (js : List Jn) (i : Nat) (j : Jn) (h : js[i]? = some j) : labM (js.take (i + 1)) (fun x => x) = stepL (labM (js.take i) fun x => x) j := by
  rw [take_snoc h, labM_app]
  rfl
theorem held_snoc (js : List Jn) (i : Nat) (j : Jn) (h : js[i]? = some j) : heldM (js.take (i + 1)) = heldM (js.take i) ++ if labM (js.take i) (fun x => x) j.1 = labM (js.take i) (fun x => x) j.2.1 then [] else [i] := by
  have hl : (js.take i).length = i := by have := (List.getElem?_eq_some_iff.mp h).1; rw [List.length_take]; omega
  unfold heldM
  rw [take_snoc h, held_app, Nat.zero_add, hl, held_cons]
  split <;> rfl
end Jb

set_option Elab.async false
set_option linter.all false
set_option maxRecDepth 100000
set_option maxHeartbeats 4000000
namespace Jb
open PySem PySem.Spec PyProof.Rows L2

theorem for_enumS {K : PySem.W.Frag} {a : Addr} {xs : List V} {g : TG} {tb : TS} {D : Ends} {σ : L2.St} {H H0 : Hp} (h : SqA K H0 a xs) (s0 : Same H0 H) (Pv : Nat → L2.St → Hp → Prop) (h0 : Pv 0 σ H) (hl : ∀ i σ' H', i ≤ xs.length → Pv i σ' H' → Same H0 H')
    (hs : ∀ i x σ H p, xs[i]? = some x → Pv i σ H → H p = none → g (.ref p) σ (upd H p (.tup [.int i, x])) fun σ2 H2 => tb { D with nx := Pv (i + 1), ct := Pv (i + 1), bk := D.nx } σ2 H2) (hd : ∀ σ H, Pv xs.length σ H → D.nx σ H) :
    ((∃ xs, SqL K H a xs) ∧ ∃ W : Nat → Nat → L2.St → Hp → Prop, (∃ m, W 0 m σ H) ∧ ∀ i m σ H, W i m σ H →
      ((Ite K a).stop i H ∧ D.nx σ H) ∨ ((Ite K a).go i H ∧ ∃ N : L2.St → Hp → Prop, (∀ σ' H', N σ' H' → ∃ m', m' < m ∧ W (i + 1) m' σ' H') ∧ ∀ x H', (Ite K a).yld i H x H' → g x σ H' fun σ2 H2 => tb { D with nx := N, ct := N, bk := D.nx } σ2 H2)) ∨
    ((∃ xs, SqT K H a xs) ∧ ∃ W : Nat → Nat → L2.St → Hp → Prop, (∃ m, W 0 m σ H) ∧ ∀ i m σ H, W i m σ H →
      ((IteT K a).stop i H ∧ D.nx σ H) ∨ ((IteT K a).go i H ∧ ∃ N : L2.St → Hp → Prop, (∀ σ' H', N σ' H' → ∃ m', m' < m ∧ W (i + 1) m' σ' H') ∧ ∀ x H', (IteT K a).yld i H x H' → g x σ H' fun σ2 H2 => tb { D with nx := N, ct := N, bk := D.nx } σ2 H2)) := by
  rcases h with h | h
  · exact .inl ⟨⟨_, s0.seq h⟩, for_enum Pv h0 (fun i σ' H' hi p => (hl i σ' H' hi p).seq h) hs hd⟩
  · exact .inr ⟨⟨_, Same.sqT s0 h⟩, for_enumT Pv h0 (fun i σ' H' hi p => Same.sqT (hl i σ' H' hi p) h) hs hd⟩
theorem dcomp_seq {K : PySem.W.Frag} {a : Addr} {xs : List V} {g : TG} {tt : TT} {tk tv : TE} {σ : L2.St} {H : Hp} {Q : List (Key × V) → Hp → Prop} (h : SqA K H a xs) (Pv : Nat → List (Key × V) → Hp → Prop) (h0 : Pv 0 [] H) (hl : ∀ i ys H', i ≤ xs.length → Pv i ys H' → Same H H')
    (hs : ∀ i x ys H, xs[i]? = some x → Pv i ys H → ys.length < sizeLine ∧ g x σ H fun σ2 H2 => Kp σ σ2 ∧ tt σ2 H2 fun b H3 => if b = true then tk σ2 H3 fun x H4 => ∃ k, x = kV k ∧ tv σ2 H4 fun v H5 => Pv (i + 1) (putK ys k v) H5 else Pv (i + 1) ys H3)
    (hd : ∀ ys H, Pv xs.length ys H → Q ys H) : ((∃ xs, SqL K H a xs) ∧ DCompW (Itl K a) H g tt tk tv σ Q) ∨ ((∃ xs, SqT K H a xs) ∧ DCompW (Itt K a) H g tt tk tv σ Q) := by
  rcases h with h | h
  · exact .inl ⟨⟨_, h⟩, dcomp_list Pv h0 (fun i ys H' hi p => (hl i ys H' hi p).seq h) hs hd⟩
  · exact .inr ⟨⟨_, h⟩, dcomp_tup Pv h0 (fun i ys H' hi p => Same.sqT (hl i ys H' hi p) h) hs hd⟩
theorem getD_lab {kvs : List (Key × V)} (w : WF kvs) (x : Str) : (valV kvs (Sum.inr x)).getD (.str x) = .str (labK kvs x) := by
  rcases w.val x with z | z
  · rw [z, labK_none z]; rfl
  · rw [z]; rfl
def PrAt (H : Hp) (xs : List V) (prs : List (Key × V)) : Prop := prs.length = xs.length ∧ ∀ (j : Nat) (k : Key) (v : V), prs[j]? = some (k, v) → ∃ p : Addr, xs[j]? = some (V.ref p) ∧ H p = some (.tup [kV k, v])
theorem PrAt.keep {H H' : Hp} {xs : List V} {prs : List (Key × V)} (h : PrAt H xs prs) (s : Same H H') : PrAt H' xs prs := ⟨h.1, fun i k v e => let ⟨q, h1, h2⟩ := h.2 i k v e; ⟨q, h1, s _ _ h2⟩⟩
theorem PrAt.add {H : Hp} {q : Addr} {xs : List V} {prs : List (Key × V)} {k : Key} {v : V} (h : PrAt H xs prs) (e : H q = some (.tup [kV k, v])) : PrAt H (xs ++ [.ref q]) (prs ++ [(k, v)]) := by
  refine ⟨by simp [h.1], fun i k' v' g => ?_⟩
  by_cases hi : i < prs.length
  · rw [List.getElem?_append_left hi] at g
    obtain ⟨r, h1, h2⟩ := h.2 i k' v' g
    exact ⟨r, by rw [List.getElem?_append_left (by rw [← h.1]; exact hi)]; exact h1, h2⟩
  · rw [List.getElem?_append_right (by omega)] at g
    have hz : i - prs.length = 0 := by
      have := (List.getElem?_eq_some_iff.mp g).1
      simp at this
      omega
    rw [hz] at g
    have : (k, v) = (k', v') := by simpa using g
    cases this
    refine ⟨q, ?_, e⟩
    rw [List.getElem?_append_right (by rw [← h.1]; omega), ← h.1, hz]
    rfl
theorem merge2 {a b : Key} {m : V} (h : a ≠ b) : mergeK [] [(a, m), (b, m)] = [(a, m), (b, m)] := by
  show putK (putK [] a m) b m = _
  rw [putK_new m (valV_nil (k := a))]
  show putK [(a, m)] b m = _
  rw [putK_new m (by rw [valV_neg h]; rfl)]
  rfl
theorem put_same {kvs : List (Key × V)} {k : Key} {v y : V} (h : valV kvs k = some v) : (putK kvs k y).length = kvs.length := by
  unfold putK
  rw [valV_any, h]
  simp
theorem putAll_same : ∀ (prs kvs : List (Key × V)), (∀ p ∈ prs, ∃ v, valV kvs p.1 = some v) → (putAll kvs prs).length = kvs.length
  | [], kvs, _ => rfl
  | p :: r, kvs, h => by
    have e : putAll kvs (p :: r) = putAll (putK kvs p.1 p.2) r := rfl
    obtain ⟨v, hp⟩ := h p (List.mem_cons_self ..)
    rw [e, putAll_same r _ fun q hq => ?_, put_same hp]
    obtain ⟨u, hu⟩ := h q (List.mem_cons_of_mem _ hq)
    rw [valV_put]
    split
    · exact ⟨_, rfl⟩
    · exact ⟨u, hu⟩
theorem s_put {q : Addr} {H G : Hp} {o : HO} (s : Same H G) (h : H q = none) : Same H (upd G q o) := fun b u e => by rw [upd_ne (ne_of_none e h)]; exact s b u e
theorem s_none {q : Addr} {H G : Hp} (s : Same H G) (h : G q = none) : H q = none := by
  cases e : H q with
  | none => rfl
  | some o => rw [s q o e] at h; cases h
section
variable {P : Program} {w : World} {K : PySem.W.Frag} {mg : Str → Option Value} {base : Heap}

def spHolding : Sp := fun vs H Q _ => ∃ (ja : Addr) (xs : List V) (js : List Jn), vs = [.ref ja] ∧ H ja = some (.lst xs) ∧ JnAt H xs js ∧ xs.length ≤ 1000 ∧ ∀ ha H', Same H H' → H ha = none → H' ha = some (.lst (hv js)) → Q (.ref ha) H'
def csc_law_holding_1 : Scope := { kind := PySem.ScopeKind.function, names := [ (PySem.Str.ofString ".0", PySem.NameKind.local), (PySem.Str.ofString "_law_name", PySem.NameKind.local), (PySem.Str.ofString "_law_further", PySem.NameKind.free), (PySem.Str.ofString "_law_mark", PySem.NameKind.free), (PySem.Str.ofString "_law_marks", PySem.NameKind.free)], isGenerator := false, isCoroutine := false, more := [] : PySem.Scope }
theorem nd_law_holding_1 : (["_law_name", "_law_mark", "_law_further", "_law_marks"] : List Str).Nodup := by decide +kernel
theorem co_law_holding_1 : CompOk (defScope s_law_holding) ["_law_joinings_here", "_law_marks", "_law_held", "_law_number", "_law_one", "_law_other", "_law_step", "_law_mark", "_law_further"] ["_law_name", "_law_mark", "_law_further", "_law_marks"] csc_law_holding_1 [none, some 7, some 8, some 1] := ⟨rfl, by decide +kernel, by decide +kernel, by decide +kernel, rfl, by decide +kernel⟩
theorem sc_law_holding : FnScope ["_law_joinings_here", "_law_marks", "_law_held", "_law_number", "_law_one", "_law_other", "_law_step", "_law_mark", "_law_further"] ["_law_joinings_here"] (defScope s_law_holding) := ⟨rfl, rfl, rfl, by decide +kernel, rfl, by decide +kernel, by decide +kernel⟩

theorem ok_holding {f : Addr} {fd : FuncData} (F : Fun K "_law_holding" "_law_holding" s_law_holding f fd) (B : Blt mg) : FnOk P w K mg base CX0 1 f fd ["_law_joinings_here"] spHolding := by
  have nd := sc_law_holding.nd
  refine F.okS sc_law_holding (fun vs H Q E h => ?_) (fun cdv A outer s H vs Q E hr h => ?_)
  · obtain ⟨ja, xs, js, rfl, _⟩ := h
    rfl
  · obtain ⟨ja, xs, js, rfl, hja, hJ, hxl, q⟩ := h
    have hu := Room_u1 hr
    have hsl : 200000 ≤ sizeLine := by decide
    refine ⟨_, (qpss_cons (qps_set (i := 1) nd rfl (Or.inr rfl) qpe_dnewK)
      (qpss_cons (qps_set (i := 2) nd rfl (Or.inl rfl) (qpe_lst qpa_nil))
      (qpss_cons (qps_for PassesOwn.never rfl (qpi_enum rfl B.enumerate (qpa_cons (qpv 0) qpa_nil)) (qpg_tup rfl (qpgs_cons (qpg_name (i := 3) nd rfl (Or.inl rfl)) (qpgs_cons (qpg_tup rfl (qpgs_cons (qpg_name (i := 4) nd rfl (Or.inl rfl)) (qpgs_cons (qpg_name (i := 5) nd rfl (Or.inl rfl)) (qpgs_cons (qpg_name (i := 6) nd rfl (Or.inl rfl)) qpgs_nil)))) qpgs_nil))) (qpss_cons (qps_asg (qpe_tup (qpa_cons (qpe_dget2 hu (qpv 1) (qpv 4) (qpv 4) ⟨rfl, rfl, rfl, rfl⟩) (qpa_cons (qpe_dget2 hu (qpv 1) (qpv 5) (qpv 5) ⟨rfl, rfl, rfl, rfl⟩) qpa_nil))) (qpg_tup rfl (qpgs_cons (qpg_name (i := 7) nd rfl (Or.inr rfl)) (qpgs_cons (qpg_name (i := 8) nd rfl (Or.inr rfl)) qpgs_nil))))
      (qpss_one (qps_if (qpt_cmpR op_ne (qpv 7) (qpv 8) (nomark _)) (qpss_cons (qps_expr (qpe_bm PySem.F.plainAttrs_list PySem.F.slot_list_append PySem.F.type_list_append mt_append (qpv 2) (qpa_cons (qpv 3) qpa_nil)))
      (qpss_cons (qps_expr (qpe_bm PySem.F.plainAttrs_dict PySem.F.slot_dict_update PySem.F.type_dict_update (mt_update rfl) (qpv 1) (qpa_cons (qpe_thaw (qpe_comp rfl rfl co_law_holding_1 (qpi_dict (qpv 1)) (fun C s₂ H fp => (qpg_name (i := 0) nd_law_holding_1 rfl (Or.inl rfl))) (fun C s₂ H fp => qpts_one (qpt_cmpR op_eq (qpe_dget hu (qpv 3) (qpv 0) (fun _ _ => rfl)) (qpv 2) (nomark _))) (fun C s₂ H fp => (qpe_tup (qpa_cons (qpv 0) (qpa_cons (qpv 1) qpa_nil)))))) qpa_nil)))
      (qpss_one (qps_expr (qpe_bm PySem.F.plainAttrs_dict PySem.F.slot_dict_update PySem.F.type_dict_update (mt_update rfl) (qpv 1) (qpa_cons (qpe_disp (qpps_cons (qpv 4) (qpv 7) (qpps_cons (qpv 5) (qpv 7) qpps_nil)) rfl rfl (fun z => nomatch z) (by decide)) qpa_nil)))))) qpss_nil))))
      (qpss_one (qps_ret (qpv 2)))))), ?_⟩
    refine fun md hmd => ⟨(by show 0 ≤ sizeLine; decide), fun ha hha => ?_⟩
    have hha0 : H ha = none := s_none (Same.new hmd) hha
    have ham : ha ≠ md := fun z => by rw [z, upd_same] at hha; cases hha
    have S0 : Same H (upd (upd H md (.dK [])) ha (.lst [])) := (Same.new hmd).trans (Same.new hha)
    refine ⟨_, rfl, ja, rfl, ⟨_, SqL.of (S0 _ _ hja)⟩, for_enum (K := K) (a := ja) (xs := xs) (fun i σ G => ∃ kvs x3 x4 x5 x6 x7 x8, σ = [some (.ref ja), some (.ref md), some (.ref ha), x3, x4, x5, x6, x7, x8] ∧ Same H G ∧ G md = some (.dK kvs) ∧ WF kvs ∧ Ker (labK kvs) (labM (js.take i) fun x => x) ∧ G ha = some (.lst (hv (js.take i))) ∧ kvs.length ≤ 2 * i)
      ⟨[], _, _, _, _, _, _, rfl, S0, by rw [upd_ne (Ne.symm ham)]; exact upd_same, ⟨fun k h => by simp at h, fun x y h => by simp [valV_nil] at h⟩, fun a b => Iff.rfl, upd_same, Nat.le_refl _⟩ (fun i σ G _ ⟨_, _, _, _, _, _, _, _, hg, _⟩ => SqL.of (hg _ _ hja)) ?_ ?_⟩
    · rintro i x σ G ep hi ⟨kvs, x3, x4, x5, x6, x7, x8, rfl, SG, hmG, hw, hker, hhG, hkl⟩ hep
      have hil : i < xs.length := (List.getElem?_eq_some_iff.mp hi).1
      have hij : i < js.length := by rw [← hJ.1]; exact hil
      obtain ⟨pj, hx1, hx2⟩ := hJ.2 i js[i].1 js[i].2.1 js[i].2.2 (by rw [List.getElem?_eq_getElem hij])
      rw [hi] at hx1
      cases hx1
      have hjg : js[i]? = some js[i] := List.getElem?_eq_getElem hij
      generalize hjj : js[i] = j at *
      obtain ⟨one, other, st⟩ := j
      have Se := Same.new (o := .tup [.int i, .ref pj]) hep
      have SG1 := SG.trans Se
      have hm1 := Se _ _ hmG
      refine ⟨ep, _, rfl, SqT.of upd_same, rfl, _, _, rfl, _, _, rfl, pj, _, rfl, SqT.of (SG1 _ _ hx2), rfl, _, _, rfl, _, _, rfl, _, _, rfl, rfl, rfl, ?_⟩
      refine ⟨_, rfl, md, rfl, .inl ⟨_, .inl hm1⟩, _, rfl, _, rfl, _, DGet.k (k := Sum.inr one) hm1, _, rfl, md, rfl, .inl ⟨_, .inl hm1⟩, _, rfl, _, rfl, _, DGet.k (k := Sum.inr other) hm1, (by show 2 ≤ sizeLine; decide), fun tp htp => ?_⟩
      rw [getD_lab hw, getD_lab hw]
      refine ⟨tp, _, rfl, SqT.of upd_same, rfl, _, _, rfl, _, _, rfl, rfl, ?_⟩
      have Se := Se.trans (Same.new (o := .tup [.str (labK kvs one), .str (labK kvs other)]) htp)
      have SG1 := SG.trans Se
      have hm1 := Se _ _ hmG
      refine ⟨_, rfl, _, rfl, rfl, _, rfl, ?_⟩
      have hlab := lab_snoc js i _ hjg
      have hheld := held_snoc js i _ hjg
      by_cases he : labK kvs one = labK kvs other
      · refine iteNS (congrArg V.str he) ?_
        have he2 : labM (js.take i) (fun x => x) one = labM (js.take i) (fun x => x) other := (hker _ _).mp he
        refine ⟨kvs, _, _, _, _, _, _, rfl, SG1, hm1, hw, ?_, ?_, by omega⟩
        · rw [hlab, step_same (j := (one, other, st)) he2]; exact hker
        · rw [Se _ _ hhG, hv, hv, hheld, if_pos he2, List.append_nil]
      · refine iteN (fun z => he (by injection z)) ?_
        have he2 : ¬ labM (js.take i) (fun x => x) one = labM (js.take i) (fun x => x) other := fun z => he ((hker _ _).mpr z)
        have hvl : (hv (js.take i)).length ≤ 1000 := by
          unfold hv
          rw [List.length_map]
          have := len_sub (heldM (js.take i)) (List.range (js.take i).length) (held_nd _ _ _) (fun y hy => by
            have := held_ge _ _ _ _ hy
            rw [List.mem_range]; omega)
          rw [List.length_range, List.length_take] at this
          omega
        refine ⟨_, rfl, .inl ⟨rfl, _, SqL.of (Se _ _ hhG)⟩, _, rfl, ha, _, _, rfl, rfl, Se _ _ hhG, by omega, ?_⟩
        generalize hG2 : upd (upd (upd G ep (.tup [.int i, .ref pj])) tp (.tup [.str (labK kvs one), .str (labK kvs other)])) ha (.lst (hv (js.take i) ++ [.int i])) = G2
        have SG2 : Same H G2 := by rw [← hG2]; exact s_put SG1 hha0
        have hm2 : G2 md = some (.dK kvs) := by rw [← hG2, upd_ne (Ne.symm ham)]; exact hm1
        have hh2 : G2 ha = some (.lst (hv (js.take (i + 1)))) := by
          rw [← hG2, upd_same, hv, hv, hheld, if_neg he2, List.map_append]
          rfl
        refine ⟨_, rfl, .inr (.inr (.inl ⟨rfl, .inl ⟨_, hm2⟩⟩)), ?_⟩
        refine ⟨_, rfl, md, kvs, rfl, hm2, fun ob => ?_⟩
        refine comp_dict (a := md) (ob := ob) (kvs := kvs) (fun n ys G' => Same (upd G2 md (.frz ob (.dK kvs))) G' ∧ ∃ prs, PrAt G' ys prs ∧ prs.length ≤ n ∧ (∀ p ∈ prs, p.2 = .str (labK kvs one)) ∧ ∀ k, k ∈ prs.map (·.1) ↔ (k ∈ (kvs.take n).map (·.1) ∧ valV kvs k = some (.str (labK kvs other))))
          ⟨Same.refl _, [], ⟨rfl, fun j k v e => by simp at e⟩, Nat.le_refl _, fun p h => by simp at h, fun k => by simp⟩ (fun n ys G' hg => hg.1 _ _ upd_same) ?_ ?_
        · rintro n p ys G' hn ⟨SG', prs, hpr, hpl, hpv, hpk⟩
          have hnl : n < kvs.length := (List.getElem?_eq_some_iff.mp hn).1
          obtain ⟨nm, y, ek, ev⟩ := hw.str p.1 (List.mem_map.mpr ⟨p, List.mem_of_getElem? hn, rfl⟩)
          have tk1 : (kvs.take (n + 1)).map (·.1) = (kvs.take n).map (·.1) ++ [p.1] := by rw [take_snoc hn, List.map_append]; rfl
          refine ⟨by rw [← hpr.1]; omega, ?_⟩
          rw [ek]
          refine ⟨Kp.none (Kp.cons (Kp.cons (Kp.cons Kp.nil))), ?_⟩
          have hfz : G' md = some (.frz ob (.dK kvs)) := SG' _ _ upd_same
          rw [ek] at ev
          refine ⟨_, rfl, _, rfl, md, .str y, rfl, .inl ⟨kvs, Sum.inr nm, .inr ⟨ob, hfz⟩, rfl, ev.symm⟩, _, rfl, rfl, _, rfl, ?_⟩
          by_cases hy : y = labK kvs other
          · refine iteD (by rw [hy]) ?_
            refine ⟨_, rfl, _, rfl, (by show 2 ≤ sizeLine; decide), fun tq htq => ?_⟩
            refine ⟨SG'.trans (Same.new htq), prs ++ [(Sum.inr nm, .str (labK kvs one))], (hpr.keep (Same.new htq)).add upd_same, by simp; omega, fun p' hp' => ?_, fun k => ?_⟩
            · rcases List.mem_append.mp hp' with z | z
              · exact hpv p' z
              · have z : p' = (Sum.inr nm, .str (labK kvs one)) := by simpa using z
                rw [z]
            · rw [List.map_append, List.mem_append, hpk, tk1, List.mem_append, ek]
              constructor
              · rintro (⟨z1, z2⟩ | z)
                · exact ⟨.inl z1, z2⟩
                · have z : k = Sum.inr nm := by simpa using z
                  rw [z]
                  exact ⟨.inr (by simp), by rw [ev, hy]⟩
              · rintro ⟨z1 | z1, z2⟩
                · exact .inl ⟨z1, z2⟩
                · exact .inr (by simpa using z1)
          · refine iteDN (fun z => hy (by injection z)) ?_
            refine ⟨SG', prs, hpr, by omega, hpv, fun k => ?_⟩
            rw [hpk, tk1, List.mem_append, ek]
            constructor
            · rintro ⟨z1, z2⟩; exact ⟨.inl z1, z2⟩
            · rintro ⟨z1 | z1, z2⟩
              · exact ⟨z1, z2⟩
              · have z1 : k = Sum.inr nm := by simpa using z1
                rw [z1, ev] at z2
                exact absurd (by injection z2 with z; injection z) hy
        · rintro ys G' ⟨SG', prs, hpr, hpl, hpv, hpk⟩
          rw [List.take_length] at hpk
          refine ⟨by rw [← hpr.1]; omega, fun D hD => ?_⟩
          have hfz : G' md = some (.frz ob (.dK kvs)) := SG' _ _ upd_same
          have mdD : md ≠ D := fun z => by rw [← z, hfz] at hD; cases hD
          have SD := Same.new (o := .lst ys) hD
          refine ⟨md, ob, kvs, SD _ _ hfz, hmd, md, kvs, rfl, upd_same, .inl ⟨D, ys, prs, rfl, by rw [upd_ne (Ne.symm mdD)]; exact upd_same, hpr.1, by omega, fun j k v e => ?_, ?_⟩⟩
          · obtain ⟨pp, g1, g2⟩ := hpr.2 j k v e
            refine ⟨pp, g1, ?_⟩
            rw [upd_ne (ne_of g2 hfz (by intro z; cases z))]
            exact SD _ _ g2
          · rw [upd_upd]
            have hk2 : ∀ k, k ∈ prs.map (·.1) ↔ valV kvs k = some (.str (labK kvs other)) := fun k => by
              rw [hpk]
              exact ⟨fun z => z.2, fun z => ⟨val_in.mpr ⟨_, z⟩, z⟩⟩
            obtain ⟨w2, l2⟩ := mark_step (st := st) hw he hpv hk2
            generalize hG3 : upd (upd G' D (.lst ys)) md (.dK (putAll kvs prs)) = G3
            have SG3 : Same H G3 := by
              rw [← hG3]
              refine s_put ?_ hmd
              intro b o e
              refine SD _ _ (SG' _ _ ?_)
              rw [upd_ne (ne_of_none e hmd)]
              exact SG2 b o e
            have hm3 : G3 md = some (.dK (putAll kvs prs)) := by rw [← hG3]; exact upd_same
            have hh3 : G3 ha = some (.lst (hv (js.take (i + 1)))) := by
              rw [← hG3, upd_ne ham]
              refine SD _ _ (SG' _ _ ?_)
              rw [upd_ne ham]
              exact hh2
            refine ⟨_, rfl, .inr (.inr (.inl ⟨rfl, .inl ⟨_, hm3⟩⟩)), fun p hp => ?_⟩
            have Sp := Same.new (o := .dK []) hp
            have pmd : p ≠ md := fun z => by rw [z, hm3] at hp; cases hp
            have pha : p ≠ ha := fun z => by rw [z, hh3] at hp; cases hp
            have hoo : (Sum.inr one : Key) ≠ Sum.inr other := fun z => he (by have z : one = other := by injection z
                                                                              rw [z])
            refine ⟨_, rfl, _, rfl, _, rfl, _, rfl, upd_same, [(Sum.inr one, .str (labK kvs one)), (Sum.inr other, .str (labK kvs one))], rfl, (by show 2 ≤ 15; decide), ?_⟩
            rw [merge2 hoo, upd_upd]
            have Sq := Same.new (o := .dK [(Sum.inr one, .str (labK kvs one)), (Sum.inr other, .str (labK kvs one))]) hp
            have hpl2 := putAll_len prs kvs
            refine ⟨md, _, rfl, Sq _ _ hm3, .inr ⟨p, _, rfl, pmd, upd_same, (by show (putAll kvs prs).length + 2 ≤ 50000; omega), ?_⟩⟩
            refine ⟨_, _, _, _, _, _, _, rfl, s_put (SG3.trans Sq) hmd, upd_same, w2, ?_, by rw [upd_ne ham]; exact Sq _ _ hh3, ?_⟩
            · rw [l2, hlab]
              exact (ker_swap _ _ _ _ _).trans (hker.step (one, other, st))
            · have h1 := putAll_same prs kvs fun p hp => ⟨_, (hk2 p.1).mp (List.mem_map.mpr ⟨p, hp, rfl⟩)⟩
              have h2 := putAll_len [(Sum.inr one, .str (labK kvs one)), (Sum.inr other, .str (labK kvs one))] (putAll kvs prs)
              have h3 : ([(Sum.inr one, .str (labK kvs one)), (Sum.inr other, .str (labK kvs one))] : List (Key × V)).length = 2 := rfl
              rw [h3] at h2
              omega
    · rintro σ G ⟨kvs, x3, x4, x5, x6, x7, x8, rfl, SG, hmG, hw, hker, hhG, hkl⟩
      rw [hJ.1, List.take_length] at hhG
      exact ⟨_, rfl, q ha G SG hha0 hhG⟩
def spEldest (K : PySem.W.Frag) : Sp := fun vs H Q _ => ∃ (na ja : Addr) (ns : List Str) (xs : List V) (js : List Jn), vs = [.ref na, .ref ja] ∧ SqA K H na (ns.map V.str) ∧ SqA K H ja xs ∧ JnAt H xs js ∧ (∀ j ∈ js, j.1 ∈ ns ∧ j.2.1 ∈ ns) ∧ ns.length ≤ 1000 ∧ xs.length ≤ 1000 ∧ ∀ ha H', Same H H' → H ha = none → H' ha = some (.lst (hv js)) → Q (.ref ha) H'
def csc_eldest_1 : Scope := { kind := PySem.ScopeKind.function, names := [(PySem.Str.ofString ".0", PySem.NameKind.local), (PySem.Str.ofString "name", PySem.NameKind.local)], isGenerator := false, isCoroutine := false, more := [] : PySem.Scope }
theorem nd_eldest_1 : (["name"] : List Str).Nodup := by decide +kernel
theorem co_eldest_1 : CompOk (defScope s_eldest) ["names", "joinings", "head", "held", "number", "one", "other", "step", "old", "new"] ["name"] csc_eldest_1 [none] := ⟨rfl, by decide +kernel, by decide +kernel, by decide +kernel, rfl, by decide +kernel⟩
def csc_eldest_2 : Scope := { kind := PySem.ScopeKind.function, names := [ (PySem.Str.ofString ".0", PySem.NameKind.local), (PySem.Str.ofString "name", PySem.NameKind.local), (PySem.Str.ofString "head", PySem.NameKind.free), (PySem.Str.ofString "new", PySem.NameKind.free), (PySem.Str.ofString "old", PySem.NameKind.free)], isGenerator := false, isCoroutine := false, more := [] : PySem.Scope }
theorem nd_eldest_2 : (["name", "new", "old", "head"] : List Str).Nodup := by decide +kernel
theorem co_eldest_2 : CompOk (defScope s_eldest) ["names", "joinings", "head", "held", "number", "one", "other", "step", "old", "new"] ["name", "new", "old", "head"] csc_eldest_2 [none, some 9, some 8, some 2] := ⟨rfl, by decide +kernel, by decide +kernel, by decide +kernel, rfl, by decide +kernel⟩
theorem sc_eldest : FnScope ["names", "joinings", "head", "held", "number", "one", "other", "step", "old", "new"] ["names", "joinings"] (defScope s_eldest) := ⟨rfl, rfl, rfl, by decide +kernel, rfl, by decide +kernel, by decide +kernel⟩

theorem ok_eldest {f : Addr} {fd : FuncData} (F : Fun K "eldest" "eldest" s_eldest f fd) (B : Blt mg) : FnOk P w K mg base CX0 1 f fd ["names", "joinings"] (spEldest K) := by
  have nd := sc_eldest.nd
  refine F.okS sc_eldest (fun vs H Q E h => ?_) (fun cdv A outer s H vs Q E hr h => ?_)
  · obtain ⟨na, ja, ns, xs, js, rfl, _⟩ := h
    rfl
  · obtain ⟨na, ja, ns, xs, js, rfl, hN, hX, hJ, hjn, hnl, hxl, q⟩ := h
    have hu := Room_u1 hr
    have hsl : 200000 ≤ sizeLine := by decide
    refine ⟨_, (qpss_cons (qps_set (i := 2) nd rfl (Or.inr rfl) (qpe_dcomp rfl rfl co_eldest_1 (qpi_seq (qpv 0)) (fun C s₂ H fp => (qpg_name (i := 0) nd_eldest_1 rfl (Or.inl rfl))) (fun C s₂ H fp => qpts_nil) (fun C s₂ H fp => (qpv 0)) (fun C s₂ H fp => (qpv 0))))
      (qpss_cons (qps_set (i := 3) nd rfl (Or.inl rfl) (qpe_lst qpa_nil))
      (qpss_cons (qps_for PassesOwn.never rfl (qpi_enumS rfl B.enumerate (qpa_cons (qpv 1) qpa_nil)) (qpg_tup rfl (qpgs_cons (qpg_name (i := 4) nd rfl (Or.inl rfl)) (qpgs_cons (qpg_tup rfl (qpgs_cons (qpg_name (i := 5) nd rfl (Or.inl rfl)) (qpgs_cons (qpg_name (i := 6) nd rfl (Or.inl rfl)) (qpgs_cons (qpg_name (i := 7) nd rfl (Or.inl rfl)) qpgs_nil)))) qpgs_nil))) (qpss_cons (qps_asg (qpe_tup (qpa_cons (qpe_dget hu (qpv 2) (qpv 5) (fun _ _ => rfl)) (qpa_cons (qpe_dget hu (qpv 2) (qpv 6) (fun _ _ => rfl)) qpa_nil))) (qpg_tup rfl (qpgs_cons (qpg_name (i := 8) nd rfl (Or.inr rfl)) (qpgs_cons (qpg_name (i := 9) nd rfl (Or.inr rfl)) qpgs_nil))))
      (qpss_one (qps_if (qpt_cmpR op_ne (qpv 8) (qpv 9) (nomark _)) (qpss_cons (qps_expr (qpe_bm PySem.F.plainAttrs_list PySem.F.slot_list_append PySem.F.type_list_append mt_append (qpv 3) (qpa_cons (qpv 4) qpa_nil)))
      (qpss_one (qps_set (i := 2) nd rfl (Or.inr rfl) (qpe_dcomp rfl rfl co_eldest_2 (qpi_dict (qpv 2)) (fun C s₂ H fp => (qpg_name (i := 0) nd_eldest_2 rfl (Or.inl rfl))) (fun C s₂ H fp => qpts_nil) (fun C s₂ H fp => (qpv 0)) (fun C s₂ H fp => (qpe_ifExp (qpt_cmpR op_eq (qpe_dget hu (qpv 3) (qpv 0) (fun _ _ => rfl)) (qpv 2) (nomark _)) (qpv 1) (qpe_dget hu (qpv 3) (qpv 0) (fun _ _ => rfl)))))))) qpss_nil))))
      (qpss_one (qps_ret (qpv 3)))))), ?_⟩
    refine ⟨_, rfl, na, rfl, dcomp_seq hN (fun i ys G => G = H ∧ ys.length ≤ i ∧ (∀ x ∈ ns.take i, valV ys (Sum.inr x) = some (.str x)) ∧ ∀ k ∈ ys.map (·.1), ∃ x ∈ ns, k = Sum.inr x) ⟨rfl, Nat.le_refl _, fun x h => by simp at h, fun k h => by simp at h⟩ (fun i ys G _ hg => by rw [hg.1]; exact Same.refl _) ?_ ?_⟩
    · rintro i x ys G hi ⟨rfl, hyl, hys, hyk⟩
      have hil : i < ns.length := by have := (List.getElem?_eq_some_iff.mp hi).1; rw [List.length_map] at this; exact this
      have ex : x = .str ns[i] := by rw [List.getElem?_map, List.getElem?_eq_getElem hil] at hi; exact (Option.some.inj hi).symm
      subst ex
      refine ⟨by omega, Kp.none Kp.nil, tTrue_if ?_⟩
      refine ⟨_, rfl, Sum.inr ns[i], rfl, _, rfl, rfl, by have := length_putK ys (Sum.inr ns[i]) (.str ns[i]); omega, fun x hx => ?_, fun k hk => ?_⟩
      · rw [valV_put]
        split
        · rename_i z
          have z : x = ns[i] := by injection z
          rw [z]
        · rename_i z
          rw [take_snoc (List.getElem?_eq_getElem hil)] at hx
          rcases List.mem_append.mp hx with g | g
          · exact hys x g
          · exact absurd (by rw [List.mem_singleton.mp g]) z
      · rcases keys_put hk with z | z
        · exact ⟨ns[i], List.getElem_mem hil, z⟩
        · exact hyk k z
    · rintro ys G ⟨rfl, hyl, hys, hyk⟩
      rw [List.length_map] at hyl
      rw [List.length_map, List.take_length] at hys
      refine ⟨by omega, fun kd hkd => ?_⟩
      refine ⟨(by show 0 ≤ sizeLine; decide), fun ha hha => ?_⟩
      have hha0 : G ha = none := s_none (Same.new hkd) hha
      have hak : ha ≠ kd := fun z => by rw [z, upd_same] at hha; cases hha
      have S0 : Same G (upd (upd G kd (.dK ys)) ha (.lst [])) := (Same.new hkd).trans (Same.new hha)
      refine ⟨_, rfl, ja, rfl, for_enumS hX S0 (fun i σ G' => ∃ (hd : Addr) (kvs : List (Key × V)) (l : Str → Str) (x4 x5 x6 x7 x8 x9 : Option V), σ = [some (.ref na), some (.ref ja), some (.ref hd), some (.ref ha), x4, x5, x6, x7, x8, x9] ∧ Same G G' ∧ G' hd = some (.dK kvs) ∧ hd ≠ ha ∧ G hd = none ∧ kvs.length ≤ 1000 ∧ Ker l (labM (js.take i) fun x => x) ∧ (∀ x ∈ ns, valV kvs (Sum.inr x) = some (.str (l x))) ∧ (∀ k ∈ kvs.map (·.1), ∃ x ∈ ns, k = Sum.inr x) ∧ G' ha = some (.lst (hv (js.take i))))
        ⟨kd, ys, fun x => x, _, _, _, _, _, _, rfl, S0, by rw [upd_ne (Ne.symm hak)]; exact upd_same, Ne.symm hak, hkd, by omega, fun a b => Iff.rfl, hys, hyk, upd_same⟩ (fun i σ G' _ ⟨_, _, _, _, _, _, _, _, _, _, hg, _⟩ => hg) ?_ ?_⟩
      · rintro i x σ G1 ep hi ⟨hd, kvs, l, x4, x5, x6, x7, x8, x9, rfl, SG, hdG, hdh, hd0, hkl, hker, hval, hkey, hhG⟩ hep
        have hil : i < xs.length := (List.getElem?_eq_some_iff.mp hi).1
        have hij : i < js.length := by rw [← hJ.1]; exact hil
        obtain ⟨pj, hx1, hx2⟩ := hJ.2 i js[i].1 js[i].2.1 js[i].2.2 (by rw [List.getElem?_eq_getElem hij])
        rw [hi] at hx1
        cases hx1
        have hjg : js[i]? = some js[i] := List.getElem?_eq_getElem hij
        have hnm := hjn js[i] (List.getElem_mem hij)
        generalize hjj : js[i] = j at *
        obtain ⟨one, other, st⟩ := j
        have Se := Same.new (o := .tup [.int i, .ref pj]) hep
        have hd1 := Se _ _ hdG
        have g1 : DGet (upd G1 ep (.tup [.int i, .ref pj])) hd (.str one) (some (.str (l one))) := by rw [← hval one hnm.1]; exact DGet.k (k := Sum.inr one) hd1
        have g2 : DGet (upd G1 ep (.tup [.int i, .ref pj])) hd (.str other) (some (.str (l other))) := by rw [← hval other hnm.2]; exact DGet.k (k := Sum.inr other) hd1
        refine ⟨ep, _, rfl, SqT.of upd_same, rfl, _, _, rfl, _, _, rfl, pj, _, rfl, SqT.of ((SG.trans Se) _ _ hx2), rfl, _, _, rfl, _, _, rfl, _, _, rfl, rfl, rfl, ?_⟩
        refine ⟨_, rfl, _, rfl, hd, _, rfl, g1, _, rfl, _, rfl, hd, _, rfl, g2, (by show 2 ≤ sizeLine; decide), fun tp htp => ?_⟩
        refine ⟨tp, _, rfl, SqT.of upd_same, rfl, _, _, rfl, _, _, rfl, rfl, ?_⟩
        have Se := Se.trans (Same.new (o := .tup [.str (l one), .str (l other)]) htp)
        have SG2 := SG.trans Se
        have hd2 := Se _ _ hdG
        refine ⟨_, rfl, _, rfl, rfl, _, rfl, ?_⟩
        have hlab := lab_snoc js i _ hjg
        have hheld := held_snoc js i _ hjg
        by_cases he : l one = l other
        · refine iteNS (congrArg V.str he) ?_
          have he2 : labM (js.take i) (fun x => x) one = labM (js.take i) (fun x => x) other := (hker _ _).mp he
          refine ⟨hd, kvs, l, _, _, _, _, _, _, rfl, SG2, hd2, hdh, hd0, hkl, ?_, hval, hkey, ?_⟩
          · rw [hlab, step_same (j := (one, other, st)) he2]; exact hker
          · rw [Se _ _ hhG, hv, hv, hheld, if_pos he2, List.append_nil]
        · refine iteN (fun z => he (by injection z)) ?_
          have he2 : ¬ labM (js.take i) (fun x => x) one = labM (js.take i) (fun x => x) other := fun z => he ((hker _ _).mpr z)
          have hvl : (hv (js.take i)).length ≤ 1000 := by
            unfold hv
            rw [List.length_map]
            have := len_sub (heldM (js.take i)) (List.range (js.take i).length) (held_nd _ _ _) (fun y hy => by
              have := held_ge _ _ _ _ hy
              rw [List.mem_range]; omega)
            rw [List.length_range, List.length_take] at this
            omega
          refine ⟨_, rfl, .inl ⟨rfl, _, SqL.of (Se _ _ hhG)⟩, _, rfl, ha, _, _, rfl, rfl, Se _ _ hhG, by omega, ?_⟩
          generalize hG3 : upd (upd (upd G1 ep (.tup [.int i, .ref pj])) tp (.tup [.str (l one), .str (l other)])) ha (.lst (hv (js.take i) ++ [.int i])) = G3
          have SG3 : Same G G3 := by rw [← hG3]; exact s_put SG2 hha0
          have hd3 : G3 hd = some (.dK kvs) := by rw [← hG3, upd_ne hdh]; exact hd2
          have hh3 : G3 ha = some (.lst (hv (js.take (i + 1)))) := by
            rw [← hG3, upd_same, hv, hv, hheld, if_neg he2, List.map_append]
            rfl
          refine ⟨_, rfl, hd, kvs, rfl, hd3, fun ob => ?_⟩
          refine dcomp_dict (a := hd) (ob := ob) (kvs := kvs) (fun n ys' G' => G' = upd G3 hd (.frz ob (.dK kvs)) ∧ ys'.length ≤ n ∧ (∀ x, (Sum.inr x : Key) ∈ (kvs.take n).map (·.1) → valV ys' (Sum.inr x) = some (.str (stepL l (one, other, st) x))) ∧ ∀ k ∈ ys'.map (·.1), ∃ x ∈ ns, k = Sum.inr x)
            ⟨rfl, Nat.le_refl _, fun x h => by simp at h, fun k h => by simp at h⟩ (fun n ys' G' hg => by rw [hg.1]; exact upd_same) ?_ ?_
          · rintro n p ys' G' hn ⟨rfl, hyl', hys', hyk'⟩
            have hnl : n < kvs.length := (List.getElem?_eq_some_iff.mp hn).1
            obtain ⟨nm, hnm1, ek⟩ := hkey p.1 (List.mem_map.mpr ⟨p, List.mem_of_getElem? hn, rfl⟩)
            have tk1 : (kvs.take (n + 1)).map (·.1) = (kvs.take n).map (·.1) ++ [p.1] := by rw [take_snoc hn, List.map_append]; rfl
            refine ⟨by omega, ?_⟩
            rw [ek]
            have gg : DGet (upd G3 hd (.frz ob (.dK kvs))) hd (.str nm) (some (.str (l nm))) := .inl ⟨kvs, Sum.inr nm, .inr ⟨ob, upd_same⟩, rfl, (hval nm hnm1).symm⟩
            have fin : ∀ v, v = stepL l (one, other, st) nm → (upd G3 hd (.frz ob (.dK kvs)) = upd G3 hd (.frz ob (.dK kvs)) ∧ (putK ys' (Sum.inr nm) (.str v)).length ≤ n + 1 ∧ (∀ x, (Sum.inr x : Key) ∈ (kvs.take (n + 1)).map (·.1) → valV (putK ys' (Sum.inr nm) (.str v)) (Sum.inr x) = some (.str (stepL l (one, other, st) x))) ∧ ∀ k ∈ (putK ys' (Sum.inr nm) (.str v)).map (·.1), ∃ x ∈ ns, k = Sum.inr x) := fun v ev => by
              refine ⟨rfl, by have := length_putK ys' (Sum.inr nm) (.str v); omega, fun x hx => ?_, fun k hk => ?_⟩
              · rw [valV_put]
                split
                · rename_i z
                  have z : x = nm := by injection z
                  rw [z, ev]
                · rename_i z
                  rw [tk1, ek] at hx
                  rcases List.mem_append.mp hx with g | g
                  · exact hys' x g
                  · exact absurd (by simpa using g) z
              · rcases keys_put hk with z | z
                · exact ⟨nm, hnm1, z⟩
                · exact hyk' k z
            refine ⟨Kp.none (Kp.cons (Kp.cons (Kp.cons Kp.nil))), tTrue_if ?_⟩
            refine ⟨_, rfl, Sum.inr nm, rfl, ?_⟩
            refine ⟨_, rfl, _, rfl, hd, _, rfl, gg, _, rfl, rfl, _, rfl, ?_⟩
            by_cases hy : l nm = l one
            · exact iteD (by rw [hy]) ⟨_, rfl, fin _ (by show l other = if l nm = l one then l other else l nm; rw [if_pos hy])⟩
            · exact iteDN (fun z => hy (by injection z)) ⟨_, rfl, _, rfl, hd, _, rfl, gg, fin _ (by show l nm = if l nm = l one then l other else l nm; rw [if_neg hy])⟩
          · rintro ys' G' ⟨rfl, hyl', hys', hyk'⟩
            rw [List.take_length] at hys'
            refine ⟨by omega, fun nd' hnd' => ?_⟩
            have Sn := Same.new (o := .dK ys') hnd'
            have SF : Same G (upd G3 hd (.frz ob (.dK kvs))) := s_put SG3 hd0
            have nha : nd' ≠ ha := fun z => by rw [z, upd_ne (Ne.symm hdh), hh3] at hnd'; cases hnd'
            refine ⟨nd', ys', stepL l (one, other, st), _, _, _, _, _, _, rfl, SF.trans Sn, upd_same, nha, s_none SF hnd', by omega, ?_, fun x hx => hys' x (val_in.mpr ⟨_, hval x hx⟩), hyk', ?_⟩
            · rw [hlab]; exact hker.step (one, other, st)
            · rw [Sn ha _ (by rw [upd_ne (Ne.symm hdh)]; exact hh3)]
      · rintro σ G1 ⟨hd, kvs, l, x4, x5, x6, x7, x8, x9, rfl, SG, hdG, hdh, hd0, hkl, hker, hval, hkey, hhG⟩
        rw [hJ.1, List.take_length] at hhG
        exact ⟨_, rfl, q ha G1 SG hha0 hhG⟩
end
end Jb

set_option Elab.async false
set_option linter.all false
set_option maxRecDepth 100000
set_option maxHeartbeats 4000000
namespace Jb
open PySem PySem.Spec PyProof.Rows L2

theorem flat_hv (js : List Jn) : (hv js).all flatV = true := by
  unfold hv
  rw [List.all_eq_true]
  intro x hx
  obtain ⟨n, _, rfl⟩ := List.mem_map.mp hx
  rfl
theorem in_hv {js : List Jn} {n : Nat} : inV (.int n) (hv js) = true ↔ n ∈ heldM js := by
  unfold hv inV
  rw [List.any_eq_true]
  constructor
  · rintro ⟨x, hx, e⟩
    obtain ⟨m, hm, rfl⟩ := List.mem_map.mp hx
    have e : ((m : Nat) : Int) = (n : Int) := by simpa [eqV] using e
    have : m = n := by omega
    rw [← this]; exact hm
  · intro h
    exact ⟨.int n, List.mem_map.mpr ⟨n, h, rfl⟩, by simp [eqV]⟩
theorem held_len (js : List Jn) : (heldM js).length ≤ js.length := by
  have := len_sub (heldM js) (List.range js.length) (held_nd _ _ _) (fun y hy => by
    have := held_ge _ _ _ _ hy
    rw [List.mem_range]; omega)
  rw [List.length_range] at this
  exact this
section
variable {P : Program} {w : World} {K : PySem.W.Frag} {mg : Str → Option Value} {base : Heap}

def PlaceIs (h r : List Nat) (n : Nat) (v : V) : Prop := (n ∉ h ∧ v = .int (-1)) ∨ (n ∈ h ∧ ((∃ m ∈ r, m ∉ h ∧ v = .int (m : Int)) ∨ ((∀ m ∈ r, m ∈ h) ∧ v = .non)))
def spPlace (K : PySem.W.Frag) : Sp := fun vs H Q _ => ∃ (na ja : Addr) (ns : List Str) (xs : List V) (a b : List Jn) (j : Jn), vs = [.ref na, .ref ja, .int (a.length : Int)] ∧ SqA K H na (ns.map V.str) ∧ SqA K H ja xs ∧ JnAt H xs (a ++ j :: b) ∧ (∀ x ∈ a ++ j :: b, x.1 ∈ ns ∧ x.2.1 ∈ ns) ∧ ns.length ≤ 1000 ∧ xs.length ≤ 1000 ∧
  ∀ v H', Same H H' → PlaceIs (heldM (a ++ j :: b)) (heldM (a ++ (j.1, j.1, 0) :: b)) a.length v → Q v H'
theorem sc_in_place_of : FnScope ["names", "joinings", "n", "held", "rest", "name", "number"] ["names", "joinings", "n"] (defScope s_in_place_of) := ⟨rfl, rfl, rfl, by decide +kernel, rfl, by decide +kernel, by decide +kernel⟩

theorem ok_place {f : Addr} {fd : FuncData} (F : Fun K "in_place_of" "in_place_of" s_in_place_of f fd) (B : Blt mg) (c_eldest : Cal P w K mg base 1 "eldest" ["names", "joinings"] (spEldest K)) : FnOk P w K mg base CX0 2 f fd ["names", "joinings", "n"] (spPlace K) := by
  have nd := sc_in_place_of.nd
  refine F.okS sc_in_place_of (fun vs H Q E h => ?_) (fun cdv A outer s H vs Q E hr h => ?_)
  · obtain ⟨na, ja, ns, xs, a, b, j, rfl, _⟩ := h
    rfl
  · obtain ⟨na, ja, ns, xs, a, b, j, rfl, hN, hX, hJ, hjn, hnl, hxl, q⟩ := h
    have hu := Room_u1 hr
    have hsl : 200000 ≤ sizeLine := by decide
    have hlen : xs.length = a.length + (b.length + 1) := by rw [hJ.1, List.length_append, List.length_cons]
    refine ⟨_, (qpss_cons (qps_set (i := 3) nd rfl (Or.inl rfl) (qpe_cal c_eldest (hr.mono (by decide)) rfl (qpa_cons (qpv 0) (qpa_cons (qpv 1) qpa_nil))))
      (qpss_cons (qps_if (qpt_cmpR op_notIn_seq (qpv 2) (qpv 3) (by with_unfolding_all rfl)) (qpss_one (qps_ret (qpe_un un_neg qpe_int))) qpss_nil)
      (qpss_cons (qps_set (i := 4) nd rfl (Or.inl rfl) (qpe_callTy call_list_of (by rfl) B.list_ boot_list (qpa_cons (qpv 1) qpa_nil)))
      (qpss_cons (qps_set (i := 5) nd rfl (Or.inl rfl) (qpe_ix ix_tup (qpe_ix ix_list (qpv 4) (qpv 2) (fun _ _ => rfl)) qpe_int (fun _ _ => rfl)))
      (qpss_cons (qps_asg (qpe_tup (qpa_cons (qpv 5) (qpa_cons (qpv 5) (qpa_cons qpe_int qpa_nil)))) (qpg_sub (qpv 4) (qpv 2) set_list))
      (qpss_cons (qps_for PassesOwn.never rfl (qpi_list (qpe_cal c_eldest (hr.mono (by decide)) rfl (qpa_cons (qpv 0) (qpa_cons (qpv 4) qpa_nil)))) (qpg_name (i := 6) nd rfl (Or.inl rfl)) (qpss_one (qps_if (qpt_cmpR op_notIn_seq (qpv 6) (qpv 3) (by with_unfolding_all rfl)) (qpss_one (qps_ret (qpv 6))) qpss_nil)))
      (qpss_one (qps_ret qpe_non)))))))), ?_⟩
    refine ⟨_, rfl, _, rfl, na, ja, ns, xs, _, rfl, hN, hX, hJ, hjn, hnl, hxl, fun ha H1 S1 hha0 hha => ?_⟩
    have piff := place_iff a b j j.1 0
    refine ⟨_, rfl, _, rfl, ha, _, rfl, .inl (SqL.of hha), rfl, flat_hv _, _, rfl, ?_⟩
    by_cases hin : a.length ∈ heldM (a ++ j :: b)
    · rw [show (if true then !inV (.int (a.length : Int)) (hv (a ++ j :: b)) else inV (.int (a.length : Int)) (hv (a ++ j :: b))) = false by rw [in_hv.mpr hin]; rfl]
      refine iteF ?_
      refine ⟨_, rfl, ja, xs, rfl, Same.sqA S1 hX, fun ra hra => ?_⟩
      have Sr := Same.new (o := .lst xs) hra
      have S2 := S1.trans Sr
      obtain ⟨pj, hpj1, hpj2⟩ := hJ.2 a.length j.1 j.2.1 j.2.2 (by rw [List.getElem?_append_right (Nat.le_refl _), Nat.sub_self]; rfl)
      refine ⟨_, rfl, _, rfl, ra, xs, (a.length : Int), .ref pj, rfl, rfl, SqL.of upd_same, atI_nat hpj1, pj, _, 0, _, rfl, rfl, SqT.of (S2 _ _ hpj2), rfl, ?_⟩
      refine ⟨_, rfl, _, rfl, (by show 3 ≤ sizeLine; decide), fun tq htq => ?_⟩
      have St := Same.new (o := .tup [.str j.1, .str j.1, .int 0]) htq
      refine ⟨_, rfl, _, rfl, ra, xs, (a.length : Int), a.length, rfl, rfl, St _ _ upd_same, ?_, ?_⟩
      · unfold ixN
        rw [if_pos (by omega), if_pos (by omega), Int.toNat_natCast]
      have hraH : H ra = none := s_none S1 hra
      generalize hG : upd (upd (upd H1 ra (.lst xs)) tq (.tup [.str j.1, .str j.1, .int 0])) ra (.lst (xs.set a.length (.ref tq))) = G
      have SG : Same H G := by rw [← hG]; exact s_put (S2.trans St) hraH
      have hraG : G ra = some (.lst (xs.set a.length (.ref tq))) := by rw [← hG]; exact upd_same
      have tqra : tq ≠ ra := fun z => by rw [z, upd_same] at htq; cases htq
      have hset : (a ++ j :: b).set a.length (j.1, j.1, 0) = a ++ (j.1, j.1, 0) :: b := by
        rw [List.set_append_right _ _ (Nat.le_refl _), Nat.sub_self]
        rfl
      have hJG : JnAt G (xs.set a.length (.ref tq)) (a ++ (j.1, j.1, 0) :: b) := by
        rw [← hset]
        refine (hJ.keep SG).set a.length ?_
        rw [← hG, upd_ne tqra]
        exact upd_same
      have hhaG : G ha = some (.lst (hv (a ++ j :: b))) := by
        have z : ra ≠ ha := fun z => by rw [z, hha] at hra; cases hra
        rw [← hG, upd_ne (Ne.symm z)]
        exact St _ _ (Sr _ _ hha)
      have hjn2 : ∀ x ∈ a ++ (j.1, j.1, 0) :: b, x.1 ∈ ns ∧ x.2.1 ∈ ns := fun x hx => by
        have hj1 := hjn j (by simp)
        rcases List.mem_append.mp hx with z | z
        · exact hjn x (List.mem_append_left _ z)
        · rcases List.mem_cons.mp z with z | z
          · rw [z]; exact ⟨hj1.1, hj1.1⟩
          · exact hjn x (List.mem_append_right _ (List.mem_cons_of_mem _ z))
      refine ⟨_, rfl, _, rfl, na, ra, ns, _, _, rfl, Same.sqA SG hN, .inl (SqL.of hraG), hJG, hjn2, hnl, by rw [List.length_set]; exact hxl, fun hb H3 S3 hhb0 hhb => ?_⟩
      have hha3 := S3 _ _ hhaG
      refine ⟨hb, rfl, ⟨_, SqL.of hhb⟩, for_list (K := K) (a := hb) (xs := hv (a ++ (j.1, j.1, 0) :: b)) (fun i σ G' => ∃ x6, σ = [some (.ref na), some (.ref ja), some (.int (a.length : Int)), some (.ref ha), some (.ref ra), some (.str j.1), x6] ∧ G' = H3 ∧ ∀ m ∈ (heldM (a ++ (j.1, j.1, 0) :: b)).take i, m ∈ heldM (a ++ j :: b))
        ⟨_, rfl, rfl, fun m h => by simp at h⟩ (fun i σ G' _ ⟨_, _, hg, _⟩ => by rw [hg]; exact SqL.of hhb) ?_ ?_⟩
      · rintro i x σ G' hi ⟨x6, rfl, rfl, hall⟩
        unfold hv at hi
        rw [List.getElem?_map] at hi
        cases hm : (heldM (a ++ (j.1, j.1, 0) :: b))[i]? with
        | none => rw [hm] at hi; cases hi
        | some m =>
          rw [hm] at hi
          cases hi
          refine ⟨_, rfl, _, rfl, ha, _, rfl, .inl (SqL.of hha3), rfl, flat_hv _, _, rfl, ?_⟩
          by_cases hmh : m ∈ heldM (a ++ j :: b)
          · rw [show (if true then !inV (.int (m : Int)) (hv (a ++ j :: b)) else inV (.int (m : Int)) (hv (a ++ j :: b))) = false by rw [in_hv.mpr hmh]; rfl]
            refine iteF ⟨_, rfl, rfl, fun y hy => ?_⟩
            rw [take_snoc hm] at hy
            rcases List.mem_append.mp hy with z | z
            · exact hall y z
            · rw [List.mem_singleton.mp z]; exact hmh
          · rw [show (if true then !inV (.int (m : Int)) (hv (a ++ j :: b)) else inV (.int (m : Int)) (hv (a ++ j :: b))) = true by
              cases e : inV (.int (m : Int)) (hv (a ++ j :: b)) with
              | true => exact absurd (in_hv.mp e) hmh
              | false => rfl]
            exact iteT ⟨_, rfl, q _ _ (SG.trans S3) (.inr ⟨hin, .inl ⟨m, List.mem_of_getElem? hm, hmh, rfl⟩⟩)⟩
      · rintro σ G' ⟨x6, rfl, rfl, hall⟩
        unfold hv at hall
        rw [List.length_map, List.take_length] at hall
        exact q _ _ (SG.trans S3) (.inr ⟨hin, .inr ⟨hall, rfl⟩⟩)
    · rw [show (if true then !inV (.int (a.length : Int)) (hv (a ++ j :: b)) else inV (.int (a.length : Int)) (hv (a ++ j :: b))) = true by
        cases e : inV (.int (a.length : Int)) (hv (a ++ j :: b)) with
        | true => exact absurd (in_hv.mp e) hin
        | false => rfl]
      exact iteT ⟨_, rfl, q _ _ S1 (.inl ⟨hin, rfl⟩)⟩
end
end Jb

set_option Elab.async false
set_option linter.all false
set_option maxRecDepth 100000
set_option maxHeartbeats 4000000
namespace Jb
open PySem PySem.Spec PyProof.Rows L2

theorem cut_take (xs : List V) (i : Nat) (h : i ≤ xs.length) : cutV xs none (some (i : Int)) = xs.take i := by
  unfold cutV HT.sIx
  dsimp only
  rw [if_neg (by omega), List.drop_zero, Nat.sub_zero, Int.toNat_natCast, Nat.min_eq_left h]
theorem cut_drop (xs : List V) (i : Nat) (h : i ≤ xs.length) : cutV xs (some (i : Int)) none = xs.drop i := by
  unfold cutV HT.sIx
  dsimp only
  rw [if_neg (by omega), Int.toNat_natCast, Nat.min_eq_left h, ← List.length_drop, List.take_length]
theorem JnAt.less {H : Hp} {xs : List V} {a b : List Jn} {j : Jn} (h : JnAt H xs (a ++ j :: b)) : JnAt H (xs.take a.length ++ xs.drop (a.length + 1)) (a ++ b) := by
  have z := (h.take a.length).app (h.drop (a.length + 1))
  have e1 : (a ++ j :: b).take a.length = a := by simp
  have e2 : (a ++ j :: b).drop (a.length + 1) = b := by
    rw [List.drop_append]
    simp
  rw [e1, e2] at z
  exact z
def shf (n m : Nat) : Nat := if n ≤ m then m + 1 else m
theorem hv_back (a b : List Jn) (x : Str) (s : Int) : hv (a ++ (x, x, s) :: b) = (heldM (a ++ b)).map fun m : Nat => V.int ((shf a.length m : Nat) : Int) := by
  unfold hv
  rw [held_back, List.map_map]
  rfl
theorem shf_snoc {js : List Jn} {n i : Nat} (h : i < (heldM js).length) : ((heldM js).take i).map (fun m : Nat => V.int ((shf n m : Nat) : Int)) ++ [(fun i j : Int => V.int (i + j)) (((heldM js)[i] : Nat) : Int) (if decide ((n : Int) ≤ (((heldM js)[i] : Nat) : Int)) = true then 1 else 0)] = ((heldM js).take (i + 1)).map fun m : Nat => V.int ((shf n m : Nat) : Int) := by
  rw [take_snoc (List.getElem?_eq_getElem h), List.map_append]
  congr 1
  show [V.int _] = [V.int _]
  congr 2
  unfold shf
  by_cases c : n ≤ (heldM js)[i]
  · rw [if_pos c, if_pos (decide_eq_true (by omega))]
    omega
  · rw [if_neg c, if_neg (by simp; omega)]
    omega
theorem hv_len (js : List Jn) : (hv js).length ≤ js.length := by
  unfold hv
  rw [List.length_map]
  exact held_len js
section
variable {P : Program} {w : World} {K : PySem.W.Frag} {mg : Str → Option Value} {base : Heap}

def spWithout : Sp := fun vs H Q _ => ∃ (ja : Addr) (xs : List V) (a b : List Jn) (j : Jn), vs = [.ref ja, .int (a.length : Int)] ∧ H ja = some (.lst xs) ∧ JnAt H xs (a ++ j :: b) ∧ xs.length ≤ 1000 ∧ ∀ la H', Same H H' → H la = none → H' la = some (.lst (hv (a ++ (j.1, j.1, 0) :: b))) → Q (.ref la) H'
def csc_law_without_1 : Scope := { kind := PySem.ScopeKind.function, names := [ (PySem.Str.ofString ".0", PySem.NameKind.local), (PySem.Str.ofString "_law_number", PySem.NameKind.local), (PySem.Str.ofString "int", PySem.NameKind.globalImplicit), (PySem.Str.ofString "_law_n", PySem.NameKind.free)], isGenerator := false, isCoroutine := false, more := [] : PySem.Scope }
theorem nd_law_without_1 : (["_law_number", "_law_n"] : List Str).Nodup := by decide +kernel
theorem co_law_without_1 : CompOk (defScope s_law_without) ["_law_joinings_here", "_law_n", "_law_held"] ["_law_number", "_law_n"] csc_law_without_1 [none, some 1] := ⟨rfl, by decide +kernel, by decide +kernel, by decide +kernel, rfl, by decide +kernel⟩
theorem sc_law_without : FnScope ["_law_joinings_here", "_law_n", "_law_held"] ["_law_joinings_here", "_law_n"] (defScope s_law_without) := ⟨rfl, rfl, rfl, by decide +kernel, rfl, by decide +kernel, by decide +kernel⟩

theorem ok_without {f : Addr} {fd : FuncData} (F : Fun K "_law_without" "_law_without" s_law_without f fd) (B : Blt mg) (c_law_holding : Cal P w K mg base 1 "_law_holding" ["_law_joinings_here"] spHolding) : FnOk P w K mg base CX0 2 f fd ["_law_joinings_here", "_law_n"] spWithout := by
  have nd := sc_law_without.nd
  refine F.okS sc_law_without (fun vs H Q E h => ?_) (fun cdv A outer s H vs Q E hr h => ?_)
  · obtain ⟨ja, xs, a, b, j, rfl, _⟩ := h
    rfl
  · obtain ⟨ja, xs, a, b, j, rfl, hja, hJ, hxl, q⟩ := h
    have hsl : 200000 ≤ sizeLine := by decide
    have hlen : xs.length = a.length + (b.length + 1) := by rw [hJ.1, List.length_append, List.length_cons]
    refine ⟨_, (qpss_cons (qps_set (i := 2) nd rfl (Or.inl rfl) (qpe_cal c_law_holding (hr.mono (by decide)) rfl (qpa_cons (qpe_op op_cat (qpe_slice sl_list (qpv 0) qpo_none (qpo_some (qpv 1))) (qpe_slice sl_list (qpv 0) (qpo_some (qpe_op op_add (qpv 1) qpe_int)) qpo_none)) qpa_nil)))
      (qpss_one (qps_ret (qpe_comp rfl rfl co_law_without_1 (qpi_list (qpv 2)) (fun C s₂ H fp => (qpg_name (i := 0) nd_law_without_1 rfl (Or.inl rfl))) (fun C s₂ H fp => qpts_nil) (fun C s₂ H fp => (qpe_op op_add (qpv 0) (qpe_callTy call_int1 (by rfl) B.int_ boot_int (qpa_cons (qpe_cmpR op_ge (qpv 0) (qpv 1) (nomark _)) qpa_nil)))))))), ?_⟩
    refine ⟨_, rfl, _, rfl, _, rfl, ?_⟩
    dsimp only [tNoPart]
    refine ⟨ja, xs, rfl, SqL.of hja, fun p1 hp1 => ?_⟩
    have T1 := Same.new (o := .lst (cutV xs none (some (a.length : Int)))) hp1
    refine ⟨_, rfl, _, rfl, _, _, rfl, rfl, _, rfl, ?_⟩
    dsimp only [tNoPart]
    refine ⟨ja, xs, rfl, SqL.of (T1 _ _ hja), fun p2 hp2 => ?_⟩
    have T2 := Same.new (o := .lst (cutV xs (some ((a.length : Int) + 1)) none)) hp2
    have c1 := cut_take xs a.length (by omega)
    have c2 : cutV xs (some ((a.length : Int) + 1)) none = xs.drop (a.length + 1) := by rw [show (a.length : Int) + 1 = ((a.length + 1 : Nat) : Int) by omega]; exact cut_drop xs (a.length + 1) (by omega)
    refine ⟨p1, p2, _, _, rfl, rfl, T2 _ _ upd_same, upd_same, by rw [c1, c2, List.length_take, List.length_drop]; omega, fun p3 hp3 => ?_⟩
    have T3 := Same.new (o := .lst (cutV xs none (some (a.length : Int)) ++ cutV xs (some ((a.length : Int) + 1)) none)) hp3
    have TA := (T1.trans T2).trans T3
    have zz := (hJ.keep TA).less
    rw [← c1, ← c2] at zz
    refine ⟨p3, _, a ++ b, rfl, upd_same, zz, by rw [c1, c2, List.length_append, List.length_take, List.length_drop]; omega, fun ha G S4 hha0 hha => ?_⟩
    have hab : (a ++ b).length ≤ 1000 := by rw [List.length_append]; omega
    have hvl := hv_len (a ++ b)
    refine ⟨_, rfl, ha, rfl, ⟨_, SqL.of hha⟩, comp_list (K := K) (a := ha) (xs := hv (a ++ b)) (fun i ys G' => G' = G ∧ ys = ((heldM (a ++ b)).take i).map fun m : Nat => V.int ((shf a.length m : Nat) : Int)) ⟨rfl, rfl⟩ (fun i ys G' _ hg => by rw [hg.1]; exact SqL.of hha) ?_ ?_⟩
    · rintro i x ys G' hi ⟨rfl, rfl⟩
      have hil : i < (heldM (a ++ b)).length := by have := (List.getElem?_eq_some_iff.mp hi).1; unfold hv at this; rw [List.length_map] at this; exact this
      have ex : x = .int (((heldM (a ++ b))[i] : Nat) : Int) := by unfold hv at hi; rw [List.getElem?_map, List.getElem?_eq_getElem hil] at hi; exact (Option.some.inj hi).symm
      subst ex
      have h1 := held_len (a ++ b)
      refine ⟨by rw [List.length_map, List.length_take]; omega, Kp.none (Kp.cons Kp.nil), tTrue_if ?_⟩
      refine ⟨_, rfl, _, rfl, _, rfl, _, _, rfl, rfl, .inr ⟨_, rfl, _, _, rfl, rfl, rfl, ?_⟩⟩
      exact shf_snoc hil
    · rintro ys G' ⟨rfl, rfl⟩
      have e : (hv (a ++ b)).length = (heldM (a ++ b)).length := by unfold hv; rw [List.length_map]
      rw [e, List.take_length, ← hv_back a b j.1 0]
      have h1 := held_len (a ++ b)
      refine ⟨by rw [hv_back, List.length_map]; omega, fun la hla => ?_⟩
      exact q la _ ((TA.trans S4).trans (Same.new hla)) (s_none (TA.trans S4) hla) upd_same
theorem place_one {a b : List Jn} {j : Jn} {N : List Str} (hN : ∀ x ∈ a ++ j :: b, x.1 ∈ N ∧ x.2.1 ∈ N) {v w : V} (h1 : PlaceIs (heldM (a ++ j :: b)) (heldM (a ++ (j.1, j.1, 0) :: b)) a.length v) (h2 : PlaceIs (heldM (a ++ j :: b)) (heldM (a ++ (j.1, j.1, 0) :: b)) a.length w) : v = w := by
  rcases h1 with ⟨g1, rfl⟩ | ⟨g1, h1⟩
  · rcases h2 with ⟨_, rfl⟩ | ⟨g2, _⟩
    · rfl
    · exact absurd g2 g1
  · rcases h2 with ⟨g2, _⟩ | ⟨_, h2⟩
    · exact absurd g1 g2
    · obtain ⟨_, _, u⟩ := one_new a b j 0 N hN g1
      rcases h1 with ⟨m, m1, m2, rfl⟩ | ⟨m1, rfl⟩
      · rcases h2 with ⟨k, k1, k2, rfl⟩ | ⟨k1, rfl⟩
        · rw [u m m1 k k1 m2 k2]
        · exact absurd (k1 m m1) m2
      · rcases h2 with ⟨k, k1, k2, rfl⟩ | ⟨k1, rfl⟩
        · exact absurd (m1 k k1) k2
        · rfl
def extra (v : V) : List Int := match v with
  | .int m => if m = -1 then [] else [m]
  | _ => []
def hI (js : List Jn) : List Int := (heldM js).map fun n : Nat => (n : Int)
theorem hv_ints (js : List Jn) : hv js = (hI js).map V.int := by
  unfold hv hI
  rw [List.map_map]
  rfl
def othersI (js : List Jn) (n : Nat) : List Int := ((heldM js).filter (fun m => !decide (m = n))).map fun m : Nat => (m : Int)
theorem hI_inc (js : List Jn) : (hI js).Pairwise (· < ·) := by
  unfold hI
  rw [List.pairwise_map]
  exact (held_inc js _ 0).imp fun h => by omega
/-- the others and the new one, sorted, are those that hold without it -/
theorem sorted_all {a b : List Jn} {j : Jn} {N : List Str} (hN : ∀ x ∈ a ++ j :: b, x.1 ∈ N ∧ x.2.1 ∈ N) {v : V} (h1 : PlaceIs (heldM (a ++ j :: b)) (heldM (a ++ (j.1, j.1, 0) :: b)) a.length v) (hn : a.length ∈ heldM (a ++ j :: b)) {ms : List Int}
    (pm : ms.Perm (othersI (a ++ j :: b) a.length ++ extra v)) (pw : ms.Pairwise (· ≤ ·)) : ms = hI (a ++ (j.1, j.1, 0) :: b) := by
  obtain ⟨u1, u2, u3⟩ := one_new a b j 0 N hN hn
  have mem : ∀ x : Int, x ∈ othersI (a ++ j :: b) a.length ++ extra v ↔ x ∈ hI (a ++ (j.1, j.1, 0) :: b) := fun x => by
    unfold othersI hI
    rw [List.mem_append, List.mem_map, List.mem_map]
    constructor
    · rintro (⟨m, hm, rfl⟩ | hx)
      · rw [List.mem_filter] at hm
        exact ⟨m, u1 m hm.1 (by simpa using hm.2), rfl⟩
      · rcases h1 with ⟨g1, _⟩ | ⟨_, ⟨m, m1, m2, rfl⟩ | ⟨_, rfl⟩⟩
        · exact absurd hn g1
        · unfold extra at hx
          dsimp only at hx
          rw [if_neg (by omega)] at hx
          rw [List.mem_singleton.mp hx]
          exact ⟨m, m1, rfl⟩
        · simp [extra] at hx
    · rintro ⟨m, hm, rfl⟩
      by_cases c : m ∈ heldM (a ++ j :: b)
      · exact .inl ⟨m, List.mem_filter.mpr ⟨c, by simp; intro z; rw [z] at hm; exact u2 hm⟩, rfl⟩
      · refine .inr ?_
        rcases h1 with ⟨g1, _⟩ | ⟨_, ⟨k, k1, k2, rfl⟩ | ⟨k1, rfl⟩⟩
        · exact absurd hn g1
        · rw [u3 m hm k k1 c k2]
          unfold extra
          dsimp only
          rw [if_neg (by omega)]
          exact List.mem_singleton.mpr rfl
        · exact absurd (k1 m hm) c
  have nd : (othersI (a ++ j :: b) a.length ++ extra v).Nodup := by
    refine List.nodup_append.mpr ⟨?_, ?_, ?_⟩
    · unfold othersI
      refine (List.pairwise_map.mpr ?_)
      exact ((held_nd (a ++ j :: b) (fun x => x) 0).filter _).imp fun h z => h (by omega)
    · unfold extra
      split
      · split <;> simp
      · simp
    · intro x hx y hy z
      subst z
      unfold othersI at hx
      obtain ⟨m, hm, rfl⟩ := List.mem_map.mp hx
      rw [List.mem_filter] at hm
      rcases h1 with ⟨g1, _⟩ | ⟨_, ⟨k, k1, k2, rfl⟩ | ⟨_, rfl⟩⟩
      · exact absurd hn g1
      · unfold extra at hy
        dsimp only at hy
        rw [if_neg (by omega)] at hy
        have : m = k := by have := List.mem_singleton.mp hy; omega
        rw [this] at hm
        exact k2 hm.1
      · simp [extra] at hy
  refine inc_eq _ _ ?_ (hI_inc _) fun x => (pm.mem_iff).trans (mem x)
  have nd2 : ms.Nodup := pm.nodup_iff.mpr nd
  exact (List.Pairwise.and pw nd2).imp fun h => by omega
end
end Jb

set_option Elab.async false
set_option linter.all false
set_option maxRecDepth 100000
set_option maxHeartbeats 4000000
namespace Jb
open PySem PySem.Spec PyProof.Rows L2
section
variable {P : Program} {w : World} {K : PySem.W.Frag} {mg : Str → Option Value} {base : Heap}

def spRight : Sp := fun vs H Q _ => ∃ (na ja ha : Addr) (ns : List Str) (xs : List V) (a b : List Jn) (j : Jn), vs = [.ref na, .ref ja, .ref ha, .int (a.length : Int)] ∧ H na = some (.lst (ns.map V.str)) ∧ H ja = some (.lst xs) ∧ JnAt H xs (a ++ j :: b) ∧ (∀ x ∈ a ++ j :: b, x.1 ∈ ns ∧ x.2.1 ∈ ns) ∧ ns.length ≤ 14 ∧ xs.length ≤ 28 ∧ H ha = some (.lst (hv (a ++ j :: b))) ∧ ∀ H', Same H H' → Q (.bl true) H'
def csc_law_right_1 : Scope := { kind := PySem.ScopeKind.function, names := [ (PySem.Str.ofString ".0", PySem.NameKind.local), (PySem.Str.ofString "_law_number", PySem.NameKind.local), (PySem.Str.ofString "_law_n", PySem.NameKind.free)], isGenerator := false, isCoroutine := false, more := [] : PySem.Scope }
theorem nd_law_right_1 : (["_law_number", "_law_n"] : List Str).Nodup := by decide +kernel
theorem co_law_right_1 : CompOk (defScope s_law_right) ["_law_names_here", "_law_joinings_here", "_law_held", "_law_n", "_law_left", "_law_due", "_law_number", "_law_others", "_law_found", "_law_told"] ["_law_number", "_law_n"] csc_law_right_1 [none, some 3] := ⟨rfl, by decide +kernel, by decide +kernel, by decide +kernel, rfl, by decide +kernel⟩
def csc_law_right_2 : Scope := { kind := PySem.ScopeKind.function, names := [ (PySem.Str.ofString ".0", PySem.NameKind.local), (PySem.Str.ofString "_law_number", PySem.NameKind.local), (PySem.Str.ofString "int", PySem.NameKind.globalImplicit), (PySem.Str.ofString "_law_n", PySem.NameKind.free)], isGenerator := false, isCoroutine := false, more := [] : PySem.Scope }
theorem nd_law_right_2 : (["_law_number", "_law_n"] : List Str).Nodup := by decide +kernel
theorem co_law_right_2 : CompOk (defScope s_law_right) ["_law_names_here", "_law_joinings_here", "_law_held", "_law_n", "_law_left", "_law_due", "_law_number", "_law_others", "_law_found", "_law_told"] ["_law_number", "_law_n"] csc_law_right_2 [none, some 3] := ⟨rfl, by decide +kernel, by decide +kernel, by decide +kernel, rfl, by decide +kernel⟩
theorem sc_law_right : FnScope ["_law_names_here", "_law_joinings_here", "_law_held", "_law_n", "_law_left", "_law_due", "_law_number", "_law_others", "_law_found", "_law_told"] ["_law_names_here", "_law_joinings_here", "_law_held", "_law_n"] (defScope s_law_right) := ⟨rfl, rfl, rfl, by decide +kernel, rfl, by decide +kernel, by decide +kernel⟩

theorem ok_right {f : Addr} {fd : FuncData} (F : Fun K "_law_right" "_law_right" s_law_right f fd) (B : Blt mg) (c_law_without : Cal P w K mg base 2 "_law_without" ["_law_joinings_here", "_law_n"] spWithout)
    (c_in_place_of : Cal P w K mg base 2 "in_place_of" ["names", "joinings", "n"] (spPlace K)) (c_eldest : Cal P w K mg base 1 "eldest" ["names", "joinings"] (spEldest K)) : FnOk P w K mg base CX0 3 f fd ["_law_names_here", "_law_joinings_here", "_law_held", "_law_n"] spRight := by
  have nd := sc_law_right.nd
  refine F.okS sc_law_right (fun vs H Q E h => ?_) (fun cdv A outer s H vs Q E hr h => ?_)
  · obtain ⟨na, ja, ha, ns, xs, a, b, j, rfl, _⟩ := h
    rfl
  · obtain ⟨na, ja, ha, ns, xs, a, b, j, rfl, hna, hja, hJ, hjn, hnl, hxl, hha, q⟩ := h
    have hsl : 200000 ≤ sizeLine := by decide
    have hlen : xs.length = a.length + (b.length + 1) := by rw [hJ.1, List.length_append, List.length_cons]
    have l1 : (heldM (a ++ j :: b)).length ≤ 28 := by have := held_len (a ++ j :: b); rw [← hJ.1] at this; omega
    have l2 : (heldM (a ++ (j.1, j.1, 0) :: b)).length ≤ 28 := by have := held_len (a ++ (j.1, j.1, 0) :: b); rw [List.length_append, List.length_cons] at this; omega
    have hge : ∀ m ∈ heldM (a ++ (j.1, j.1, 0) :: b), m < 28 := fun m hm => by have := held_ge _ _ _ _ hm; rw [List.length_append, List.length_cons] at this; omega
    refine ⟨_, (qpss_cons (qps_set (i := 4) nd rfl (Or.inl rfl) (qpe_cal c_law_without (hr.mono (by decide)) rfl (qpa_cons (qpv 1) (qpa_cons (qpv 3) qpa_nil))))
      (qpss_cons (qps_set (i := 5) nd rfl (Or.inl rfl) (qpe_un un_neg qpe_int))
      (qpss_cut (qps_if (qpt_cmpR op_in_seq (qpv 3) (qpv 2) (by with_unfolding_all rfl)) (qpss_cons (qps_set (i := 5) nd rfl (Or.inl rfl) qpe_non)
      (qpss_one (qps_for PassesOwn.never rfl (qpi_list (qpv 4)) (qpg_name (i := 6) nd rfl (Or.inl rfl)) (qpss_one (qps_if (qpt_cmpR op_notIn_seq (qpv 6) (qpv 2) (by with_unfolding_all rfl)) (qpss_one (qps_set (i := 5) nd rfl (Or.inl rfl) (qpv 6))) qpss_nil))))) qpss_nil)
      (qpss_cons (qps_setC rfl rfl (i := 7) nd rfl (Or.inl rfl) co_law_right_1 (qpi_list (qpv 2)) (fun C s₂ H fp => (qpg_name (i := 0) nd_law_right_1 rfl (Or.inl rfl))) (fun C s₂ H fp => qpts_one (qpt_cmpR op_ne (qpv 0) (qpv 1) (nomark _))) (fun C s₂ H fp => (qpv 0)))
      (qpss_cut (qps_if (qPWpt (qpw_and (qpt_cmpR op_neD (qpe_callB call_sorted (by rfl) B.sorted boot_sorted (qpa_cons (qpe_op op_cat (qpv 7) (qpe_op op_rep (qpe_lst (qpa_cons (qpv 5) qpa_nil)) (qpe_mid (qpe_callTy call_int1 (by rfl) B.int_ boot_int (qpa_cons (qpe_and (qpe_cmpR op_notN (qpv 5) qpe_non (nomark _)) (qpe_one (qpe_cmpR op_ne (qpv 5) (qpe_un un_neg qpe_int) (nomark _)))) qpa_nil))))) qpa_nil)) (qpv 4) (nomark _)) (qpw_and1 (qpt_cmpR op_in_seq (qpv 3) (qpv 2) (by with_unfolding_all rfl))))) (qpss_one (qps_ret qpe_bl)) qpss_nil)
      (qpss_cons (qps_for PassesOwn.never rfl (qpi_tup (qpe_tup (qpa_cons (qpe_cal c_in_place_of (hr.mono (by decide)) rfl (qpa_cons (qpv 0) (qpa_cons (qpv 1) (qpa_cons (qpv 3) qpa_nil)))) (qpa_cons (qpe_cal c_in_place_of (hr.mono (by decide)) rfl (qpa_cons (qpe_callTy call_tuple_of (by rfl) B.tuple boot_tuple (qpa_cons (qpv 0) qpa_nil)) (qpa_cons (qpe_callTy call_tuple_of (by rfl) B.tuple boot_tuple (qpa_cons (qpv 1) qpa_nil)) (qpa_cons (qpv 3) qpa_nil)))) qpa_nil)))) (qpg_name (i := 8) nd rfl (Or.inl rfl)) (qpss_one (qps_if (qpt_cmpR op_ne (qpe_callB call_repr1 (by rfl) B.repr boot_repr (qpa_cons (qpv 8) qpa_nil)) (qpe_callB call_repr1 (by rfl) B.repr boot_repr (qpa_cons (qpv 5) qpa_nil)) (nomark _)) (qpss_one (qps_ret qpe_bl)) qpss_nil)))
      (qpss_cons (qps_set (i := 9) nd rfl (Or.inl rfl) (qpe_cal c_eldest (hr.mono (by decide)) rfl (qpa_cons (qpv 0) (qpa_cons (qpe_op op_cat (qpe_slice sl_list (qpv 1) qpo_none (qpo_some (qpv 3))) (qpe_slice sl_list (qpv 1) (qpo_some (qpe_op op_add (qpv 3) qpe_int)) qpo_none)) qpa_nil))))
      (qpss_one (qps_ret (qpe_cmpR op_eqD (qpe_comp rfl rfl co_law_right_2 (qpi_list (qpv 9)) (fun C s₂ H fp => (qpg_name (i := 0) nd_law_right_2 rfl (Or.inl rfl))) (fun C s₂ H fp => qpts_nil) (fun C s₂ H fp => (qpe_op op_add (qpv 0) (qpe_callTy call_int1 (by rfl) B.int_ boot_int (qpa_cons (qpe_cmpR op_ge (qpv 0) (qpv 1) (nomark _)) qpa_nil))))) (qpv 4) (nomark _))))))))))), ?_⟩
    refine ⟨_, rfl, _, rfl, ja, xs, a, b, j, rfl, hja, hJ, by omega, fun la H1 S1 hla0 hla => ?_⟩
    refine ⟨_, rfl, ?_⟩
    have hha1 := S1 _ _ hha
    refine ⟨fun σ G => ∃ (due : V) (x6 x7 x8 x9 : Option V), σ = [some (.ref na), some (.ref ja), some (.ref ha), some (.int (a.length : Int)), some (.ref la), some due, x6, x7, x8, x9] ∧ G = H1 ∧ PlaceIs (heldM (a ++ j :: b)) (heldM (a ++ (j.1, j.1, 0) :: b)) a.length due, ?_, ?_⟩
    · refine ⟨_, rfl, _, rfl, ha, _, rfl, .inl (SqL.of hha1), rfl, flat_hv _, _, rfl, ?_⟩
      by_cases hin : a.length ∈ heldM (a ++ j :: b)
      · rw [show (if false then !inV (.int (a.length : Int)) (hv (a ++ j :: b)) else inV (.int (a.length : Int)) (hv (a ++ j :: b))) = true from in_hv.mpr hin]
        refine iteT ⟨_, rfl, la, rfl, ⟨_, SqL.of hla⟩, for_list (K := K) (a := la) (xs := hv (a ++ (j.1, j.1, 0) :: b)) (fun i σ G' => ∃ (due : V) (x6 x7 x8 x9 : Option V), σ = [some (.ref na), some (.ref ja), some (.ref ha), some (.int (a.length : Int)), some (.ref la), some due, x6, x7, x8, x9] ∧ G' = H1 ∧ ((∃ m ∈ heldM (a ++ (j.1, j.1, 0) :: b), m ∉ heldM (a ++ j :: b) ∧ due = .int (m : Int)) ∨ ((∀ m ∈ (heldM (a ++ (j.1, j.1, 0) :: b)).take i, m ∈ heldM (a ++ j :: b)) ∧ due = .non)))
          ⟨_, _, _, _, _, rfl, rfl, .inr ⟨fun m h => by simp at h, rfl⟩⟩ (fun i σ G' _ ⟨_, _, _, _, _, _, hg, _⟩ => by rw [hg]; exact SqL.of hla) ?_ ?_⟩
        · rintro i x σ G' hi ⟨due, x6, x7, x8, x9, rfl, rfl, hd⟩
          unfold hv at hi
          rw [List.getElem?_map] at hi
          cases hm : (heldM (a ++ (j.1, j.1, 0) :: b))[i]? with
          | none => rw [hm] at hi; cases hi
          | some m =>
            rw [hm] at hi
            cases hi
            refine ⟨_, rfl, _, rfl, ha, _, rfl, .inl (SqL.of hha1), rfl, flat_hv _, _, rfl, ?_⟩
            by_cases hmh : m ∈ heldM (a ++ j :: b)
            · rw [show (if true then !inV (.int (m : Int)) (hv (a ++ j :: b)) else inV (.int (m : Int)) (hv (a ++ j :: b))) = false by rw [in_hv.mpr hmh]; rfl]
              refine iteF ⟨due, _, _, _, _, rfl, rfl, ?_⟩
              rcases hd with hd | ⟨hd, e⟩
              · exact .inl hd
              · refine .inr ⟨fun y hy => ?_, e⟩
                rw [take_snoc hm] at hy
                rcases List.mem_append.mp hy with z | z
                · exact hd y z
                · rw [List.mem_singleton.mp z]; exact hmh
            · rw [show (if true then !inV (.int (m : Int)) (hv (a ++ j :: b)) else inV (.int (m : Int)) (hv (a ++ j :: b))) = true by
                cases e : inV (.int (m : Int)) (hv (a ++ j :: b)) with
                | true => exact absurd (in_hv.mp e) hmh
                | false => rfl]
              exact iteT ⟨_, rfl, _, _, _, _, _, rfl, rfl, .inl ⟨m, List.mem_of_getElem? hm, hmh, rfl⟩⟩
        · rintro σ G' ⟨due, x6, x7, x8, x9, rfl, rfl, hd⟩
          refine ⟨due, _, _, _, _, rfl, rfl, .inr ⟨hin, ?_⟩⟩
          rcases hd with hd | ⟨hd, e⟩
          · exact .inl hd
          · unfold hv at hd
            rw [List.length_map, List.take_length] at hd
            exact .inr ⟨hd, e⟩
      · rw [show (if false then !inV (.int (a.length : Int)) (hv (a ++ j :: b)) else inV (.int (a.length : Int)) (hv (a ++ j :: b))) = false by
          cases e : inV (.int (a.length : Int)) (hv (a ++ j :: b)) with
          | true => exact absurd (in_hv.mp e) hin
          | false => rfl]
        exact iteF ⟨_, _, _, _, _, rfl, rfl, .inl ⟨hin, rfl⟩⟩
    rintro σ2 G2 ⟨due, x6, x7, x8, x9, rfl, rfl, hdue⟩
    refine ⟨_, rfl, ha, rfl, ⟨_, SqL.of hha1⟩, comp_list (K := K) (a := ha) (xs := hv (a ++ j :: b)) (fun i ys G' => G' = G2 ∧ ys = (((heldM (a ++ j :: b)).take i).filter (fun m => !decide (m = a.length))).map fun m : Nat => V.int (m : Int)) ⟨rfl, rfl⟩ (fun i ys G' _ hg => by rw [hg.1]; exact SqL.of hha1) ?_ ?_⟩
    · rintro i x ys G' hi ⟨rfl, rfl⟩
      have hil : i < (heldM (a ++ j :: b)).length := by have := (List.getElem?_eq_some_iff.mp hi).1; unfold hv at this; rw [List.length_map] at this; exact this
      have ex : x = .int (((heldM (a ++ j :: b))[i] : Nat) : Int) := by unfold hv at hi; rw [List.getElem?_map, List.getElem?_eq_getElem hil] at hi; exact (Option.some.inj hi).symm
      subst ex
      have hfl := List.length_filter_le (fun m => !decide (m = a.length)) ((heldM (a ++ j :: b)).take i)
      rw [List.length_take] at hfl
      refine ⟨by rw [List.length_map]; omega, Kp.none (Kp.cons Kp.nil), ?_⟩
      refine ⟨_, rfl, _, rfl, rfl, _, rfl, ?_⟩
      by_cases hm : (heldM (a ++ j :: b))[i] = a.length
      · refine iteNS (by rw [hm]) ⟨rfl, ?_⟩
        rw [take_snoc (List.getElem?_eq_getElem hil), List.filter_append, List.map_append]
        simp [hm]
      · refine iteN (fun z => hm (by have z : (((heldM (a ++ j :: b))[i] : Nat) : Int) = (a.length : Int) := by injection z
                                     omega)) ⟨_, rfl, rfl, ?_⟩
        rw [take_snoc (List.getElem?_eq_getElem hil), List.filter_append, List.map_append]
        simp [hm]
    · rintro ys G' ⟨rfl, rfl⟩
      have e : (hv (a ++ j :: b)).length = (heldM (a ++ j :: b)).length := by unfold hv; rw [List.length_map]
      rw [e, List.take_length]
      have hfl := List.length_filter_le (fun m => !decide (m = a.length)) (heldM (a ++ j :: b))
      have eo : ((heldM (a ++ j :: b)).filter (fun m => !decide (m = a.length))).map (fun m : Nat => V.int (m : Int)) = (othersI (a ++ j :: b) a.length).map V.int := by
        unfold othersI
        rw [List.map_map]
        rfl
      rw [eo]
      have ol : (othersI (a ++ j :: b) a.length).length ≤ 28 := by unfold othersI; rw [List.length_map]; omega
      refine ⟨by rw [List.length_map]; omega, fun oa hoa => ?_⟩
      have V1 := Same.new (o := .lst ((othersI (a ++ j :: b) a.length).map V.int)) hoa
      have hla1 := V1 _ _ hla
      have hha2 := V1 _ _ hha1
      have exl : (extra due).length ≤ 1 := by unfold extra; split; split <;> simp; simp
      refine ⟨fun σ G => σ = [some (.ref na), some (.ref ja), some (.ref ha), some (.int (a.length : Int)), some (.ref la), some due, x6, some (.ref oa), x8, x9] ∧ Same (upd G' oa (.lst ((othersI (a ++ j :: b) a.length).map V.int))) G, ?_, ?_⟩
      · refine ⟨_, rfl, _, rfl, (by show 1 ≤ sizeLine; decide), fun l1 hl1 => ?_⟩
        have W1 := Same.new (o := .lst [due]) hl1
        refine ⟨fun v G => v = .int ((extra due).length : Int) ∧ G = upd (upd G' oa (.lst ((othersI (a ++ j :: b) a.length).map V.int))) l1 (.lst [due]), ?_, ?_⟩
        · rcases hdue with ⟨_, rfl⟩ | ⟨_, ⟨m, _, _, rfl⟩ | ⟨_, rfl⟩⟩
          · exact ⟨_, rfl, rfl, _, rfl, iteT ⟨_, rfl, _, rfl, rfl, .inr ⟨_, rfl, rfl, rfl⟩⟩⟩
          · refine ⟨_, rfl, rfl, _, rfl, iteT ⟨_, rfl, _, rfl, rfl, .inr ⟨_, rfl, ?_, rfl⟩⟩⟩
            have e1 : extra (.int (m : Int)) = [(m : Int)] := by unfold extra; dsimp only; rw [if_neg (by omega)]
            rw [e1]
            have e2 : (!decide (V.int (m : Int) = V.int (-1))) = true := by
              have : ¬ V.int (m : Int) = V.int (-1) := fun z => by have z : (m : Int) = -1 := by injection z
                                                                   omega
              rw [decide_eq_false this]; rfl
            show V.int (if (!decide (V.int (m : Int) = V.int (-1))) = true then 1 else 0) = _
            rw [if_pos e2]
            rfl
          · exact ⟨_, rfl, rfl, _, rfl, iteF (.inr ⟨_, rfl, rfl, rfl⟩)⟩
        rintro v G ⟨rfl, rfl⟩
        refine ⟨l1, _, [due], rfl, rfl, upd_same, by omega, by omega, by rw [Int.toNat_natCast]; show 1 * _ ≤ _; omega, fun l2 hl2 => ?_⟩
        rw [Int.toNat_natCast]
        have er : (List.replicate (extra due).length [due]).flatten = (extra due).map V.int := by
          unfold extra
          split
          · split
            · rfl
            · rfl
          · rfl
        rw [er]
        have W2 := Same.new (o := .lst ((extra due).map V.int)) hl2
        refine ⟨oa, l2, _, _, rfl, rfl, W2 _ _ (W1 _ _ upd_same), upd_same, by rw [List.length_map, List.length_map]; omega, fun l3 hl3 => ?_⟩
        rw [← List.map_append]
        have W3 := Same.new (o := .lst ((othersI (a ++ j :: b) a.length ++ extra due).map V.int)) hl3
        refine ⟨l3, _, rfl, SqL.of upd_same, by rw [List.length_append]; omega, fun ms pm pw sa hsa => ?_⟩
        have W4 := Same.new (o := .lst (ms.map V.int)) hsa
        have WA := ((W1.trans W2).trans W3).trans W4
        have hla4 := WA _ _ hla1
        have hha4 := WA _ _ hha2
        refine ⟨_, rfl, .lst (ms.map Dt.int), .lst ((hI (a ++ (j.1, j.1, 0) :: b)).map Dt.int), ⟨sa, _, rfl, SqL.of upd_same, brs_ints ms⟩, ⟨la, _, rfl, SqL.of hla4, by rw [hv_ints]; exact brs_ints _⟩, Room_dp hr (by unfold dp; rw [dp_ints]; decide), Room_dp hr (by unfold dp; rw [dp_ints]; decide), _, rfl, ?_⟩
        by_cases hin : a.length ∈ heldM (a ++ j :: b)
        · rw [show eqD (.lst (ms.map Dt.int)) (.lst ((hI (a ++ (j.1, j.1, 0) :: b)).map Dt.int)) = true by rw [sorted_all hjn hdue hin pm pw]; exact eqD_refl _]
          exact iteF (iteF ⟨rfl, WA⟩)
        · refine ite2 (fun _ => ?_) (fun _ => iteF ⟨rfl, WA⟩)
          refine ⟨_, rfl, _, rfl, ha, _, rfl, .inl (SqL.of hha4), rfl, flat_hv _, _, rfl, ?_⟩
          rw [show (if false then !inV (.int (a.length : Int)) (hv (a ++ j :: b)) else inV (.int (a.length : Int)) (hv (a ++ j :: b))) = false by
            cases e : inV (.int (a.length : Int)) (hv (a ++ j :: b)) with
            | true => exact absurd (in_hv.mp e) hin
            | false => rfl]
          exact iteF ⟨rfl, WA⟩
      rintro σ3 G3 ⟨rfl, S3⟩
      have SA := (S1.trans V1).trans S3
      have hla3 := S3 _ _ hla1
      refine ⟨_, rfl, _, rfl, _, rfl, na, ja, ns, xs, a, b, j, rfl, .inl (SqL.of (SA _ _ hna)), .inl (SqL.of (SA _ _ hja)), hJ.keep SA, hjn, by omega, by omega, fun v1 G4 S4 hv1 => ?_⟩
      have SB := SA.trans S4
      refine ⟨_, rfl, na, _, rfl, .inl ⟨SqL.of (SB _ _ hna), fun tn htn => ?_⟩⟩
      have Y1 := Same.new (o := .tup (ns.map V.str)) htn
      refine ⟨_, rfl, ja, _, rfl, .inl ⟨SqL.of (Y1 _ _ (SB _ _ hja)), fun tj htj => ?_⟩⟩
      have Y2 := Same.new (o := .tup xs) htj
      have SC := (SB.trans Y1).trans Y2
      refine ⟨_, rfl, tn, tj, ns, xs, a, b, j, rfl, .inr (SqT.of (Y2 _ _ upd_same)), .inr (SqT.of upd_same), hJ.keep SC, hjn, by omega, by omega, fun v2 G5 S5 hv2 => ?_⟩
      have SD := SC.trans S5
      refine ⟨(by show 2 ≤ sizeLine; decide), fun tt htt => ?_⟩
      have Y3 := Same.new (o := .tup [v1, v2]) htt
      have ev1 := place_one hjn hv1 hdue
      have ev2 := place_one hjn hv2 hdue
      rw [ev1, ev2] at Y3 ⊢
      have SE := SD.trans Y3
      have hla6 := Y3 _ _ (S5 _ _ (Y2 _ _ (Y1 _ _ (S4 _ _ hla3))))
      refine ⟨tt, rfl, ⟨_, SqT.of upd_same⟩, for_tup (K := K) (a := tt) (xs := [due, due]) (fun n σ G => ∃ y8, σ = [some (.ref na), some (.ref ja), some (.ref ha), some (.int (a.length : Int)), some (.ref la), some due, x6, some (.ref oa), y8, x9] ∧ G = upd G5 tt (.tup [due, due])) ⟨_, rfl, rfl⟩ (fun n σ G _ ⟨_, _, hg⟩ => by rw [hg]; exact SqT.of upd_same) ?_ ?_⟩
      · rintro n x σ G hn ⟨y8, rfl, rfl⟩
        have ex : x = due := by
          match n, hn with
          | 0, hn => exact (Option.some.inj hn).symm
          | 1, hn => exact (Option.some.inj hn).symm
        subst ex
        rcases hdue with ⟨_, rfl⟩ | ⟨_, ⟨m, m1, _, rfl⟩ | ⟨_, rfl⟩⟩
        · exact ⟨_, rfl, .inl ⟨-1, rfl, by decide, _, rfl, .inl ⟨-1, rfl, by decide, rfl, _, rfl, iteNS rfl ⟨_, rfl, rfl⟩⟩⟩⟩
        · have hm := hge m m1
          exact ⟨_, rfl, .inl ⟨m, rfl, by omega, _, rfl, .inl ⟨m, rfl, by omega, rfl, _, rfl, iteNS rfl ⟨_, rfl, rfl⟩⟩⟩⟩
        · exact ⟨_, rfl, .inr ⟨rfl, _, rfl, .inr ⟨rfl, rfl, _, rfl, iteNS rfl ⟨_, rfl, rfl⟩⟩⟩⟩
      rintro σ6 G6 ⟨y8, rfl, rfl⟩
      refine ⟨_, rfl, _, rfl, _, rfl, _, rfl, ?_⟩
      dsimp only [tNoPart]
      refine ⟨ja, xs, rfl, SqL.of (SE _ _ hja), fun p1 hp1 => ?_⟩
      have T1 := Same.new (o := .lst (cutV xs none (some (a.length : Int)))) hp1
      refine ⟨_, rfl, _, rfl, _, _, rfl, rfl, _, rfl, ?_⟩
      dsimp only [tNoPart]
      refine ⟨ja, xs, rfl, SqL.of (T1 _ _ (SE _ _ hja)), fun p2 hp2 => ?_⟩
      have T2 := Same.new (o := .lst (cutV xs (some ((a.length : Int) + 1)) none)) hp2
      have c1 := cut_take xs a.length (by omega)
      have c2 : cutV xs (some ((a.length : Int) + 1)) none = xs.drop (a.length + 1) := by rw [show (a.length : Int) + 1 = ((a.length + 1 : Nat) : Int) by omega]; exact cut_drop xs (a.length + 1) (by omega)
      refine ⟨p1, p2, _, _, rfl, rfl, T2 _ _ upd_same, upd_same, by rw [c1, c2, List.length_take, List.length_drop]; omega, fun p3 hp3 => ?_⟩
      have T3 := Same.new (o := .lst (cutV xs none (some (a.length : Int)) ++ cutV xs (some ((a.length : Int) + 1)) none)) hp3
      have TA := SE.trans ((T1.trans T2).trans T3)
      have zz := (hJ.keep TA).less
      rw [← c1, ← c2] at zz
      refine ⟨na, p3, ns, _, a ++ b, rfl, .inl (SqL.of (TA _ _ hna)), .inl (SqL.of upd_same), zz, fun x hx => ?_, by omega, by rw [c1, c2, List.length_append, List.length_take, List.length_drop]; omega, fun tb G7 S7 htb0 htb => ?_⟩
      · rcases List.mem_append.mp hx with z | z
        · exact hjn x (List.mem_append_left _ z)
        · exact hjn x (List.mem_append_right _ (List.mem_cons_of_mem _ z))
      have hla7 := S7 _ _ (((T1.trans T2).trans T3) _ _ hla6)
      have h1 := held_len (a ++ b)
      have hab : (a ++ b).length ≤ 1000 := by rw [List.length_append]; omega
      refine ⟨_, rfl, tb, rfl, ⟨_, SqL.of htb⟩, comp_list (K := K) (a := tb) (xs := hv (a ++ b)) (fun i ys G' => G' = G7 ∧ ys = ((heldM (a ++ b)).take i).map fun m : Nat => V.int ((shf a.length m : Nat) : Int)) ⟨rfl, rfl⟩ (fun i ys G' _ hg => by rw [hg.1]; exact SqL.of htb) ?_ ?_⟩
      · rintro i x ys G' hi ⟨rfl, rfl⟩
        have hil : i < (heldM (a ++ b)).length := by have := (List.getElem?_eq_some_iff.mp hi).1; unfold hv at this; rw [List.length_map] at this; exact this
        have ex : x = .int (((heldM (a ++ b))[i] : Nat) : Int) := by unfold hv at hi; rw [List.getElem?_map, List.getElem?_eq_getElem hil] at hi; exact (Option.some.inj hi).symm
        subst ex
        refine ⟨by rw [List.length_map, List.length_take]; omega, Kp.none (Kp.cons Kp.nil), tTrue_if ?_⟩
        refine ⟨_, rfl, _, rfl, _, rfl, _, _, rfl, rfl, .inr ⟨_, rfl, _, _, rfl, rfl, rfl, ?_⟩⟩
        exact shf_snoc hil
      · rintro ys G' ⟨rfl, rfl⟩
        have e : (hv (a ++ b)).length = (heldM (a ++ b)).length := by unfold hv; rw [List.length_map]
        rw [e, List.take_length, ← hv_back a b j.1 0]
        refine ⟨by rw [hv_back, List.length_map]; omega, fun lz hlz => ?_⟩
        have Sz := Same.new (o := .lst (hv (a ++ (j.1, j.1, 0) :: b))) hlz
        refine ⟨_, rfl, .lst ((hI (a ++ (j.1, j.1, 0) :: b)).map Dt.int), .lst ((hI (a ++ (j.1, j.1, 0) :: b)).map Dt.int), ⟨lz, _, rfl, SqL.of upd_same, by rw [hv_ints]; exact brs_ints _⟩, ⟨la, _, rfl, SqL.of (Sz _ _ hla7), by rw [hv_ints]; exact brs_ints _⟩, Room_dp hr (by unfold dp; rw [dp_ints]; decide), Room_dp hr (by unfold dp; rw [dp_ints]; decide), ?_⟩
        rw [eqD_refl]
        exact q _ ((TA.trans S7).trans Sz)
end
end Jb

set_option Elab.async false
set_option linter.all false
set_option maxRecDepth 100000
set_option maxHeartbeats 4000000
namespace Jb
open PySem PySem.Spec PyProof.Rows L2

def rLen (K : PySem.W.Frag) : List V → Hp → VK → Prop := fun xs H Q => ∃ p ys, xs = [.ref p] ∧ (SqL K H p ys ∨ SqT K H p ys) ∧ Q (.int (List.length ys : Nat)) H
theorem lenK {X : Cx} : CallR X (.builtin "len") (rLen X.K) := call_len_seq
section
variable {P : Program} {w : World} {K : PySem.W.Frag} {mg : Str → Option Value} {base : Heap}

def spLaw (K : PySem.W.Frag) : Sp := fun vs H Q _ => ∃ (a : Addr) (ns : List Int), vs = [.ref a] ∧ SqL K H a (ns.map V.int) ∧ ns.length ≤ 63 ∧ ∀ H', Q (.bl true) H'
def csc_law_1 : Scope := { kind := PySem.ScopeKind.function, names := [ (PySem.Str.ofString ".0", PySem.NameKind.local), (PySem.Str.ofString "_law_again", PySem.NameKind.local), (PySem.Str.ofString "_law_take", PySem.NameKind.globalImplicit), (PySem.Str.ofString "len", PySem.NameKind.globalImplicit), (PySem.Str.ofString "_law_joinings_here", PySem.NameKind.free), (PySem.Str.ofString "_law_state", PySem.NameKind.free)], isGenerator := false, isCoroutine := false, more := [] : PySem.Scope }
theorem nd_law_1 : (["_law_again", "_law_state", "_law_joinings_here"] : List Str).Nodup := by decide +kernel
theorem co_law_1 : CompOk (defScope s_law) ["_law_script", "_law_state", "_law_turn", "_law_names_here", "_law_joinings_here", "_law_kept", "_law_held", "_law_numbers", "_law_n"] ["_law_again", "_law_state", "_law_joinings_here"] csc_law_1 [none, some 1, some 4] := ⟨rfl, by decide +kernel, by decide +kernel, by decide +kernel, rfl, by decide +kernel⟩
theorem sc_law : FnScope ["_law_script", "_law_state", "_law_turn", "_law_names_here", "_law_joinings_here", "_law_kept", "_law_held", "_law_numbers", "_law_n"] ["_law_script"] (defScope s_law) := ⟨rfl, rfl, rfl, by decide +kernel, rfl, by decide +kernel, by decide +kernel⟩

theorem ok_law {f : Addr} {fd : FuncData} (F : Fun K "law" "law" s_law f fd) (B : Blt mg) (c_law_begin : Cal P w K mg base 1 "_law_begin" ["_law_script"] (spBegin K)) (c_law_take : Cal P w K mg base 1 "_law_take" ["_law_state", "_law_many"] spTake)
    (c_law_names : Cal P w K mg base 2 "_law_names" ["_law_state"] spNames) (c_law_joinings : Cal P w K mg base 2 "_law_joinings" ["_law_state", "_law_names_here"] spJoinings) (c_law_holding : Cal P w K mg base 1 "_law_holding" ["_law_joinings_here"] spHolding)
    (c_law_right : Cal P w K mg base 3 "_law_right" ["_law_names_here", "_law_joinings_here", "_law_held", "_law_n"] spRight) :
    FnOk P w K mg base CX0 4 f fd ["_law_script"] (spLaw K) := by
  have nd := sc_law.nd
  refine F.okS sc_law (fun vs H Q E h => ?_) (fun cdv A outer s H vs Q E hr h => ?_)
  · obtain ⟨a, ns, rfl, _⟩ := h
    rfl
  · obtain ⟨a, ns, rfl, hS, hlen, q⟩ := h
    have hsl : 200000 ≤ sizeLine := by decide
    refine ⟨_, (qpss_cons (qps_set (i := 1) nd rfl (Or.inr rfl) (qpe_cal c_law_begin (hr.mono (by decide)) rfl (qpa_cons (qpv 0) qpa_nil)))
      (qpss_cons (qps_for PassesOwn.never rfl (qpi_range1 rfl B.range (qpa_cons (qpe_op op_add qpe_int (qpe_cal c_law_take (hr.mono (by decide)) rfl (qpa_cons (qpv 1) (qpa_cons qpe_int qpa_nil)))) qpa_nil)) (qpg_name (i := 2) nd rfl (Or.inl rfl)) (qpss_cons (qps_set (i := 3) nd rfl (Or.inl rfl) (qpe_cal c_law_names (hr.mono (by decide)) rfl (qpa_cons (qpv 1) qpa_nil)))
      (qpss_cons (qps_set (i := 4) nd rfl (Or.inr rfl) (qpe_cal c_law_joinings (hr.mono (by decide)) rfl (qpa_cons (qpv 1) (qpa_cons (qpv 3) qpa_nil))))
      (qpss_cons (qps_par (i := 5) (j := 6) rfl nd rfl rfl (by decide) rfl rfl (qpa_cons (qpe_callTy call_list_of (by rfl) B.list_ boot_list (qpa_cons (qpv 4) qpa_nil)) (qpa_cons (qpe_cal c_law_holding (hr.mono (by decide)) rfl (qpa_cons (qpv 4) qpa_nil)) qpa_nil)) rfl)
      (qpss_cons (qps_set (i := 7) nd rfl (Or.inl rfl) (qpe_listrange rfl B.list_ B.range (qpa_cons (qpe_callB call_len_seq (by rfl) B.len boot_len (qpa_cons (qpv 4) qpa_nil)) qpa_nil)))
      (qpss_cut (qps_if (qpt_cmpR op_gt (qpe_callB call_len_seq (by rfl) B.len boot_len (qpa_cons (qpv 4) qpa_nil)) qpe_int (nomark _)) (qpss_one (qps_setC rfl rfl (i := 7) nd rfl (Or.inl rfl) co_law_1 (qpi_range1 rfl B.range (qpa_cons qpe_int qpa_nil)) (fun C s₂ H fp => (qpg_name (i := 0) nd_law_1 rfl (Or.inl rfl))) (fun C s₂ H fp => qpts_nil) (fun C s₂ H fp => (qpe_cal c_law_take (hr.mono (by decide)) rfl (qpa_cons (qpv 1) (qpa_cons (qpe_callB (show CallR _ (.builtin "len") (rLen K) from lenK) (by rfl) B.len boot_len (qpa_cons (qpv 2) qpa_nil)) qpa_nil)))))) qpss_nil)
      (qpss_one (qps_for PassesOwn.never rfl (qpi_list (qpv 7)) (qpg_name (i := 8) nd rfl (Or.inl rfl)) (qpss_one (qps_if (qPWpt (qpw_or (qpt_not (qpt_val (qpe_cal c_law_right (hr.mono (by decide)) rfl (qpa_cons (qpv 3) (qpa_cons (qpv 4) (qpa_cons (qpv 6) (qpa_cons (qpv 8) qpa_nil))))))) (qpw_or1 (qpt_cmpR op_neD (qpv 4) (qpv 5) (nomark _))))) (qpss_one (qps_ret qpe_bl)) qpss_nil))))))))))
      (qpss_one (qps_ret qpe_bl)))), ?_⟩
    refine ⟨_, rfl, a, ns, rfl, hS, hlen, fun d c H1 S1 hd0 hc0 St => ?_⟩
    refine ⟨_, rfl, d, c, 2, 0, rfl, St, by decide, by decide, by decide, fun r H2 r0 r1 S2 B2 => ⟨_, _, rfl, rfl, 1 + r, rfl, by omega, by omega, ?_⟩⟩
    refine for_range (fun i σ G => ∃ t x2 x3 x4 x5 x6 x7 x8, σ = [some (.ref a), some (.ref d), x2, x3, x4, x5, x6, x7, x8] ∧ Stt G d c t ∧ t ≤ 1 + 2000 * i) ⟨_, _, _, _, _, _, _, _, rfl, S2, by omega⟩ ?_ ?_
    · rintro i σ G hi ⟨t, x2, x3, x4, x5, x6, x7, x8, rfl, SG, ht⟩
      refine ⟨_, rfl, d, c, t, rfl, SG, by omega, fun na ns G1 hnl S1' B1 hna0 hna => ?_⟩
      have hnc : na ≠ c := SG.neC hna0
      have hnd : na ≠ d := SG.neD hna0
      refine ⟨_, rfl, _, rfl, d, c, na, t + 4, ns, rfl, S1', by omega, hna, hnc, hnl, fun ja xs js G2 u J hu hja0 hxl => ?_⟩
      have jad : ja ≠ d := S1'.neD hja0
      have jac : ja ≠ c := S1'.neC hja0
      have hna2 := J.B _ _ hna hnd hnc
      refine ⟨_, rfl, ja, xs, rfl, .inl (SqL.of J.F), fun kp hkp => ?_⟩
      have V1 := Same.new (o := .lst xs) hkp
      have kpd : kp ≠ d := J.S.neD hkp
      have kpc : kp ≠ c := J.S.neC hkp
      refine ⟨_, rfl, ja, xs, js, rfl, V1 _ _ J.F, J.J.keep V1, by omega, fun ha G3 S3 hha0 hha => ⟨_, _, rfl, ?_⟩⟩
      have J3 := J.same jad jac (V1.trans S3)
      have had : ha ≠ d := (J.S.keep V1).neD hha0
      have hac : ha ≠ c := (J.S.keep V1).neC hha0
      have hkp3 : G3 kp = some (.lst xs) := S3 _ _ upd_same
      have hna3 := (V1.trans S3) _ _ hna2
      refine ⟨_, rfl, ja, xs, rfl, .inl (SqL.of J3.F), xs.length, rfl, by omega, fun nb hnb => ?_⟩
      have V4 := Same.new (o := .lst (((List.range xs.length).map fun i : Nat => (i : Int)).map V.int)) hnb
      have J4 := J3.same jad jac V4
      refine ⟨fun σ G => ∃ (nc : Addr) (ks : List Int) (v : Int), σ = [some (.ref a), some (.ref d), some (.int (0 + i)), some (.ref na), some (.ref ja), some (.ref kp), some (.ref ha), some (.ref nc), x8] ∧ JQ G1 d c ja ns xs js G v ∧ v ≤ u + 10 ∧ G na = some (.lst (ns.map V.str)) ∧ G kp = some (.lst xs) ∧ G ha = some (.lst (hv js)) ∧ G nc = some (.lst (ks.map V.int)) ∧ ∀ k ∈ ks, 0 ≤ k ∧ k < (xs.length : Int), ?_, ?_⟩
      · refine ⟨_, rfl, ja, xs, rfl, .inl (SqL.of J4.F), _, _, rfl, rfl, _, rfl, ?_⟩
        by_cases hx : (xs.length : Int) > 10
        · refine iteD hx ?_
          refine ⟨10, rfl, by decide, by decide, comp_range (fun n ys G => ∃ (v : Int) (ks : List Int), JQ G1 d c ja ns xs js G v ∧ v = u + n ∧ G na = some (.lst (ns.map V.str)) ∧ G kp = some (.lst xs) ∧ G ha = some (.lst (hv js)) ∧ ys = ks.map V.int ∧ ks.length = n ∧ ∀ k ∈ ks, 0 ≤ k ∧ k < (xs.length : Int)) ⟨u, [], J4, by omega, V4 _ _ hna3, V4 _ _ hkp3, V4 _ _ hha, rfl, rfl, fun k hk => by simp at hk⟩ ?_ ?_⟩
          · rintro n ys G hn ⟨v, ks, JG, hv', hnaG, hkpG, hhaG, rfl, hkl, hks⟩
            have hn : n < 10 := hn
            refine ⟨by rw [List.length_map]; omega, Kp.none (Kp.cons (Kp.cons Kp.nil)), tTrue_if ?_⟩
            refine ⟨_, rfl, _, rfl, ja, xs, rfl, .inl (SqL.of JG.F), d, c, _, v, rfl, JG.S, by omega, by omega, by omega, fun r5 G5 r50 r51 S5 B5 => ?_⟩
            exact ⟨v + 1, ks ++ [r5], JG.but jad jac S5 B5, by omega, B5 _ _ hnaG hnd hnc, B5 _ _ hkpG kpd kpc, B5 _ _ hhaG had hac, by rw [List.map_append]; rfl, by rw [List.length_append, List.length_singleton, hkl], fun k hk => by
              rcases List.mem_append.mp hk with z | z
              · exact hks k z
              · rw [List.mem_singleton.mp z]; exact ⟨r50, r51⟩⟩
          · rintro ys G ⟨v, ks, JG, hv', hnaG, hkpG, hhaG, rfl, hkl, hks⟩
            have hkl : ks.length = 10 := hkl
            have hv' : v = u + ((10 : Int).toNat : Int) := hv'
            refine ⟨by rw [List.length_map]; omega, fun nc hnc' => ?_⟩
            have V5 := Same.new (o := .lst (ks.map V.int)) hnc'
            have e10 : ((10 : Int).toNat : Int) = 10 := rfl
            exact ⟨nc, ks, v, rfl, JG.same jad jac V5, by omega, V5 _ _ hnaG, V5 _ _ hkpG, V5 _ _ hhaG, upd_same, hks⟩
        · refine iteDN hx ⟨nb, _, u, rfl, J4, by omega, V4 _ _ hna3, V4 _ _ hkp3, V4 _ _ hha, upd_same, fun k hk => ?_⟩
          obtain ⟨m, hm, rfl⟩ := List.mem_map.mp hk
          have := List.mem_range.mp hm
          omega
      rintro σ5 G5 ⟨nc, ks, v, rfl, J5, hv5, hna5, hkp5, hha5, hnc5, hks⟩
      refine ⟨_, rfl, nc, rfl, ⟨_, SqL.of hnc5⟩, for_list (K := K) (a := nc) (xs := ks.map V.int) (fun n σ G => ∃ y8, σ = [some (.ref a), some (.ref d), some (.int (0 + i)), some (.ref na), some (.ref ja), some (.ref kp), some (.ref ha), some (.ref nc), y8] ∧ Same G5 G) ⟨_, rfl, Same.refl _⟩ (fun n σ G _ ⟨_, _, hg⟩ => SqL.of (hg _ _ hnc5)) ?_ ?_⟩
      · rintro n x σ G hn ⟨y8, rfl, SGG⟩
        have hnl' : n < ks.length := by have := (List.getElem?_eq_some_iff.mp hn).1; rw [List.length_map] at this; exact this
        have ex : x = .int ks[n] := by rw [List.getElem?_map, List.getElem?_eq_getElem hnl'] at hn; exact (Option.some.inj hn).symm
        subst ex
        obtain ⟨k0, k1⟩ := hks ks[n] (List.getElem_mem hnl')
        generalize ks[n] = k at k0 k1
        have hkj : k.toNat < js.length := by rw [← J5.J.1]; omega
        have e1 : js = js.take k.toNat ++ js[k.toNat] :: js.drop (k.toNat + 1) := by
          conv => lhs; rw [← List.take_append_drop k.toNat js, List.drop_eq_getElem_cons hkj]
        have e3 : (js.take k.toNat).length = k.toNat := by rw [List.length_take]; omega
        have JG := J5.same jad jac SGG
        refine ⟨_, rfl, _, rfl, _, rfl, _, rfl, na, ja, ha, ns, xs, js.take k.toNat, js.drop (k.toNat + 1), js[k.toNat], ?_, SGG _ _ hna5, JG.F, by rw [← e1]; exact JG.J, by rw [← e1]; exact JG.N, hnl, hxl, by rw [← e1]; exact SGG _ _ hha5, fun G6 S6 => ?_⟩
        · rw [e3, Int.toNat_of_nonneg k0]
          rfl
        have J6 := JG.same jad jac S6
        refine ⟨_, rfl, iteF ?_⟩
        refine ⟨_, rfl, _, rfl, .lst (js.map jD), .lst (js.map jD), ⟨ja, xs, rfl, SqL.of J6.F, J6.J.brs⟩, ⟨kp, xs, rfl, SqL.of (S6 _ _ (SGG _ _ hkp5)), J6.J.brs⟩, Room_dp hr (Nat.le_trans (dp_js js) (by decide)), Room_dp hr (Nat.le_trans (dp_js js) (by decide)), _, rfl, ?_⟩
        rw [eqD_refl]
        exact iteF ⟨_, rfl, SGG.trans S6⟩
      · rintro σ G ⟨y8, rfl, SGG⟩
        exact ⟨v, _, _, _, _, _, _, _, rfl, J5.S.keep SGG, by omega⟩
    · rintro σ G ⟨t, x2, x3, x4, x5, x6, x7, x8, rfl, SG, ht⟩
      exact q G
end
theorem all_mk {l : PySem.W.OpenLaw} {w : World} {K : PySem.W.Frag} {h : Heap} {mg : Str → Option Value} {fa f1 f2 f3 f4 f5 f6 f7 f8 f9 f10 : Addr} (X : K.In h) (G : h.Ns mainGlobals mg) (hfa : mg "law" = some (.ref fa))
    {od1 an1 od2 an2 od3 an3 od4 an4 od5 an5 od6 an6 od7 an7 od8 an8 od9 an9 od10 an10 : Option Addr} {sl1 sl2 sl3 sl4 sl5 sl6 sl7 sl8 sl9 sl10 : Array (Option Value)} {oc1 kV1 dc1 pm1 cd1 ct1 oc2 kV2 dc2 pm2 cd2 ct2 oc3 kV3 dc3 pm3 cd3 ct3 oc4 kV4 dc4 pm4 cd4 ct4 oc5 kV5 dc5 pm5 cd5 ct5 oc6 kV6 dc6 pm6 cd6 ct6 oc7 kV7 dc7 pm7 cd7 ct7 oc8 kV8 dc8 pm8 cd8 ct8 oc9 kV9 dc9 pm9 cd9 ct9 oc10 kV10 dc10 pm10 cd10 ct10 : Value}
    (a1 : PySem.W.nsIn K mainGlobals "eldest" = some (some (.ref f1))) (l1 : K.lookup f1 = some ⟨oc1, od1, .func (PySem.W.fnOf "eldest" "eldest" (defArgs s_eldest) (defBody s_eldest) (defScope s_eldest) .none kV1 dc1 pm1 an1 cd1 ct1), sl1⟩) (c1 : PySem.W.codeIn K cd1 "eldest" = true) (k1 : PySem.W.keepIn K (.ref f1) = true)
    (a2 : PySem.W.nsIn K mainGlobals "in_place_of" = some (some (.ref f2))) (l2 : K.lookup f2 = some ⟨oc2, od2, .func (PySem.W.fnOf "in_place_of" "in_place_of" (defArgs s_in_place_of) (defBody s_in_place_of) (defScope s_in_place_of) .none kV2 dc2 pm2 an2 cd2 ct2), sl2⟩) (c2 : PySem.W.codeIn K cd2 "in_place_of" = true) (k2 : PySem.W.keepIn K (.ref f2) = true)
    (a3 : PySem.W.nsIn K mainGlobals "_law_begin" = some (some (.ref f3))) (l3 : K.lookup f3 = some ⟨oc3, od3, .func (PySem.W.fnOf "_law_begin" "_law_begin" (defArgs s_law_begin) (defBody s_law_begin) (defScope s_law_begin) .none kV3 dc3 pm3 an3 cd3 ct3), sl3⟩) (c3 : PySem.W.codeIn K cd3 "_law_begin" = true) (k3 : PySem.W.keepIn K (.ref f3) = true)
    (a4 : PySem.W.nsIn K mainGlobals "_law_take" = some (some (.ref f4))) (l4 : K.lookup f4 = some ⟨oc4, od4, .func (PySem.W.fnOf "_law_take" "_law_take" (defArgs s_law_take) (defBody s_law_take) (defScope s_law_take) .none kV4 dc4 pm4 an4 cd4 ct4), sl4⟩) (c4 : PySem.W.codeIn K cd4 "_law_take" = true) (k4 : PySem.W.keepIn K (.ref f4) = true)
    (a5 : PySem.W.nsIn K mainGlobals "_law_names" = some (some (.ref f5))) (l5 : K.lookup f5 = some ⟨oc5, od5, .func (PySem.W.fnOf "_law_names" "_law_names" (defArgs s_law_names) (defBody s_law_names) (defScope s_law_names) .none kV5 dc5 pm5 an5 cd5 ct5), sl5⟩) (c5 : PySem.W.codeIn K cd5 "_law_names" = true) (k5 : PySem.W.keepIn K (.ref f5) = true)
    (a6 : PySem.W.nsIn K mainGlobals "_law_joinings" = some (some (.ref f6))) (l6 : K.lookup f6 = some ⟨oc6, od6, .func (PySem.W.fnOf "_law_joinings" "_law_joinings" (defArgs s_law_joinings) (defBody s_law_joinings) (defScope s_law_joinings) .none kV6 dc6 pm6 an6 cd6 ct6), sl6⟩) (c6 : PySem.W.codeIn K cd6 "_law_joinings" = true) (k6 : PySem.W.keepIn K (.ref f6) = true)
    (a7 : PySem.W.nsIn K mainGlobals "_law_holding" = some (some (.ref f7))) (l7 : K.lookup f7 = some ⟨oc7, od7, .func (PySem.W.fnOf "_law_holding" "_law_holding" (defArgs s_law_holding) (defBody s_law_holding) (defScope s_law_holding) .none kV7 dc7 pm7 an7 cd7 ct7), sl7⟩) (c7 : PySem.W.codeIn K cd7 "_law_holding" = true) (k7 : PySem.W.keepIn K (.ref f7) = true)
    (a8 : PySem.W.nsIn K mainGlobals "_law_without" = some (some (.ref f8))) (l8 : K.lookup f8 = some ⟨oc8, od8, .func (PySem.W.fnOf "_law_without" "_law_without" (defArgs s_law_without) (defBody s_law_without) (defScope s_law_without) .none kV8 dc8 pm8 an8 cd8 ct8), sl8⟩) (c8 : PySem.W.codeIn K cd8 "_law_without" = true) (k8 : PySem.W.keepIn K (.ref f8) = true)
    (a9 : PySem.W.nsIn K mainGlobals "_law_right" = some (some (.ref f9))) (l9 : K.lookup f9 = some ⟨oc9, od9, .func (PySem.W.fnOf "_law_right" "_law_right" (defArgs s_law_right) (defBody s_law_right) (defScope s_law_right) .none kV9 dc9 pm9 an9 cd9 ct9), sl9⟩) (c9 : PySem.W.codeIn K cd9 "_law_right" = true) (k9 : PySem.W.keepIn K (.ref f9) = true)
    (a10 : PySem.W.nsIn K mainGlobals "law" = some (some (.ref f10))) (l10 : K.lookup f10 = some ⟨oc10, od10, .func (PySem.W.fnOf "law" "law" (defArgs s_law) (defBody s_law) (defScope s_law) .none kV10 dc10 pm10 an10 cd10 ct10), sl10⟩) (c10 : PySem.W.codeIn K cd10 "law" = true) (k10 : PySem.W.keepIn K (.ref f10) = true)
    (z1 : PySem.W.nsIn K mainGlobals "divmod" = some none)
    (z2 : PySem.W.nsIn K mainGlobals "enumerate" = some none)
    (z3 : PySem.W.nsIn K mainGlobals "int" = some none)
    (z4 : PySem.W.nsIn K mainGlobals "len" = some none)
    (z5 : PySem.W.nsIn K mainGlobals "list" = some none)
    (z6 : PySem.W.nsIn K mainGlobals "range" = some none)
    (z7 : PySem.W.nsIn K mainGlobals "repr" = some none)
    (z8 : PySem.W.nsIn K mainGlobals "sorted" = some none)
    (z9 : PySem.W.nsIn K mainGlobals "tuple" = some none) :
    ∃ fd : FuncData, (∀ (s : Shared) (v : Value), BindsTo s fd ⟨[v], []⟩ [("_law_script", v)]) ∧ ∀ base : Heap, K.In base → base.Ns mainGlobals mg → FnOk l.prog w K mg base CX0 4 fa fd ["_law_script"] (spLaw K) := by
  have e := hfa.symm.trans (PySem.W.mg_of X G a10)
  cases e
  have B : Blt mg := ⟨PySem.W.mg_none_of X G z1, PySem.W.mg_none_of X G z2, PySem.W.mg_none_of X G z3, PySem.W.mg_none_of X G z4, PySem.W.mg_none_of X G z5, PySem.W.mg_none_of X G z6, PySem.W.mg_none_of X G z7, PySem.W.mg_none_of X G z8, PySem.W.mg_none_of X G z9⟩
  have F1 := fun_mk (st := s_eldest) l1 c1 k1
  have F2 := fun_mk (st := s_in_place_of) l2 c2 k2
  have F3 := fun_mk (st := s_law_begin) l3 c3 k3
  have F4 := fun_mk (st := s_law_take) l4 c4 k4
  have F5 := fun_mk (st := s_law_names) l5 c5 k5
  have F6 := fun_mk (st := s_law_joinings) l6 c6 k6
  have F7 := fun_mk (st := s_law_holding) l7 c7 k7
  have F8 := fun_mk (st := s_law_without) l8 c8 k8
  have F9 := fun_mk (st := s_law_right) l9 c9 k9
  have F10 := fun_mk (st := s_law) l10 c10 k10
  refine ⟨PySem.W.fnOf "law" "law" (defArgs s_law) (defBody s_law) (defScope s_law) .none kV10 dc10 pm10 an10 cd10 ct10, fun s v => .of_eq rfl, fun base _ _ => ?_⟩
  have c_eldest : Cal l.prog w K mg base 1 "eldest" ["names", "joinings"] (spEldest K) := ⟨_, _, ok_eldest F1 B, PySem.W.mg_of X G a1, k1, F1.binds (ps := ["names", "joinings"]) fun _ _ _ _ _ _ us hl => match us, hl with | [_, _], _ => rfl⟩
  have c_in_place_of : Cal l.prog w K mg base 2 "in_place_of" ["names", "joinings", "n"] (spPlace K) := ⟨_, _, ok_place F2 B c_eldest, PySem.W.mg_of X G a2, k2, F2.binds (ps := ["names", "joinings", "n"]) fun _ _ _ _ _ _ us hl => match us, hl with | [_, _, _], _ => rfl⟩
  have c_law_begin : Cal l.prog w K mg base 1 "_law_begin" ["_law_script"] (spBegin K) := ⟨_, _, ok_begin F3 B, PySem.W.mg_of X G a3, k3, F3.binds (ps := ["_law_script"]) fun _ _ _ _ _ _ us hl => match us, hl with | [_], _ => rfl⟩
  have c_law_take : Cal l.prog w K mg base 1 "_law_take" ["_law_state", "_law_many"] spTake := ⟨_, _, ok_take F4 B, PySem.W.mg_of X G a4, k4, F4.binds (ps := ["_law_state", "_law_many"]) fun _ _ _ _ _ _ us hl => match us, hl with | [_, _], _ => rfl⟩
  have c_law_names : Cal l.prog w K mg base 2 "_law_names" ["_law_state"] spNames := ⟨_, _, ok_names F5 B c_law_take, PySem.W.mg_of X G a5, k5, F5.binds (ps := ["_law_state"]) fun _ _ _ _ _ _ us hl => match us, hl with | [_], _ => rfl⟩
  have c_law_joinings : Cal l.prog w K mg base 2 "_law_joinings" ["_law_state", "_law_names_here"] spJoinings := ⟨_, _, ok_joinings F6 B c_law_take, PySem.W.mg_of X G a6, k6, F6.binds (ps := ["_law_state", "_law_names_here"]) fun _ _ _ _ _ _ us hl => match us, hl with | [_, _], _ => rfl⟩
  have c_law_holding : Cal l.prog w K mg base 1 "_law_holding" ["_law_joinings_here"] spHolding := ⟨_, _, ok_holding F7 B, PySem.W.mg_of X G a7, k7, F7.binds (ps := ["_law_joinings_here"]) fun _ _ _ _ _ _ us hl => match us, hl with | [_], _ => rfl⟩
  have c_law_without : Cal l.prog w K mg base 2 "_law_without" ["_law_joinings_here", "_law_n"] spWithout := ⟨_, _, ok_without F8 B c_law_holding, PySem.W.mg_of X G a8, k8, F8.binds (ps := ["_law_joinings_here", "_law_n"]) fun _ _ _ _ _ _ us hl => match us, hl with | [_, _], _ => rfl⟩
  have c_law_right : Cal l.prog w K mg base 3 "_law_right" ["_law_names_here", "_law_joinings_here", "_law_held", "_law_n"] spRight := ⟨_, _, ok_right F9 B c_law_without c_in_place_of c_eldest, PySem.W.mg_of X G a9, k9, F9.binds (ps := ["_law_names_here", "_law_joinings_here", "_law_held", "_law_n"]) fun _ _ _ _ _ _ us hl => match us, hl with | [_, _, _, _], _ => rfl⟩
  exact ok_law F10 B c_law_begin c_law_take c_law_names c_law_joinings c_law_holding c_law_right
theorem walk {l : PySem.W.OpenLaw} {q : Program} {loose : List Str} {XP : (Str → Option Value) → Heap → Prop} {YP : World → Heap → Prop} {d : DefRec} {K : Params → PySem.W.Frag} (hn : l.most = some 63) (hdf : d.params.defaults = [])
    (hY : ∀ (w : World) (h : Heap), YP w h → (K w.params).In h)
    (F : ∀ (w : World) (mg : Str → Option Value) (fa : Addr) (h : Heap), (K w.params).In h → h.Ns mainGlobals mg → mg d.name = some (.ref fa) →
      ∃ fd : FuncData, (∀ (s : Shared) (u : Value), BindsTo s fd ⟨[u], []⟩ [("_law_script", u)]) ∧ ∀ base : Heap, (K w.params).In base → base.Ns mainGlobals mg → FnOk l.prog w (K w.params) mg base CX0 4 fa fd ["_law_script"] (spLaw (K w.params))) :
    PySem.W.WalkO q loose XP YP l.row.toRowW d [] (fun f vs => PySem.call f vs) :=
  L2.walk_of (n := 63) (k := 4) (x := "_law_script") (CX := fun _ => CX0) (sp := fun w => spLaw (K w.params)) hn (by decide) hdf ⟨rfl, by decide, by decide, rfl⟩ hY F (fun _ _ a ns hl _ hS => ⟨a, ns, rfl, hS, hl, fun _ => rfl⟩) fun _ _ _ _ _ z => z
end Jb
open PySem PySem.W PyProof.Rows
set_option maxRecDepth 100000 in
set_option maxHeartbeats 0 in
theorem PySem.Challenge.cw_joinback_k17_in_place_of_holds : PySem.Challenge.rw_joinback_k17_in_place_of.Holds := by
  w_on; o_law; k_head; (case hw => w_witness2)
  k_fill
  refine Jb.walk (l := PySem.Challenge.rw_joinback_k17_in_place_of) rfl rfl (fun w h Y => PySem.W.kIn_of Y) ?F
  case F =>
    intro w mg fa h KX G hmg
    refine' Jb.all_mk KX G hmg ?a1 ?l1 ?c1 ?k1 ?a2 ?l2 ?c2 ?k2 ?a3 ?l3 ?c3 ?k3 ?a4 ?l4 ?c4 ?k4 ?a5 ?l5 ?c5 ?k5 ?a6 ?l6 ?c6 ?k6 ?a7 ?l7 ?c7 ?k7 ?a8 ?l8 ?c8 ?k8 ?a9 ?l9 ?c9 ?k9 ?a10 ?l10 ?c10 ?k10 ?z1 ?z2 ?z3 ?z4 ?z5 ?z6 ?z7 ?z8 ?z9
    (case a1 => k_is)
    (case l1 => k_is)
    (case c1 => k_is)
    (case k1 => k_is)
    (case a2 => k_is)
    (case l2 => k_is)
    (case c2 => k_is)
    (case k2 => k_is)
    (case a3 => k_is)
    (case l3 => k_is)
    (case c3 => k_is)
    (case k3 => k_is)
    (case a4 => k_is)
    (case l4 => k_is)
    (case c4 => k_is)
    (case k4 => k_is)
    (case a5 => k_is)
    (case l5 => k_is)
    (case c5 => k_is)
    (case k5 => k_is)
    (case a6 => k_is)
    (case l6 => k_is)
    (case c6 => k_is)
    (case k6 => k_is)
    (case a7 => k_is)
    (case l7 => k_is)
    (case c7 => k_is)
    (case k7 => k_is)
    (case a8 => k_is)
    (case l8 => k_is)
    (case c8 => k_is)
    (case k8 => k_is)
    (case a9 => k_is)
    (case l9 => k_is)
    (case c9 => k_is)
    (case k9 => k_is)
    (case a10 => k_is)
    (case l10 => k_is)
    (case c10 => k_is)
    (case k10 => k_is)
    (case z1 => k_is)
    (case z2 => k_is)
    (case z3 => k_is)
    (case z4 => k_is)
    (case z5 => k_is)
    (case z6 => k_is)
    (case z7 => k_is)
    (case z8 => k_is)
    (case z9 => k_is)

