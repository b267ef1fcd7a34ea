import PyProof.Rows.All
import Wide.All
import OpenK.AllK
import Wide.FinOn
import Lean
import PyProof.EqAt
import PyProof.EqKinds
import PyProof.TupleCall
import PySem.Challenge.RW_brooktally_k24_the_shelf
set_option Elab.async false
set_option linter.all false
set_option maxRecDepth 100000
/-! THE HAND LAYER, for ints, bools, texts, own classes, LISTS and tuples (index, slices, in, append, pop ..), calls, loops. Paste it whole ahead of your own text; what your proof does not reach may be deleted. -/
namespace L2
open PySem PySem.Spec PyProof.Rows

/-- a key: an int or a str -/
abbrev Key := Sum Int Str
def keyIs : Key → Value → Bool
  | .inl k, v => Value.isInt k v
  | .inr x, v => Value.isStrOf x v
def keyH (w : World) : Key → Int
  | .inl k => hashInt k
  | .inr x => hashStr w x
theorem keyIs_shape : ∀ {k : Key} {v : Value}, keyIs k v = true → (∃ i t, k = Sum.inl i ∧ v = Value.int i t) ∨ (∃ x t, k = Sum.inr x ∧ v = Value.str x t)
  | .inl i, v, h => by
    obtain ⟨t, e⟩ := Value.isInt_shape (k := i) (v := v) h
    exact .inl ⟨i, t, rfl, e⟩
  | .inr x, v, h => by
    obtain ⟨t, e⟩ := Value.isStrOf_shape (x := x) (v := v) h
    exact .inr ⟨x, t, rfl, e⟩
theorem keyIs_int (i : Int) (t : Tok) : keyIs (.inl i) (.int i t) = true := by simp [keyIs, Value.isInt]
theorem keyIs_str (x : Str) (t : Tok) : keyIs (.inr x) (.str x t) = true := by simp [keyIs, Value.isStrOf]
theorem key_ll (a b : Int) : decide ((Sum.inl a : Key) = Sum.inl b) = (a == b) := by
  by_cases e : a = b
  · subst e; simp
  · have h : ¬ (Sum.inl a : Key) = Sum.inl b := fun q => e (Sum.inl.inj q)
    rw [decide_eq_false h]
    exact (beq_eq_false_iff_ne.mpr e).symm
theorem key_rr (a b : Str) : decide ((Sum.inr a : Key) = Sum.inr b) = decide (a = b) := by
  by_cases e : a = b
  · subst e; simp
  · have h : ¬ (Sum.inr a : Key) = Sum.inr b := fun q => e (Sum.inr.inj q)
    rw [decide_eq_false h, decide_eq_false e]
theorem key_lr (a : Int) (b : Str) : decide ((Sum.inl a : Key) = Sum.inr b) = false := decide_eq_false (fun q => nomatch q)
theorem key_rl (a : Str) (b : Int) : decide ((Sum.inr a : Key) = Sum.inl b) = false := decide_eq_false (fun q => nomatch q)

def mixKind (prog : Program) (w : World) : PySem.KeyKind prog w Key where
  is := keyIs
  hash := keyH w
  inj := fun v a b ha hb => by
    rcases keyIs_shape ha with ⟨i, t, rfl, rfl⟩ | ⟨x, t, rfl, rfl⟩
    · rcases keyIs_shape hb with ⟨j, u, rfl, e⟩ | ⟨y, u, rfl, e⟩
      · injection e with e1 _; rw [e1]
      · exact nomatch e
    · rcases keyIs_shape hb with ⟨j, u, rfl, e⟩ | ⟨y, u, rfl, e⟩
      · exact nomatch e
      · injection e with e1 _; rw [e1]
  byValue := fun k v h => by
    rcases keyIs_shape h with ⟨i, t, rfl, rfl⟩ | ⟨x, t, rfl, rfl⟩ <;> rfl
  pyHash := fun hv h => by
    rcases keyIs_shape hv with ⟨i, t, rfl, rfl⟩ | ⟨x, t, rfl, rfl⟩
    · exact wpAny_pyHash_int h
    · exact wpAny_pyHash_str h
  eqBool := fun hu hv h => by
    rcases keyIs_shape hu with ⟨i, t, rfl, rfl⟩ | ⟨x, t, rfl, rfl⟩
    · rcases keyIs_shape hv with ⟨j, u, rfl, rfl⟩ | ⟨y, u, rfl, rfl⟩
      · rw [key_ll] at h; exact wpAny_eqBool_int h
      · rw [key_lr] at h; exact SeqAt.EqAt.int_str i t y u _ _ _ _ h
    · rcases keyIs_shape hv with ⟨j, u, rfl, rfl⟩ | ⟨y, u, rfl, rfl⟩
      · rw [key_rl] at h; exact SeqAt.EqAt.str_int x t j u _ _ _ _ h
      · rw [key_rr] at h; exact wpAny_eqBool_str h
  «strs» := fun k x t v h => by
    rcases keyIs_shape h with ⟨i, u, rfl, e⟩ | ⟨y, u, rfl, e⟩
    · exact nomatch e
    · injection e with e1 _
      subst e1
      cases v <;> rfl

theorem mixKind_is (prog : Program) (w : World) (k : Key) (v : Value) : (mixKind prog w).is k v = keyIs k v := rfl
theorem mixKind_int (prog : Program) (w : World) (i : Int) (t : Tok) : (mixKind prog w).is (.inl i) (.int i t) = true := keyIs_int i t
theorem mixKind_str (prog : Program) (w : World) (x : Str) (t : Tok) : (mixKind prog w).is (.inr x) (.str x t) = true := keyIs_str x t
end L2

namespace L2
open PySem PySem.Spec PyProof.Rows

/-- a value, without the heap -/
inductive V where
  | non | bl (b : Bool) | int (i : Int) | str (x : Str) | byt (b : Array UInt8) | flt (b : UInt64) | ref (a : Addr) | ty (n : String)
  deriving DecidableEq

def RelV : V → Value → Prop
  | .non, u => u = Value.none
  | .bl b, u => u = Value.bool b
  | .int i, u => ∃ t, u = Value.int i t
  | .str x, u => ∃ t, u = Value.str x t
  | .byt b, u => ∃ t, u = Value.bytes b t
  | .flt b, u => ∃ t, u = Value.float b t
  | .ref a, u => u = Value.ref a
  | .ty n, u => u = Value.type n

abbrev Vals : List V → List Value → Prop := Paired RelV
theorem Vals.length {xs : List V} {us : List Value} (r : Vals xs us) : xs.length = us.length := Paired.length r
theorem Vals.get : ∀ {xs : List V} {us : List Value} {i : Nat} {x : V}, Vals xs us → xs[i]? = some x → ∃ u, us[i]? = some u ∧ RelV x u
  | _, _, _, _, .nil, e => by simp at e
  | _, _, 0, _, .cons r _, e => by simp at e; subst e; exact ⟨_, rfl, r⟩
  | _, _, i + 1, x, .cons _ t, e => by
    obtain ⟨u, h1, h2⟩ := Vals.get (i := i) (x := x) t (by simpa using e)
    exact ⟨u, by simpa using h1, h2⟩
theorem Vals.set {x : V} {u : Value} (r : RelV x u) : ∀ {xs : List V} {us : List Value} (i : Nat), Vals xs us → Vals (xs.set i x) (us.set i u)
  | _, _, _, .nil => .nil
  | _, _, 0, .cons _ t => .cons r t
  | _, _, i + 1, .cons q t => .cons q (Vals.set r i t)
theorem Vals.append : ∀ {xs ys : List V} {us ws : List Value}, Vals xs us → Vals ys ws → Vals (xs ++ ys) (us ++ ws)
  | _, _, _, _, .nil, s => s
  | _, _, _, _, .cons r t, s => .cons r (Vals.append t s)
theorem Vals.take : ∀ {xs : List V} {us : List Value} (n : Nat), Vals xs us → Vals (xs.take n) (us.take n)
  | _, _, 0, _ => .nil
  | _, _, _ + 1, .nil => .nil
  | _, _, n + 1, .cons r t => .cons r (Vals.take n t)
theorem Vals.drop : ∀ {xs : List V} {us : List Value} (n : Nat), Vals xs us → Vals (xs.drop n) (us.drop n)
  | _, _, 0, r => r
  | _, _, _ + 1, .nil => .nil
  | _, _, n + 1, .cons _ t => Vals.drop n t
theorem Vals.none_of : ∀ {xs : List V} {us : List Value} {i : Nat}, Vals xs us → xs[i]? = none → us[i]? = none := fun {xs us i} r e => by
  have h1 := r.length
  have h2 : xs.length ≤ i := List.getElem?_eq_none_iff.mp e
  exact List.getElem?_eq_none_iff.mpr (by omega)

def RelO : Option V → Option Value → Prop
  | some v, some u => RelV v u
  | none, none => True
  | _, _ => False
def KV {κ : Type} : List (κ × V) → List (κ × Value) → Prop := Paired fun (p : κ × V) (q : κ × Value) => p.1 = q.1 ∧ RelV p.2 q.2

/-- a key of a dict (00_mix): an int or a text -/
def kV : Key → V
  | .inl i => .int i
  | .inr x => .str x

/-- what stands at a tracked address -/
inductive HO where
  /-- a list -/
  | lst (xs : List V)
  /-- a tuple (never changes) -/
  | tup (xs : List V)
  /-- a dict whose keys are ints and texts; one whose keys are tuples of ints and texts (the empty one is both) -/
  | dK (kvs : List (Key × V)) | dT (kvs : List (List Key × V))
  /-- a set of ints: its members, its size -/
  | set (S : Int → Bool) (n : Nat)
  /-- an instance of the class at C, its dict at dx, its attributes -/
  | ins (C dx : Addr) (fs : List (Str × V))
  /-- the dict of the instance at x -/
  | own (x : Addr)
  /-- the dict of an exception -/
  | xd (fs : List (Str × V))
  /-- a bound method, f of x -/
  | met (f x : Addr)
  /-- a range object lo, lo + 1, .. below hi -/
  | rng (lo hi : Int)
  /-- a thing that is known to the object (the script; a dict while a loop walks it): read, never written while it is so -/
  | frz (o : Obj) (u : HO)
  /-- a code object's table -/
  | tbl (ps : Array Value)
  /-- any other thing, by what is true of its one object (a def of one's own: SetO a S n := HO.ext fun h => ..) -/
  | ext (φ : Heap → Prop)

abbrev Hp := Addr → Option HO
def upd (H : Hp) (a : Addr) (o : HO) : Hp := fun b => if b = a then some o else H b
theorem upd_same {H : Hp} {a : Addr} {o : HO} : upd H a o a = some o := by unfold upd; rw [if_pos rfl]
theorem upd_ne {H : Hp} {a b : Addr} {o : HO} (h : b ≠ a) : upd H a o b = H b := by unfold upd; rw [if_neg h]
theorem upd_upd {H : Hp} {a : Addr} {o u : HO} : upd (upd H a o) a u = upd H a u := by
  funext b; unfold upd; split <;> rfl
/-- two objects of different content stand apart -/
theorem ne_of {H : Hp} {a b : Addr} {o u : HO} (h : H a = some o) (h' : H b = some u) (d : o ≠ u) : a ≠ b := by
  intro e; subst e; rw [h] at h'; exact d (Option.some.inj h')
theorem ne_of_none {H : Hp} {a b : Addr} {o : HO} (h : H a = some o) (h' : H b = none) : a ≠ b := by
  intro e; subst e; rw [h] at h'; cases h'

section
variable (P : Program) (w : World)
def ObjOk (H : Hp) (h : Heap) (a : Addr) : HO → Prop
  | .lst xs => xs.length ≤ sizeLine ∧ ∃ (its : List Value) (n : Nat), Vals xs its ∧ h.get? a = some { cls := .type "list", data := .seq its.toArray n }
  | .tup xs => xs.length ≤ sizeLine ∧ ∃ its : List Value, Vals xs its ∧ IsTup h a its.toArray
  | .dK kvs => kvs.length ≤ sizeLine ∧ (a == sysModules) = false ∧ ∃ vs, KV kvs vs ∧ h.DictOf (mixKind P w) a vs
  | .dT kvs => kvs.length ≤ sizeLine ∧ (a == sysModules) = false ∧ ∃ xs : List (List Key × Addr × Value),
      Paired (fun (p : List Key × V) (q : List Key × Addr × Value) => p.1 = q.1 ∧ H q.2.1 = some (.tup (p.1.map kV)) ∧ RelV p.2 q.2.2) kvs xs ∧
      ∃ o es ep, h.get? a = some o ∧ o.ExactDict ∧ o.data = .dict es ep ∧ es.toList = xs.map (entryOfKey (tupleKind (mixKind P w))) ∧ (xs.map (·.1)).Nodup
  | .set S n => h.SetOf (intKind P w) a S n
  | .ins C dx fs => H dx = some (.own a) ∧ fs.length ≤ 1000 ∧ dx ≠ a ∧ h.get? a = some (PySem.W.instObj C dx) ∧
      ∃ mA, h.Ns1 dx mA ∧ (∀ f, RelO (fs.lookup f) (mA f)) ∧ PySem.Within mA (fs.map (·.1))
  | .own _ => ∃ o, h.get? a = some o
  | .xd fs => ∃ mA, h.Ns1 a mA ∧ ∀ f, RelO (fs.lookup f) (mA f)
  | .rng lo hi => ∃ t u v, h.get? a = some { cls := .type "range", data := .fields #[.int lo t, .int hi u, .int 1 v] }
  | .frz o u => h.get? a = some o ∧ ObjOk H h a u
  | .tbl ps => h.get? a = some { cls := .none, data := .fields ps }
  | .met f x => h.get? a = some (PySem.W.methodObj (.ref f) (.ref x))
  | .ext φ => φ h ∧ (∃ o, h.get? a = some o) ∧ ∀ h1 h2 : Heap, φ h1 → (∀ o, h1.get? a = some o → h2.get? a = some o) → φ h2
/-- the abstract heap is held -/
def HOk (H : Hp) (h : Heap) : Prop := ∀ a o, H a = some o → ObjOk P w H h a o
end

section
variable {P : Program} {w : World} {H H' : Hp} {h h' : Heap} {a : Addr} {o : HO}
theorem ObjOk.lt (x : ObjOk P w H h a o) : a < h.objs.size := by
  cases o with
  | lst xs => obtain ⟨_, _, _, _, e⟩ := x; exact Heap.lt_size e
  | tup xs => obtain ⟨_, _, _, p⟩ := x; exact p.lt
  | dK kvs => obtain ⟨_, _, _, _, o, _, _, e, _⟩ := x; exact Heap.lt_size e
  | dT kvs => obtain ⟨_, _, _, _, o, _, _, e, _⟩ := x; exact Heap.lt_size e
  | set S n => obtain ⟨o, _, _, _, e, _⟩ := x; exact Heap.lt_size e
  | ins C dx fs => obtain ⟨_, _, _, e, _⟩ := x; exact Heap.lt_size e
  | own y => obtain ⟨_, e⟩ := x; exact Heap.lt_size e
  | xd fs => obtain ⟨_, ⟨_, _, _, e, _⟩, _⟩ := x; exact Heap.lt_size e
  | rng lo hi => obtain ⟨_, _, _, e⟩ := x; exact Heap.lt_size e
  | frz ob u => obtain ⟨e, _⟩ := x; exact Heap.lt_size e
  | tbl ps => exact Heap.lt_size (show h.get? a = some _ from x)
  | met f y => exact Heap.lt_size (show h.get? a = some _ from x)
  | ext φ => obtain ⟨_, ⟨_, e⟩, _⟩ := x; exact Heap.lt_size e
theorem Paired.mapP {α β : Type} {F G : α → β → Prop} : ∀ {l₁ : List α} {l₂ : List β}, Paired F l₁ l₂ → (∀ a b, F a b → G a b) → Paired G l₁ l₂
  | _, _, .nil, _ => .nil
  | _, _, .cons r t, f => .cons (f _ _ r) (Paired.mapP t f)
theorem Paired.imp' {α β : Type} {F G : α → β → Prop} (f : ∀ a b, F a b → G a b) {l₁ : List α} {l₂ : List β} (r : Paired F l₁ l₂) : Paired G l₁ l₂ := Paired.mapP r f
/-- what an object's description leans on: its own object, its own dict, the tuples -/
theorem ObjOk.stay (x : ObjOk P w H h a o) (k : ∀ b u, (b = a ∨ H b = some (.own a)) → h.get? b = some u → h'.get? b = some u)
    (ho : ∀ b, H b = some (.own a) → H' b = some (.own a)) (ht : ∀ b xs, H b = some (.tup xs) → H' b = some (.tup xs)) : ObjOk P w H' h' a o := by
  induction o with
  | lst xs => obtain ⟨z, its, n, r, e⟩ := x; exact ⟨z, its, n, r, k _ _ (.inl rfl) e⟩
  | tup xs => obtain ⟨z, its, r, ob, e, c⟩ := x; exact ⟨z, its, r, ob, k _ _ (.inl rfl) e, c⟩
  | dK kvs => obtain ⟨z, y, vs, r, ob, es, ep, e, c⟩ := x; exact ⟨z, y, vs, r, ob, es, ep, k _ _ (.inl rfl) e, c⟩
  | dT kvs =>
    obtain ⟨z, y, xs, r, ob, es, ep, e, c⟩ := x
    exact ⟨z, y, xs, Paired.mapP r fun p q z => ⟨z.1, ht _ _ z.2.1, z.2.2⟩, ob, es, ep, k _ _ (.inl rfl) e, c⟩
  | set S n => obtain ⟨ob, es, ep, t, e, c⟩ := x; exact ⟨ob, es, ep, t, k _ _ (.inl rfl) e, c⟩
  | ins C dx fs =>
    obtain ⟨d, z, ne, e, mA, ⟨od, es, ep, e2, c⟩, r⟩ := x
    exact ⟨ho _ d, z, ne, k _ _ (.inl rfl) e, mA, ⟨od, es, ep, k _ _ (.inr d) e2, c⟩, r⟩
  | own y => obtain ⟨ob, e⟩ := x; exact ⟨ob, k _ _ (.inl rfl) e⟩
  | xd fs => obtain ⟨mA, ⟨od, es, ep, e, c⟩, r⟩ := x; exact ⟨mA, ⟨od, es, ep, k _ _ (.inl rfl) e, c⟩, r⟩
  | rng lo hi => obtain ⟨t, u, v, e⟩ := x; exact ⟨t, u, v, k _ _ (.inl rfl) e⟩
  | frz ob u ih => obtain ⟨e, q⟩ := x; exact ⟨k _ _ (.inl rfl) e, ih q⟩
  | tbl ps =>
    have e : h.get? a = some { cls := .none, data := .fields ps } := x
    show h'.get? a = some { cls := .none, data := .fields ps }
    exact k a _ (.inl rfl) e
  | met f y =>
    have e : h.get? a = some (PySem.W.methodObj (.ref f) (.ref y)) := x
    show h'.get? a = some (PySem.W.methodObj (.ref f) (.ref y))
    exact k a _ (.inl rfl) e
  | ext φ => obtain ⟨p, ⟨o, e⟩, st⟩ := x; exact ⟨st _ _ p fun o q => k _ _ (.inl rfl) q, ⟨o, k _ _ (.inl rfl) e⟩, st⟩
theorem HOk.lt (x : HOk P w H h) (e : H a = some o) : a < h.objs.size := (x a o e).lt
theorem HOk.fresh (x : HOk P w H h) (e : h.objs.size ≤ a) : H a = none := by
  cases q : H a with
  | none => rfl
  | some u => exact absurd (Nat.lt_of_lt_of_le (x.lt q) e) (Nat.lt_irrefl _)
/-- every object of the heap is kept -/
theorem HOk.kept (x : HOk P w H h) (k : ∀ b u, h.get? b = some u → h'.get? b = some u) : HOk P w H h' := fun a o e =>
  (x a o e).stay (fun b u _ q => k b u q) (fun _ q => q) fun _ _ q => q
/-- a new object is laid and tracked -/
theorem HOk.laid (x : HOk P w H h) (k : ∀ b u, h.get? b = some u → h'.get? b = some u) (hp : h.objs.size ≤ a) (new : ObjOk P w (upd H a o) h' a o) : HOk P w (upd H a o) h' := fun b u e => by
  have hn := x.fresh hp
  by_cases hb : b = a
  · subst hb; rw [upd_same] at e; cases e; exact new
  · rw [upd_ne hb] at e
    exact (x b u e).stay (fun c v _ q => k c v q) (fun c q => by rw [upd_ne (ne_of_none q hn)]; exact q) fun c xs q => by rw [upd_ne (ne_of_none q hn)]; exact q
end

/-- what may be read as u: it is u, or a known u -/
def Rd (H : Hp) (a : Addr) (u : HO) : Prop := H a = some u ∨ ∃ o, H a = some (.frz o u)
theorem Rd.of {H : Hp} {a : Addr} {u : HO} (h : H a = some u) : Rd H a u := .inl h
theorem Rd.ok {P : Program} {w : World} {H : Hp} {h : Heap} {a : Addr} {u : HO} (r : Rd H a u) (x : HOk P w H h) : ObjOk P w H h a u := by
  rcases r with r | ⟨o, r⟩
  · exact x a u r
  · obtain ⟨_, q⟩ := x a _ r
    exact q
/-- what may be written -/
def Mut : Option HO → Prop
  | some (.lst _) => True
  | some (.dK _) => True
  | some (.dT _) => True
  | some (.set _ _) => True
  | some (.ins _ _ _) => True
  | some (.ext _) => True
  | _ => False
section
variable {P : Program} {w : World} {H : Hp} {h h' : Heap} {x e : Addr} {o' : HO}
/-- the object at e is changed: x itself, or the dict of the instance x -/
theorem HOk.write (ok : HOk P w H h) (mu : Mut (H x)) (he : e = x ∨ H e = some (.own x)) (k : ∀ b u, b ≠ e → h.get? b = some u → h'.get? b = some u) (heo : ∃ u, h'.get? e = some u)
    (new : ObjOk P w (upd H x o') h' x o') : HOk P w (upd H x o') h' := fun b u q => by
  have nown : ∀ c y, H c = some (.own y) → c ≠ x := fun c y r z => by subst z; rw [r] at mu; exact mu
  have ntup : ∀ c xs, H c = some (.tup xs) → c ≠ x := fun c xs r z => by subst z; rw [r] at mu; exact mu
  by_cases hb : b = x
  · subst hb; rw [upd_same] at q; cases q; exact new
  · rw [upd_ne hb] at q
    by_cases hbe : b = e
    · have q' : H b = some (.own x) := by
        rcases he with z | z
        · exact absurd (hbe.trans z) hb
        · rw [hbe]; exact z
      rw [q] at q'; cases q'
      obtain ⟨v, hv⟩ := heo
      exact ⟨v, by rw [hbe]; exact hv⟩
    · refine (ok b u q).stay (fun c v hc r => k c v ?_ r) (fun c r => by rw [upd_ne (nown c b r)]; exact r) fun c xs r => by rw [upd_ne (ntup c xs r)]; exact r
      rcases hc with rfl | hc
      · exact hbe
      · rintro rfl
        rcases he with z | z
        · exact nown c b hc z
        · rw [hc] at z; cases z; exact hb rfl
end

/-! ### kept unless tracked; of the frames at fs (the callers') the slots may change (an exception that passes writes there); of the records at ex (iterators) nothing is said -/
structure Un (fs ex : List Addr) (H H' : Hp) (h h' : Heap) : Prop where
  keep : ∀ b o, h.get? b = some o → H b = none → b ∉ fs → b ∉ ex → h'.get? b = some o
  slot : ∀ b o, h.get? b = some o → H b = none → b ∈ fs → b ∉ ex → ∃ sl, h'.get? b = some { o with slots := sl }
  free : ∀ b o, h.get? b = some o → H b = none → b ∉ ex → H' b = none
  there : ∀ b o, h.get? b = some o → b ∉ ex → ∃ o', h'.get? b = some o'
  tups : ∀ b xs, H b = some (.tup xs) → H' b = some (.tup xs)
  frzs : ∀ b o u, H b = some (.frz o u) → H' b = some (.frz o u)
  tbls : ∀ b ps, H b = some (.tbl ps) → ∃ more, H' b = some (.tbl (ps ++ more))
section
variable {fs fs' ex ex' : List Addr} {H H1 H2 : Hp} {h h1 h2 h' : Heap} {a x e : Addr} {o : HO}
theorem Un.any (u : Un fs ex H H1 h h1) {b : Addr} {ob : Obj} (q : h.get? b = some ob) (n : H b = none) (hx : b ∉ ex) : ∃ sl, h1.get? b = some { ob with slots := sl } := by
  by_cases hb : b ∈ fs
  · exact u.slot b ob q n hb hx
  · exact ⟨ob.slots, u.keep b ob q n hb hx⟩
theorem Un.trans (a : Un fs ex H H1 h h1) (b : Un fs ex H1 H2 h1 h2) : Un fs ex H H2 h h2 where
  keep := fun c ob q n hc hx => b.keep c ob (a.keep c ob q n hc hx) (a.free c ob q n hx) hc hx
  slot := fun c ob q n hc hx => by
    obtain ⟨sl, e1⟩ := a.slot c ob q n hc hx
    obtain ⟨sl', e2⟩ := b.slot c _ e1 (a.free c ob q n hx) hc hx
    exact ⟨sl', e2⟩
  free := fun c ob q n hx => by
    obtain ⟨o', e1⟩ := a.there c ob q hx
    exact b.free c o' e1 (a.free c ob q n hx) hx
  there := fun c ob q hx => by
    obtain ⟨o', e1⟩ := a.there c ob q hx
    exact b.there c o' e1 hx
  tups := fun c xs q => b.tups c xs (a.tups c xs q)
  frzs := fun c ob xs q => b.frzs c ob xs (a.frzs c ob xs q)
  tbls := fun c ps q => by
    obtain ⟨m1, e1⟩ := a.tbls c ps q
    obtain ⟨m2, e2⟩ := b.tbls c _ e1
    exact ⟨m1 ++ m2, by rw [e2, Array.append_assoc]⟩
theorem Un.kept (k : ∀ b u, h.get? b = some u → h'.get? b = some u) : Un fs ex H H h h' :=
  ⟨fun b ob q _ _ _ => k b ob q, fun b ob q _ _ _ => ⟨ob.slots, k b ob q⟩, fun _ _ _ n _ => n, fun b ob q _ => ⟨ob, k b ob q⟩, fun _ _ q => q, fun _ _ _ q => q, fun _ ps q => ⟨#[], by rw [q]; simp⟩⟩
theorem Un.refl : Un fs ex H H h h := Un.kept fun _ _ q => q
theorem Un.laid (k : ∀ b u, h.get? b = some u → h'.get? b = some u) (hp : h.objs.size ≤ a) (hn : H a = none) : Un fs ex H (upd H a o) h h' where
  keep := fun b u q _ _ _ => k b u q
  slot := fun b u q _ _ _ => ⟨u.slots, k b u q⟩
  free := fun b u q n _ => by rw [upd_ne (Nat.ne_of_lt (Nat.lt_of_lt_of_le (Heap.lt_size q) hp))]; exact n
  there := fun b u q _ => ⟨u, k b u q⟩
  tups := fun b xs q => by rw [upd_ne (ne_of_none q hn)]; exact q
  frzs := fun b u xs q => by rw [upd_ne (ne_of_none q hn)]; exact q
  tbls := fun b ps q => ⟨#[], by rw [upd_ne (ne_of_none q hn), q]; simp⟩
theorem Un.write (mu : Mut (H x)) (he : e = x ∨ H e = some (.own x)) (k : ∀ b u, b ≠ e → h.get? b = some u → h'.get? b = some u) (heo : ∃ u, h'.get? e = some u) : Un fs ex H (upd H x o) h h' := by
  have hx : ∀ b, H b = none → b ≠ x := fun b n z => by subst z; rw [n] at mu; exact mu
  have hb : ∀ b, H b = none → b ≠ e := fun b n z => by
    subst z
    rcases he with r | r
    · exact hx b n r
    · rw [n] at r; cases r
  have hm : ∀ b u, H b = some u → ¬ Mut (some u) → b ≠ x := fun b u q nm z => by subst z; rw [q] at mu; exact nm mu
  refine ⟨fun b u q n _ _ => k b u (hb b n) q, fun b u q n _ _ => ⟨u.slots, k b u (hb b n) q⟩, fun b u q n _ => by rw [upd_ne (hx b n)]; exact n, fun b u q _ => ?_,
    fun b xs q => by rw [upd_ne (hm b _ q fun z => z)]; exact q, fun b u xs q => by rw [upd_ne (hm b _ q fun z => z)]; exact q, fun b ps q => ⟨#[], by rw [upd_ne (hm b _ q fun z => z), q]; simp⟩⟩
  by_cases hbe : b = e
  · subst hbe; exact heo
  · exact ⟨u, k b u hbe q⟩
theorem Un.mono (u : Un fs ex H H1 h h1) (hs : ∀ b ∈ fs, b ∈ fs') (hx : ∀ b ∈ ex, b ∈ ex') : Un fs' ex' H H1 h h1 :=
  ⟨fun b ob q n hb he => u.keep b ob q n (fun z => hb (hs b z)) fun z => he (hx b z), fun _ _ q n _ he => u.any q n fun z => he (hx _ z), fun b ob q n he => u.free b ob q n fun z => he (hx b z), fun b ob q he => u.there b ob q fun z => he (hx b z), u.tups, u.frzs, u.tbls⟩
end

/-! ### the heap without what is tracked -/
def trk (h : Heap) (H : Hp) : List Addr := (List.range h.objs.size).filter fun a => (H a).isSome
def hidT (h : Heap) (H : Hp) : Heap := PySem.W.hideAll h (trk h H)
theorem hidT_size (h : Heap) (H : Hp) : (hidT h H).objs.size = h.objs.size := PySem.W.hideAll_size _ _
theorem hidT_get {h : Heap} {H : Hp} {b : Addr} {o : Obj} (e : h.get? b = some o) (n : H b = none) : (hidT h H).get? b = some o :=
  PySem.W.hideAll_get _ e fun hm => by
    have q : (H b).isSome = true := (List.mem_filter.mp hm).2
    rw [n] at q; simp at q
theorem of_hidT {h : Heap} {H : Hp} {b : Addr} {o : Obj} (e : (hidT h H).get? b = some o) : h.get? b = some o ∧ H b = none := by
  have e' : h.get? b = some o := PySem.W.of_hideAll (trk h H) e
  refine ⟨e', ?_⟩
  cases q : H b with
  | none => rfl
  | some x =>
    have hm : b ∈ trk h H := List.mem_filter.mpr ⟨List.mem_range.mpr (Heap.lt_size e'), by simp [q]⟩
    have z : (hidT h H).get? b = none := PySem.W.hideAll_none (trk h H) hm
    rw [z] at e; cases e

/-! ### OpenK's ledger, filled with every new object but one -/
def allNews (g h : Heap) (L : Addr) : List (Addr × Obj) := (List.range h.objs.size).filterMap fun a => if a = L ∨ (g.get? a).isSome = true then none else (h.get? a).map fun o => (a, o)
theorem mem_allNews {g h : Heap} {L a : Addr} {o : Obj} (h1 : a ≠ L) (h2 : g.get? a = none) (h3 : h.get? a = some o) : (a, o) ∈ allNews g h L :=
  List.mem_filterMap.mpr ⟨a, List.mem_range.mpr (Heap.lt_size h3), by simp [h1, h2, h3]⟩
theorem of_mem_allNews {g h : Heap} {L : Addr} {p : Addr × Obj} (hp : p ∈ allNews g h L) : p.1 ≠ L ∧ g.get? p.1 = none ∧ h.get? p.1 = some p.2 := by
  obtain ⟨b, _, e⟩ := List.mem_filterMap.mp hp
  split at e
  · cases e
  · rename_i hn
    cases q : h.get? b with
    | none => rw [q] at e; simp at e
    | some u =>
      rw [q] at e
      simp only [Option.map_some, Option.some.injEq] at e
      subst e
      refine ⟨fun z => hn (.inl z), ?_, q⟩
      show g.get? b = none
      cases r : g.get? b with
      | none => rfl
      | some v => exact (hn (.inr (by simp [r]))).elim
def rest (g h : Heap) (L d : Addr) : List (Addr × Obj) := (allNews g h L).filter fun p => decide (p.1 ≠ d)
theorem rest_ne {g h : Heap} {L d : Addr} : ∀ p ∈ rest g h L d, p.1 ≠ d := fun p hp => of_decide_eq_true (List.mem_filter.mp hp).2
theorem mem_rest {g h : Heap} {L d a : Addr} {o : Obj} (h1 : a ≠ L) (h2 : g.get? a = none) (h3 : h.get? a = some o) (h4 : a ≠ d) : (a, o) ∈ rest g h L d :=
  List.mem_filter.mpr ⟨mem_allNews h1 h2 h3, decide_eq_true h4⟩
theorem news_all {g h : Heap} {L : Addr} : News g L h (allNews g h L) := fun p hp => let ⟨a, b, c⟩ := of_mem_allNews hp; ⟨c, a, b⟩
theorem news_at {g h : Heap} {L d : Addr} {o : Obj} (h1 : d ≠ L) (h2 : g.get? d = none) (h3 : h.get? d = some o) : News g L h ((d, o) :: rest g h L d) := fun p hp => by
  rcases List.mem_cons.mp hp with rfl | hp
  · exact ⟨h3, h1, h2⟩
  · exact news_all p (List.mem_filter.mp hp).1
/-- behind a rule that changed d alone: all else but the frame is kept -/
theorem kept_of_news {g h h' : Heap} {L d : Addr} {m : Str → Option Value} (k : ∀ b o, g.get? b = some o → h.get? b = some o) (F : Fr g L h' m) (N : News g L h' (rest g h L d)) :
    ∀ b o, b ≠ L → b ≠ d → h.get? b = some o → h'.get? b = some o := fun b o h1 h2 e => by
  cases q : g.get? b with
  | some u =>
    have := k b u q
    rw [e] at this; cases this
    exact F.keep b _ q
  | none => exact (N (b, o) (mem_rest h1 q e h2)).1
end L2

namespace L2
open PySem PySem.Spec PyProof.Rows

/-- the module's facts, over the base: the heap at the law's entry without what is tracked there -/
structure Mod (K : PySem.W.Frag) (mg : Str → Option Value) (base : Heap) : Prop where
  kin : K.In base
  glob : base.Ns mainGlobals mg
  blt : ∃ mb, base.Ns builtinsNs mb ∧ ∀ x : Str, x ≠ "__name__" → mb x = bootBuiltins x
  nolimit : base.NoLimit

/-- the context: a def's body (or a comprehension's block) running. base: fixed through the whole law; s₀, H₀: the entry; outer: the frames whose slots others may change (a def's callers); stack: all frames that run;
   ex: iterators that were made ahead of the entry and are walked here (a comprehension's); fn: the names whose cells were made at the entry (a def: all; a comprehension's block: its own); calm: not within an except suite; pn: pins that every state bears; xe: what is wanted of an exception that leaves the code -/
structure Cx where
  prog : Program
  w : World
  K : PySem.W.Frag
  mg : Str → Option Value
  base : Heap
  A : Around
  N : List Str
  s₀ : Shared
  H₀ : Hp
  env : Env
  outer : List Env
  stack : List Env
  ex : List Addr
  fn : Str → Bool
  calm : Bool
  pn : List (Addr × Obj)
  xe : Value → Shared → Prop
/-- the callers' frames -/
def frs (l : List Env) : List Addr := l.filterMap (·.frame)
abbrev Cx.fs (X : Cx) : List Addr := frs X.outer

def Vis (sc : Scope) (x : Str) : Prop := sc.names.lookup x = some .local ∨ sc.names.lookup x = some .cell ∨ sc.names.lookup x = some .free
def Loc (sc : Scope) (x : Str) : Prop := sc.names.lookup x = some .local ∨ sc.names.lookup x = some .cell
def Look (env : Env) (h : Heap) (m : Str → Option Value) (x : Str) (u : Value) : Prop :=
  (env.kindOf x = some .local ∧ m x = some u) ∨ ((env.kindOf x = some .cell ∨ env.kindOf x = some .free) ∧ ∃ c, env.cells.lookup x = some c ∧ h.IsCell c (some u))

structure Cx.Ok (X : Cx) : Prop where
  mod : Mod X.K X.mg X.base
  kind : X.env.scope.kind = .function
  glob : X.env.globals = mainGlobals
  blt : X.env.builtins = builtinsNs
  above : X.s₀.heap.objs.size ≤ X.env.locals
  inj : ∀ x y c, X.env.cells.lookup x = some c → X.env.cells.lookup y = some c → x = y
  has : ∀ x, (X.env.kindOf x = some .cell ∨ X.env.kindOf x = some .free) → ∃ c, X.env.cells.lookup x = some c
  cab : ∀ x c, X.fn x = true → X.env.cells.lookup x = some c → X.s₀.heap.objs.size ≤ c
  hd : X.calm = true → X.A.handled = none
  frames : X.A.frames = some X.stack
  stk : X.stack = X.outer ∨ (X.stack = X.env :: X.outer ∧ X.env.frame = some X.env.locals)
  exf : ∀ b ∈ X.ex, b ≠ X.env.locals ∧ ∀ x c, X.env.cells.lookup x = some c → c ≠ b
  bs : ∀ b o, X.base.get? b = some o → X.s₀.heap.get? b = some o ∧ X.H₀ b = none
  bsz : X.base.objs.size ≤ X.s₀.heap.objs.size
  noex : ∀ b o, X.base.get? b = some o → b ∉ X.ex
  exfs : ∀ b ∈ X.ex, b ∉ X.fs
  funs : X.s₀.heap.FunFrames X.base X.outer
  frf : ∀ b ∈ X.fs, X.H₀ b = none

structure Inv (X : Cx) (pins : List (Addr × Obj)) (σ : List (Option V)) (H : Hp) (s : Shared) : Prop where
  ok : X.Ok
  os : s.os = X.s₀.os
  bare : AllBare s.gens
  base : Un X.fs X.ex X.H₀ H X.s₀.heap s.heap
  loc : ∃ m, s.heap.Ns X.env.locals m ∧ ∀ (i : Nat) (x : Str) (v : V), X.N[i]? = some x → σ[i]? = some (some v) → Vis X.env.scope x → ∃ u, RelV v u ∧ Look X.env s.heap m x u
  cell : ∀ x c, X.env.cells.lookup x = some c → ∃ v, s.heap.IsCell c v
  free : H X.env.locals = none
  freeC : ∀ x c, X.env.cells.lookup x = some c → H c = none
  pin : ∀ p ∈ X.pn ++ pins, s.heap.get? p.1 = some p.2 ∧ H p.1 = none ∧ p.1 ≠ X.env.locals ∧ p.1 ∉ X.fs ∧ ∀ v, p.2.data ≠ .cell v
  hok : HOk X.prog X.w H s.heap
  len : σ.length = X.N.length

section
variable {X : Cx} {pins : List (Addr × Obj)} {σ : List (Option V)} {H H' : Hp} {s : Shared} {h' : Heap}

theorem Cx.Ok.nofr (ok : X.Ok) {b : Addr} {o : Obj} (e : X.base.get? b = some o) : b ∉ X.fs := fun hb => by
  have := (ok.funs.mem hb).1
  rw [e] at this; cases this
theorem Inv.bs (I : Inv X pins σ H s) : ∀ b o, X.base.get? b = some o → s.heap.get? b = some o ∧ H b = none := fun b o e =>
  ⟨I.base.keep b o (I.ok.bs b o e).1 (I.ok.bs b o e).2 (I.ok.nofr e) (I.ok.noex b o e), I.base.free b o (I.ok.bs b o e).1 (I.ok.bs b o e).2 (I.ok.noex b o e)⟩
theorem Inv.bk (I : Inv X pins σ H s) : ∀ b o, X.base.get? b = some o → s.heap.get? b = some o := fun b o e => (I.bs b o e).1
theorem Inv.mod (I : Inv X pins σ H s) : Mod X.K X.mg X.base := I.ok.mod
theorem Inv.kIn (I : Inv X pins σ H s) : X.K.In s.heap := I.ok.mod.kin.keeps I.bk
theorem Inv.nolimit (I : Inv X pins σ H s) : s.heap.NoLimit := I.ok.mod.nolimit.keeps I.bk
/-- the frame over the base: for OpenK's rules (K.In X.base is I.mod.kin) -/
theorem Inv.fr (I : Inv X pins σ H s) : ∃ m, Fr X.base X.env.locals s.heap m :=
  let ⟨m, hn, _⟩ := I.loc
  ⟨m, hn, I.bk, Nat.le_trans I.ok.bsz I.ok.above⟩
theorem Inv.lt (I : Inv X pins σ H s) : X.env.locals < s.heap.objs.size := let ⟨_, hn, _⟩ := I.loc; hn.lt
theorem Inv.sz (I : Inv X pins σ H s) : X.s₀.heap.objs.size ≤ s.heap.objs.size := Nat.le_trans I.ok.above (Nat.le_of_lt I.lt)
theorem Inv.nofs (I : Inv X pins σ H s) {a : Addr} (h : s.heap.objs.size ≤ a) : a ∉ X.fs := fun hb => by
  obtain ⟨_, o, ho, _⟩ := I.ok.funs.mem hb
  exact absurd (Nat.lt_of_lt_of_le (Heap.lt_size ho) (Nat.le_trans I.sz h)) (Nat.lt_irrefl _)
theorem Inv.cne (I : Inv X pins σ H s) : ∀ x c, X.env.cells.lookup x = some c → c ≠ X.env.locals := fun x c e z => by
  obtain ⟨v, o, ho, hd⟩ := I.cell x c e
  obtain ⟨m, ⟨o', es, ep, ho', hd', _⟩, _⟩ := I.loc
  rw [z, ho'] at ho; cases ho; rw [hd'] at hd; cases hd
theorem Inv.funs (I : Inv X pins σ H s) : s.heap.FunFrames X.base X.outer := by
  have all : ∀ (l : List Env), (∀ b ∈ frs l, b ∈ X.fs) → X.s₀.heap.FunFrames X.base l → s.heap.FunFrames X.base l := by
    intro l
    induction l with
    | nil => intro _ _; trivial
    | cons env r ih =>
      intro hs hl
      obtain ⟨hk, ⟨L, o, hf, hn, ho, hd⟩, hr⟩ := hl
      have hL : L ∈ X.fs := hs L (by unfold frs; rw [List.filterMap_cons, hf]; exact List.mem_cons_self)
      obtain ⟨sl, e⟩ := I.base.slot L o ho (I.ok.frf L hL) hL fun z => I.ok.exfs L z hL
      exact ⟨hk, ⟨L, _, hf, hn, e, hd⟩, ih (fun b hb => hs b (by unfold frs; rw [List.filterMap_cons, hf]; exact List.mem_cons_of_mem _ hb)) hr⟩
  exact all X.outer (fun _ hb => hb) I.ok.funs

/-- the frames that run, for a call -/
theorem Inv.stack (I : Inv X pins σ H s) : s.heap.FunFrames X.base X.stack := by
  rcases I.ok.stk with e | ⟨e, hf⟩
  · rw [e]; exact I.funs
  · rw [e]
    obtain ⟨m, hn, _⟩ := I.loc
    refine .cons (by rw [I.ok.kind]; decide) hf hn ?_ I.funs
    exact Heap.get?_none_of_le (Nat.le_trans I.ok.bsz I.ok.above)
theorem Inv.stkSub (I : Inv X pins σ H s) : ∀ b ∈ frs X.stack, b ∈ X.env.locals :: X.fs := fun b hb => by
  rcases I.ok.stk with e | ⟨e, hf⟩
  · rw [e] at hb; exact List.mem_cons_of_mem _ hb
  · rw [e] at hb
    unfold frs at hb
    rw [List.filterMap_cons, hf] at hb
    exact hb
theorem Inv.stkFree (I : Inv X pins σ H s) : ∀ b ∈ frs X.stack, H b = none := fun b hb => by
  rcases List.mem_cons.mp (I.stkSub b hb) with e | hb
  · rw [e]; exact I.free
  · obtain ⟨_, o, ho, _⟩ := I.ok.funs.mem hb
    exact I.base.free b o ho (I.ok.frf b hb) fun z => I.ok.exfs b z hb

/-- THE STEP: the untracked objects but the frame and the records at ch are kept (the callers' frames up to slots), the frame's map is kept, the new abstract heap is held -/
theorem Inv.step {g' : Array GenState} {t' : Nat} {d' : Drawn} {ch : List Addr} (I : Inv X pins σ H s)
    (hch : ∀ b ∈ ch, (b ∈ X.ex ∨ X.s₀.heap.objs.size ≤ b) ∧ b ≠ X.env.locals ∧ (∀ x c, X.env.cells.lookup x = some c → c ≠ b) ∧ ∀ p ∈ X.pn ++ pins, p.1 ≠ b)
    (keep : ∀ b o, b ≠ X.env.locals → b ∉ X.fs → b ∉ ch → s.heap.get? b = some o → H b = none → h'.get? b = some o)
    (slot : ∀ b o, b ≠ X.env.locals → b ∈ X.fs → b ∉ ch → s.heap.get? b = some o → H b = none → ∃ sl, h'.get? b = some { o with slots := sl }) (free : ∀ b o, b ∉ ch → s.heap.get? b = some o → H b = none → H' b = none)
    (there : ∀ b o, b ∉ ch → s.heap.get? b = some o → ∃ o', h'.get? b = some o')
    (tups : ∀ b xs, H b = some (.tup xs) → H' b = some (.tup xs)) (frzs : ∀ b o u, H b = some (.frz o u) → H' b = some (.frz o u)) (tbls : ∀ b ps, H b = some (.tbl ps) → ∃ more, H' b = some (.tbl (ps ++ more)))
    (ns : ∀ m, s.heap.Ns X.env.locals m → h'.Ns X.env.locals m) (hok : HOk X.prog X.w H' h') (hg : AllBare g') :
    Inv X pins σ H' { s with heap := h', gens := g', drawn := d', toks := t' } := by
  have neL : ∀ b o, X.s₀.heap.get? b = some o → b ≠ X.env.locals := fun b o e => Nat.ne_of_lt (Nat.lt_of_lt_of_le (Heap.lt_size e) I.ok.above)
  have neC : ∀ b o, X.s₀.heap.get? b = some o → b ∉ X.ex → b ∉ ch := fun b o e hx hb => by
    rcases (hch b hb).1 with z | z
    · exact hx z
    · exact absurd (Nat.lt_of_lt_of_le (Heap.lt_size e) z) (Nat.lt_irrefl _)
  have cellK : ∀ x c, X.env.cells.lookup x = some c → ∀ v, s.heap.IsCell c v → h'.IsCell c v := fun x c e v ⟨o, ho, hd⟩ => by
    have nch : c ∉ ch := fun z => (hch c z).2.2.1 x c e rfl
    by_cases hc : c ∈ X.fs
    · obtain ⟨sl, q⟩ := slot c o (I.cne x c e) hc nch ho (I.freeC x c e)
      exact ⟨_, q, hd⟩
    · exact ⟨o, keep c o (I.cne x c e) hc nch ho (I.freeC x c e), hd⟩
  refine ⟨I.ok, I.os, hg, ⟨fun b o e n hb hx => ?_, fun b o e n hb hx => ?_, fun b o e n hx => ?_, fun b o e hx => ?_, fun b xs e => tups b xs (I.base.tups b xs e), fun b o xs e => frzs b o xs (I.base.frzs b o xs e), fun b ps e => ?_⟩, ?_, fun x c e => ?_, ?_, fun x c e => ?_, fun p hp => ?_, hok, I.len⟩
  · exact keep b o (neL b o e) hb (neC b o e hx) (I.base.keep b o e n hb hx) (I.base.free b o e n hx)
  · obtain ⟨sl, e1⟩ := I.base.slot b o e n hb hx
    obtain ⟨sl', e2⟩ := slot b _ (neL b o e) hb (neC b o e hx) e1 (I.base.free b o e n hx)
    exact ⟨sl', e2⟩
  · obtain ⟨o', e1⟩ := I.base.there b o e hx
    exact free b o' (neC b o e hx) e1 (I.base.free b o e n hx)
  · obtain ⟨o', e1⟩ := I.base.there b o e hx
    exact there b o' (neC b o e hx) e1
  · obtain ⟨m1, e1⟩ := I.base.tbls b ps e
    obtain ⟨m2, e2⟩ := tbls b _ e1
    exact ⟨m1 ++ m2, by rw [e2, Array.append_assoc]⟩
  · obtain ⟨m, hn, hl⟩ := I.loc
    refine ⟨m, ns m hn, fun i x v e1 e2 e3 => ?_⟩
    obtain ⟨u, r, l⟩ := hl i x v e1 e2 e3
    refine ⟨u, r, ?_⟩
    rcases l with l | ⟨k, c, e, z⟩
    · exact .inl l
    · exact .inr ⟨k, c, e, cellK x c e _ z⟩
  · obtain ⟨v, z⟩ := I.cell x c e
    exact ⟨v, cellK x c e v z⟩
  · obtain ⟨m, ⟨o, _, _, ho, _⟩, _⟩ := I.loc
    exact free _ o (fun z => (hch _ z).2.1 rfl) ho I.free
  · obtain ⟨v, o, ho, hd⟩ := I.cell x c e
    exact free c o (fun z => (hch c z).2.2.1 x c e rfl) ho (I.freeC x c e)
  · obtain ⟨e, n, ne, nf, d⟩ := I.pin p hp
    have nch : p.1 ∉ ch := fun z => (hch p.1 z).2.2.2 p hp rfl
    exact ⟨keep p.1 p.2 ne nf nch e n, free p.1 p.2 nch e n, ne, nf, d⟩
/-- .. where the frame's own object is kept too -/
theorem Inv.un {t' : Nat} (I : Inv X pins σ H s) (u : Un X.fs [] H H' s.heap h') (hok : HOk X.prog X.w H' h') : Inv X pins σ H' { s with heap := h', toks := t' } := by
  obtain ⟨m, ⟨o, es, ep, ho, r⟩, _⟩ := id I.loc
  obtain ⟨sl, hL⟩ := u.any ho I.free (by simp)
  exact I.step (g' := s.gens) (d' := s.drawn) (ch := []) (fun _ z => nomatch z) (fun b o _ hb _ e n => u.keep b o e n hb (by simp)) (fun b o _ hb _ e n => u.slot b o e n hb (by simp)) (fun b o _ e n => u.free b o e n (by simp)) (fun b o _ e => u.there b o e (by simp)) u.tups u.frzs u.tbls (fun m' hm => by
    obtain ⟨o', es', ep', ho', r'⟩ := hm
    rw [ho] at ho'; cases ho'
    exact ⟨_, es', ep', hL, r'⟩) hok I.bare
/-- behind a call (or a comprehension's block): the slots of this frame may have changed too, the records at ch may have turned -/
theorem Inv.call {g' : Array GenState} {t' : Nat} {d' : Drawn} {ch : List Addr} (I : Inv X pins σ H s) (u : Un (frs X.stack) ch H H' s.heap h') (hok : HOk X.prog X.w H' h') (hg : AllBare g')
    (hch : ∀ b ∈ ch, (b ∈ X.ex ∨ X.s₀.heap.objs.size ≤ b) ∧ b ≠ X.env.locals ∧ (∀ x c, X.env.cells.lookup x = some c → c ≠ b) ∧ ∀ p ∈ X.pn ++ pins, p.1 ≠ b) :
    Inv X pins σ H' { s with heap := h', gens := g', drawn := d', toks := t' } := by
  obtain ⟨m, ⟨o, es, ep, ho, r⟩, _⟩ := id I.loc
  obtain ⟨sl, hL⟩ := u.any ho I.free fun z => (hch _ z).2.1 rfl
  exact I.step (ch := ch) hch (fun b o hL hb hc e n => u.keep b o e n (fun z => (List.mem_cons.mp (I.stkSub b z)).elim hL hb) hc) (fun b o _ _ hc e n => u.any e n hc) (fun b o hc e n => u.free b o e n hc) (fun b o hc e => u.there b o e hc) u.tups u.frzs u.tbls (fun m' hm => by
    obtain ⟨o', es', ep', ho', r'⟩ := hm
    rw [ho] at ho'; cases ho'
    exact ⟨_, es', ep', hL, r'⟩) hok hg
/-- an untracked record of ours (an iterator) has turned -/
theorem Inv.turned {t' : Nat} {it : Addr} (I : Inv X pins σ H s) (k : ∀ b o, b ≠ it → s.heap.get? b = some o → h'.get? b = some o) (hn : H it = none) (hL : it ≠ X.env.locals)
    (h1 : it ∈ X.ex ∨ X.s₀.heap.objs.size ≤ it) (h2 : ∀ x c, X.env.cells.lookup x = some c → c ≠ it) (h3 : ∀ p ∈ X.pn ++ pins, p.1 ≠ it) : Inv X pins σ H { s with heap := h', toks := t' } := by
  have nit : ∀ b u, H b = some u → b ≠ it := fun b u e z => by rw [z, hn] at e; cases e
  refine I.step (g' := s.gens) (d' := s.drawn) (ch := [it]) (fun b hb => ?_) (fun b o _ _ hc e _ => k b o (fun z => hc (by simp [z])) e) (fun b o _ _ hc e _ => ⟨o.slots, k b o (fun z => hc (by simp [z])) e⟩) (fun _ _ _ _ n => n)
    (fun b o hc e => ⟨o, k b o (fun z => hc (by simp [z])) e⟩) (fun _ _ e => e) (fun _ _ _ e => e) (fun b ps e => ⟨#[], by rw [e]; simp⟩) (fun m hm => ?_) (fun b u e => ?_) I.bare
  · have e : b = it := by simpa using hb
    subst e
    exact ⟨h1, hL, h2, h3⟩
  · obtain ⟨o, es, ep, ho, r⟩ := hm
    exact ⟨o, es, ep, k _ o (Ne.symm hL) ho, r⟩
  · refine (I.hok b u e).stay (fun c v hc q => k c v ?_ q) (fun _ q => q) fun _ _ q => q
    rcases hc with z | z
    · rw [z]; exact nit b u e
    · exact nit c _ z
theorem Inv.tok (I : Inv X pins σ H s) (t : Nat) : Inv X pins σ H { s with toks := t } := I.un (h' := s.heap) (t' := t) Un.refl I.hok
/-- all objects kept -/
theorem Inv.kept {t' : Nat} (I : Inv X pins σ H s) (k : ∀ b u, s.heap.get? b = some u → h'.get? b = some u) : Inv X pins σ H { s with heap := h', toks := t' } := I.un (Un.kept k) (I.hok.kept k)
/-- a new object laid and tracked -/
theorem Inv.laid {a : Addr} {o : HO} {t' : Nat} (I : Inv X pins σ H s) (k : ∀ b u, s.heap.get? b = some u → h'.get? b = some u) (hp : s.heap.objs.size ≤ a) (new : ObjOk X.prog X.w (upd H a o) h' a o) :
    Inv X pins σ (upd H a o) { s with heap := h', toks := t' } := I.un (Un.laid k hp (I.hok.fresh hp)) (I.hok.laid k hp new)
/-- an object written -/
theorem Inv.write {x e : Addr} {o : HO} {t' : Nat} (I : Inv X pins σ H s) (mu : Mut (H x)) (he : e = x ∨ H e = some (.own x)) (k : ∀ b u, b ≠ e → s.heap.get? b = some u → h'.get? b = some u) (heo : ∃ u, h'.get? e = some u)
    (new : ObjOk X.prog X.w (upd H x o) h' x o) : Inv X pins σ (upd H x o) { s with heap := h', toks := t' } := I.un (Un.write mu he k heo) (I.hok.write mu he k heo new)
/-- forgetting slots, pins -/
theorem Inv.weak {σ' : List (Option V)} (I : Inv X pins σ H s) (hl : σ'.length = σ.length) (w : ∀ (i : Nat) v, σ'[i]? = some (some v) → σ[i]? = some (some v)) : Inv X pins σ' H s :=
  ⟨I.ok, I.os, I.bare, I.base, let ⟨m, hn, hl'⟩ := I.loc; ⟨m, hn, fun i x v e1 e2 e3 => hl' i x v e1 (w i v e2) e3⟩, I.cell, I.free, I.freeC, I.pin, I.hok, hl.trans I.len⟩
theorem Inv.pins_of {pins' : List (Addr × Obj)} (I : Inv X pins σ H s) (h : ∀ p ∈ pins', s.heap.get? p.1 = some p.2 ∧ H p.1 = none ∧ p.1 ≠ X.env.locals ∧ p.1 ∉ X.fs ∧ ∀ v, p.2.data ≠ .cell v) : Inv X pins' σ H s :=
  ⟨I.ok, I.os, I.bare, I.base, I.loc, I.cell, I.free, I.freeC, fun p hp => (List.mem_append.mp hp).elim (fun z => I.pin p (List.mem_append_left _ z)) (h p), I.hok, I.len⟩

theorem nodup_ix {N : List Str} (hN : N.Nodup) {i j : Nat} {x : Str} (a : N[i]? = some x) (b : N[j]? = some x) : i = j := by
  obtain ⟨h1, e1⟩ := List.getElem?_eq_some_iff.mp a
  obtain ⟨h2, e2⟩ := List.getElem?_eq_some_iff.mp b
  exact (List.getElem_inj hN).mp (e1.trans e2.symm)

/-- a name is stored; what changed -/
theorem store_ok2 {M : Model} {A : Around} {E : Value → Shared → Prop} {i : Nat} {x : Str} {v : V} {u : Value} {Q : Unit → Shared → Prop} (I : Inv X pins σ H s) (hN : X.N.Nodup) (hi : X.N[i]? = some x) (hx : Loc X.env.scope x) (r : RelV v u)
    (h : ∀ s', Inv X pins (σ.set i (some v)) H s' → (∃ a, Heap.SameBut a s.heap s'.heap ∧ (a = X.env.locals ∨ X.env.cells.lookup x = some a)) → Q () s') (hf : X.fn x = true ∨ X.env.scope.names.lookup x = some .local := by first | exact .inl rfl | exact .inr rfl | assumption) : wpAny M A (storeName X.env x u) Q E s := by
  obtain ⟨m, hn, hl⟩ := id I.loc
  have hcls : (X.env.scope.kind == .class || (X.env.scope.kind == .module && X.env.locals != X.env.globals)) = false := by rw [I.ok.kind]; rfl
  have hiσ : i < σ.length := by rw [I.len]; exact (List.getElem?_eq_some_iff.mp hi).1
  have cne := I.cne
  have tracked : ∀ {a : Addr} {h' : Heap}, (∃ o, s.heap.get? a = some o ∧ H a = none) → Heap.SameBut a s.heap h' → HOk X.prog X.w H h' := fun {a h'} ha hs b ob e => by
    obtain ⟨_, _, hfree⟩ := ha
    refine (I.hok b ob e).stay (fun c w' hc q => (hs.2 c ?_).trans q) (fun _ q => q) fun _ _ q => q
    rintro rfl
    rcases hc with rfl | hc
    · rw [hfree] at e; cases e
    · rw [hfree] at hc; cases hc
  rcases hx with hk | hk
  · refine wpAny_storeName_local hk hn (fun h' hn' hs => ?_) hcls
    obtain ⟨oL, _, _, hoL, _⟩ := id hn
    refine h _ ⟨I.ok, I.os, I.bare, ⟨fun b o e n hb hx => ?_, fun b o e n hb hx => ?_, I.base.free, fun b o e hx => ?_, I.base.tups, I.base.frzs, I.base.tbls⟩, ⟨_, hn', fun j y v' e1 e2 e3 => ?_⟩, fun y c e => ?_, I.free, I.freeC, fun p hp => ?_, tracked ⟨oL, hoL, I.free⟩ hs, by simpa using I.len⟩ ⟨_, hs, .inl rfl⟩
    · exact (hs.2 b (Nat.ne_of_lt (Nat.lt_of_lt_of_le (Heap.lt_size e) I.ok.above))).trans (I.base.keep b o e n hb hx)
    · obtain ⟨sl, e1⟩ := I.base.slot b o e n hb hx
      exact ⟨sl, (hs.2 b (Nat.ne_of_lt (Nat.lt_of_lt_of_le (Heap.lt_size e) I.ok.above))).trans e1⟩
    · obtain ⟨o', e1⟩ := I.base.there b o e hx
      exact ⟨o', (hs.2 b (Nat.ne_of_lt (Nat.lt_of_lt_of_le (Heap.lt_size e) I.ok.above))).trans e1⟩
    · by_cases hj : j = i
      · subst hj
        rw [hi] at e1; cases e1
        rw [List.getElem?_set_self hiσ] at e2
        cases e2
        exact ⟨u, r, .inl ⟨hk, by simp⟩⟩
      · rw [List.getElem?_set_ne (Ne.symm hj)] at e2
        obtain ⟨u', r', q⟩ := hl j y v' e1 e2 e3
        refine ⟨u', r', ?_⟩
        rcases q with ⟨k, e⟩ | ⟨k, c, e, z⟩
        · refine .inl ⟨k, ?_⟩
          have : y ≠ x := fun e => hj (nodup_ix hN e1 (e ▸ hi))
          simp [this, e]
        · exact .inr ⟨k, c, e, z.sameBut hs (cne y c e)⟩
    · obtain ⟨w', z⟩ := I.cell y c e
      exact ⟨w', z.sameBut hs (cne y c e)⟩
    · obtain ⟨e, n, ne, nf, d⟩ := I.pin p hp
      exact ⟨(hs.2 p.1 ne).trans e, n, ne, nf, d⟩
  · have hfn : X.fn x = true := by
      rcases hf with z | z
      · exact z
      · rw [z] at hk; cases hk
    obtain ⟨c, hc⟩ := I.ok.has x (.inl hk)
    obtain ⟨w', z⟩ := I.cell x c hc
    refine wpAny_storeName_cell I.ok.kind hk hc z (fun h' hc' hs => ?_)
    obtain ⟨oc, hoc, hocd⟩ := id z
    refine h { s with heap := h' } ⟨I.ok, I.os, I.bare, ⟨fun b o e n hb hx => ?_, fun b o e n hb hx => ?_, I.base.free, fun b o e hx => ?_, I.base.tups, I.base.frzs, I.base.tbls⟩, ⟨m, hn.sameBut hs (Ne.symm (cne x c hc)), fun j y v' e1 e2 e3 => ?_⟩, fun y c' e => ?_, I.free, I.freeC, fun p hp => ?_, tracked ⟨oc, hoc, I.freeC x c hc⟩ hs, by simpa using I.len⟩ ⟨c, hs, .inr hc⟩
    · exact (hs.2 b (Nat.ne_of_lt (Nat.lt_of_lt_of_le (Heap.lt_size e) (I.ok.cab x c hfn hc)))).trans (I.base.keep b o e n hb hx)
    · obtain ⟨sl, e1⟩ := I.base.slot b o e n hb hx
      exact ⟨sl, (hs.2 b (Nat.ne_of_lt (Nat.lt_of_lt_of_le (Heap.lt_size e) (I.ok.cab x c hfn hc)))).trans e1⟩
    · obtain ⟨o', e1⟩ := I.base.there b o e hx
      exact ⟨o', (hs.2 b (Nat.ne_of_lt (Nat.lt_of_lt_of_le (Heap.lt_size e) (I.ok.cab x c hfn hc)))).trans e1⟩
    · by_cases hj : j = i
      · subst hj
        rw [hi] at e1; cases e1
        rw [List.getElem?_set_self hiσ] at e2
        cases e2
        exact ⟨u, r, .inr ⟨.inl hk, c, hc, hc'⟩⟩
      · rw [List.getElem?_set_ne (Ne.symm hj)] at e2
        obtain ⟨u', r', q⟩ := hl j y v' e1 e2 e3
        refine ⟨u', r', ?_⟩
        rcases q with q | ⟨k, c', e, z'⟩
        · exact .inl q
        · refine .inr ⟨k, c', e, z'.sameBut hs ?_⟩
          rintro rfl
          exact hj (nodup_ix hN e1 (I.ok.inj _ _ _ e hc ▸ hi))
    · by_cases hcc : c' = c
      · subst hcc; exact ⟨_, hc'⟩
      · obtain ⟨w2, z2⟩ := I.cell y c' e
        exact ⟨w2, z2.sameBut hs hcc⟩
    · obtain ⟨e, n, ne, nf, d⟩ := I.pin p hp
      refine ⟨(hs.2 p.1 ?_).trans e, n, ne, nf, d⟩
      intro q
      rw [q, hoc] at e
      have q' : oc = p.2 := Option.some.inj e
      exact d w' (by rw [← q']; exact hocd)
theorem store_ok {M : Model} {A : Around} {E : Value → Shared → Prop} {i : Nat} {x : Str} {v : V} {u : Value} {Q : Unit → Shared → Prop} (I : Inv X pins σ H s) (hN : X.N.Nodup) (hi : X.N[i]? = some x) (hx : Loc X.env.scope x) (r : RelV v u)
    (h : ∀ s', Inv X pins (σ.set i (some v)) H s' → Q () s') (hf : X.fn x = true ∨ X.env.scope.names.lookup x = some .local := by first | exact .inl rfl | exact .inr rfl | assumption) : wpAny M A (storeName X.env x u) Q E s :=
  store_ok2 I hN hi hx r (fun s' I' _ => h s' I') hf
/-- behind a call or a block, the state as it is -/
theorem Inv.call' {s' : Shared} {ch : List Addr} (I : Inv X pins σ H s) (ho : s'.os = s.os) (u : Un (frs X.stack) ch H H' s.heap s'.heap) (hok : HOk X.prog X.w H' s'.heap) (hg : AllBare s'.gens)
    (hch : ∀ b ∈ ch, (b ∈ X.ex ∨ X.s₀.heap.objs.size ≤ b) ∧ b ≠ X.env.locals ∧ (∀ x c, X.env.cells.lookup x = some c → c ≠ b) ∧ ∀ p ∈ X.pn ++ pins, p.1 ≠ b) : Inv X pins σ H' s' := by
  obtain ⟨h', g', d', t', o'⟩ := s'
  have e : o' = s.os := ho
  subst e
  exact I.call (g' := g') (t' := t') (d' := d') u hok hg hch
end

/-! ### the judgements -/
/-- an exception: its class, its own dict's address (where it has one), the abstract heap behind it -/
abbrev XK := Value → Option Addr → Hp → Prop
abbrev St := List (Option V)
abbrev VK := V → Hp → Prop
/-- an expression's reading; a test's; an argument list's -/
abbrev TE := St → Hp → VK → Prop
abbrev TT := St → Hp → (Bool → Hp → Prop) → Prop
abbrev TA := St → Hp → (List V → Hp → Prop) → Prop
/-- what is wanted behind a statement -/
structure Ends where
  nx : St → Hp → Prop
  rt : VK
  bk : St → Hp → Prop := fun _ _ => False
  ct : St → Hp → Prop := fun _ _ => False
abbrev TS := Ends → St → Hp → Prop

def EP (X : Cx) (pins : List (Addr × Obj)) (σ : St) (Q : VK) (u : Value) (s' : Shared) : Prop := ∃ v H', Inv X pins σ H' s' ∧ RelV v u ∧ Q v H'
def TP (X : Cx) (pins : List (Addr × Obj)) (σ : St) (Q : Bool → Hp → Prop) (b : Bool) (s' : Shared) : Prop := ∃ H', Inv X pins σ H' s' ∧ Q b H'
def AP (X : Cx) (pins : List (Addr × Obj)) (σ : St) (Q : List V → Hp → Prop) (us : List Value) (s' : Shared) : Prop := ∃ vs H', Inv X pins σ H' s' ∧ Vals vs us ∧ Q vs H'
def SP (X : Cx) (pins : List (Addr × Obj)) (D : Ends) (f : Flow) (s' : Shared) : Prop :=
  match f with
  | .next => ∃ σ' H', Inv X pins σ' H' s' ∧ D.nx σ' H'
  | .brk => ∃ σ' H', Inv X pins σ' H' s' ∧ D.bk σ' H'
  | .cont => ∃ σ' H', Inv X pins σ' H' s' ∧ D.ct σ' H'
  | .ret u => ∃ v σ' H', Inv X pins σ' H' s' ∧ RelV v u ∧ D.rt v H'

def PE (X : Cx) (e : Expr) (t : TE) : Prop :=
  ∀ (pins : List (Addr × Obj)) (s : Shared) (σ : St) (H : Hp) (Q : VK), Inv X pins σ H s → t σ H Q → wpAny (model X.prog X.w) X.A (eval e X.env) (EP X pins σ Q) X.xe s
def PT (X : Cx) (e : Expr) (t : TT) : Prop :=
  ∀ (pins : List (Addr × Obj)) (s : Shared) (σ : St) (H : Hp) (Q : Bool → Hp → Prop), Inv X pins σ H s → t σ H Q → wpAny (model X.prog X.w) X.A (isTrue e X.env (eval e X.env)) (TP X pins σ Q) X.xe s
/-- a test whatever its 'whole' is (and, or) -/
def PW (X : Cx) (e : Expr) (t : TT) : Prop :=
  ∀ (whole : Sem Value) (pins : List (Addr × Obj)) (s : Shared) (σ : St) (H : Hp) (Q : Bool → Hp → Prop), Inv X pins σ H s → t σ H Q → wpAny (model X.prog X.w) X.A (isTrue e X.env whole) (TP X pins σ Q) X.xe s
theorem PW.pt {X : Cx} {e : Expr} {t : TT} (h : PW X e t) : PT X e t := h _
/-- an argument list (no star), from the left -/
def PA (X : Cx) (es : List Expr) (t : TA) : Prop :=
  ∀ (pos : Pos) (pins : List (Addr × Obj)) (s : Shared) (σ : St) (H : Hp) (Q : List V → Hp → Prop), Inv X pins σ H s → t σ H Q → wpAny (model X.prog X.w) X.A (spliced (backTo pos (starEach es X.env))) (AP X pins σ Q) X.xe s
def PS (X : Cx) (st : Stmt) (t : TS) : Prop :=
  ∀ (pins : List (Addr × Obj)) (s : Shared) (σ : St) (H : Hp) (D : Ends), Inv X pins σ H s → t D σ H → wpAny (model X.prog X.w) X.A (exec st X.env) (SP X pins D) X.xe s
def PSs (X : Cx) (st : List Stmt) (t : TS) : Prop :=
  ∀ (pins : List (Addr × Obj)) (s : Shared) (σ : St) (H : Hp) (D : Ends), Inv X pins σ H s → t D σ H → wpAny (model X.prog X.w) X.A (execs st X.env) (SP X pins D) X.xe s
/-- weaken the end -/
theorem thn {α : Type} {t : Sem α} {Q Q' : α → Shared → Prop} {M : Model} {A : Around} {E : Value → Shared → Prop} {s : Shared} (h : wpAny M A t Q E s) (hQ : ∀ a s, Q a s → Q' a s) : wpAny M A t Q' E s := wpAny_mono h hQ fun _ _ x => x
end L2

namespace L2
open PySem PySem.Spec PyProof.Rows
section
variable {X : Cx}

/-- two expressions in a row -/
theorem bin {a b : Expr} {ta tb : TE} (ha : PE X a ta) (hb : PE X b tb) {pins : List (Addr × Obj)} {s : Shared} {σ : St} {H : Hp} {R : V → V → Hp → Prop} (I : Inv X pins σ H s) (h : ta σ H fun x H1 => tb σ H1 fun y H2 => R x y H2)
    {α : Type} {Q : α → Shared → Prop} {f : Value → Value → Sem α}
    (hf : ∀ v u s2 x y H2, Inv X pins σ H2 s2 → RelV x v → RelV y u → R x y H2 → wpAny (model X.prog X.w) X.A (f v u) Q X.xe s2) :
    wpAny (model X.prog X.w) X.A (eval a X.env) (fun v s₁ => wpAny (model X.prog X.w) X.A (eval b X.env) (fun u s₂ => wpAny (model X.prog X.w) X.A (f v u) Q X.xe s₂) X.xe s₁) X.xe s := by
  refine thn (ha pins s σ H _ I h) fun v s1 ⟨x, H1, I1, r1, q1⟩ => ?_
  refine thn (hb pins s1 σ H1 _ I1 q1) fun u s2 ⟨y, H2, I2, r2, q2⟩ => ?_
  exact hf v u s2 x y H2 I2 r1 r2 q2

/-! ### names and constants -/
def tVar (i : Nat) : TE := fun σ H Q => ∃ v, σ[i]? = some (some v) ∧ Q v H
def tC (v : V) : TE := fun _ H Q => Q v H
theorem pe_var {i : Nat} {x : Str} {pos : Pos} (hN : X.N[i]? = some x) (hv : Vis X.env.scope x) (hd : (x == ("__debug__" : Str)) = false := by decide) (hcd : (x == ("__classdict__" : Str)) = false := by decide) : PE X (.Name x pos) (tVar i) := by
  intro pins s σ H Q I h
  obtain ⟨v, e, h⟩ := h
  obtain ⟨m, hn, hl⟩ := I.loc
  obtain ⟨u, r, l⟩ := hl i x v hN e hv
  have fin : EP X pins σ Q u s := ⟨v, H, I, r, h⟩
  rcases l with ⟨hk, hm⟩ | ⟨hk, c, hc, hcell⟩
  · exact wpAny_Name (wpAny_loadName_local I.ok.kind hk hn hm fin) hd
  · rcases hk with hk | hk
    · exact wpAny_Name (wpAny_loadName_cell I.ok.kind hk hc hcell fin) hd
    · exact wpAny_Name (wpAny_loadName_free I.ok.kind hk hc hcell fin hcd) hd
theorem pe_int {i j pos} : PE X (.Constant (.int i) j pos) (tC (.int i)) := fun _ _ _ H _ I h => wpAny_Constant_int ⟨.int i, H, I.tok _, ⟨_, rfl⟩, h⟩
theorem pe_bl {b j pos} : PE X (.Constant (.bool b) j pos) (tC (.bl b)) := fun _ _ _ H _ I h => Constant_bool ⟨.bl b, H, I, rfl, h⟩
theorem pe_non {j pos} : PE X (.Constant .none j pos) (tC .non) := fun _ _ _ H _ I h => Constant_none ⟨.non, H, I, rfl, h⟩
theorem pe_str {x j pos} : PE X (.Constant (.str x) j pos) (tC (.str x)) := fun _ _ _ H _ I h => Calls.Constant_str ⟨.str x, H, I.tok _, ⟨_, rfl⟩, h⟩

/-- a global name of the def -/
def Gl (X : Cx) (x : Str) : Prop := X.env.kindOf x = some .globalImplicit
theorem ld_glob {E : Value → Shared → Prop} {pins : List (Addr × Obj)} {s : Shared} {σ : St} {H : Hp} {x : Str} {u : Value} {pos : Pos} {Q : Value → Shared → Prop} (I : Inv X pins σ H s) (hg : Gl X x) (hm : X.mg x = some u) (h : Q u s)
    (hd : (x == ("__debug__" : Str)) = false := by decide) : wpAny (model X.prog X.w) X.A (eval (.Name x pos) X.env) Q E s :=
  Calls.Name_function_global I.ok.kind hg (Calls.loadGlobal_global (by rw [I.ok.glob]; exact I.mod.glob.keeps I.bk) hm h) hd
theorem ld_blt {E : Value → Shared → Prop} {pins : List (Addr × Obj)} {s : Shared} {σ : St} {H : Hp} {x : Str} {u : Value} {pos : Pos} {Q : Value → Shared → Prop} (I : Inv X pins σ H s) (hg : Gl X x) (hm : X.mg x = none) (hv : bootBuiltins x = some u) (h : Q u s)
    (hn : x ≠ "__name__" := by decide) (hd : (x == ("__debug__" : Str)) = false := by decide) : wpAny (model X.prog X.w) X.A (eval (.Name x pos) X.env) Q E s := by
  obtain ⟨mb, h1, h2⟩ := I.mod.blt
  exact Calls.Name_function_global I.ok.kind hg (Calls.loadGlobal_builtin (by rw [I.ok.glob]; exact I.mod.glob.keeps I.bk) hm (by rw [I.ok.blt]; exact h1.keeps I.bk) ((h2 x hn).trans hv) h) hd
/-- a module's constant, a class, a function, as a value -/
theorem pe_glob {x : Str} {v : V} {u : Value} {pos : Pos} (hg : Gl X x) (hm : X.mg x = some u) (r : RelV v u) (hd : (x == ("__debug__" : Str)) = false := by decide) : PE X (.Name x pos) (tC v) :=
  fun _ _ _ H _ I h => ld_glob I hg hm ⟨v, H, I, r, h⟩ hd
theorem pe_bltn {x : Str} {v : V} {u : Value} {pos : Pos} (hg : Gl X x) (hm : X.mg x = none) (hv : bootBuiltins x = some u) (r : RelV v u) (hn : x ≠ "__name__" := by decide) (hd : (x == ("__debug__" : Str)) = false := by decide) : PE X (.Name x pos) (tC v) :=
  fun _ _ _ H _ I h => ld_blt I hg hm hv ⟨v, H, I, r, h⟩ hn hd

/-! ### arithmetic -/
/-- two ints -/
def t2I (ta tb : TE) (k : Int → Int → Hp → Prop) : St → Hp → Prop := fun σ H => ta σ H fun x H1 => tb σ H1 fun y H2 => ∃ i j, x = .int i ∧ y = .int j ∧ k i j H2
def tAdd (ta tb : TE) : TE := fun σ H Q => t2I ta tb (fun i j H2 => Q (.int (i + j)) H2) σ H
def tSub (ta tb : TE) : TE := fun σ H Q => t2I ta tb (fun i j H2 => Q (.int (i - j)) H2) σ H
/-- the left factor below 2^64 -/
def tMul (ta tb : TE) : TE := fun σ H Q => t2I ta tb (fun i j H2 => (-(2 ^ 64) < i ∧ i < 2 ^ 64) ∧ Q (.int (i * j)) H2) σ H
variable {a b : Expr} {ta tb : TE} {pos : Pos}
theorem pe_add (ha : PE X a ta) (hb : PE X b tb) : PE X (.BinOp a .Add b pos) (tAdd ta tb) := by
  intro pins s σ H Q I h
  refine wpAny_BinOp (bin ha hb I h fun v u s2 x y H2 I2 rx ry q => ?_)
  obtain ⟨i, j, rfl, rfl, q⟩ := q
  obtain ⟨t, rfl⟩ := rx
  obtain ⟨t', rfl⟩ := ry
  exact add_int ⟨.int _, H2, I2.tok _, ⟨_, rfl⟩, q⟩
theorem pe_sub (ha : PE X a ta) (hb : PE X b tb) : PE X (.BinOp a .Sub b pos) (tSub ta tb) := by
  intro pins s σ H Q I h
  refine wpAny_BinOp (bin ha hb I h fun v u s2 x y H2 I2 rx ry q => ?_)
  obtain ⟨i, j, rfl, rfl, q⟩ := q
  obtain ⟨t, rfl⟩ := rx
  obtain ⟨t', rfl⟩ := ry
  exact sub_int ⟨.int _, H2, I2.tok _, ⟨_, rfl⟩, q⟩
theorem pe_mul (ha : PE X a ta) (hb : PE X b tb) : PE X (.BinOp a .Mult b pos) (tMul ta tb) := by
  intro pins s σ H Q I h
  refine wpAny_BinOp (bin ha hb I h fun v u s2 x y H2 I2 rx ry q => ?_)
  obtain ⟨i, j, rfl, rfl, ⟨q1, q2⟩, q⟩ := q
  obtain ⟨t, rfl⟩ := rx
  obtain ⟨t', rfl⟩ := ry
  exact mul_int ⟨.int _, H2, I2.tok _, ⟨_, rfl⟩, q⟩ (.of_left (intBits_le_64 q1 q2))

/-! ### comparisons -/
def PC (X : Cx) (op : CmpOp) (a b : Expr) (t : TE) : Prop :=
  ∀ (pins : List (Addr × Obj)) (s : Shared) (σ : St) (H : Hp) (Q : VK), Inv X pins σ H s → t σ H Q →
    wpAny (model X.prog X.w) X.A (eval a X.env) (fun v s₁ => wpAny (model X.prog X.w) X.A (eval b X.env) (fun u s₂ => wpAny (model X.prog X.w) X.A (compareOp op v u) (EP X pins σ Q) X.xe s₂) X.xe s₁) X.xe s
theorem nobehind (b : Expr) {op : CmpOp} (h : op ≠ .In) (h2 : op ≠ .NotIn) : behindInMarks op b = false := by
  have e1 : (op == CmpOp.In) = false := by cases op <;> first | rfl | exact absurd rfl h
  have e2 : (op == CmpOp.NotIn) = false := by cases op <;> first | rfl | exact absurd rfl h2
  cases b <;> simp [behindInMarks, e1, e2]
def tCmp (p : Int → Int → Bool) (ta tb : TE) : TE := fun σ H Q => t2I ta tb (fun i j H2 => Q (.bl (p i j)) H2) σ H
abbrev tLt : TE → TE → TE := tCmp fun i j => decide (i < j)
abbrev tLe : TE → TE → TE := tCmp fun i j => decide (i ≤ j)
abbrev tGt : TE → TE → TE := tCmp fun i j => decide (j < i)
abbrev tGe : TE → TE → TE := tCmp fun i j => decide (j ≤ i)
abbrev tEqI : TE → TE → TE := tCmp fun i j => decide (i = j)
abbrev tNeI : TE → TE → TE := tCmp fun i j => !decide (i = j)
/-- a comparison of two ints, by its rule -/
theorem pc_int {op : CmpOp} {p : Int → Int → Bool} (ha : PE X a ta) (hb : PE X b tb)
    (rule : ∀ (i j : Int) (t u : Tok) (Q : Value → Shared → Prop) (s : Shared), Q (.bool (p i j)) s → wpAny (model X.prog X.w) X.A (compareOp op (.int i t) (.int j u)) Q X.xe s) : PC X op a b (tCmp p ta tb) := by
  intro pins s σ H Q I h
  refine bin ha hb I h fun v u s2 x y H2 I2 rx ry q => ?_
  obtain ⟨i, j, rfl, rfl, q⟩ := q
  obtain ⟨t, rfl⟩ := rx
  obtain ⟨t', rfl⟩ := ry
  exact rule i j t t' _ s2 ⟨.bl _, H2, I2, rfl, q⟩
theorem pc_lt (ha : PE X a ta) (hb : PE X b tb) : PC X .Lt a b (tLt ta tb) := pc_int ha hb fun _ _ _ _ _ _ h => lt_int h
theorem pc_le (ha : PE X a ta) (hb : PE X b tb) : PC X .LtE a b (tLe ta tb) := pc_int ha hb fun _ _ _ _ _ _ h => le_int h
theorem pc_gt (ha : PE X a ta) (hb : PE X b tb) : PC X .Gt a b (tGt ta tb) := pc_int ha hb fun _ _ _ _ _ _ h => gt_int h
theorem pc_ge (ha : PE X a ta) (hb : PE X b tb) : PC X .GtE a b (tGe ta tb) := pc_int ha hb fun _ _ _ _ _ _ h => ge_int h
theorem pc_eqI (ha : PE X a ta) (hb : PE X b tb) : PC X .Eq a b (tEqI ta tb) := pc_int ha hb fun _ _ _ _ _ _ h => eq_int (by rw [Bool.beq_eq_decide_eq]; exact h)
theorem pc_neI (ha : PE X a ta) (hb : PE X b tb) : PC X .NotEq a b (tNeI ta tb) := pc_int ha hb fun _ _ _ _ _ _ h => ne_int (by rw [bne, Bool.beq_eq_decide_eq]; exact h)
/-- is None -/
def tIsN (ta : TE) : TE := fun σ H Q => ta σ H fun x H1 => Q (.bl (decide (x = .non))) H1
def tNotN (ta : TE) : TE := fun σ H Q => ta σ H fun x H1 => Q (.bl (!decide (x = .non))) H1
theorem RelV.none_iff {x : V} {v : Value} (r : RelV x v) : (v == Value.none) = decide (x = .non) := by
  cases x with
  | non => cases r; rfl
  | bl _ => cases r; rfl
  | int _ => obtain ⟨t, rfl⟩ := r; rfl
  | str _ => obtain ⟨t, rfl⟩ := r; rfl
  | byt _ => obtain ⟨t, rfl⟩ := r; rfl
  | flt _ => obtain ⟨t, rfl⟩ := r; rfl
  | ref _ => cases r; rfl
  | ty _ => cases r; rfl
theorem pc_isN {j pos'} (ha : PE X a ta) : PC X .Is a (.Constant .none j pos') (tIsN ta) := by
  intro pins s σ H Q I h
  refine thn (ha pins s σ H _ I h) fun v s1 ⟨x, H1, I1, r1, q1⟩ => ?_
  exact Constant_none (is_none_gen ⟨.bl _, H1, I1, by rw [r1.none_iff]; rfl, q1⟩)
theorem pc_notN {j pos'} (ha : PE X a ta) : PC X .IsNot a (.Constant .none j pos') (tNotN ta) := by
  intro pins s σ H Q I h
  refine thn (ha pins s σ H _ I h) fun v s1 ⟨x, H1, I1, r1, q1⟩ => ?_
  exact Constant_none (isnot_none_gen ⟨.bl _, H1, I1, by rw [r1.none_iff]; rfl, q1⟩)
/-- a comparison as a value, as a test -/
def tB (t : TE) : TT := fun σ H Q => t σ H fun x H1 => ∃ c, x = .bl c ∧ Q c H1
theorem pe_cmp {op : CmpOp} {t : TE} (h : PC X op a b t) (h1 : behindInMarks op b = false := by first | exact nobehind _ (by decide) (by decide) | rfl) : PE X (.Compare a [op] [b] pos) t := fun pins s σ H Q I hw => wpAny_Compare1 (h pins s σ H Q I hw) h1
theorem pt_cmp {op : CmpOp} {t : TE} (h : PC X op a b t) (h1 : behindInMarks op b = false := by first | exact nobehind _ (by decide) (by decide) | rfl) : PT X (.Compare a [op] [b] pos) (tB t) := by
  intro pins s σ H Q I hw
  refine wpAny_isTrue_Compare1 (thn (h pins s σ H _ I hw) fun v s1 h1 => thn h1 fun u s2 h2 => thn h2 fun c s3 ⟨x, H1, I1, r1, q1⟩ => ?_) h1
  obtain ⟨d, rfl, q⟩ := q1
  cases r1
  exact wpAny_truthy_bool ⟨H1, I1, q⟩
/-- an expression whose value is a bool, as a test -/
theorem pt_val {e : Expr} {t : TE} (h : PE X e t) (he : ∀ whole, isTrue e X.env whole = (do let v ← whole; standAt e.pos; holding [v] (truthy v)) := by intro _; rfl) : PT X e (tB t) := by
  intro pins s σ H Q I hw
  refine isTrue_plain (thn (h pins s σ H _ I hw) fun v s1 ⟨x, H1, I1, r1, q1⟩ => ?_) (he _)
  obtain ⟨d, rfl, q⟩ := q1
  cases r1
  exact wpAny_truthy_bool ⟨H1, I1, q⟩

/-! ### and, or, not -/
variable {tA tB' : TT} {rest : List Expr}
def tAnd (t u : TT) : TT := fun σ H Q => t σ H fun c H1 => if c = true then u σ H1 Q else Q false H1
def tOr (t u : TT) : TT := fun σ H Q => t σ H fun c H1 => if c = true then Q true H1 else u σ H1 Q
def tNot (t : TT) : TT := fun σ H Q => t σ H fun c H1 => Q (!c) H1
theorem pw_and1 (ha : PT X a tA) : PW X (.BoolOp .And [a] pos) tA := by
  intro wh pins s σ H Q I h
  refine isTrue_and (thn (ha pins s σ H Q I h) fun c s1 e => ?_)
  cases c with
  | true => exact isTrue_and_nil e
  | false => exact e
theorem pw_or1 (ha : PT X a tA) : PW X (.BoolOp .Or [a] pos) tA := by
  intro wh pins s σ H Q I h
  refine isTrue_or (thn (ha pins s σ H Q I h) fun c s1 e => ?_)
  cases c with
  | false => exact isTrue_or_nil e
  | true => exact e
theorem pw_and (ha : PT X a tA) (hb : PW X (.BoolOp .And (b :: rest) pos) tB') : PW X (.BoolOp .And (a :: b :: rest) pos) (tAnd tA tB') := by
  intro wh pins s σ H Q I h
  refine isTrue_and (thn (ha pins s σ H _ I h) fun c s1 ⟨H1, I1, q1⟩ => ?_)
  cases c with
  | true => exact hb wh pins s1 σ H1 Q I1 q1
  | false => exact ⟨H1, I1, q1⟩
theorem pw_or (ha : PT X a tA) (hb : PW X (.BoolOp .Or (b :: rest) pos) tB') : PW X (.BoolOp .Or (a :: b :: rest) pos) (tOr tA tB') := by
  intro wh pins s σ H Q I h
  refine isTrue_or (thn (ha pins s σ H _ I h) fun c s1 ⟨H1, I1, q1⟩ => ?_)
  cases c with
  | true => exact ⟨H1, I1, q1⟩
  | false => exact hb wh pins s1 σ H1 Q I1 q1
theorem pt_not (ha : PT X a tA) : PT X (.UnaryOp .Not a pos) (tNot tA) := by
  intro pins s σ H Q I h
  exact isTrue_not (ha pins s σ H (fun c H1 => Q (!c) H1) I h)
/-- .. as values (bools) -/
def tAndV (ta tb : TE) : TE := fun σ H Q => ta σ H fun x H1 => ∃ c, x = .bl c ∧ if c = true then tb σ H1 Q else Q (.bl false) H1
def tOrV (ta tb : TE) : TE := fun σ H Q => ta σ H fun x H1 => ∃ c, x = .bl c ∧ if c = true then Q (.bl true) H1 else tb σ H1 Q
def tNotV (ta : TE) : TE := fun σ H Q => ta σ H fun x H1 => ∃ c, x = .bl c ∧ Q (.bl (!c)) H1
theorem pe_one {op} {t : TE} (h : PE X a t) : PE X (.BoolOp op [a] pos) t := fun pins s σ H Q I hw => BoolOp_one (h pins s σ H Q I hw)
theorem pe_and (ha : PE X a ta) (hb : PE X (.BoolOp .And (b :: rest) pos) tb) : PE X (.BoolOp .And (a :: b :: rest) pos) (tAndV ta tb) := by
  intro pins s σ H Q I h
  refine BoolOp_and (thn (ha pins s σ H _ I h) fun v s1 ⟨x, H1, I1, r1, q1⟩ => ?_)
  obtain ⟨c, rfl, q1⟩ := q1
  cases r1
  refine wpAny_truthy_bool ?_
  cases c with
  | true => exact hb pins s1 σ H1 Q I1 q1
  | false => exact ⟨.bl false, H1, I1, rfl, q1⟩
theorem pe_or (ha : PE X a ta) (hb : PE X (.BoolOp .Or (b :: rest) pos) tb) : PE X (.BoolOp .Or (a :: b :: rest) pos) (tOrV ta tb) := by
  intro pins s σ H Q I h
  refine BoolOp_or (thn (ha pins s σ H _ I h) fun v s1 ⟨x, H1, I1, r1, q1⟩ => ?_)
  obtain ⟨c, rfl, q1⟩ := q1
  cases r1
  refine wpAny_truthy_bool ?_
  cases c with
  | false => exact hb pins s1 σ H1 Q I1 q1
  | true => exact ⟨.bl true, H1, I1, rfl, q1⟩
theorem pe_not (ha : PE X a ta) : PE X (.UnaryOp .Not a pos) (tNotV ta) := by
  intro pins s σ H Q I h
  refine UnaryOp_ (thn (ha pins s σ H _ I h) fun v s1 ⟨x, H1, I1, r1, q1⟩ => ?_)
  obtain ⟨c, rfl, q1⟩ := q1
  cases r1
  exact not_of (wpAny_truthy_bool ⟨.bl (!c), H1, I1, rfl, q1⟩)
/-- a if t else b -/
def tIf (t : TT) (ta tb : TE) : TE := fun σ H Q => t σ H fun c H1 => if c = true then ta σ H1 Q else tb σ H1 Q
theorem pe_ifExp {c : Expr} (hc : PT X c tA) (ha : PE X a ta) (hb : PE X b tb) : PE X (.IfExp c a b pos) (tIf tA ta tb) := by
  intro pins s σ H Q I h
  refine wpAny_IfExp (thn (hc pins s σ H _ I h) fun d s1 ⟨H1, I1, q1⟩ => ?_)
  cases d with
  | true => exact ha pins s1 σ H1 Q I1 q1
  | false => exact hb pins s1 σ H1 Q I1 q1
end
end L2

namespace L2
open PySem PySem.Spec PyProof.Rows

/-! ### a list, a tuple that is read: tracked, frozen, or an object of the module -/
def SqL (K : PySem.W.Frag) (H : Hp) (a : Addr) (xs : List V) : Prop :=
  Rd H a (.lst xs) ∨
    ∃ (o : Obj) (its : Array Value) (n : Nat), K.lookup a = some o ∧ o.cls = .type "list" ∧ o.dict = none ∧ o.data = .seq its n ∧ its.size ≤ sizeLine ∧ Vals xs its.toList
def SqT (K : PySem.W.Frag) (H : Hp) (a : Addr) (xs : List V) : Prop :=
  Rd H a (.tup xs) ∨
    ∃ (o : Obj) (its : Array Value) (n : Nat), K.lookup a = some o ∧ o.cls = .type "tuple" ∧ o.data = .seq its n ∧ its.size ≤ sizeLine ∧ Vals xs its.toList
def absV : Value → Option V
  | .none => some .non
  | .bool b => some (.bl b)
  | .int i _ => some (.int i)
  | .str x _ => some (.str x)
  | .bytes b _ => some (.byt b)
  | .float b _ => some (.flt b)
  | .ref a => some (.ref a)
  | .type n => some (.ty n)
  | _ => none
theorem RelV.abs {x : V} {u : Value} (r : RelV x u) : absV u = some x := by
  cases x with
  | non => cases r; rfl
  | bl _ => cases r; rfl
  | int _ => obtain ⟨t, rfl⟩ := r; rfl
  | str _ => obtain ⟨t, rfl⟩ := r; rfl
  | byt _ => obtain ⟨t, rfl⟩ := r; rfl
  | flt _ => obtain ⟨t, rfl⟩ := r; rfl
  | ref _ => cases r; rfl
  | ty _ => cases r; rfl
theorem RelV.inj {x y : V} {u : Value} (r : RelV x u) (q : RelV y u) : x = y := Option.some.inj (r.abs.symm.trans q.abs)
theorem Vals.inj : ∀ {xs ys : List V} {us : List Value}, Vals xs us → Vals ys us → xs = ys
  | _, _, _, .nil, .nil => rfl
  | _, _, _, .cons r t, .cons r' t' => by rw [r.inj r', Vals.inj t t']
section
variable {X : Cx} {pins : List (Addr × Obj)} {σ : St} {H : Hp} {s : Shared} {a : Addr} {xs ys : List V}
theorem SqL.of {K : PySem.W.Frag} (h : H a = some (.lst xs)) : SqL K H a xs := .inl (.inl h)
theorem SqT.of {K : PySem.W.Frag} (h : H a = some (.tup xs)) : SqT K H a xs := .inl (.inl h)
theorem Inv.list (I : Inv X pins σ H s) (h : SqL X.K H a xs) : ∃ its : List Value, Vals xs its ∧ PlainL s.heap a its.toArray ∧ xs.length ≤ sizeLine := by
  rcases h with h | ⟨o, its, n, hk, hc, hd, hs, hz, r⟩
  · obtain ⟨z, its, n, r, e⟩ := h.ok I.hok
    exact ⟨its, r, ⟨_, n, e, rfl, rfl, rfl⟩, z⟩
  · refine ⟨its.toList, r, ⟨o, n, I.kIn a o hk, hc, hd, by simpa using hs⟩, ?_⟩
    have e := r.length
    simp only [Array.length_toList] at e
    omega
theorem Inv.tuple (I : Inv X pins σ H s) (h : SqT X.K H a xs) : ∃ its : List Value, Vals xs its ∧ IsTup s.heap a its.toArray ∧ xs.length ≤ sizeLine := by
  rcases h with h | ⟨o, its, n, hk, hc, hs, hz, r⟩
  · obtain ⟨z, its, r, p⟩ := h.ok I.hok
    exact ⟨its, r, p, z⟩
  · refine ⟨its.toList, r, ⟨o, I.kIn a o hk, hc, n, by simpa using hs⟩, ?_⟩
    have e := r.length
    simp only [Array.length_toList] at e
    omega
theorem Inv.list_inj (I : Inv X pins σ H s) (h : SqL X.K H a xs) (h' : SqL X.K H a ys) : xs = ys := by
  obtain ⟨its, r, ⟨o, n, e, _, _, d⟩, _⟩ := I.list h
  obtain ⟨its', r', ⟨o', n', e', _, _, d'⟩, _⟩ := I.list h'
  rw [e] at e'; cases e'
  rw [d] at d'
  injection d' with d1 _
  have : its = its' := by simpa using congrArg Array.toList d1
  subst this
  exact r.inj r'
theorem Inv.tuple_inj (I : Inv X pins σ H s) (h : SqT X.K H a xs) (h' : SqT X.K H a ys) : xs = ys := by
  obtain ⟨its, r, ⟨o, e, _, n, d⟩, _⟩ := I.tuple h
  obtain ⟨its', r', ⟨o', e', _, n', d'⟩, _⟩ := I.tuple h'
  rw [e] at e'; cases e'
  rw [d] at d'
  injection d' with d1 _
  have : its = its' := by simpa using congrArg Array.toList d1
  subst this
  exact r.inj r'
end

/-! ### another wish about exceptions -/
abbrev Cx.wish (X : Cx) (E : Value → Shared → Prop) : Cx := { X with xe := E }
/-- no exception leaves -/
abbrev Cx.nox (X : Cx) : Cx := X.wish fun _ _ => False
theorem Cx.Ok.wish {X : Cx} (ok : X.Ok) (E : Value → Shared → Prop) : (X.wish E).Ok :=
  ⟨ok.mod, ok.kind, ok.glob, ok.blt, ok.above, ok.inj, ok.has, ok.cab, ok.hd, ok.frames, ok.stk, ok.exf, ok.bs, ok.bsz, ok.noex, ok.exfs, ok.funs, ok.frf⟩
theorem Cx.Ok.unwish {X : Cx} {E : Value → Shared → Prop} (ok : (X.wish E).Ok) : X.Ok :=
  ⟨ok.mod, ok.kind, ok.glob, ok.blt, ok.above, ok.inj, ok.has, ok.cab, ok.hd, ok.frames, ok.stk, ok.exf, ok.bs, ok.bsz, ok.noex, ok.exfs, ok.funs, ok.frf⟩
section
variable {X : Cx} {pins : List (Addr × Obj)} {σ : St} {H : Hp} {s : Shared} {E : Value → Shared → Prop}
theorem Inv.wish (I : Inv X pins σ H s) (E : Value → Shared → Prop) : Inv (X.wish E) pins σ H s := ⟨I.ok.wish E, I.os, I.bare, I.base, I.loc, I.cell, I.free, I.freeC, I.pin, I.hok, I.len⟩
theorem Inv.unwish (I : Inv (X.wish E) pins σ H s) : Inv X pins σ H s := ⟨I.ok.unwish, I.os, I.bare, I.base, I.loc, I.cell, I.free, I.freeC, I.pin, I.hok, I.len⟩
theorem SP.unwish {D : Ends} {f : Flow} {s' : Shared} (h : SP (X.wish E) pins D f s') : SP X pins D f s' := by
  cases f with
  | next => obtain ⟨σ', H', I, q⟩ := h; exact ⟨σ', H', I.unwish, q⟩
  | brk => obtain ⟨σ', H', I, q⟩ := h; exact ⟨σ', H', I.unwish, q⟩
  | cont => obtain ⟨σ', H', I, q⟩ := h; exact ⟨σ', H', I.unwish, q⟩
  | ret u => obtain ⟨v, σ', H', I, r, q⟩ := h; exact ⟨v, σ', H', I.unwish, r, q⟩
theorem PE.nox {e : Expr} {t : TE} (h : PE X.nox e t) : PE X e t := fun pins s σ H Q I hw =>
  wpAny_mono (h pins s σ H Q (I.wish _) hw) (fun _ _ ⟨v, H', I', r, q⟩ => ⟨v, H', I'.unwish, r, q⟩) fun _ _ z => False.elim z
theorem PT.nox {e : Expr} {t : TT} (h : PT X.nox e t) : PT X e t := fun pins s σ H Q I hw =>
  wpAny_mono (h pins s σ H Q (I.wish _) hw) (fun _ _ ⟨H', I', q⟩ => ⟨H', I'.unwish, q⟩) fun _ _ z => False.elim z
theorem PSs.nox {st : List Stmt} {t : TS} (h : PSs X.nox st t) : PSs X st t := fun pins s σ H D I hw =>
  wpAny_mono (h pins s σ H D (I.wish _) hw) (fun _ _ q => q.unwish) fun _ _ z => False.elim z
end

/-! ### blocks and small statements -/
section
variable {X : Cx} {st : Stmt} {rest : List Stmt} {t u : TS} {e : Expr} {te : TE} {pos : Pos}
def tNext : TS := fun D σ H => D.nx σ H
def tSeq (t u : TS) : TS := fun D σ H => t { D with nx := u D } σ H
theorem pss_nil : PSs X [] tNext := fun _ _ σ H _ I h => wpAny_execs_nil ⟨σ, H, I, h⟩
theorem pss_cons (h1 : PS X st t) (h2 : PSs X rest u) : PSs X (st :: rest) (tSeq t u) := by
  intro pins s σ H D I h
  refine wpAny_execs_cons (thn (h1 pins s σ H { D with nx := u D } I h) fun f s1 q => ?_)
  cases f with
  | next =>
    obtain ⟨σ', H', I', q⟩ := q
    exact h2 pins s1 σ' H' D I' q
  | ret v => exact q
  | brk => exact q
  | cont => exact q
theorem pss_one (h1 : PS X st t) : PSs X [st] t := by
  intro pins s σ H D I h
  refine wpAny_execs_cons (thn (h1 pins s σ H D I h) fun f s1 q => ?_)
  cases f with
  | next => exact wpAny_execs_nil q
  | ret v => exact q
  | brk => exact q
  | cont => exact q
def tBreak : TS := fun D σ H => D.bk σ H
def tCont : TS := fun D σ H => D.ct σ H
theorem ps_pass : PS X (.Pass pos) tNext := fun _ _ σ H _ I h => wpAny_Pass ⟨σ, H, I, h⟩
theorem ps_break : PS X (.Break pos) tBreak := fun _ _ σ H _ I h => wpAny_Break ⟨σ, H, I, h⟩
theorem ps_continue : PS X (.Continue pos) tCont := fun _ _ σ H _ I h => wpAny_Continue ⟨σ, H, I, h⟩
/-- in a def's body nothing is shown -/
theorem Inv.quiet {pins : List (Addr × Obj)} {σ : St} {H : Hp} {s : Shared} (I : Inv X pins σ H s) : interactive X.env = false := by simp [interactive, I.ok.kind]
/-- a docstring -/
theorem ps_doc {x j pos pos'} : PS X (.Expr (.Constant (.str x) j pos) pos') tNext := fun _ s σ H _ I h => wpAny_Expr (Calls.Constant_str (show SP X _ _ .next { s with toks := s.toks + 1 } from ⟨σ, H, I.tok _, h⟩)) I.quiet
/-- an expression whose value is dropped -/
def tDrop (te : TE) : TS := fun D σ H => te σ H fun _ H1 => D.nx σ H1
theorem ps_expr (he : PE X e te) (hs : swapsWith e none pos.line X.env = pure false := by rfl) : PS X (.Expr e pos) (tDrop te) := by
  intro pins s σ H D I h
  exact wpAny_Expr_any (thn (he pins s σ H _ I h) fun v s1 ⟨x, H1, I1, r1, q1⟩ => ⟨σ, H1, I1, q1⟩) I.quiet hs
def tRet (te : TE) : TS := fun D σ H => te σ H D.rt
theorem ps_ret (he : PE X e te) : PS X (.Return (some e) pos) (tRet te) := by
  intro pins s σ H D I h
  exact wpAny_Return_some (thn (he pins s σ H _ I h) fun v s1 ⟨x, H1, I1, r1, q1⟩ => ⟨x, σ, H1, I1, r1, q1⟩)
def tRetN : TS := fun D _ H => D.rt .non H
theorem ps_retN : PS X (.Return none pos) tRetN := fun _ _ σ H _ I h => wpAny_Return_none ⟨.non, σ, H, I, rfl, h⟩
def tIfS (c : TT) (t u : TS) : TS := fun D σ H => c σ H fun b H1 => if b = true then t D σ H1 else u D σ H1
theorem ps_if {c : Expr} {a b : List Stmt} {tc : TT} (hc : PT X c tc) (ha : PSs X a t) (hb : PSs X b u) : PS X (.If c a b pos) (tIfS tc t u) := by
  intro pins s σ H D I h
  refine wpAny_If (thn (hc pins s σ H _ I h) fun d s1 ⟨H1, I1, q1⟩ => ?_)
  cases d with
  | true => exact ha pins s1 σ H1 D I1 q1
  | false => exact hb pins s1 σ H1 D I1 q1
/-- code that the proof never comes to -/
def tNever : TS := fun _ _ _ => False
theorem ps_never : PS X st tNever := fun _ _ _ _ _ _ h => h.elim
theorem pss_never {sts : List Stmt} : PSs X sts tNever := fun _ _ _ _ _ _ h => h.elim
end

/-! ### targets -/
abbrev TG := V → St → Hp → (St → Hp → Prop) → Prop
abbrev TGs := List V → St → Hp → (St → Hp → Prop) → Prop
def PG (X : Cx) (target : Expr) (t : TG) : Prop :=
  ∀ (pins : List (Addr × Obj)) (s : Shared) (σ : St) (H : Hp) (v : V) (u : Value) (Q : St → Hp → Prop), Inv X pins σ H s → RelV v u → t v σ H Q →
    wpAny (model X.prog X.w) X.A (assign target X.env u) (fun _ s' => ∃ σ' H', Inv X pins σ' H' s' ∧ Q σ' H') X.xe s
/-- several targets, one after another -/
def PGs (X : Cx) (ts : List Expr) (t : TGs) : Prop :=
  ∀ (pins : List (Addr × Obj)) (s : Shared) (σ : St) (H : Hp) (vs : List V) (us : List Value) (Q : St → Hp → Prop), Inv X pins σ H s → Vals vs us → t vs σ H Q →
    wpAny (model X.prog X.w) X.A (assignInOrder ((assignEach ts X.env).map (·.2)) us) (fun _ s' => ∃ σ' H', Inv X pins σ' H' s' ∧ Q σ' H') X.xe s
/-- o[i] = v, by values -/
abbrev TSet := V → V → V → Hp → (Hp → Prop) → Prop
def PSet (X : Cx) (t : TSet) : Prop :=
  ∀ (pins : List (Addr × Obj)) (s : Shared) (σ : St) (H : Hp) (o i v : V) (ov iv u : Value) (Q : Hp → Prop), Inv X pins σ H s → RelV o ov → RelV i iv → RelV v u → t o i v H Q →
    wpAny (model X.prog X.w) X.A (setItem ov iv u) (fun _ s' => ∃ H', Inv X pins σ H' s' ∧ Q H') X.xe s
/-- a op= b, by values -/
abbrev TIp := V → V → Hp → VK → Prop
def PIp (X : Cx) (op : Operator) (t : TIp) : Prop :=
  ∀ (pins : List (Addr × Obj)) (s : Shared) (σ : St) (H : Hp) (x y : V) (v u : Value) (Q : VK), Inv X pins σ H s → RelV x v → RelV y u → t x y H Q →
    wpAny (model X.prog X.w) X.A (inplaceOp op v u) (EP X pins σ Q) X.xe s
section
variable {X : Cx} {pos : Pos}
def gName (i : Nat) : TG := fun v σ H Q => Q (σ.set i (some v)) H
theorem pg_name {i : Nat} {x : Str} (hN : X.N.Nodup) (hi : X.N[i]? = some x) (hx : Loc X.env.scope x) (hf : X.fn x = true ∨ X.env.scope.names.lookup x = some .local := by first | exact .inl rfl | exact .inr rfl | assumption) : PG X (.Name x pos) (gName i) := by
  intro pins s σ H v u Q I r h
  exact wpAny_assign_Name (store_ok I hN hi hx r (fun s' I' => ⟨_, H, I', h⟩) hf)
def gNil : TGs := fun vs σ H Q => vs = [] ∧ Q σ H
def gCons (t : TG) (u : TGs) : TGs := fun vs σ H Q => ∃ v r, vs = v :: r ∧ t v σ H fun σ' H' => u r σ' H' Q
theorem pgs_nil : PGs X [] gNil := by
  intro pins s σ H vs us Q I r h
  obtain ⟨e, h⟩ := h
  subst e
  cases r
  exact assignInOrder_nil ⟨σ, H, I, h⟩
theorem pgs_cons {e : Expr} {es : List Expr} {t : TG} {u : TGs} (h1 : PG X e t) (h2 : PGs X es u)
    (hs : (assignEach (e :: es) X.env).map (·.2) = assign e X.env :: (assignEach es X.env).map (·.2) := by rfl) : PGs X (e :: es) (gCons t u) := by
  intro pins s σ H vs us Q I r h
  obtain ⟨v, vr, e1, h⟩ := h
  subst e1
  cases r with
  | cons r rr =>
    rw [hs]
    refine assignInOrder_cons (thn (h1 pins s σ H _ _ _ I r h) fun _ s1 ⟨σ1, H1, I1, q1⟩ => ?_)
    exact h2 pins s1 σ1 H1 _ _ Q I1 rr q1
/-- (a, b, ..) = a tuple of that length -/
def gTup (K : PySem.W.Frag) (n : Nat) (t : TGs) : TG := fun v σ H Q => ∃ a xs, v = .ref a ∧ SqT K H a xs ∧ xs.length = n ∧ t xs σ H Q
theorem pg_tup {es : List Expr} {k : Nat} {t : TGs} {n : Nat} (hc : X.calm = true) (h : PGs X es t)
    (hn : (assignEach es X.env).length = n := by rfl) (hst : (assignEach es X.env).findIdx? (·.1) = none := by rfl) : PG X (.Tuple es k pos) (gTup X.K n t) := by
  intro pins s σ H v u Q I r hw
  obtain ⟨a, xs, e1, hq, hl, hw⟩ := hw
  subst e1
  cases r
  obtain ⟨its, rv, ht, hz⟩ := I.tuple hq
  refine assign_Tuple_tuple (I.ok.hd hc) ht (by simp [hn, ← hl, rv.length]) hst fun h' hx => ?_
  have I1 : Inv X pins σ H { s with heap := h' } := I.kept (t' := s.toks) fun b o e => hx b o (Nat.ne_of_lt (Heap.lt_size e)) e
  exact h pins _ σ H xs _ Q I1 (by simpa using rv) hw
/-- o[i] = .. -/
def gSub (to ti : TE) (t : TSet) : TG := fun v σ H Q => to σ H fun o H1 => ti σ H1 fun i H2 => t o i v H2 fun H3 => Q σ H3
theorem pg_sub {o i : Expr} {to ti : TE} {t : TSet} (ho : PE X o to) (hi : PE X i ti) (hs : PSet X t)
    (ha : ∀ v, assign (.Subscript o i pos) X.env v = (do
      let ov ← holding [v] (eval o X.env)
      let iv ← holding [v, ov] (eval i X.env)
      standAt pos
      holding [v, ov, iv] (setItem ov iv v)
      release [v, ov, iv] []) := by intro _; rfl) : PG X (.Subscript o i pos) (gSub to ti t) := by
  intro pins s σ H v u Q I r h
  rw [ha]
  refine wpAny_bind (wpAny_holding (thn (ho pins s σ H _ I h) fun ov s1 ⟨x, H1, I1, r1, q1⟩ => ?_))
  refine wpAny_bind (wpAny_holding (thn (hi pins s1 σ H1 _ I1 q1) fun iv s2 ⟨y, H2, I2, r2, q2⟩ => ?_))
  refine wpAny_bind (wpAny_standAt (wpAny_bind (wpAny_holding (thn (hs pins s2 σ H2 x y v ov iv u _ I2 r1 r2 r q2) fun _ s3 ⟨H3, I3, q3⟩ => ?_))))
  exact wpAny_release ⟨σ, H3, I3, q3⟩
/-- target = value -/
def tAsg (te : TE) (g : TG) : TS := fun D σ H => te σ H fun x H1 => g x σ H1 D.nx
theorem ps_asg {tg e : Expr} {te : TE} {g : TG} (he : PE X e te) (hg : PG X tg g) (hs : swapsWithSole [tg] e pos.line X.env = pure false := by rfl) (hw : swappedStores [tg] e X.env = pure none := by rfl)
    (h1 : (assignEach [tg] X.env).map (·.2) = [assign tg X.env] := by rfl) : PS X (.Assign [tg] e pos) (tAsg te g) := by
  intro pins s σ H D I h
  refine wpAny_Assign_stores (thn (he pins s σ H _ I h) fun v s1 ⟨x, H1, I1, r1, q1⟩ => ?_) hs hw
  rw [h1]
  exact thn (hg pins s1 σ H1 x v _ I1 r1 q1) fun _ s2 q => q
/-- name = value -/
theorem ps_set {i : Nat} {x : Str} {e : Expr} {te : TE} {pos' : Pos} (hN : X.N.Nodup) (hi : X.N[i]? = some x) (hx : Loc X.env.scope x) (he : PE X e te) (hs : swapsWith e (some (.Name x pos')) pos.line X.env = pure false := by rfl) (hf : X.fn x = true ∨ X.env.scope.names.lookup x = some .local := by first | exact .inl rfl | exact .inr rfl | assumption) :
    PS X (.Assign [.Name x pos'] e pos) (tAsg te (gName i)) := by
  intro pins s σ H D I h
  refine wpAny_Assign_Name (thn (he pins s σ H _ I h) fun v s1 ⟨y, H1, I1, r1, q1⟩ => ?_) hs
  exact store_ok I1 hN hi hx r1 (fun s2 I2 => ⟨_, H1, I2, q1⟩) hf
/-- a, b = x, y with plain local names: stored from the right; the pair itself is not tracked (the opening rows as in PyProof/Rows/TupAssign.lean:23) -/
def tPar (i j : Nat) (ta : TA) : TS := fun D σ H => ta σ H fun vs H1 => ∃ v w, vs = [v, w] ∧ D.nx ((σ.set i (some v)).set j (some w)) H1
theorem ps_par {i j : Nat} {x y : Str} {a b : Expr} {ta : TA} {px py pt : Pos} {kt k2 pt2} (hc : X.calm = true) (hN : X.N.Nodup) (hi : X.N[i]? = some x) (hj : X.N[j]? = some y) (hij : i ≠ j)
    (hx : X.env.scope.names.lookup x = some .local) (hy : X.env.scope.names.lookup y = some .local) (ha : PA X [a, b] ta)
    (hw : swappedStores [.Tuple [.Name x px, .Name y py] kt pt] (.Tuple [a, b] k2 pt2) X.env = pure (some [x, y]))
    (hs : swapsWithSole [.Tuple [.Name x px, .Name y py] kt pt] (.Tuple [a, b] k2 pt2) pos.line X.env = pure false := by rfl) :
    PS X (.Assign [.Tuple [.Name x px, .Name y py] kt pt] (.Tuple [a, b] k2 pt2) pos) (tPar i j ta) := by
  intro pins s σ H D I h
  rw [exec_Assign_arm]
  refine wpAny_bind (wpAny_standAt ?_)
  rw [hs]
  refine wpAny_bind (wpAny_pure ?_)
  rw [if_neg (by decide)]
  refine wpAny_bind (Tuple_ (thn (ha _ pins s σ H _ I h) fun us s1 ⟨vs, H1, I1, r1, q1⟩ => ?_))
  obtain ⟨v, w, e1, q1⟩ := q1
  subst e1
  obtain ⟨u1, u2, rfl, rv, rw'⟩ : ∃ u1 u2, us = [u1, u2] ∧ RelV v u1 ∧ RelV w u2 := by
    cases r1 with
    | cons p q =>
      cases q with
      | cons p' q' =>
        cases q'
        exact ⟨_, _, rfl, p, p'⟩
  refine wpAny_newObj_type ?_ (by show 2 ≤ sizeLine; decide)
  have I2 : Inv X pins σ H1 { s1 with heap := s1.heap.push { cls := .type "tuple", data := .seq [u1, u2].toArray } } := I1.kept (t' := s1.toks) fun b o e => Heap.get?_push_of_some _ e
  rw [hw]
  refine wpAny_bind (wpAny_pure ?_)
  show wpAny (model X.prog X.w) X.A (do rule "assign.swapped-stores"; let items ← unpackItems (.ref s1.heap.objs.size) 2 none; assignInOrder [fun v => bindName X.env y v, fun v => bindName X.env x v] items.reverse; pure Flow.next) _ _ _
  refine wpAny_bind (wpAny_rule (wpAny_bind (unpackItems_tuple (items := #[u1, u2]) (I.ok.hd hc) (IsTup.new s1.heap _) fun h' hx' => ?_)))
  have I3 := I2.kept (h' := h') (t' := s1.toks) fun b o e => hx' b o (Nat.ne_of_lt (Heap.lt_size e)) e
  show wpAny _ _ (assignInOrder [fun v => bindName X.env y v, fun v => bindName X.env x v] [u2, u1] >>= fun _ => pure Flow.next) _ _ _
  refine wpAny_bind (assignInOrder_cons (wpAny_bindName (store_ok I3 hN hj (.inl hy) rw' (fun s2 I4 => ?_) (.inr hy))))
  refine assignInOrder_cons (wpAny_bindName (store_ok I4 hN hi (.inl hx) rv (fun s3 I5 => assignInOrder_nil (wpAny_pure ?_)) (.inr hx)))
  rw [List.set_comm _ _ (Ne.symm hij)] at I5
  exact ⟨_, H1, I5, q1⟩
/-- name op= e -/
def tAug (i : Nat) (te : TE) (ti : TIp) : TS := fun D σ H => ∃ x, σ[i]? = some (some x) ∧ te σ H fun y H1 => ti x y H1 fun z H2 => D.nx (σ.set i (some z)) H2
theorem ps_aug {i : Nat} {x : Str} {e : Expr} {te : TE} {op : Operator} {ti : TIp} {pos' : Pos} (hN : X.N.Nodup) (hi : X.N[i]? = some x) (hx : Loc X.env.scope x) (he : PE X e te) (ho : PIp X op ti) (hf : X.fn x = true ∨ X.env.scope.names.lookup x = some .local := by first | exact .inl rfl | exact .inr rfl | assumption) :
    PS X (.AugAssign (.Name x pos') op e pos) (tAug i te ti) := by
  intro pins s σ H D I h
  obtain ⟨v, e1, h⟩ := h
  obtain ⟨m, hn, hl⟩ := I.loc
  have vis : Vis X.env.scope x := by rcases hx with k | k; exact .inl k; exact .inr (.inl k)
  obtain ⟨u, r, l⟩ := hl i x v hi e1 vis
  refine wpAny_AugAssign_Name ?_
  have go : wpAny (model X.prog X.w) X.A (eval e X.env) (fun w s₂ => wpAny (model X.prog X.w) X.A (inplaceOp op u w) (fun r s₃ => wpAny (model X.prog X.w) X.A (storeName X.env x r) (fun _ => SP X pins D .next) X.xe s₃) X.xe s₂) X.xe s := by
    refine thn (he pins s σ H _ I h) fun w s1 ⟨y, H1, I1, r1, q1⟩ => ?_
    refine thn (ho pins s1 σ H1 v y u w _ I1 r r1 q1) fun z s2 ⟨zv, H2, I2, r2, q2⟩ => ?_
    exact store_ok I2 hN hi hx r2 (fun s3 I3 => ⟨_, H2, I3, q2⟩) hf
  rcases l with ⟨hk, hm⟩ | ⟨hk, c, hc, hcell⟩
  · exact wpAny_loadName_local I.ok.kind hk hn hm go
  · rcases hk with hk | hk
    · exact wpAny_loadName_cell I.ok.kind hk hc hcell go
    · rcases hx with k | k
      · have : X.env.scope.names.lookup x = some .free := hk
        rw [k] at this; cases this
      · have : X.env.scope.names.lookup x = some .free := hk
        rw [k] at this; cases this
/-- o[i] op= e -/
def tAugS (to ti te : TE) (tget : V → V → Hp → VK → Prop) (tip : TIp) (tset : TSet) : TS := fun D σ H => to σ H fun o H1 => ti σ H1 fun i H2 => tget o i H2 fun x H3 => te σ H3 fun y H4 => tip x y H4 fun z H5 => tset o i z H5 fun H6 => D.nx σ H6
/-- o[i], by values -/
def PGet (X : Cx) (t : V → V → Hp → VK → Prop) : Prop :=
  ∀ (pins : List (Addr × Obj)) (s : Shared) (σ : St) (H : Hp) (o i : V) (ov iv : Value) (Q : VK), Inv X pins σ H s → RelV o ov → RelV i iv → t o i H Q →
    wpAny (model X.prog X.w) X.A (getItem ov iv) (EP X pins σ Q) X.xe s
theorem ps_augS {o i e : Expr} {to ti te : TE} {tget : V → V → Hp → VK → Prop} {tip : TIp} {tset : TSet} {op : Operator} {tpos : Pos} (ho : PE X o to) (hi : PE X i ti) (hg : PGet X tget) (he : PE X e te) (hp : PIp X op tip) (hs : PSet X tset)
    (ha : ∀ ov iv new, augStore i ov iv new = (do holding [new, ov, iv] (setItem ov iv new); release [new, ov, iv] []; pure .next) := by intros; rfl) : PS X (.AugAssign (.Subscript o i tpos) op e pos) (tAugS to ti te tget tip tset) := by
  intro pins s σ H D I h
  refine wpAny_AugAssign_SubscriptAny (thn (ho pins s σ H _ I h) fun ov s1 ⟨x1, H1, I1, r1, q1⟩ => ?_) ha
  refine thn (hi pins s1 σ H1 _ I1 q1) fun iv s2 ⟨x2, H2, I2, r2, q2⟩ => ?_
  refine thn (hg pins s2 σ H2 x1 x2 ov iv _ I2 r1 r2 q2) fun old s3 ⟨x3, H3, I3, r3, q3⟩ => ?_
  refine thn (he pins s3 σ H3 _ I3 q3) fun v s4 ⟨x4, H4, I4, r4, q4⟩ => ?_
  refine thn (hp pins s4 σ H4 x3 x4 old v _ I4 r3 r4 q4) fun new s5 ⟨x5, H5, I5, r5, q5⟩ => ?_
  exact thn (hs pins s5 σ H5 x1 x2 x5 ov iv new _ I5 r1 r2 r5 q5) fun _ s6 ⟨H6, I6, q6⟩ => ⟨σ, H6, I6, q6⟩
/-- ints -/
def ipI (f : Int → Int → Int) : TIp := fun x y H Q => ∃ i j, x = .int i ∧ y = .int j ∧ Q (.int (f i j)) H
theorem ip_add : PIp X .Add (ipI fun i j => i + j) := by
  intro pins s σ H x y v u Q I r1 r2 h
  obtain ⟨i, j, e1, e2, q⟩ := h
  subst e1; subst e2
  obtain ⟨t, rfl⟩ := r1
  obtain ⟨t', rfl⟩ := r2
  exact iadd_int ⟨.int _, H, I.tok _, ⟨_, rfl⟩, q⟩
theorem ip_sub : PIp X .Sub (ipI fun i j => i - j) := by
  intro pins s σ H x y v u Q I r1 r2 h
  obtain ⟨i, j, e1, e2, q⟩ := h
  subst e1; subst e2
  obtain ⟨t, rfl⟩ := r1
  obtain ⟨t', rfl⟩ := r2
  exact isub_int ⟨.int _, H, I.tok _, ⟨_, rfl⟩, q⟩
end

/-! ### while -/
section
variable {X : Cx} {pos : Pos}
/-- the invariant W with its measure -/
def tWhile (c : TT) (tb : TS) : TS := fun D σ H => ∃ W : Nat → St → Hp → Prop, (∃ m, W m σ H) ∧ ∀ m σ H, W m σ H →
  c σ H fun b H1 => if b = true then ∃ N : St → Hp → Prop, (∀ σ' H', N σ' H' → ∃ m', m' < m ∧ W m' σ' H') ∧ tb { D with nx := N, ct := N, bk := D.nx } σ H1 else D.nx σ H1
theorem ps_while {c : Expr} {body : List Stmt} {tc : TT} {tb : TS} (hp : PassesOwn (model X.prog X.w) X.A X.env X.xe) (hc : PT X c tc) (hb : PSs X body tb) : PS X (.While c body [] pos) (tWhile tc tb) := by
  intro pins s σ H D I h
  obtain ⟨W, ⟨m0, w0⟩, turn⟩ := h
  refine wpAny_While (codeAny_whileLoop (fun n s' => ∃ σ' H', Inv X pins σ' H' s' ∧ W n σ' H') ?_ m0 ⟨σ, H, I, w0⟩)
  rintro n s1 ⟨σ1, H1, I1, w1⟩
  refine wpAny_passesOwn hp (thn (hc pins s1 σ1 H1 _ I1 (turn n σ1 H1 w1)) fun b s2 ⟨H2, I2, q2⟩ => ?_)
  cases b with
  | true =>
    obtain ⟨N, hN, q2⟩ := q2
    rw [if_pos rfl]
    refine wpAny_passesOwn hp (thn (hb pins s2 σ1 H2 _ I2 q2) fun f s3 q3 => ?_)
    cases f with
    | next =>
      obtain ⟨σ3, H3, I3, n3⟩ := q3
      obtain ⟨m', hm, w3⟩ := hN σ3 H3 n3
      exact ⟨m', hm, σ3, H3, I3, w3⟩
    | cont =>
      obtain ⟨σ3, H3, I3, n3⟩ := q3
      obtain ⟨m', hm, w3⟩ := hN σ3 H3 n3
      exact ⟨m', hm, σ3, H3, I3, w3⟩
    | brk => exact q3
    | ret v => exact q3
  | false =>
    rw [if_neg Bool.false_ne_true]
    exact wpAny_execs_nil ⟨σ1, H2, I2, q2⟩
end

/-! ### what a loop or a comprehension walks -/
/-- at turn i: it yields x (the heap may grow), or it stops -/
structure It where
  go : Nat → Hp → Prop
  yld : Nat → Hp → V → Hp → Prop
  stop : Nat → Hp → Prop
/-- the iterator's own objects may turn: they are not the frame's, not pinned, younger than the entry (or a comprehension's own) -/
def FpOk (X : Cx) (pins : List (Addr × Obj)) (H : Hp) (b : Addr) : Prop :=
  H b = none ∧ b ≠ X.env.locals ∧ b ∉ X.fs ∧ (b ∈ X.ex ∨ X.s₀.heap.objs.size ≤ b) ∧ (∀ x c, X.env.cells.lookup x = some c → c ≠ b) ∧ ∀ p ∈ X.pn ++ pins, p.1 ≠ b
theorem Inv.fpOk {X : Cx} {pins : List (Addr × Obj)} {σ : St} {H H' : Hp} {s : Shared} {b : Addr} (I : Inv X pins σ H s) (hb : s.heap.objs.size ≤ b) (hn : H' b = none) : FpOk X pins H' b := by
  refine ⟨hn, Nat.ne_of_gt (Nat.lt_of_lt_of_le I.lt hb), I.nofs hb, .inr (Nat.le_trans I.sz hb), fun x c e z => ?_, fun p hp z => ?_⟩
  · obtain ⟨v, q⟩ := I.cell x c e
    exact absurd (Nat.lt_of_lt_of_le q.lt (by rw [z]; exact hb)) (Nat.lt_irrefl _)
  · exact absurd (Nat.lt_of_lt_of_le (Heap.lt_size (I.pin p hp).1) (by rw [z]; exact hb)) (Nat.lt_irrefl _)
structure Turn (P : Program) (w : World) (K : PySem.W.Frag) (tg : Expr) (J : It) (fp : List Addr) (it : Addr) (tn : Nat → Heap → Prop) : Prop where
  mem : it ∈ fp
  obj : ∀ i h, tn i h → ∀ b ∈ fp, ∃ o, h.get? b = some o ∧ ∀ v, o.data ≠ .cell v
  keep : ∀ i h h', tn i h → (∀ b ∈ fp, ∀ o, h.get? b = some o → h'.get? b = some o) → tn i h'
  item : ∀ (X : Cx), X.prog = P → X.w = w → X.K = K → X.calm = true → ∀ (i : Nat) (pins : List (Addr × Obj)) (s : Shared) (σ : St) (H : Hp) (E : Value → Shared → Prop), Inv X pins σ H s → (∀ b ∈ fp, FpOk X pins H b) → tn i s.heap → J.go i H →
    wpAny (model P w) X.A (pyNext (.ref it)) (fun r s1 => ∃ u, r = some u ∧
      wpAny (model P w) X.A (letOwnedTupleGo tg (.ref it) u) (fun _ s2 => ∃ x H', Inv X pins σ H' s2 ∧ RelV x u ∧ J.yld i H x H' ∧ tn (i + 1) s2.heap ∧ ∀ b ∈ fp, H' b = none) E s1) E s
  done : ∀ (X : Cx), X.prog = P → X.w = w → X.K = K → X.calm = true → ∀ (i : Nat) (pins : List (Addr × Obj)) (s : Shared) (σ : St) (H : Hp) (E : Value → Shared → Prop), Inv X pins σ H s → (∀ b ∈ fp, FpOk X pins H b) → tn i s.heap → J.stop i H →
    wpAny (model P w) X.A (pyNext (.ref it)) (fun r s1 => r = none ∧ Inv X pins σ H s1) E s
  self : ∀ (A : Around) (i : Nat) (s : Shared) (Q : Value → Shared → Prop) (E : Value → Shared → Prop), tn i s.heap → Q (.ref it) s → wpAny (model P w) A (pyIter (.ref it)) Q E s
abbrev TI := St → Hp → (It → Hp → Prop) → Prop
/-- an iterator has come -/
def PIE (X : Cx) (pins : List (Addr × Obj)) (σ : St) (tg : Expr) (R : It → Hp → Prop) (itv : Value) (s2 : Shared) : Prop :=
  ∃ (it : Addr) (fp : List Addr) (tn : Nat → Heap → Prop) (J : It) (H' : Hp), itv = .ref it ∧ Inv X pins σ H' s2 ∧ Turn X.prog X.w X.K tg J fp it tn ∧ tn 0 s2.heap ∧ (∀ b ∈ fp, FpOk X pins H' b) ∧ R J H'
def PI (X : Cx) (tg iter : Expr) (wi : TI) : Prop :=
  ∀ (pins : List (Addr × Obj)) (s : Shared) (σ : St) (H : Hp) (R : It → Hp → Prop), Inv X pins σ H s → wi σ H R →
    wpAny (model X.prog X.w) X.A (eval iter X.env) (fun v s1 => wpAny (model X.prog X.w) X.A (pyIter v) (PIE X pins σ tg R) X.xe s1) X.xe s

/-- the step ahead of the store is nothing for an iterator that keeps no tuple -/
theorem go_of {M : Model} {A : Around} {E : Value → Shared → Prop} {s : Shared} {tg : Expr} {it : Addr} {u : Value} {o : Obj} {n : String} {vs : Array Value} {Q : Unit → Shared → Prop} (ho : s.heap.get? it = some o) (hc : o.cls = .type n) (hd : o.data = .fields vs)
    (hn : ["enumerate", "zip", "dict_itemiterator", "dict_reverseitemiterator", "odict_iterator", "itertools.zip_longest", "itertools.pairwise"].contains n = false) (hQ : Q () s) : wpAny M A (letOwnedTupleGo tg (.ref it) u) Q E s := by
  unfold letOwnedTupleGo
  cases tg <;> first
    | exact wpAny_pure hQ
    | (cases u <;> first
        | exact wpAny_pure hQ
        | (refine wpAny_bind (wpAny_load ho ?_)
           rw [hc, hd]
           show wpAny M A (if (["enumerate", "zip", "dict_itemiterator", "dict_reverseitemiterator", "odict_iterator", "itertools.zip_longest", "itertools.pairwise"].contains n && vs[0]? == some (rawInt _)) = true then _ else _) Q E s
           rw [if_neg (by intro h; rw [hn, Bool.false_and] at h; cases h)]
           exact wpAny_pure hQ))

/-- the list at a, as it stands at each turn (a loop may append to it) -/
def Itl (K : PySem.W.Frag) (a : Addr) : It :=
  ⟨fun i H => ∃ xs x, SqL K H a xs ∧ xs[i]? = some x, fun i H x H' => H' = H ∧ ∀ xs, SqL K H a xs → xs[i]? = some x, fun i H => ∃ xs, SqL K H a xs ∧ xs.length ≤ i⟩
def Itt (K : PySem.W.Frag) (a : Addr) : It :=
  ⟨fun i H => ∃ xs x, SqT K H a xs ∧ xs[i]? = some x, fun i H x H' => H' = H ∧ ∀ xs, SqT K H a xs → xs[i]? = some x, fun i H => ∃ xs, SqT K H a xs ∧ xs.length ≤ i⟩
/-- lo, lo + 1, .. (n of them) -/
def Itr (lo : Int) (n : Nat) : It := ⟨fun i _ => i < n, fun i H x H' => H' = H ∧ x = .int (lo + i), fun i _ => n ≤ i⟩
theorem turn_list {P : Program} {w : World} {K : PySem.W.Frag} {tg : Expr} (a it : Addr) : Turn P w K tg (Itl K a) [it] it (fun i h => h.IsListIter it a i) where
  mem := by simp
  obj := fun i h st b hb => by
    have e : b = it := by simpa using hb
    subst e
    obtain ⟨o, e, c, d⟩ := st
    exact ⟨o, e, fun v z => by rw [d] at z; cases z⟩
  keep := fun i h h' st k => st.at fun o e => k it (by simp) o e
  item := by
    intro X hP hw hK hc i pins s σ H E I hf st hg
    subst hP hw hK
    obtain ⟨xs, x, hq, hx⟩ := hg
    obtain ⟨its, rv, p, hz⟩ := I.list hq
    obtain ⟨u, hu, ru⟩ := rv.get hx
    obtain ⟨f0, f1, f2, f3, f4, f5⟩ := hf it (by simp)
    refine wpAny_pyNext_list_item st p.isList (x := u) (by simpa using hu) fun h' st' sb => ?_
    have I1 : Inv X pins σ H { s with heap := h' } := I.turned (t' := s.toks) (fun b o hb e => (sb.2 b hb).trans e) f0 f1 f3 f4 f5
    obtain ⟨o, e, c, d⟩ := id st'
    exact ⟨u, rfl, go_of (s := { s with heap := h' }) e c d (by decide) ⟨x, H, I1, ru, ⟨rfl, fun ys hy => by rw [I.list_inj hy hq]; exact hx⟩, st', fun b hb => (hf b hb).1⟩⟩
  done := by
    intro X hP hw hK hc i pins s σ H E I hf st hg
    subst hP hw hK
    obtain ⟨xs, hq, hx⟩ := hg
    obtain ⟨its, rv, p, hz⟩ := I.list hq
    obtain ⟨f0, f1, f2, f3, f4, f5⟩ := hf it (by simp)
    have hl := rv.length
    exact wpAny_pyNext_list_end (I.ok.hd hc) st p.isList (by simp; omega) fun h' eb => ⟨rfl, I.turned (t' := s.toks) (fun b o hb e => eb b o hb e) f0 f1 f3 f4 f5⟩
  self := fun _ _ _ _ _ st h => wpAny_pyIter_listiter st h
theorem turn_tuple {P : Program} {w : World} {K : PySem.W.Frag} {tg : Expr} (a it : Addr) : Turn P w K tg (Itt K a) [it] it (fun i h => h.IsTupleIter it a i) where
  mem := by simp
  obj := fun i h st b hb => by
    have e : b = it := by simpa using hb
    subst e
    obtain ⟨o, e, c, d⟩ := st
    exact ⟨o, e, fun v z => by rw [d] at z; cases z⟩
  keep := fun i h h' st k => st.at fun o e => k it (by simp) o e
  item := by
    intro X hP hw hK hc i pins s σ H E I hf st hg
    subst hP hw hK
    obtain ⟨xs, x, hq, hx⟩ := hg
    obtain ⟨its, rv, p, hz⟩ := I.tuple hq
    obtain ⟨u, hu, ru⟩ := rv.get hx
    obtain ⟨f0, f1, f2, f3, f4, f5⟩ := hf it (by simp)
    refine wpAny_pyNext_tuple_item st (show s.heap.IsTuple a its.toArray from p) (x := u) (by simpa using hu) fun h' st' sb => ?_
    have I1 : Inv X pins σ H { s with heap := h' } := I.turned (t' := s.toks) (fun b o hb e => (sb.2 b hb).trans e) f0 f1 f3 f4 f5
    obtain ⟨o, e, c, d⟩ := id st'
    exact ⟨u, rfl, go_of (s := { s with heap := h' }) e c d (by decide) ⟨x, H, I1, ru, ⟨rfl, fun ys hy => by rw [I.tuple_inj hy hq]; exact hx⟩, st', fun b hb => (hf b hb).1⟩⟩
  done := by
    intro X hP hw hK hc i pins s σ H E I hf st hg
    subst hP hw hK
    obtain ⟨xs, hq, hx⟩ := hg
    obtain ⟨its, rv, p, hz⟩ := I.tuple hq
    obtain ⟨f0, f1, f2, f3, f4, f5⟩ := hf it (by simp)
    have hl := rv.length
    exact wpAny_pyNext_tuple_end (I.ok.hd hc) st (show s.heap.IsTuple a its.toArray from p) (by simp; omega) fun h' eb => ⟨rfl, I.turned (t' := s.toks) (fun b o hb e => eb b o hb e) f0 f1 f3 f4 f5⟩
  self := fun _ _ _ _ _ st h => wpAny_pyIter_tupleiter st h
theorem turn_range {P : Program} {w : World} {K : PySem.W.Frag} {tg : Expr} (it : Addr) (lo : Int) (n : Nat) : Turn P w K tg (Itr lo n) [it] it (fun i h => IsRangeIter h it (lo + (i : Nat) * 1) ((n : Int) - (i : Nat)) 1) where
  mem := by simp
  obj := fun i h st b hb => by
    have e : b = it := by simpa using hb
    subst e
    exact ⟨_, st, fun v z => by
      have z' : Data.fields _ = Data.cell v := z
      cases z'⟩
  keep := fun i h h' st k => k it (by simp) _ st
  item := by
    intro X hP hw hK hc i pins s σ H E I hf st hg
    subst hP hw hK
    obtain ⟨f0, f1, f2, f3, f4, f5⟩ := hf it (by simp)
    have W := Walks.range (prog := X.prog) (w := X.w) (I.ok.hd hc) it lo 1 n
    refine W.item i s _ _ hg st fun v h' tk hv st' kk => ?_
    obtain ⟨t, rfl⟩ := hv
    have I1 : Inv X pins σ H { s with heap := h', toks := tk } := I.turned (fun b o hb e => kk b o (by simpa using hb) e) f0 f1 f3 f4 f5
    refine ⟨_, rfl, go_of (s := { s with heap := h', toks := tk }) (n := "range_iterator") st' rfl rfl (by decide) ⟨.int (lo + i), H, I1, ⟨t, ?_⟩, ⟨rfl, rfl⟩, st', fun b hb => (hf b hb).1⟩⟩
    rw [Int.mul_one]
  done := by
    intro X hP hw hK hc i pins s σ H E I hf st hg
    subst hP hw hK
    obtain ⟨f0, f1, f2, f3, f4, f5⟩ := hf it (by simp)
    exact wpAny_pyNext_range_end (I.ok.hd hc) st (by have : n ≤ i := hg; omega) fun h' eb => ⟨rfl, I.turned (t' := s.toks) (fun b o hb e => eb b o hb e) f0 f1 f3 f4 f5⟩
  self := fun _ _ _ _ _ st h => wpAny_pyIter_rangeiter st h
end L2

namespace L2
open PySem PySem.Spec PyProof.Rows
section
variable {X : Cx} {tg : Expr}
def iList (K : PySem.W.Frag) (tl : TE) : TI := fun σ H R => tl σ H fun x H1 => ∃ a, x = .ref a ∧ (∃ xs, SqL K H1 a xs) ∧ R (Itl K a) H1
def iTup (K : PySem.W.Frag) (tl : TE) : TI := fun σ H R => tl σ H fun x H1 => ∃ a, x = .ref a ∧ (∃ xs, SqT K H1 a xs) ∧ R (Itt K a) H1
theorem pi_list {l : Expr} {tl : TE} (hl : PE X l tl) : PI X tg l (iList X.K tl) := by
  intro pins s σ H R I h
  refine thn (hl pins s σ H _ I h) fun v s1 ⟨x, H1, I1, r1, q1⟩ => ?_
  obtain ⟨a, e, ⟨xs, hq⟩, q⟩ := q1
  subst e
  cases r1
  obtain ⟨its, rv, p, hz⟩ := I1.list hq
  refine wpAny_pyIter_list p.isList ?_
  refine ⟨s1.heap.objs.size, [s1.heap.objs.size], _, _, H1, rfl, I1.kept (t' := s1.toks) fun b o e => Heap.get?_push_of_some _ e, turn_list a _, ⟨_, Heap.get?_push_size _ rfl, rfl, rfl⟩, fun b hb => ?_, q⟩
  have e : b = s1.heap.objs.size := by simpa using hb
  subst e
  exact I1.fpOk (Nat.le_refl _) (I1.hok.fresh (Nat.le_refl _))
theorem pi_tup {l : Expr} {tl : TE} (hl : PE X l tl) : PI X tg l (iTup X.K tl) := by
  intro pins s σ H R I h
  refine thn (hl pins s σ H _ I h) fun v s1 ⟨x, H1, I1, r1, q1⟩ => ?_
  obtain ⟨a, e, ⟨xs, hq⟩, q⟩ := q1
  subst e
  cases r1
  obtain ⟨its, rv, p, hz⟩ := I1.tuple hq
  refine wpAny_pyIter_tuple (show s1.heap.IsTuple a its.toArray from p) ?_
  refine ⟨s1.heap.objs.size, [s1.heap.objs.size], _, _, H1, rfl, I1.kept (t' := s1.toks) fun b o e => Heap.get?_push_of_some _ e, turn_tuple a _, ⟨_, Heap.get?_push_size _ rfl, rfl, rfl⟩, fun b hb => ?_, q⟩
  have e : b = s1.heap.objs.size := by simpa using hb
  subst e
  exact I1.fpOk (Nat.le_refl _) (I1.hok.fresh (Nat.le_refl _))
/-- a range object just made, walked -/
theorem range_it {pins : List (Addr × Obj)} {σ : St} {H : Hp} {s : Shared} {R : It → Hp → Prop} {E : Value → Shared → Prop} {lo hi : Int} {t u v : Tok} {tk : Nat} (I : Inv X pins σ H s) (h1 : -(2 ^ 62) ≤ lo) (h2 : lo < 2 ^ 62) (h3 : -(2 ^ 62) ≤ hi) (h4 : hi < 2 ^ 62)
    (q : R (Itr lo (hi - lo).toNat) H) : wpAny (model X.prog X.w) X.A (pyIter (.ref s.heap.objs.size)) (PIE X pins σ tg R) E { s with heap := s.heap.push { cls := .type "range", data := .fields #[.int lo t, .int hi u, .int 1 v] }, toks := tk } := by
  refine wpAny_pyIter_range (IsRange.new ..) (small_one h1 h2 h3 h4) ?_
  have I1 : Inv X pins σ H { s with heap := s.heap.push { cls := .type "range", data := .fields #[.int lo t, .int hi u, .int 1 v] }, toks := tk } := I.kept fun b o e => Heap.get?_push_of_some _ e
  refine ⟨(s.heap.push { cls := .type "range", data := .fields #[.int lo t, .int hi u, .int 1 v] }).objs.size, [(s.heap.push { cls := .type "range", data := .fields #[.int lo t, .int hi u, .int 1 v] }).objs.size], _, _, H, rfl,
    I1.kept (t' := tk) fun b o e => Heap.get?_push_of_some _ e, turn_range _ lo (hi - lo).toNat, ?_, fun b hb => ?_, q⟩
  · have e1 : lo + ((0 : Nat) : Int) * 1 = lo := by simp
    have e2 : (((hi - lo).toNat : Nat) : Int) - ((0 : Nat) : Int) = Builtin.Range.rangeSize lo hi 1 := by rw [rangeSize_one]; split <;> omega
    show IsRangeIter _ _ (lo + ((0 : Nat) : Int) * 1) ((((hi - lo).toNat : Nat) : Int) - ((0 : Nat) : Int)) 1
    rw [e1, e2]
    exact Heap.get?_push_size _ rfl
  · have e : b = (s.heap.push { cls := .type "range", data := .fields #[.int lo t, .int hi u, .int 1 v] }).objs.size := by simpa using hb
    subst e
    exact I1.fpOk (Nat.le_refl _) (I1.hok.fresh (Nat.le_refl _))
def iRng1 (ta : TA) : TI := fun σ H R => ta σ H fun vs H1 => ∃ j : Int, vs = [.int j] ∧ -(2 ^ 62) ≤ j ∧ j < 2 ^ 62 ∧ R (Itr 0 j.toNat) H1
def iRng2 (ta : TA) : TI := fun σ H R => ta σ H fun vs H1 => ∃ i j : Int, vs = [.int i, .int j] ∧ (-(2 ^ 62) ≤ i ∧ i < 2 ^ 62 ∧ -(2 ^ 62) ≤ j ∧ j < 2 ^ 62) ∧ R (Itr i (j - i).toNat) H1
theorem pi_range1 {a : Expr} {ta : TA} {p pos : Pos} (hg : Gl X "range") (hm : X.mg "range" = none) (ha : PA X [a] ta) (hs : starEach [a] X.env = [(false, eval a X.env)] := by rfl) : PI X tg (.Call (.Name "range" p) [a] [] pos) (iRng1 ta) := by
  intro pins s σ H R I h
  refine Call_ (ld_blt I hg hm boot_range (PyProof.Rows.callWith_type1 (thn (ha pos pins s σ H _ I h) fun us s1 ⟨vs, H1, I1, r1, q1⟩ => ?_) hs rfl))
  obtain ⟨j, e, q1, q2, q⟩ := q1
  subst e
  cases r1 with
  | cons r rr =>
    cases rr
    obtain ⟨t, rfl⟩ := r
    exact call_range_1 (range_it I1 (by omega) (by omega) q1 q2 (by simpa using q))
theorem pi_range2 {a b : Expr} {ta : TA} {p pos : Pos} (hg : Gl X "range") (hm : X.mg "range" = none) (ha : PA X [a, b] ta) (hs : starEach [a, b] X.env = [(false, eval a X.env), (false, eval b X.env)] := by rfl) (hs2 : starEach [b] X.env = [(false, eval b X.env)] := by rfl) :
    PI X tg (.Call (.Name "range" p) [a, b] [] pos) (iRng2 ta) := by
  intro pins s σ H R I h
  refine Call_ (ld_blt I hg hm boot_range (PyProof.Rows.callWith_type1 (thn (ha pos pins s σ H _ I h) fun us s1 ⟨vs, H1, I1, r1, q1⟩ => ?_) (by rw [hs, hs2]) (by rw [hs2]; rfl)))
  obtain ⟨i, j, e, ⟨q1, q2, q3, q4⟩, q⟩ := q1
  subst e
  cases r1 with
  | cons r rr =>
    cases rr with
    | cons r' rr =>
      cases rr
      obtain ⟨t, rfl⟩ := r
      obtain ⟨t', rfl⟩ := r'
      exact call_range_2 (range_it I1 q1 q2 q3 q4 q)

/-! ### for -/
/-- W: the invariant by the turn and a measure; N: what the body is to reach -/
def tFor (wi : TI) (g : TG) (tb : TS) : TS := fun D σ H => wi σ H fun J H1 => ∃ W : Nat → Nat → St → Hp → Prop, (∃ m, W 0 m σ H1) ∧ ∀ i m σ H, W i m σ H →
  (J.stop i H ∧ D.nx σ H) ∨ (J.go i H ∧ ∃ N : St → Hp → Prop, (∀ σ' H', N σ' H' → ∃ m', m' < m ∧ W (i + 1) m' σ' H') ∧ ∀ x H', J.yld i H x H' → g x σ H' fun σ2 H2 => tb { D with nx := N, ct := N, bk := D.nx } σ2 H2)
/-- the records at fp as they stand -/
def pinsAt (fp : List Addr) (h : Heap) : List (Addr × Obj) := fp.filterMap fun b => (h.get? b).map fun o => (b, o)
theorem mem_pinsAt {fp : List Addr} {h : Heap} {b : Addr} {o : Obj} (hb : b ∈ fp) (e : h.get? b = some o) : (b, o) ∈ pinsAt fp h := List.mem_filterMap.mpr ⟨b, hb, by rw [e]; rfl⟩
theorem of_pinsAt {fp : List Addr} {h : Heap} {p : Addr × Obj} (hp : p ∈ pinsAt fp h) : p.1 ∈ fp ∧ h.get? p.1 = some p.2 := by
  obtain ⟨b, hb, e⟩ := List.mem_filterMap.mp hp
  cases q : h.get? b with
  | none => rw [q] at e; cases e
  | some o =>
    rw [q] at e
    have e' : (b, o) = p := Option.some.inj e
    subst e'
    exact ⟨hb, q⟩
theorem Inv.pinned {pins : List (Addr × Obj)} {σ : St} {H : Hp} {s : Shared} {fp : List Addr} (I : Inv X pins σ H s) (hf : ∀ b ∈ fp, FpOk X pins H b) (ho : ∀ b ∈ fp, ∃ o, s.heap.get? b = some o ∧ ∀ v, o.data ≠ .cell v) : Inv X (pins ++ pinsAt fp s.heap) σ H s :=
  I.pins_of fun p hp => (List.mem_append.mp hp).elim (fun z => I.pin p (List.mem_append_right _ z)) fun z => by
    obtain ⟨hb, e⟩ := of_pinsAt z
    obtain ⟨f0, f1, f2, _⟩ := hf p.1 hb
    obtain ⟨o, e', d⟩ := ho p.1 hb
    rw [e] at e'; cases e'
    exact ⟨e, f0, f1, f2, d⟩
theorem Inv.unpinned {pins pl : List (Addr × Obj)} {σ : St} {H : Hp} {s : Shared} (I : Inv X (pins ++ pl) σ H s) : Inv X pins σ H s := I.pins_of fun p hp => I.pin p (List.mem_append_right _ (List.mem_append_left _ hp))
theorem ps_for {iter : Expr} {body : List Stmt} {wi : TI} {g : TG} {tb : TS} {pos : Pos} (hp : PassesOwn (model X.prog X.w) X.A X.env X.xe) (hc : X.calm = true) (hi : PI X tg iter wi) (hg : PG X tg g) (hb : PSs X body tb)
    (hs : ∀ x, foldedSetIterable iter X.env x = pure x := by intro _; rfl) : PS X (.For tg iter body [] pos) (tFor wi g tb) := by
  intro pins s σ H D I h
  refine wpAny_For (thn (hi pins s σ H _ I h) fun v s1 h1 => thn h1 fun itv s2 h2 => ?_) hs
  obtain ⟨it, fp, tn, J, H2, e, I2, T, st2, f2, W, ⟨m0, w0⟩, turn⟩ := h2
  subst e
  -- what stays true of the iterator's objects through the loop
  have stat : ∀ {H' : Hp}, (∀ b ∈ fp, H' b = none) → ∀ b ∈ fp, FpOk X pins H' b := fun hn b hb => ⟨hn b hb, (f2 b hb).2⟩
  refine codeAny_forLoop_any (fun n s' => ∃ i σ' H', Inv X pins σ' H' s' ∧ tn i s'.heap ∧ (∀ b ∈ fp, H' b = none) ∧ W i n σ' H') ?_ m0 ⟨0, σ, H2, I2, st2, fun b hb => (f2 b hb).1, w0⟩
  rintro n s3 ⟨i, σ3, H3, I3, st3, fr3, w3⟩
  rcases turn i n σ3 H3 w3 with ⟨stop, qn⟩ | ⟨go, N, hN, step⟩
  · refine wpAny_passesOwn hp (thn (T.done X rfl rfl rfl hc i pins s3 σ3 H3 X.xe I3 (stat fr3) st3 stop) fun r s4 ⟨hr, I4⟩ => ?_)
    subst hr
    exact wpAny_execs_nil ⟨σ3, H3, I4, qn⟩
  · refine wpAny_passesOwn hp (thn (T.item X rfl rfl rfl hc i pins s3 σ3 H3 X.xe I3 (stat fr3) st3 go) fun r s4 ⟨u, hr, h4⟩ => ?_)
    subst hr
    refine wpAny_passesOwn hp (thn h4 fun _ s5 ⟨x, H5, I5, r5, y5, st5, fr5⟩ => ?_)
    have I5' := I5.pinned (stat fr5) (T.obj _ _ st5)
    refine wpAny_passesOwn hp (thn (hg _ s5 σ3 H5 x u _ I5' r5 (step x H5 y5)) fun _ s6 ⟨σ6, H6, I6, q6⟩ => ?_)
    refine wpAny_passesOwn hp (thn (hb _ s6 σ6 H6 _ I6 q6) fun f s7 q7 => ?_)
    have again : ∀ {σ7 : St} {H7 : Hp}, Inv X (pins ++ pinsAt fp s5.heap) σ7 H7 s7 → N σ7 H7 → ∃ m, m < n ∧ ∃ i σ' H', Inv X pins σ' H' s7 ∧ tn i s7.heap ∧ (∀ b ∈ fp, H' b = none) ∧ W i m σ' H' := fun {σ7 H7} I7 n7 => by
      obtain ⟨m', hm, w7⟩ := hN σ7 H7 n7
      refine ⟨m', hm, i + 1, σ7, H7, I7.unpinned, T.keep _ _ _ st5 fun b hb o e => (I7.pin (b, o) (List.mem_append_right _ (List.mem_append_right _ (mem_pinsAt hb e)))).1, fun b hb => ?_, w7⟩
      obtain ⟨o, e, d⟩ := T.obj _ _ st5 b hb
      exact (I7.pin (b, o) (List.mem_append_right _ (List.mem_append_right _ (mem_pinsAt hb e)))).2.1
    cases f with
    | next => obtain ⟨σ7, H7, I7, n7⟩ := q7; exact again I7 n7
    | cont => obtain ⟨σ7, H7, I7, n7⟩ := q7; exact again I7 n7
    | brk => obtain ⟨σ7, H7, I7, q7⟩ := q7; exact ⟨σ7, H7, I7.unpinned, q7⟩
    | ret v => obtain ⟨x7, σ7, H7, I7, r7, q7⟩ := q7; exact ⟨x7, σ7, H7, I7.unpinned, r7, q7⟩
end

/-! ### the forms one uses -/
/-- over a list that the body leaves as it is -/
theorem for_list {K : PySem.W.Frag} {a : Addr} {xs : List V} {g : TG} {tb : TS} {D : Ends} {σ : St} {H : Hp} (Pv : Nat → St → Hp → Prop) (h0 : Pv 0 σ H) (hl : ∀ i σ H, i ≤ xs.length → Pv i σ H → SqL K H a xs)
    (hs : ∀ i x σ H, xs[i]? = some x → Pv i σ H → g x σ H fun σ2 H2 => tb { D with nx := Pv (i + 1), ct := Pv (i + 1), bk := D.nx } σ2 H2) (hd : ∀ σ H, Pv xs.length σ H → D.nx σ H) :
    ∃ W : Nat → Nat → St → Hp → Prop, (∃ m, W 0 m σ H) ∧ ∀ i m σ H, W i m σ H →
      ((Itl K a).stop i H ∧ D.nx σ H) ∨ ((Itl K a).go i H ∧ ∃ N : St → Hp → Prop, (∀ σ' H', N σ' H' → ∃ m', m' < m ∧ W (i + 1) m' σ' H') ∧ ∀ x H', (Itl K a).yld i H x H' → g x σ H' fun σ2 H2 => tb { D with nx := N, ct := N, bk := D.nx } σ2 H2) := by
  refine ⟨fun i m σ H => m = xs.length - i ∧ i ≤ xs.length ∧ Pv i σ H, ⟨xs.length, by simp, Nat.zero_le _, h0⟩, ?_⟩
  rintro i m σ H ⟨rfl, hi, p⟩
  have q := hl i σ H hi p
  by_cases hlt : i < xs.length
  · refine .inr ⟨⟨xs, xs[i], q, by simp [hlt]⟩, Pv (i + 1), fun σ' H' p' => ⟨xs.length - (i + 1), by omega, rfl, hlt, p'⟩, fun x H' y => ?_⟩
    obtain ⟨e, y⟩ := y
    subst e
    exact hs i x σ _ (y xs q) p
  · have e : i = xs.length := by omega
    subst e
    exact .inl ⟨⟨xs, q, Nat.le_refl _⟩, hd σ H p⟩
theorem for_tup {K : PySem.W.Frag} {a : Addr} {xs : List V} {g : TG} {tb : TS} {D : Ends} {σ : St} {H : Hp} (Pv : Nat → St → Hp → Prop) (h0 : Pv 0 σ H) (hl : ∀ i σ H, i ≤ xs.length → Pv i σ H → SqT K H a xs)
    (hs : ∀ i x σ H, xs[i]? = some x → Pv i σ H → g x σ H fun σ2 H2 => tb { D with nx := Pv (i + 1), ct := Pv (i + 1), bk := D.nx } σ2 H2) (hd : ∀ σ H, Pv xs.length σ H → D.nx σ H) :
    ∃ W : Nat → Nat → St → Hp → Prop, (∃ m, W 0 m σ H) ∧ ∀ i m σ H, W i m σ H →
      ((Itt K a).stop i H ∧ D.nx σ H) ∨ ((Itt K a).go i H ∧ ∃ N : St → Hp → Prop, (∀ σ' H', N σ' H' → ∃ m', m' < m ∧ W (i + 1) m' σ' H') ∧ ∀ x H', (Itt K a).yld i H x H' → g x σ H' fun σ2 H2 => tb { D with nx := N, ct := N, bk := D.nx } σ2 H2) := by
  refine ⟨fun i m σ H => m = xs.length - i ∧ i ≤ xs.length ∧ Pv i σ H, ⟨xs.length, by simp, Nat.zero_le _, h0⟩, ?_⟩
  rintro i m σ H ⟨rfl, hi, p⟩
  have q := hl i σ H hi p
  by_cases hlt : i < xs.length
  · refine .inr ⟨⟨xs, xs[i], q, by simp [hlt]⟩, Pv (i + 1), fun σ' H' p' => ⟨xs.length - (i + 1), by omega, rfl, hlt, p'⟩, fun x H' y => ?_⟩
    obtain ⟨e, y⟩ := y
    subst e
    exact hs i x σ _ (y xs q) p
  · have e : i = xs.length := by omega
    subst e
    exact .inl ⟨⟨xs, q, Nat.le_refl _⟩, hd σ H p⟩
theorem for_range {lo : Int} {n : Nat} {g : TG} {tb : TS} {D : Ends} {σ : St} {H : Hp} (Pv : Nat → St → Hp → Prop) (h0 : Pv 0 σ H)
    (hs : ∀ i σ H, i < n → Pv i σ H → g (.int (lo + i)) σ H fun σ2 H2 => tb { D with nx := Pv (i + 1), ct := Pv (i + 1), bk := D.nx } σ2 H2) (hd : ∀ σ H, Pv n σ H → D.nx σ H) :
    ∃ W : Nat → Nat → St → Hp → Prop, (∃ m, W 0 m σ H) ∧ ∀ i m σ H, W i m σ H →
      ((Itr lo n).stop i H ∧ D.nx σ H) ∨ ((Itr lo n).go i H ∧ ∃ N : St → Hp → Prop, (∀ σ' H', N σ' H' → ∃ m', m' < m ∧ W (i + 1) m' σ' H') ∧ ∀ x H', (Itr lo n).yld i H x H' → g x σ H' fun σ2 H2 => tb { D with nx := N, ct := N, bk := D.nx } σ2 H2) := by
  refine ⟨fun i m σ H => m = n - i ∧ i ≤ n ∧ Pv i σ H, ⟨n, by simp, Nat.zero_le _, h0⟩, ?_⟩
  rintro i m σ H ⟨rfl, hi, p⟩
  by_cases hlt : i < n
  · refine .inr ⟨hlt, Pv (i + 1), fun σ' H' p' => ⟨n - (i + 1), by omega, rfl, hlt, p'⟩, fun x H' y => ?_⟩
    obtain ⟨e, y⟩ := y
    subst e y
    exact hs i σ _ hlt p
  · have e : i = n := by omega
    subst e
    exact .inl ⟨Nat.le_refl _, hd σ H p⟩
/-- while, by a word and a measure of the state -/
theorem while_by {c : TT} {tb : TS} {D : Ends} {σ : St} {H : Hp} (Pv : St → Hp → Prop) (μ : St → Hp → Nat) (h0 : Pv σ H)
    (hs : ∀ σ H, Pv σ H → c σ H fun b H1 => if b = true then tb { D with nx := fun σ' H' => Pv σ' H' ∧ μ σ' H' < μ σ H, ct := fun σ' H' => Pv σ' H' ∧ μ σ' H' < μ σ H, bk := D.nx } σ H1 else D.nx σ H1)
    (mono : ∀ σ H Q Q', (∀ b H1, Q b H1 → Q' b H1) → c σ H Q → c σ H Q') : tWhile c tb D σ H := by
  refine ⟨fun m σ H => m = μ σ H ∧ Pv σ H, ⟨_, rfl, h0⟩, ?_⟩
  rintro m σ H ⟨rfl, p⟩
  refine mono σ H _ _ (fun b H1 q => ?_) (hs σ H p)
  cases b with
  | true => exact ⟨_, fun σ' H' ⟨p', l⟩ => ⟨_, l, rfl, p'⟩, q⟩
  | false => exact q
end L2

namespace L2
open PySem PySem.Spec PyProof.Rows

abbrev R2 := V → V → Hp → VK → Prop
/-- a two-place operation on values: f is binaryOp op, inplaceOp op or compareOp op -/
def OpR (X : Cx) (f : Value → Value → Sem Value) (r : R2) : Prop :=
  ∀ (pins : List (Addr × Obj)) (s : Shared) (σ : St) (H : Hp) (x y : V) (v u : Value) (Q : VK), Inv X pins σ H s → RelV x v → RelV y u → r x y H Q →
    wpAny (model X.prog X.w) X.A (f v u) (EP X pins σ Q) X.xe s
/-- a one-place operation -/
def UnR (X : Cx) (f : Value → Sem Value) (r : V → Hp → VK → Prop) : Prop :=
  ∀ (pins : List (Addr × Obj)) (s : Shared) (σ : St) (H : Hp) (x : V) (v : Value) (Q : VK), Inv X pins σ H s → RelV x v → r x H Q →
    wpAny (model X.prog X.w) X.A (f v) (EP X pins σ Q) X.xe s
/-- a call of a value that is known (a builtin, a type) with values -/
def CallR (X : Cx) (f : Value) (r : List V → Hp → VK → Prop) : Prop :=
  ∀ (pins : List (Addr × Obj)) (s : Shared) (σ : St) (H : Hp) (xs : List V) (us : List Value) (Q : VK), Inv X pins σ H s → Vals xs us → r xs H Q →
    wpAny (model X.prog X.w) X.A (call f us) (EP X pins σ Q) X.xe s
/-- a value's truth -/
def TruR (X : Cx) (r : V → Hp → (Bool → Hp → Prop) → Prop) : Prop :=
  ∀ (pins : List (Addr × Obj)) (s : Shared) (σ : St) (H : Hp) (x : V) (v : Value) (Q : Bool → Hp → Prop), Inv X pins σ H s → RelV x v → r x H Q →
    wpAny (model X.prog X.w) X.A (truthy v) (TP X pins σ Q) X.xe s

def tOp (r : R2) (ta tb : TE) : TE := fun σ H Q => ta σ H fun x H1 => tb σ H1 fun y H2 => r x y H2 Q
def tUn (r : V → Hp → VK → Prop) (ta : TE) : TE := fun σ H Q => ta σ H fun x H1 => r x H1 Q
/-- ints in, under C, and a value out -/
def rI (C : Int → Int → Prop) (g : Int → Int → V) : R2 := fun x y H Q => ∃ i j, x = .int i ∧ y = .int j ∧ C i j ∧ Q (g i j) H
def rI0 (g : Int → Int → V) : R2 := fun x y H Q => ∃ i j, x = .int i ∧ y = .int j ∧ Q (g i j) H
def rU (g : Int → V) : V → Hp → VK → Prop := fun x H Q => ∃ i, x = .int i ∧ Q (g i) H

section
variable {X : Cx} {a b c : Expr} {ta tb tc : TE} {pos : Pos}

theorem binT (ha : PE X a ta) (hb : PE X b tb) {pins : List (Addr × Obj)} {s : Shared} {σ : St} {H : Hp} {R : V → V → Hp → Prop} (I : Inv X pins σ H s)
    (h : ta σ H fun x H1 => tb σ H1 fun y H2 => R x y H2) {Q : Value → Shared → Prop} {f : Value → Value → Sem Value}
    (hf : ∀ v u s2 x y H2, Inv X pins σ H2 s2 → RelV x v → RelV y u → R x y H2 → wpAny (model X.prog X.w) X.A (f v u) Q X.xe s2) :
    wpAny (model X.prog X.w) X.A (eval a X.env) (fun v s₁ => wpAny (model X.prog X.w) X.A (eval b X.env) (fun u s₂ => wpAny (model X.prog X.w) X.A (f v u) Q X.xe s₂) X.xe s₁) X.xe s := by
  refine thn (ha pins s σ H _ I h) fun v s1 ⟨x, H1, I1, r1, q1⟩ => ?_
  refine thn (hb pins s1 σ H1 _ I1 q1) fun u s2 ⟨y, H2, I2, r2, q2⟩ => ?_
  exact hf v u s2 x y H2 I2 r1 r2 q2

theorem pe_op {op : Operator} {r : R2} (ho : OpR X (binaryOp op) r) (ha : PE X a ta) (hb : PE X b tb) : PE X (.BinOp a op b pos) (tOp r ta tb) := by
  intro pins s σ H Q I h
  exact wpAny_BinOp (binT ha hb I h fun v u s2 x y H2 I2 rx ry q => ho pins s2 σ H2 x y v u Q I2 rx ry q)
theorem pe_un {op : UnaryOp} {r : V → Hp → VK → Prop} (ho : UnR X (unaryOp op) r) (ha : PE X a ta) : PE X (.UnaryOp op a pos) (tUn r ta) := by
  intro pins s σ H Q I h
  exact UnaryOp_ (thn (ha pins s σ H _ I h) fun v s1 ⟨x, H1, I1, r1, q1⟩ => ho pins s1 σ H1 x v Q I1 r1 q1)
/-- a op= e at a name: the name's slot i -/
theorem augR {op : Operator} {r : R2} (ho : OpR X (inplaceOp op) r) {pins : List (Addr × Obj)} {s : Shared} {σ : St} {H : Hp} {x y : V} {v u : Value} {Q : VK} (I : Inv X pins σ H s)
    (rx : RelV x v) (ry : RelV y u) (q : r x y H Q) : wpAny (model X.prog X.w) X.A (inplaceOp op v u) (EP X pins σ Q) X.xe s := ho pins s σ H x y v u Q I rx ry q

/-! ### ints -/
theorem opI {f : Value → Value → Sem Value} {C : Int → Int → Prop} {g : Int → Int → Int}
    (rule : ∀ (i j : Int) (t u : Tok) (s : Shared) (Q : Value → Shared → Prop) (E : Value → Shared → Prop), C i j → Q (.int (g i j) s.toks) { s with toks := s.toks + 1 } → wpAny (model X.prog X.w) X.A (f (.int i t) (.int j u)) Q E s) :
    OpR X f (rI C fun i j => .int (g i j)) := by
  intro pins s σ H x y v u Q I rx ry h
  obtain ⟨i, j, rfl, rfl, hc, q⟩ := h
  obtain ⟨t, rfl⟩ := rx
  obtain ⟨t', rfl⟩ := ry
  exact rule i j t t' s _ _ hc ⟨.int (g i j), H, I.tok _, ⟨_, rfl⟩, q⟩
theorem opI0 {f : Value → Value → Sem Value} {g : Int → Int → Int}
    (rule : ∀ (i j : Int) (t u : Tok) (s : Shared) (Q : Value → Shared → Prop) (E : Value → Shared → Prop), Q (.int (g i j) s.toks) { s with toks := s.toks + 1 } → wpAny (model X.prog X.w) X.A (f (.int i t) (.int j u)) Q E s) :
    OpR X f (rI0 fun i j => .int (g i j)) := by
  intro pins s σ H x y v u Q I rx ry h
  obtain ⟨i, j, rfl, rfl, q⟩ := h
  obtain ⟨t, rfl⟩ := rx
  obtain ⟨t', rfl⟩ := ry
  exact rule i j t t' s _ _ ⟨.int (g i j), H, I.tok _, ⟨_, rfl⟩, q⟩
theorem opB0 {f : Value → Value → Sem Value} {g : Int → Int → Bool}
    (rule : ∀ (i j : Int) (t u : Tok) (s : Shared) (Q : Value → Shared → Prop) (E : Value → Shared → Prop), Q (.bool (g i j)) s → wpAny (model X.prog X.w) X.A (f (.int i t) (.int j u)) Q E s) :
    OpR X f (rI0 fun i j => .bl (g i j)) := by
  intro pins s σ H x y v u Q I rx ry h
  obtain ⟨i, j, rfl, rfl, q⟩ := h
  obtain ⟨t, rfl⟩ := rx
  obtain ⟨t', rfl⟩ := ry
  exact rule i j t t' s _ _ ⟨.bl (g i j), H, I, rfl, q⟩

def CDiv (i j : Int) : Prop := 0 < j ∧ j < 1073741824
def CDivN (i j : Int) : Prop := j ≠ 0 ∧ j.natAbs < 1073741824
def CPow (i j : Int) : Prop := 0 ≤ j ∧ j ≤ 1000000 ∧ i.natAbs < 2 ^ 64
def CMul (i j : Int) : Prop := (-(2 ^ 64) < i ∧ i < 2 ^ 64) ∨ (-(2 ^ 64) < j ∧ j < 2 ^ 64)
theorem CMul.ok {i j : Int} (h : CMul i j) : IntMulOk i j := by
  rcases h with ⟨h1, h2⟩ | ⟨h1, h2⟩
  · exact .of_left (intBits_le_64 h1 h2)
  · exact .of_right (intBits_le_64 h1 h2)
theorem two_pow_nn (k : Nat) : (0 : Int) ≤ 2 ^ k := by
  rw [two_pow_cast]
  exact Int.natCast_nonneg _

theorem op_add : OpR X (binaryOp .Add) (rI0 fun i j => .int (i + j)) := opI0 fun _ _ _ _ _ _ _ q => add_int q
theorem op_sub : OpR X (binaryOp .Sub) (rI0 fun i j => .int (i - j)) := opI0 fun _ _ _ _ _ _ _ q => sub_int q
theorem op_mul : OpR X (binaryOp .Mult) (rI CMul fun i j => .int (i * j)) := opI fun _ _ _ _ _ _ _ hc q => mul_int q hc.ok
/-- // by a positive divisor -/
theorem op_fdiv : OpR X (binaryOp .FloorDiv) (rI CDiv fun i j => .int (i / j)) := opI fun i j _ _ _ _ _ hc q => by
  have h1 : (0 : Int) < j := hc.1
  have h2 : j < 1073741824 := hc.2
  exact floordiv_int (by omega) (by rw [Int.fdiv_eq_ediv_of_nonneg i (by omega)]; exact q) (.inl (PyProof.noPylong_small (by omega)))
theorem op_fdivN : OpR X (binaryOp .FloorDiv) (rI CDivN fun i j => .int (i.fdiv j)) := opI fun _ _ _ _ _ _ _ hc q => floordiv_int hc.1 q (.inl (PyProof.noPylong_small hc.2))
/-- % by a positive divisor of any size -/
theorem op_mod : OpR X (binaryOp .Mod) (rI (fun _ j => 0 < j) fun i j => .int (i % j)) := opI fun i j _ _ _ _ _ hc q => by
  have h1 : (0 : Int) < j := hc
  exact mod_int' (by omega) (by rw [Int.fmod_eq_emod_of_nonneg i (by omega)]; exact q)
theorem op_modN : OpR X (binaryOp .Mod) (rI (fun _ j => j ≠ 0) fun i j => .int (i.fmod j)) := opI fun _ _ _ _ _ _ _ hc q => mod_int' hc q
theorem op_pow : OpR X (binaryOp .Pow) (rI CPow fun i j => .int (i ^ j.toNat)) := opI fun _ _ _ _ _ _ _ hc q => pow_int_small hc.1 hc.2.1 hc.2.2 q
theorem op_shl : OpR X (binaryOp .LShift) (rI CPow fun i j => .int (i * 2 ^ j.toNat)) := opI fun _ _ _ _ _ _ _ hc q => lshift_int_small hc.1 hc.2.1 hc.2.2 q
theorem op_shr : OpR X (binaryOp .RShift) (rI (fun _ j => 0 ≤ j) fun i j => .int (i / 2 ^ j.toNat)) := opI fun i j _ _ _ _ _ hc q =>
  rshift_int hc (by rw [Int.fdiv_eq_ediv_of_nonneg i (two_pow_nn _)]; exact q)
theorem op_and : OpR X (binaryOp .BitAnd) (rI0 fun i j => .int (Builtin.bitAnd i j)) := opI0 fun _ _ _ _ _ _ _ q => and_int q
theorem op_or : OpR X (binaryOp .BitOr) (rI0 fun i j => .int (Builtin.bitOr i j)) := opI0 fun _ _ _ _ _ _ _ q => or_int q
theorem op_xor : OpR X (binaryOp .BitXor) (rI0 fun i j => .int (Builtin.bitXor i j)) := opI0 fun _ _ _ _ _ _ _ q => xor_int q

theorem iop_add : OpR X (inplaceOp .Add) (rI0 fun i j => .int (i + j)) := opI0 fun _ _ _ _ _ _ _ q => iadd_int q
theorem iop_sub : OpR X (inplaceOp .Sub) (rI0 fun i j => .int (i - j)) := opI0 fun _ _ _ _ _ _ _ q => isub_int q
theorem iop_mul : OpR X (inplaceOp .Mult) (rI CMul fun i j => .int (i * j)) := opI fun _ _ _ _ _ _ _ hc q => imul_int q hc.ok
theorem iop_fdiv : OpR X (inplaceOp .FloorDiv) (rI CDiv fun i j => .int (i / j)) := opI fun i j _ _ _ _ _ hc q => by
  have h1 : (0 : Int) < j := hc.1
  have h2 : j < 1073741824 := hc.2
  exact ifloordiv_int (by omega) (by rw [Int.fdiv_eq_ediv_of_nonneg i (by omega)]; exact q) (.inl (PyProof.noPylong_small (by omega)))
theorem iop_mod : OpR X (inplaceOp .Mod) (rI (fun _ j => 0 < j) fun i j => .int (i % j)) := opI fun i j _ _ _ _ _ hc q => by
  have h1 : (0 : Int) < j := hc
  exact imod_int (by omega) (by rw [Int.fmod_eq_emod_of_nonneg i (by omega)]; exact q)
theorem iop_shl : OpR X (inplaceOp .LShift) (rI CPow fun i j => .int (i * 2 ^ j.toNat)) := opI fun _ _ _ _ _ _ _ hc q => ilshift_int_small hc.1 hc.2.1 hc.2.2 q
theorem iop_shr : OpR X (inplaceOp .RShift) (rI (fun _ j => 0 ≤ j) fun i j => .int (i / 2 ^ j.toNat)) := opI fun i j _ _ _ _ _ hc q =>
  irshift_int hc (by rw [Int.fdiv_eq_ediv_of_nonneg i (two_pow_nn _)]; exact q)
theorem iop_and : OpR X (inplaceOp .BitAnd) (rI0 fun i j => .int (Builtin.bitAnd i j)) := opI0 fun _ _ _ _ _ _ _ q => iand_int q
theorem iop_or : OpR X (inplaceOp .BitOr) (rI0 fun i j => .int (Builtin.bitOr i j)) := opI0 fun _ _ _ _ _ _ _ q => ior_int q
theorem iop_xor : OpR X (inplaceOp .BitXor) (rI0 fun i j => .int (Builtin.bitXor i j)) := opI0 fun _ _ _ _ _ _ _ q => ixor_int q

theorem unI {f : Value → Sem Value} {g : Int → Int}
    (rule : ∀ (i : Int) (t : Tok) (s : Shared) (Q : Value → Shared → Prop) (E : Value → Shared → Prop), Q (.int (g i) s.toks) { s with toks := s.toks + 1 } → wpAny (model X.prog X.w) X.A (f (.int i t)) Q E s) :
    UnR X f (rU fun i => .int (g i)) := by
  intro pins s σ H x v Q I rx h
  obtain ⟨i, rfl, q⟩ := h
  obtain ⟨t, rfl⟩ := rx
  exact rule i t s _ _ ⟨.int (g i), H, I.tok _, ⟨_, rfl⟩, q⟩
theorem un_neg : UnR X (unaryOp .USub) (rU fun i => .int (-i)) := unI fun _ _ _ _ _ q => neg_int q
theorem un_inv : UnR X (unaryOp .Invert) (rU fun i => .int (Builtin.bitNot i)) := unI fun _ _ _ _ _ q => invert_int q

/-! ### bools among ints: n += (a < b) -/
theorem op_add_ib : OpR X (binaryOp .Add) (fun x y H Q => ∃ i k, x = .int i ∧ y = .bl k ∧ Q (.int (i + b2i k)) H) := by
  intro pins s σ H x y v u Q I rx ry h
  obtain ⟨i, k, rfl, rfl, q⟩ := h
  obtain ⟨t, rfl⟩ := rx
  cases ry
  exact add_int_bool ⟨.int (i + b2i k), H, I.tok _, ⟨_, rfl⟩, q⟩
end

/-! ### comparisons -/
/-- the scalars that == tells apart as data does -/
def scal : V → V → Bool
  | .non, .non => true | .non, .int _ => true | .int _, .non => true | .non, .bl _ => true | .bl _, .non => true | .non, .str _ => true | .str _, .non => true
  | .int _, .int _ => true | .bl _, .bl _ => true | .str _, .str _ => true | .byt _, .byt _ => true
  | .int _, .str _ => true | .str _, .int _ => true | .bl _, .str _ => true | .str _, .bl _ => true
  | _, _ => false
def rEq : R2 := fun x y H Q => scal x y = true ∧ Q (.bl (decide (x = y))) H
def rNe : R2 := fun x y H Q => scal x y = true ∧ Q (.bl (!decide (x = y))) H

theorem dec_int {i j : Int} : decide (V.int i = V.int j) = (i == j) := by
  rw [Bool.eq_iff_iff]
  simp
theorem dec_bl {i j : Bool} : decide (V.bl i = V.bl j) = (i == j) := by
  rw [Bool.eq_iff_iff]
  simp
theorem dec_str {i j : Str} : decide (V.str i = V.str j) = (i == j) := by
  rw [Bool.eq_iff_iff]
  simp
theorem dec_byt {i j : Array UInt8} : decide (V.byt i = V.byt j) = (i.toList == j.toList) := by
  rw [Bool.eq_iff_iff]
  cases i
  cases j
  simp

section
variable {X : Cx} {a b c : Expr} {ta tb tc : TE} {pos : Pos}
theorem fin_bl {pins : List (Addr × Obj)} {σ : St} {H : Hp} {s : Shared} {Q : VK} {k k' : Bool} (I : Inv X pins σ H s) (q : Q (.bl k) H) (e : k = k') : EP X pins σ Q (.bool k') s := by
  subst e
  exact ⟨.bl k, H, I, rfl, q⟩
theorem op_eq : OpR X (compareOp .Eq) rEq := by
  intro pins s σ H x y v u Q I rx ry h
  obtain ⟨hs, q⟩ := h
  cases x with
  | non =>
    cases rx
    cases y with
    | non => cases ry; exact PySem.EqNone.eq_none_none (fin_bl I q (by simp))
    | bl j => cases ry; exact PySem.EqNone.eq_none_bool (fin_bl I q (by simp))
    | int j => obtain ⟨t', rfl⟩ := ry; exact PySem.EqNone.eq_none_int (fin_bl I q (by simp))
    | str j => obtain ⟨t', rfl⟩ := ry; exact PySem.EqNone.eq_none_str (fin_bl I q (by simp))
    | _ => exact absurd (show false = true from hs) Bool.false_ne_true
  | bl i =>
    cases rx
    cases y with
    | non => cases ry; exact PySem.EqNone.eq_bool_none (fin_bl I q (by simp))
    | bl j => cases ry; exact eq_bool (fin_bl I q dec_bl)
    | str j => obtain ⟨t', rfl⟩ := ry; exact PySem.EqMixed.eq_bool_str (fin_bl I q (by simp))
    | _ => exact absurd (show false = true from hs) Bool.false_ne_true
  | int i =>
    obtain ⟨t, rfl⟩ := rx
    cases y with
    | non => cases ry; exact PySem.EqNone.eq_int_none (fin_bl I q (by simp))
    | int j => obtain ⟨t', rfl⟩ := ry; exact eq_int (fin_bl I q dec_int)
    | str j => obtain ⟨t', rfl⟩ := ry; exact PySem.EqMixed.eq_int_str (fin_bl I q (by simp))
    | _ => exact absurd (show false = true from hs) Bool.false_ne_true
  | str i =>
    obtain ⟨t, rfl⟩ := rx
    cases y with
    | non => cases ry; exact PySem.EqNone.eq_str_none (fin_bl I q (by simp))
    | bl j => cases ry; exact PySem.EqMixed.eq_str_bool (fin_bl I q (by simp))
    | int j => obtain ⟨t', rfl⟩ := ry; exact PySem.EqMixed.eq_str_int (fin_bl I q (by simp))
    | str j => obtain ⟨t', rfl⟩ := ry; exact eq_str (fin_bl I q dec_str)
    | _ => exact absurd (show false = true from hs) Bool.false_ne_true
  | byt i =>
    obtain ⟨t, rfl⟩ := rx
    cases y with
    | byt j => obtain ⟨t', rfl⟩ := ry; exact PySem.W.eq_bytes (fin_bl I q dec_byt)
    | _ => exact absurd (show false = true from hs) Bool.false_ne_true
  | _ => cases y <;> exact absurd (show false = true from hs) Bool.false_ne_true
theorem op_ne : OpR X (compareOp .NotEq) rNe := by
  intro pins s σ H x y v u Q I rx ry h
  obtain ⟨hs, q⟩ := h
  cases x with
  | non =>
    cases rx
    cases y with
    | non => cases ry; exact PySem.EqNone.ne_none_none (fin_bl I q (by simp))
    | bl j => cases ry; exact PySem.EqNone.ne_none_bool (fin_bl I q (by simp))
    | int j => obtain ⟨t', rfl⟩ := ry; exact PySem.EqNone.ne_none_int (fin_bl I q (by simp))
    | str j => obtain ⟨t', rfl⟩ := ry; exact PySem.EqNone.ne_none_str (fin_bl I q (by simp))
    | _ => exact absurd (show false = true from hs) Bool.false_ne_true
  | bl i =>
    cases rx
    cases y with
    | non => cases ry; exact PySem.EqNone.ne_bool_none (fin_bl I q (by simp))
    | bl j => cases ry; exact ne_bool (fin_bl I q (congrArg not dec_bl))
    | str j => obtain ⟨t', rfl⟩ := ry; exact PySem.EqMixed.ne_bool_str (fin_bl I q (by simp))
    | _ => exact absurd (show false = true from hs) Bool.false_ne_true
  | int i =>
    obtain ⟨t, rfl⟩ := rx
    cases y with
    | non => cases ry; exact PySem.EqNone.ne_int_none (fin_bl I q (by simp))
    | int j => obtain ⟨t', rfl⟩ := ry; exact ne_int (fin_bl I q (congrArg not dec_int))
    | str j => obtain ⟨t', rfl⟩ := ry; exact PySem.EqMixed.ne_int_str (fin_bl I q (by simp))
    | _ => exact absurd (show false = true from hs) Bool.false_ne_true
  | str i =>
    obtain ⟨t, rfl⟩ := rx
    cases y with
    | non => cases ry; exact PySem.EqNone.ne_str_none (fin_bl I q (by simp))
    | bl j => cases ry; exact PySem.EqMixed.ne_str_bool (fin_bl I q (by simp))
    | int j => obtain ⟨t', rfl⟩ := ry; exact PySem.EqMixed.ne_str_int (fin_bl I q (by simp))
    | str j => obtain ⟨t', rfl⟩ := ry; exact ne_str (fin_bl I q (congrArg not dec_str))
    | _ => exact absurd (show false = true from hs) Bool.false_ne_true
  | byt i =>
    obtain ⟨t, rfl⟩ := rx
    cases y with
    | byt j => obtain ⟨t', rfl⟩ := ry; exact PySem.W.ne_bytes (fin_bl I q (congrArg not dec_byt))
    | _ => exact absurd (show false = true from hs) Bool.false_ne_true
  | _ => cases y <;> exact absurd (show false = true from hs) Bool.false_ne_true

theorem op_lt : OpR X (compareOp .Lt) (rI0 fun i j => .bl (decide (i < j))) := opB0 fun _ _ _ _ _ _ _ q => lt_int q
theorem op_le : OpR X (compareOp .LtE) (rI0 fun i j => .bl (decide (i ≤ j))) := opB0 fun _ _ _ _ _ _ _ q => le_int q
theorem op_gt : OpR X (compareOp .Gt) (rI0 fun i j => .bl (decide (j < i))) := opB0 fun _ _ _ _ _ _ _ q => gt_int q
theorem op_ge : OpR X (compareOp .GtE) (rI0 fun i j => .bl (decide (j ≤ i))) := opB0 fun _ _ _ _ _ _ _ q => ge_int q
theorem op_lt_str : OpR X (compareOp .Lt) (fun x y H Q => ∃ i j, x = .str i ∧ y = .str j ∧ Q (.bl (decide (i.cps.toList < j.cps.toList))) H) := by
  intro pins s σ H x y v u Q I rx ry h
  obtain ⟨i, j, rfl, rfl, q⟩ := h
  obtain ⟨t, rfl⟩ := rx
  obtain ⟨t', rfl⟩ := ry
  exact lt_str (fin_bl I q rfl)
/-- the one string within the other -/
theorem op_in_str : OpR X (compareOp .In) (fun x y H Q => ∃ i j, x = .str i ∧ y = .str j ∧ Q (.bl (!(Builtin.Str.occurrences j i 0 j.length 1).isEmpty)) H) := by
  intro pins s σ H x y v u Q I rx ry h
  obtain ⟨i, j, rfl, rfl, q⟩ := h
  obtain ⟨t, rfl⟩ := rx
  obtain ⟨t', rfl⟩ := ry
  exact in_str (fin_bl I q rfl)

/-- is None, is not None: the right side a value none -/
theorem op_isN : OpR X (compareOp .Is) (fun x y H Q => y = .non ∧ Q (.bl (decide (x = .non))) H) := by
  intro pins s σ H x y v u Q I rx ry h
  obtain ⟨rfl, q⟩ := h
  cases ry
  refine is_none_gen (fin_bl I q ?_)
  cases x <;> first
    | (cases rx; rfl)
    | (obtain ⟨t, rfl⟩ := rx; rfl)
theorem op_notN : OpR X (compareOp .IsNot) (fun x y H Q => y = .non ∧ Q (.bl (!decide (x = .non))) H) := by
  intro pins s σ H x y v u Q I rx ry h
  obtain ⟨rfl, q⟩ := h
  cases ry
  refine isnot_none_gen (fin_bl I q ?_)
  cases x <;> first
    | (cases rx; rfl)
    | (obtain ⟨t, rfl⟩ := rx; rfl)

theorem op_notin_str : OpR X (compareOp .NotIn) (fun x y H Q => ∃ i j, x = .str i ∧ y = .str j ∧ Q (.bl (!(!(Builtin.Str.occurrences j i 0 j.length 1).isEmpty))) H) := by
  intro pins s σ H x y v u Q I rx ry h
  obtain ⟨i, j, rfl, rfl, q⟩ := h
  obtain ⟨t, rfl⟩ := rx
  obtain ⟨t', rfl⟩ := ry
  exact notIn_str (fin_bl I q rfl)
/-- is, is not of two objects that are tracked lists or instances -/
def isObj : HO → Bool
  | .lst _ => true
  | .ins _ _ _ => true
  | _ => false
theorem obj_there {pins : List (Addr × Obj)} {s : Shared} {σ : St} {H : Hp} {a : Addr} {o : HO} (I : Inv X pins σ H s) (h : H a = some o) (p : isObj o = true) : ∃ ob, s.heap.get? a = some ob ∧ ob.cls ≠ .type "tuple" := by
  cases o with
  | lst xs =>
    obtain ⟨_, its, n, _, e⟩ : xs.length ≤ sizeLine ∧ ∃ (its : List Value) (n : Nat), Vals xs its ∧ s.heap.get? a = some { cls := .type "list", data := .seq its.toArray n } := I.hok a _ h
    exact ⟨_, e, (by show Value.type "list" ≠ .type "tuple"; decide +kernel)⟩
  | ins C dx fs =>
    have x := I.hok a _ h
    obtain ⟨_, _, _, e, _⟩ := x
    exact ⟨_, e, (by show Value.ref C ≠ .type "tuple"; exact fun z => by cases z)⟩
  | _ => exact absurd (show false = true from p) Bool.false_ne_true
theorem op_is_ref : OpR X (compareOp .Is) (fun x y H Q => ∃ a b oa ob, x = .ref a ∧ y = .ref b ∧ H a = some oa ∧ isObj oa = true ∧ H b = some ob ∧ isObj ob = true ∧ Q (.bl (decide (a = b))) H) := by
  intro pins s σ H x y v u Q I rx ry h
  obtain ⟨a, b, oa, ob, rfl, rfl, ha, pa, hb, pb, q⟩ := h
  cases rx
  cases ry
  obtain ⟨o1, e1, n1⟩ := obj_there I ha pa
  obtain ⟨o2, e2, _⟩ := obj_there I hb pb
  by_cases z : a = b
  · subst z
    exact wpAny_is_ref_self (fin_bl I q (by simp))
  · exact wpAny_is_ref_other z e1 e2 n1 (fin_bl I q (by simp [z]))
theorem op_isnot_ref : OpR X (compareOp .IsNot) (fun x y H Q => ∃ a b oa ob, x = .ref a ∧ y = .ref b ∧ H a = some oa ∧ isObj oa = true ∧ H b = some ob ∧ isObj ob = true ∧ Q (.bl (!decide (a = b))) H) := by
  intro pins s σ H x y v u Q I rx ry h
  obtain ⟨a, b, oa, ob, rfl, rfl, ha, pa, hb, pb, q⟩ := h
  cases rx
  cases ry
  obtain ⟨o1, e1, n1⟩ := obj_there I ha pa
  obtain ⟨o2, e2, _⟩ := obj_there I hb pb
  by_cases z : a = b
  · subst z
    exact wpAny_isNot_ref_self (fin_bl I q (by simp))
  · exact wpAny_isNot_ref_other z e1 e2 n1 (fin_bl I q (by simp [z]))

/-- two rules for one operation: by cases -/
theorem OpR.or {f : Value → Value → Sem Value} {r r' : R2} (h : OpR X f r) (h' : OpR X f r') : OpR X f (fun x y H Q => r x y H Q ∨ r' x y H Q) := by
  intro pins s σ H x y v u Q I rx ry q
  rcases q with q | q
  · exact h pins s σ H x y v u Q I rx ry q
  · exact h' pins s σ H x y v u Q I rx ry q

theorem nomark (b : Expr) {op : CmpOp} (h : op ≠ .In := by decide) (h2 : op ≠ .NotIn := by decide) : behindInMarks op b = false := by
  have e1 : (op == CmpOp.In) = false := by cases op <;> first | rfl | exact absurd rfl h
  have e2 : (op == CmpOp.NotIn) = false := by cases op <;> first | rfl | exact absurd rfl h2
  cases b <;> simp [behindInMarks, e1, e2]
/-- a comparison as a value; hm: nomark b, or (for in, not in) by with_unfolding_all rfl -/
theorem pe_cmpR {op : CmpOp} {r : R2} (ho : OpR X (compareOp op) r) (ha : PE X a ta) (hb : PE X b tb) (hm : behindInMarks op b = false) : PE X (.Compare a [op] [b] pos) (tOp r ta tb) := by
  intro pins s σ H Q I h
  exact wpAny_Compare1 (binT ha hb I h fun v u s2 x y H2 I2 rx ry q => ho pins s2 σ H2 x y v u Q I2 rx ry q) hm
/-- a reading of a value as a test -/
def tTest (t : TE) : TT := fun σ H Q => t σ H fun x H' => ∃ k, x = .bl k ∧ Q k H'
theorem pt_cmpR {op : CmpOp} {r : R2} (ho : OpR X (compareOp op) r) (ha : PE X a ta) (hb : PE X b tb) (hm : behindInMarks op b = false) : PT X (.Compare a [op] [b] pos) (tTest (tOp r ta tb)) := by
  intro pins s σ H Q I h
  refine wpAny_isTrue_Compare1 (thn (ha pins s σ H _ I h) fun v s1 ⟨x, H1, I1, r1, q1⟩ => thn (hb pins s1 σ H1 _ I1 q1) fun u s2 ⟨y, H2, I2, r2, q2⟩ =>
    thn (ho pins s2 σ H2 x y v u _ I2 r1 r2 q2) fun c s3 ⟨z, H3, I3, r3, k, e, q3⟩ => ?_) hm
  subst e
  cases r3
  exact wpAny_truthy_bool ⟨H3, I3, q3⟩
/-- a op1 b op2 c -/
def tChain (r r' : R2) (ta tb tc : TE) : TE := fun σ H Q => ta σ H fun x H1 => tb σ H1 fun y H2 => r x y H2 fun z H3 => ∃ k, z = .bl k ∧
  (if k = true then tc σ H3 fun w' H4 => r' y w' H4 Q else Q (.bl false) H3)
theorem pe_chain {op op' : CmpOp} {r r' : R2} (ho : OpR X (compareOp op) r) (ho' : OpR X (compareOp op') r') (ha : PE X a ta) (hb : PE X b tb) (hc : PE X c tc)
    (hm : lastMarks [op, op'] [b, c] = false := by with_unfolding_all rfl) : PE X (.Compare a [op, op'] [b, c] pos) (tChain r r' ta tb tc) := by
  intro pins s σ H Q I h
  refine Compare_chain (thn (ha pins s σ H _ I h) fun v s1 ⟨x, H1, I1, r1, q1⟩ => chain_link (thn (hb pins s1 σ H1 _ I1 q1) fun u s2 ⟨y, H2, I2, r2, q2⟩ =>
    thn (ho pins s2 σ H2 x y v u _ I2 r1 r2 q2) fun d s3 ⟨z, H3, I3, r3, k, e, q3⟩ => ?_)) hm
  subst e
  cases r3
  refine wpAny_truthy_bool ?_
  cases k with
  | false => exact ite_ff ⟨.bl false, H3, I3, rfl, q3⟩
  | true => exact ite_tt (chain_last (thn (hc pins s3 σ H3 _ I3 q3) fun w' s4 ⟨z', H4, I4, r4, q4⟩ => ho' pins s4 σ H4 y z' u w' Q I4 r2 r4 q4))
theorem pt_chain {op op' : CmpOp} {r r' : R2} (ho : OpR X (compareOp op) r) (ho' : OpR X (compareOp op') r') (ha : PE X a ta) (hb : PE X b tb) (hc : PE X c tc)
    (hm : lastMarks [op, op'] [b, c] = false := by with_unfolding_all rfl) : PT X (.Compare a [op, op'] [b, c] pos) (tTest (tChain r r' ta tb tc)) := by
  intro pins s σ H Q I h
  refine isTrue_chain (thn (ha pins s σ H _ I h) fun v s1 ⟨x, H1, I1, r1, q1⟩ => test_link (thn (hb pins s1 σ H1 _ I1 q1) fun u s2 ⟨y, H2, I2, r2, q2⟩ =>
    thn (ho pins s2 σ H2 x y v u _ I2 r1 r2 q2) fun d s3 ⟨z, H3, I3, r3, k, e, q3⟩ => ?_)) hm
  subst e
  cases r3
  refine wpAny_truthy_bool ?_
  cases k with
  | false =>
    obtain ⟨k', e', q'⟩ := q3
    cases e'
    exact ite_ff ⟨H3, I3, q'⟩
  | true =>
    refine ite_tt (test_last (thn (hc pins s3 σ H3 _ I3 q3) fun w' s4 ⟨z', H4, I4, r4, q4⟩ => thn (ho' pins s4 σ H4 y z' u w' _ I4 r2 r4 q4) fun d' s5 ⟨z2, H5, I5, r5, k2, e2, q5⟩ => ?_))
    subst e2
    cases r5
    exact wpAny_truthy_bool ⟨H5, I5, q5⟩

/-! ### truth -/
/-- a value's truth by the abstract heap -/
def TruV (K : PySem.W.Frag) (x : V) (H : Hp) (k : Bool) : Prop :=
  match x with
  | .non => k = false
  | .bl b => k = b
  | .int i => k = (i != 0)
  | .str y => y.length ≤ sizeLine ∧ k = ((y.length : Int) != 0)
  | .byt y => y.size ≤ sizeLine ∧ k = ((y.size : Int) != 0)
  | .ref p => (∃ xs, SqL K H p xs ∧ k = !xs.isEmpty) ∨ (∃ xs, SqT K H p xs ∧ k = !xs.isEmpty) ∨ ∃ kvs, H p = some (.dK kvs) ∧ k = !kvs.isEmpty
  | _ => False
theorem isEmpty_kv {κ : Type} {kvs : List (κ × V)} {vs : List (κ × Value)} (r : KV kvs vs) : (!vs.isEmpty) = !kvs.isEmpty := by
  cases r <;> rfl
theorem isEmpty_of {xs : List V} {its : List Value} (r : Vals xs its) : (!its.toArray.isEmpty) = !xs.isEmpty := by
  cases r <;> simp
theorem line63 : (sizeLine : Nat) < 2 ^ 63 := by rw [sizeLine_eq]; decide
theorem tru_ok : TruR X (fun x H Q => ∃ k, TruV X.K x H k ∧ Q k H) := by
  intro pins s σ H x v Q I rx h
  obtain ⟨k, e, q⟩ := h
  have hl := line63
  have hs : sizeLine = 16777216 := sizeLine_eq
  cases x with
  | non =>
    cases rx
    have e' : k = false := e
    subst e'
    exact truthy_none ⟨H, I, q⟩
  | bl b =>
    cases rx
    have e' : k = b := e
    subst e'
    exact wpAny_truthy_bool ⟨H, I, q⟩
  | int i =>
    obtain ⟨t, rfl⟩ := rx
    have e' : k = (i != 0) := e
    subst e'
    exact PySem.P.truthy_int ⟨H, I, q⟩
  | str y =>
    obtain ⟨t, rfl⟩ := rx
    obtain ⟨hy, e'⟩ : y.length ≤ sizeLine ∧ k = ((y.length : Int) != 0) := e
    subst e'
    exact PySem.P.truthy_str (by omega) ⟨H, I.tok _, q⟩
  | byt y =>
    obtain ⟨t, rfl⟩ := rx
    obtain ⟨hy, e'⟩ : y.size ≤ sizeLine ∧ k = ((y.size : Int) != 0) := e
    subst e'
    exact PySem.W.truthy_bytes (by omega) ⟨H, I.tok _, q⟩
  | ref p =>
    cases rx
    have e' : (∃ xs, SqL X.K H p xs ∧ k = !xs.isEmpty) ∨ (∃ xs, SqT X.K H p xs ∧ k = !xs.isEmpty) ∨ ∃ kvs, H p = some (.dK kvs) ∧ k = !kvs.isEmpty := e
    rcases e' with ⟨xs, hx, e'⟩ | ⟨xs, hx, e'⟩ | ⟨kvs, hx, e'⟩
    · subst e'
      obtain ⟨its, r, pl, hz⟩ := I.list hx
      have hlen := r.length
      exact wpAny_truthy_list pl.isList (by simp only [List.size_toArray]; omega) ⟨H, I.tok _, by rw [isEmpty_of r]; exact q⟩
    · subst e'
      obtain ⟨its, r, pl, hz⟩ := I.tuple hx
      have hlen := r.length
      exact truthy_tuple pl (by simp only [List.size_toArray]; omega) ⟨H, I.tok _, by rw [isEmpty_of r]; exact q⟩
    · subst e'
      obtain ⟨hz, hS, vs, r, m⟩ : kvs.length ≤ sizeLine ∧ (p == sysModules) = false ∧ ∃ vs, KV kvs vs ∧ s.heap.DictOf (mixKind X.prog X.w) p vs := I.hok p _ hx
      have hlen : kvs.length = vs.length := Paired.length r
      exact wpAny_truthy_dict hS m (by omega) ⟨H, I.tok _, by rw [isEmpty_kv r]; exact q⟩
  | _ => exact (show False from e).elim
/-- any expression whose test is its value's truth (a name, a call, a subscript, a field ..: he by fun _ => rfl) -/
theorem pt_truth (ha : PE X a ta) (he : ∀ whole, isTrue a X.env whole = (do let v ← whole; standAt a.pos; holding [v] (truthy v))) :
    PT X a (fun σ H Q => ta σ H fun x H' => ∃ k, TruV X.K x H' k ∧ Q k H') := by
  intro pins s σ H Q I h
  exact isTrue_plain (thn (ha pins s σ H _ I h) fun v s1 ⟨x, H1, I1, r1, q1⟩ => tru_ok pins s1 σ H1 x v Q I1 r1 q1) (he _)

/-! ### strs and bytes -/
theorem pe_byt {x : List UInt8} {k : Nat} : PE X (.Constant (.bytes x) k pos) (fun _ H Q => Q (.byt x.toArray) H) := fun _ _ _ H _ I h => PySem.W.Constant_bytes ⟨.byt x.toArray, H, I.tok _, ⟨_, rfl⟩, h⟩
theorem op_add_str : OpR X (binaryOp .Add) (fun x y H Q => ∃ i j, x = .str i ∧ y = .str j ∧ i.length + j.length ≤ sizeLine ∧ Q (.str (i ++ j)) H) := by
  intro pins s σ H x y v u Q I rx ry h
  obtain ⟨i, j, rfl, rfl, hz, q⟩ := h
  obtain ⟨t, rfl⟩ := rx
  obtain ⟨t', rfl⟩ := ry
  exact add_str (fun t' tk => ⟨.str (i ++ j), H, I.tok _, ⟨_, rfl⟩, q⟩) hz
theorem iop_add_str : OpR X (inplaceOp .Add) (fun x y H Q => ∃ i j, x = .str i ∧ y = .str j ∧ i.length + j.length ≤ sizeLine ∧ Q (.str (i ++ j)) H) := by
  intro pins s σ H x y v u Q I rx ry h
  obtain ⟨i, j, rfl, rfl, hz, q⟩ := h
  obtain ⟨t, rfl⟩ := rx
  obtain ⟨t', rfl⟩ := ry
  exact iadd_str (fun t' tk => ⟨.str (i ++ j), H, I.tok _, ⟨_, rfl⟩, q⟩) hz
theorem op_add_byt : OpR X (binaryOp .Add) (fun x y H Q => ∃ i j, x = .byt i ∧ y = .byt j ∧ i.size + j.size ≤ 16777216 ∧ Q (.byt (i ++ j)) H) := by
  intro pins s σ H x y v u Q I rx ry h
  obtain ⟨i, j, rfl, rfl, hz, q⟩ := h
  obtain ⟨t, rfl⟩ := rx
  obtain ⟨t', rfl⟩ := ry
  exact PySem.W.KBy.add_bytes hz (fun t' tk => ⟨.byt (i ++ j), H, I.tok _, ⟨_, rfl⟩, q⟩)

def PlainIxT (b : Expr) : Prop := ∀ o i, subscripted b false o i = operate [o, i] (getItem o i)
/-- s[i], 0 ≤ i < len -/
theorem pe_item_str (ha : PE X a ta) (hb : PE X b tb) (hs : PlainIxT b) :
    PE X (.Subscript a b pos) (tOp (fun x y H Q => ∃ z i c, x = .str z ∧ y = .int i ∧ 0 ≤ i ∧ i < 2 ^ 63 ∧ i < z.length ∧ z.cps[i.toNat]? = some c ∧ Q (.str ⟨#[c]⟩) H) ta tb) := by
  intro pins s σ H Q I h
  refine Subscript_ (binT ha hb I h fun v u s2 x y H2 I2 rx ry q => ?_)
  obtain ⟨z, i, c, rfl, rfl, h0, h63, h1, hc, q⟩ := q
  obtain ⟨t, rfl⟩ := rx
  obtain ⟨t', rfl⟩ := ry
  have e : seqIndex? i z.length = some i.toNat := PySem.StrLaws.seqIndex_nonneg h0 h1
  exact tail_any (typeIs_str s2 z t) slot_str_getitem.lookup (getItem_str (c := c) (by
    have e1 : decide (i < -(2 ^ 63 : Int)) = false := decide_eq_false (by omega)
    have e2 : decide (i ≥ 2 ^ 63) = false := decide_eq_false (by omega)
    rw [e1, e2] <;> rfl) (by rw [e]; exact hc) ⟨.str ⟨#[c]⟩, H2, I2.tok _, ⟨_, rfl⟩, q⟩) (hs _ _)
/-- b[i], 0 ≤ i < len -/
theorem pe_item_byt (ha : PE X a ta) (hb : PE X b tb) (hs : PlainIxT b) :
    PE X (.Subscript a b pos) (tOp (fun x y H Q => ∃ (z : List UInt8) (i : Int), x = .byt z.toArray ∧ y = .int i ∧ z.length ≤ sizeLine ∧ 0 ≤ i ∧ i < z.length ∧ Q (.int ((z.getD i.toNat 0).toNat : Nat)) H) ta tb) := by
  intro pins s σ H Q I h
  refine Subscript_ (binT ha hb I h fun v u s2 x y H2 I2 rx ry q => ?_)
  obtain ⟨z, i, rfl, rfl, hz, h0, h1, q⟩ := q
  obtain ⟨t, rfl⟩ := rx
  obtain ⟨t', rfl⟩ := ry
  have hl : sizeLine = 16777216 := sizeLine_eq
  exact tail_any (PySem.W.typeIs_bytes s2 z.toArray t) PySem.W.FB.slot_bytes_getitem.lookup (PySem.W.getItem_bytes (by omega) h0 h1 ⟨.int ((z.getD i.toNat 0).toNat : Nat), H2, I2.tok _, ⟨_, rfl⟩, q⟩) (hs _ _)

/-! ### scalar builtins, by CallR -/
theorem vals1 {x : V} {us : List Value} (r : Vals [x] us) : ∃ u, us = [u] ∧ RelV x u := by
  cases r with
  | cons r1 r2 => cases r2; exact ⟨_, rfl, r1⟩
theorem vals2 {x y : V} {us : List Value} (r : Vals [x, y] us) : ∃ u w', us = [u, w'] ∧ RelV x u ∧ RelV y w' := by
  cases r with
  | cons r1 r2 =>
    cases r2 with
    | cons r3 r4 => cases r4; exact ⟨_, _, rfl, r1, r3⟩
theorem call_abs : CallR X (.builtin "abs") (fun xs H Q => ∃ i, xs = [.int i] ∧ Q (.int (if i < 0 then -i else i)) H) := by
  intro pins s σ H xs us Q I r h
  obtain ⟨i, rfl, q⟩ := h
  obtain ⟨u, rfl, t, rfl⟩ := vals1 r
  exact call_abs_int fun u tk => ⟨.int (if i < 0 then -i else i), H, I.tok _, ⟨_, rfl⟩, q⟩
theorem call_max2 (hc : X.calm = true) : CallR X (.builtin "max") (fun xs H Q => ∃ i j, xs = [.int i, .int j] ∧ Q (.int (if j > i then j else i)) H) := by
  intro pins s σ H xs us Q I r h
  obtain ⟨i, j, rfl, q⟩ := h
  obtain ⟨u, w', rfl, ⟨t, rfl⟩, ⟨t', rfl⟩⟩ := vals2 r
  refine max_two_ints (I.ok.hd hc) fun h' tk k => ⟨_, H, I.kept k, ?_, q⟩
  by_cases hj : j > i
  · rw [if_pos hj, if_pos hj]; exact ⟨_, rfl⟩
  · rw [if_neg hj, if_neg hj]; exact ⟨_, rfl⟩
theorem call_min2 (hc : X.calm = true) : CallR X (.builtin "min") (fun xs H Q => ∃ i j, xs = [.int i, .int j] ∧ Q (.int (if j < i then j else i)) H) := by
  intro pins s σ H xs us Q I r h
  obtain ⟨i, j, rfl, q⟩ := h
  obtain ⟨u, w', rfl, ⟨t, rfl⟩, ⟨t', rfl⟩⟩ := vals2 r
  refine min_two_ints (I.ok.hd hc) fun h' tk k => ⟨_, H, I.kept k, ?_, q⟩
  by_cases hj : j < i
  · rw [if_pos hj, if_pos hj]; exact ⟨_, rfl⟩
  · rw [if_neg hj, if_neg hj]; exact ⟨_, rfl⟩
theorem call_int1 : CallR X (.type "int") (fun xs H Q => (∃ i, xs = [.int i] ∧ Q (.int i) H) ∨ ∃ k, xs = [.bl k] ∧ Q (.int (if k then 1 else 0)) H) := by
  intro pins s σ H xs us Q I r h
  rcases h with ⟨i, rfl, q⟩ | ⟨k, rfl, q⟩
  · obtain ⟨u, rfl, t, rfl⟩ := vals1 r
    exact call_int_int ⟨.int i, H, I, ⟨_, rfl⟩, q⟩
  · obtain ⟨u, rfl, r1⟩ := vals1 r
    cases r1
    exact call_int_bool ⟨.int (if k then 1 else 0), H, I.tok _, ⟨_, rfl⟩, q⟩
theorem call_bool1 : CallR X (.type "bool") (fun xs H Q => (∃ i, xs = [.int i] ∧ Q (.bl (i != 0)) H) ∨ ∃ k, xs = [.bl k] ∧ Q (.bl k) H) := by
  intro pins s σ H xs us Q I r h
  rcases h with ⟨i, rfl, q⟩ | ⟨k, rfl, q⟩
  · obtain ⟨u, rfl, t, rfl⟩ := vals1 r
    exact call_bool_int ⟨.bl (i != 0), H, I, rfl, q⟩
  · obtain ⟨u, rfl, r1⟩ := vals1 r
    cases r1
    exact call_bool_bool ⟨.bl k, H, I, rfl, q⟩
theorem call_str_int : CallR X (.type "str") (fun xs H Q => ∃ i, xs = [.int i] ∧ i.natAbs.log2 < 1920 ∧ Q (.str (toString i)) H) := by
  intro pins s σ H xs us Q I r h
  obtain ⟨i, rfl, hz, q⟩ := h
  obtain ⟨u, rfl, t, rfl⟩ := vals1 r
  exact PySem.P.str_of_int hz ⟨.str _, H, I.tok _, ⟨_, rfl⟩, q⟩
theorem call_ord : CallR X (.builtin "ord") (fun xs H Q => ∃ x, xs = [.str x] ∧ x.length = 1 ∧ Q (.int (x.cps.getD 0 0 : Nat)) H) := by
  intro pins s σ H xs us Q I r h
  obtain ⟨x, rfl, hz, q⟩ := h
  obtain ⟨u, rfl, t, rfl⟩ := vals1 r
  exact ord_of_one hz ⟨.int _, H, I.tok _, ⟨_, rfl⟩, q⟩
theorem call_chr : CallR X (.builtin "chr") (fun xs H Q => ∃ i, xs = [.int i] ∧ 0 ≤ i ∧ i ≤ 1114111 ∧ Q (.str ⟨#[i.toNat]⟩) H) := by
  intro pins s σ H xs us Q I r h
  obtain ⟨i, rfl, h0, h1, q⟩ := h
  obtain ⟨u, rfl, t, rfl⟩ := vals1 r
  exact chr_of_range h0 h1 ⟨.str _, H, I.tok _, ⟨_, rfl⟩, q⟩
/-- len of a str, a bytes, a list, a tuple -/
def LenV (K : PySem.W.Frag) (x : V) (H : Hp) (n : Nat) : Prop :=
  match x with
  | .str y => y.length ≤ sizeLine ∧ n = y.length
  | .byt y => y.size ≤ sizeLine ∧ n = y.size
  | .ref p => (∃ xs, SqL K H p xs ∧ n = xs.length) ∨ ∃ xs, SqT K H p xs ∧ n = xs.length
  | _ => False
theorem call_len : CallR X (.builtin "len") (fun xs H Q => ∃ x n, xs = [x] ∧ LenV X.K x H n ∧ Q (.int n) H) := by
  intro pins s σ H xs us Q I r h
  obtain ⟨x, n, rfl, e, q⟩ := h
  obtain ⟨u, rfl, rx⟩ := vals1 r
  have hl := line63
  have hs : sizeLine = 16777216 := sizeLine_eq
  cases x with
  | str y =>
    obtain ⟨t, rfl⟩ := rx
    obtain ⟨hy, e'⟩ : y.length ≤ sizeLine ∧ n = y.length := e
    subst e'
    exact len_str (by omega) ⟨.int _, H, I.tok _, ⟨_, rfl⟩, q⟩
  | byt y =>
    obtain ⟨t, rfl⟩ := rx
    obtain ⟨hy, e'⟩ : y.size ≤ sizeLine ∧ n = y.size := e
    subst e'
    exact PySem.W.len_bytes (by omega) ⟨.int _, H, I.tok _, ⟨_, rfl⟩, q⟩
  | ref p =>
    cases rx
    have e' : (∃ xs, SqL X.K H p xs ∧ n = xs.length) ∨ ∃ xs, SqT X.K H p xs ∧ n = xs.length := e
    rcases e' with ⟨xs, hx, e'⟩ | ⟨xs, hx, e'⟩
    · subst e'
      obtain ⟨its, r', pl, hz⟩ := I.list hx
      have hlen := r'.length
      exact Calls.call_len_list pl.isList (by simp only [List.size_toArray]; omega) ⟨.int xs.length, H, I.tok _, ⟨_, by simp only [List.size_toArray]; rw [hlen]⟩, q⟩
    · subst e'
      obtain ⟨its, r', pl, hz⟩ := I.tuple hx
      have hlen := r'.length
      exact len_tuple pl (by simp only [List.size_toArray]; omega) ⟨.int xs.length, H, I.tok _, ⟨_, by simp only [List.size_toArray]; rw [hlen]⟩, q⟩
  | _ => exact (show False from e).elim
/-- divmod: a new tuple -/
theorem call_divmod : CallR X (.builtin "divmod") (fun xs H Q => ∃ i j, xs = [.int i, .int j] ∧ CDiv i j ∧ ∀ p, H p = none → Q (.ref p) (upd H p (.tup [.int (i / j), .int (i % j)]))) := by
  intro pins s σ H xs us Q I r h
  obtain ⟨i, j, rfl, ⟨h1, h2⟩, q⟩ := h
  obtain ⟨u, w', rfl, ⟨t, rfl⟩, ⟨t', rfl⟩⟩ := vals2 r
  refine divmod_int (by omega) ?_ (.inl (PyProof.noPylong_small (by omega)))
  rw [Int.fdiv_eq_ediv_of_nonneg i (by omega), Int.fmod_eq_emod_of_nonneg i (by omega)]
  have hn : H s.heap.objs.size = none := I.hok.fresh (Nat.le_refl _)
  refine ⟨.ref s.heap.objs.size, _, ?_, rfl, q _ hn⟩
  refine I.laid (fun b o e => Heap.get?_push_of_some _ e) (Nat.le_refl _) ⟨by simp only [List.length_cons, List.length_nil]; rw [sizeLine_eq]; decide, [.int (i / j) s.toks, .int (i % j) (s.toks + 1)], .cons ⟨_, rfl⟩ (.cons ⟨_, rfl⟩ .nil), ?_⟩
  exact ⟨_, Heap.get?_push_size s.heap rfl, rfl, 0, rfl⟩
end
end L2

namespace L2
open PySem PySem.Spec PyProof.Rows

/-! ### an instance, its attributes a map -/
structure ObjM (h : Heap) (x dx C : Addr) (mA : Str → Option Value) : Prop where
  obj : h.get? x = some (PySem.W.instObj C dx)
  ns : h.Ns1 dx mA
  ne : dx ≠ x

theorem lookIn_ns {h : Heap} {dx : Addr} {mA : Str → Option Value} (n : h.Ns1 dx mA) : ∃ od, h.get? dx = some od ∧ ∀ name, PySem.W.lookIn name od = some (mA name) := by
  obtain ⟨o, es, ep, ho, hd, hk, _, hm⟩ := n
  refine ⟨o, ho, fun name => ?_⟩
  have e := hm name
  unfold nsFind findBy at e
  rw [← Array.find?_toList] at e
  unfold PySem.W.lookIn
  rw [hd]
  dsimp only
  split
  · rename_i y q
    rw [q] at e
    exact congrArg some e
  · rename_i q
    rw [q] at e
    have a : es.toList.any (·.refKey) = false := by
      rw [List.any_eq_false]
      intro y hy
      obtain ⟨z, t, hkey⟩ := hk y (Array.mem_toList_iff.mp hy)
      simp [DictEntry.refKey, hkey]
    have a' : ¬ es.toList.any (·.refKey) = true := by rw [a]; exact Bool.false_ne_true
    rw [if_neg a']
    exact congrArg some e

theorem ObjM.look {h : Heap} {x dx C : Addr} {mA : Str → Option Value} (I : ObjM h x dx C mA) : ∃ od, PySem.W.InstAt h x (PySem.W.instObj C dx) C (some od) ∧ ∀ name, PySem.W.lookIn name od = some (mA name) :=
  let ⟨od, ho, hl⟩ := lookIn_ns I.ns
  ⟨od, ⟨I.obj, rfl, rfl, ho⟩, hl⟩

section
variable {prog : Program} {w : World} {A : Around} {E : Value → Shared → Prop} {s : Shared} {K : PySem.W.Frag} {x dx C f : Addr} {mA : Str → Option Value} {name : Str} {v : Value}

theorem get_map {expr : Bool} {Q : Value → Shared → Prop} (X : K.In s.heap) (I : ObjM s.heap x dx C mA) (hg : PySem.W.plainGet K C name = true) (hh : PySem.W.hasDictIn K C = true)
    (ha : PySem.W.findIn K (.ref C) name = some none) (hv : mA name = some v) (hv' : PySem.W.handedIn v = true) (h : Q v { s with toks := s.toks + 1 }) :
    wpAny (model prog w) A (getAttr (.ref x) name expr) Q E s := by
  obtain ⟨od, J, hl⟩ := I.look
  exact PySem.W.get_value X J (PySem.W.plainGet_of hg).1 (PySem.W.findObj_own hh ha rfl (by rw [hl, hv])) hv' h

theorem get_const {expr : Bool} {a : Value} {Q : Value → Shared → Prop} (X : K.In s.heap) (I : ObjM s.heap x dx C mA) (hg : PySem.W.plainGet K C name = true) (hh : PySem.W.hasDictIn K C = true)
    (ha : PySem.W.findIn K (.ref C) name = some (some a)) (hn : PySem.W.specialIn K a "__get__" = some none) (hc : PySem.W.copiedNames.contains name = false) (hv : mA name = none) (hv' : PySem.W.handedIn a = true)
    (h : Q a { s with toks := s.toks + 1 }) : wpAny (model prog w) A (getAttr (.ref x) name expr) Q E s := by
  obtain ⟨od, J, hl⟩ := I.look
  exact PySem.W.get_value X J (PySem.W.plainGet_of hg).1 (PySem.W.findObj_cls hh ha hn hv' hc (by rw [hl, hv])) hv' h

theorem get_meth {pl : Sem Bool} {Q : Value × List Value → Shared → Prop} (X : K.In s.heap) (I : ObjM s.heap x dx C mA) (hg : PySem.W.plainGet K C name = true)
    (hf : PySem.W.findIn K (.ref C) name = some (some (.ref f))) (ht : PySem.W.isFn K (.ref f) = true) (hv : mA name = none) (h : Q (.ref f, [.ref x]) s) :
    wpAny (model prog w) A (getMethod (.ref x) name pl) Q E s := by
  obtain ⟨od, J, hl⟩ := I.look
  exact PySem.W.method_fn X J (PySem.W.plainGet_of hg).1 (PySem.W.plainGet_of hg).2 hf (beq_iff_eq.mp ht) (by show (PySem.W.lookIn name od).map (·.isSome) = some false; rw [hl, hv]; rfl) h

theorem set_map {ns : List Str} {Q : Unit → Shared → Prop} (X : K.In s.heap) (I : ObjM s.heap x dx C mA)
    (hs : PySem.W.findIn K (.ref C) "__setattr__" = some (some (.builtin "object.__setattr__"))) (hp : PySem.W.plainOver K C = true) (ht : PySem.W.takerIn K C name = some none) (hh : PySem.W.hasDictIn K C = true)
    (hw : PySem.Within mA ns) (hsz : ns.length ≤ sizeLine)
    (h : ∀ h', ObjM h' x dx C (fun y => if y = name then some v else mA y) → Heap.SameBut dx s.heap h' → Q () { s with heap := h', toks := s.toks + 2 }) :
    wpAny (model prog w) A (setAttr (.ref x) name v) Q E s := by
  obtain ⟨od, J, hl⟩ := I.look
  refine PySem.W.set_plain X J hs (PySem.W.osa_open (s := { s with toks := s.toks + 1 }) (r := none) X J hp ht fun b => ?_)
  obtain ⟨cd, hc, hd'⟩ := PySem.W.any_some hh
  have hx : s.heap.get? x = some ⟨.ref C, some dx, .plain, #[]⟩ := I.obj
  refine wpAny_bind (wpAny_pure (wpAny_bind (wpAny_bind (wpAny_loadPart hx (wpAny_bind (PySem.W.Looks.here (s := { s with toks := s.toks + 1 }) (PySem.W.looks_clsIn X hc) ?_))))))
  rw [hd']
  refine wpAny_pure (a := some dx) (wpAny_bind (wpAny_pure (wpAny_bind ?_)))
  refine wpAny_nsSet1 (s := { s with toks := s.toks + 1 }) I.ns fun h' hn2 hs2 => ?_
  obtain ⟨oD, esD, epD, hoD, hdD, hcD⟩ := hn2.count (PySem.Within.cons name v hw)
  refine wpAny_bind (wpAny_lookBehind hoD (by rw [hdD]; exact pastItsLine_dict (Nat.le_trans hcD (by rw [List.length_cons]; omega))) ?_)
  exact wpAny_pure (h _ ⟨(hs2.2 _ (Ne.symm I.ne)).trans I.obj, hn2, I.ne⟩ hs2)

/-- C(..): the dict at the heap's end, the instance behind it; then its __init__ -/
theorem make_map {R : Result → Shared → Prop} {vs : List Value} {kw : List (Str × Value)} (X : K.In s.heap) (hm : PySem.W.makesIn K C = true)
    (hi : PySem.W.findIn K (.ref C) "__init__" = some (some (.ref f))) (hf : PySem.W.typeIn K (.ref f) = some (.type "function"))
    (h : codeAny (model prog w) (A.under (.builtin "type.__call__" ⟨.ref C :: vs, kw⟩)) (.call (.ref f) ⟨.ref (s.heap.objs.size + 1) :: vs, kw⟩) (PySem.W.InitBack (s.heap.objs.size + 1) R)
      { s with heap := (s.heap.push PySem.W.emptyDict).push (PySem.W.instObj C s.heap.objs.size) }) :
    codeAny (model prog w) A (.call (.ref C) ⟨vs, kw⟩) R s := by
  obtain ⟨hh, g, d, t, os⟩ := s
  exact PySem.W.make_core (PySem.W.makes_of X hm) (PySem.W.looks_findIn X hi) (fun self => PySem.W.bind_fn X self hf) (.inl rfl) h
/-- C() where there is no __init__ but object's -/
theorem make_map0 {R : Result → Shared → Prop} (X : K.In s.heap) (hm : PySem.W.makesIn K C = true)
    (hi : PySem.W.findIn K (.ref C) "__init__" = some (some (.builtin "object.__init__")))
    (hb : ∀ self, PySem.W.Looks (model prog w) s.heap (bindSpecial (.builtin "object.__init__") self) (.builtin "object.__init__", [self]))
    (h : codeAny (model prog w) (A.under (.builtin "type.__call__" ⟨[.ref C], []⟩)) (.call (.builtin "object.__init__") ⟨[.ref (s.heap.objs.size + 1)], []⟩) (PySem.W.InitBack (s.heap.objs.size + 1) R)
      { s with heap := (s.heap.push PySem.W.emptyDict).push (PySem.W.instObj C s.heap.objs.size) }) :
    codeAny (model prog w) A (.call (.ref C) ⟨[], []⟩) R s := by
  obtain ⟨hh, g, d, t, os⟩ := s
  exact PySem.W.make_core (PySem.W.makes_of X hm) (PySem.W.looks_findIn X hi) hb (.inr ⟨rfl, rfl⟩) h
end

/-! ### the attributes as a list of pairs -/
def putF (f : Str) (v : V) : List (Str × V) → List (Str × V)
  | [] => [(f, v)]
  | (g, x) :: r => if g = f then (g, v) :: r else (g, x) :: putF f v r
theorem lookup_putF (f g : Str) (v : V) : ∀ fs : List (Str × V), (putF f v fs).lookup g = if g = f then some v else fs.lookup g
  | [] => by
    show List.lookup g [(f, v)] = _
    by_cases h : g = f
    · have hb : (g == f) = true := beq_iff_eq.mpr h
      simp only [List.lookup, hb, if_pos h]
    · have hb : (g == f) = false := beq_eq_false_iff_ne.mpr h
      simp only [List.lookup, hb, if_neg h]
  | (k, x) :: r => by
    have ih := lookup_putF f g v r
    rw [show putF f v ((k, x) :: r) = (if k = f then (k, v) :: r else (k, x) :: putF f v r) from rfl]
    by_cases hk : k = f
    · rw [if_pos hk]
      by_cases h : g = k
      · have hb : (g == k) = true := beq_iff_eq.mpr h
        simp only [List.lookup, hb, if_pos (h.trans hk)]
      · have hb : (g == k) = false := beq_eq_false_iff_ne.mpr h
        simp only [List.lookup, hb, if_neg (fun e : g = f => h (e.trans hk.symm))]
    · rw [if_neg hk]
      by_cases h : g = k
      · have hb : (g == k) = true := beq_iff_eq.mpr h
        simp only [List.lookup, hb, if_neg (fun e : g = f => hk (h.symm.trans e))]
      · have hb : (g == k) = false := beq_eq_false_iff_ne.mpr h
        simp only [List.lookup, hb]
        exact ih
theorem keys_putF (f : Str) (v : V) : ∀ fs : List (Str × V), f ∈ (putF f v fs).map (·.1) ∧ ∀ g, g ∈ fs.map (·.1) → g ∈ (putF f v fs).map (·.1)
  | [] => ⟨by simp [putF], fun g h => by simp at h⟩
  | (k, x) :: r => by
    obtain ⟨i1, i2⟩ := keys_putF f v r
    rw [show putF f v ((k, x) :: r) = (if k = f then (k, v) :: r else (k, x) :: putF f v r) from rfl]
    by_cases hk : k = f
    · rw [if_pos hk]
      subst hk
      exact ⟨by simp, fun g h => by simpa using h⟩
    · rw [if_neg hk]
      refine ⟨?_, fun g h => ?_⟩
      · rw [List.map_cons]
        exact List.mem_cons_of_mem _ i1
      · rw [List.map_cons] at h ⊢
        rcases List.mem_cons.mp h with e | e
        · exact List.mem_cons.mpr (.inl e)
        · exact List.mem_cons_of_mem _ (i2 g e)
theorem length_putF (f : Str) (v : V) : ∀ fs : List (Str × V), (putF f v fs).length ≤ fs.length + 1
  | [] => by simp [putF]
  | (k, x) :: r => by
    have ih := length_putF f v r
    rw [show putF f v ((k, x) :: r) = (if k = f then (k, v) :: r else (k, x) :: putF f v r) from rfl]
    by_cases hk : k = f
    · rw [if_pos hk, List.length_cons, List.length_cons]; omega
    · rw [if_neg hk, List.length_cons, List.length_cons]; omega

theorem RelO.some_of {v : V} {o : Option Value} (r : RelO (some v) o) : ∃ u, o = some u ∧ RelV v u := by
  cases o with
  | none => exact (show False from r).elim
  | some u => exact ⟨u, rfl, r⟩
theorem RelO.none_of {o : Option Value} (r : RelO none o) : o = none := by
  cases o with
  | none => rfl
  | some u => exact (show False from r).elim
theorem handed_of {v : V} {u : Value} (r : RelV v u) : PySem.W.handedIn u = true := by
  cases v with
  | non => cases (show u = Value.none from r); rfl
  | bl b => cases (show u = Value.bool b from r); rfl
  | int i => obtain ⟨t, e⟩ := (show ∃ t, u = Value.int i t from r); cases e; rfl
  | str x => obtain ⟨t, e⟩ := (show ∃ t, u = Value.str x t from r); cases e; rfl
  | byt b => obtain ⟨t, e⟩ := (show ∃ t, u = Value.bytes b t from r); cases e; rfl
  | flt b => obtain ⟨t, e⟩ := (show ∃ t, u = Value.float b t from r); cases e; rfl
  | ref a => cases (show u = Value.ref a from r); rfl
  | ty n => cases (show u = Value.type n from r); rfl

section
variable {P : Program} {w : World} {H H' : Hp} {h h' : Heap} {a C dx : Addr} {fs fs' : List (Str × V)}
theorem ins_get (hok : HOk P w H h) (e : H a = some (.ins C dx fs)) : ∃ mA, ObjM h a dx C mA ∧ (∀ f, RelO (fs.lookup f) (mA f)) ∧ PySem.Within mA (fs.map (·.1)) ∧ fs.length ≤ 1000 ∧ H dx = some (.own a) := by
  obtain ⟨d, z, ne, ob, mA, n, r, q⟩ := (show ObjOk P w H h a (.ins C dx fs) from hok a _ e)
  exact ⟨mA, ⟨ob, n, ne⟩, r, q, z, d⟩
end

/-! ### what of the text a class must have -/
structure Cls (K : PySem.W.Frag) (C : Addr) : Prop where
  pg : PySem.W.plainGet K C Str.empty = true
  hd : PySem.W.hasDictIn K C = true
  po : PySem.W.plainOver K C = true
  sa : PySem.W.findIn K (.ref C) "__setattr__" = some (some (.builtin "object.__setattr__"))
theorem Cls.get {K : PySem.W.Frag} {C : Addr} (c : Cls K C) (f : Str) : PySem.W.plainGet K C f = true := c.pg
/-- no class of it has the name -/
def NoAttr (K : PySem.W.Frag) (C : Addr) (f : Str) : Prop := PySem.W.findIn K (.ref C) f = some none
theorem NoAttr.taker {K : PySem.W.Frag} {C : Addr} {f : Str} (n : NoAttr K C f) : PySem.W.takerIn K C f = some none := by
  unfold PySem.W.takerIn
  rw [show PySem.W.findIn K (.ref C) f = some none from n]
  rfl
/-- a constant of the class -/
structure Con (K : PySem.W.Frag) (C : Addr) (f : Str) (v : V) (u : Value) : Prop where
  at_ : PySem.W.findIn K (.ref C) f = some (some u)
  rel : RelV v u
  get : PySem.W.specialIn K u "__get__" = some none
  cp : PySem.W.copiedNames.contains f = false
/-- a method: a plain def of the class or of one above it -/
structure Meth (K : PySem.W.Frag) (C : Addr) (m : Str) (f : Addr) : Prop where
  at_ : PySem.W.findIn K (.ref C) m = some (some (.ref f))
  fn : PySem.W.isFn K (.ref f) = true
  kp : PySem.W.keepIn K (.ref f) = true

section
variable {X : Cx} {pins : List (Addr × Obj)} {σ : St} {H : Hp} {s : Shared} {a C dx : Addr} {fs : List (Str × V)} {f : Str} {v : V} {A : Around} {E : Value → Shared → Prop}

theorem getattr_ok {b : Bool} {Q : Value → Shared → Prop} (I : Inv X pins σ H s) (e : H a = some (.ins C dx fs)) (c : Cls X.K C) (n : NoAttr X.K C f) (l : fs.lookup f = some v)
    (h : ∀ u s', Inv X pins σ H s' → RelV v u → Q u s') : wpAny (model X.prog X.w) A (getAttr (.ref a) f b) Q E s := by
  obtain ⟨mA, O, r, _, _, _⟩ := ins_get I.hok e
  obtain ⟨u, hu, ru⟩ := RelO.some_of (v := v) (o := mA f) (by rw [← l]; exact r f)
  exact get_map I.kIn O (c.get f) c.hd n hu (handed_of ru) (h u _ (I.tok _) ru)

theorem getcon_ok {b : Bool} {u : Value} {Q : Value → Shared → Prop} (I : Inv X pins σ H s) (e : H a = some (.ins C dx fs)) (c : Cls X.K C) (k : Con X.K C f v u) (l : fs.lookup f = none)
    (h : ∀ s', Inv X pins σ H s' → Q u s') : wpAny (model X.prog X.w) A (getAttr (.ref a) f b) Q E s := by
  obtain ⟨mA, O, r, _, _, _⟩ := ins_get I.hok e
  have hn : mA f = none := RelO.none_of (by rw [← l]; exact r f)
  exact get_const I.kIn O (c.get f) c.hd k.at_ k.get k.cp hn (handed_of k.rel) (h _ (I.tok _))

theorem getmeth_ok {m : Str} {g : Addr} {pl : Sem Bool} {Q : Value × List Value → Shared → Prop} (I : Inv X pins σ H s) (e : H a = some (.ins C dx fs)) (c : Cls X.K C) (k : Meth X.K C m g) (l : fs.lookup m = none)
    (h : Q (.ref g, [.ref a]) s) : wpAny (model X.prog X.w) A (getMethod (.ref a) m pl) Q E s := by
  obtain ⟨mA, O, r, _, _, _⟩ := ins_get I.hok e
  have hn : mA m = none := RelO.none_of (by rw [← l]; exact r m)
  exact get_meth I.kIn O (c.get m) k.at_ k.fn hn h

theorem setattr_ok {y : V} {u : Value} {Q : Unit → Shared → Prop} (I : Inv X pins σ H s) (e : H a = some (.ins C dx fs)) (c : Cls X.K C) (n : NoAttr X.K C f) (hl : fs.length < 1000) (ry : RelV y u)
    (h : ∀ s', Inv X pins σ (upd H a (.ins C dx (putF f y fs))) s' → Q () s') : wpAny (model X.prog X.w) A (setAttr (.ref a) f u) Q E s := by
  obtain ⟨mA, O, r, wi, _, ho⟩ := ins_get I.hok e
  have hz : (fs.map (·.1)).length ≤ sizeLine := by rw [List.length_map, sizeLine_eq]; omega
  refine set_map I.kIn O c.sa c.po n.taker c.hd wi hz fun h' O' sb => h _ ?_
  have hd : ∃ o, h'.get? dx = some o := let ⟨o, _, _, e', _⟩ := O'.ns; ⟨o, e'⟩
  refine I.write (x := a) (e := dx) (by rw [e]; exact True.intro) (.inr ho) (fun b q hb z => (sb.2 b hb).trans z) hd ?_
  refine ⟨by rw [upd_ne O.ne]; exact ho, ?_, O.ne, O'.obj, _, O'.ns, fun g => ?_, fun g hg => ?_⟩
  · have := length_putF f y fs; omega
  · show RelO ((putF f y fs).lookup g) (if g = f then some u else mA g)
    rw [lookup_putF]
    by_cases q : g = f
    · rw [if_pos q, if_pos q]; exact ry
    · rw [if_neg q, if_neg q]; exact r g
  · by_cases q : g = f
    · rw [q]; exact (keys_putF f y fs).1
    · refine (keys_putF f y fs).2 g (wi g fun z => hg ?_)
      show (if g = f then some u else mA g) = none
      rw [if_neg q]; exact z

/-- a new instance, tracked, without attributes -/
theorem Inv.made (I : Inv X pins σ H s) : Inv X pins σ (upd (upd H s.heap.objs.size (.own (s.heap.objs.size + 1))) (s.heap.objs.size + 1) (.ins C s.heap.objs.size []))
    { s with heap := (s.heap.push PySem.W.emptyDict).push (PySem.W.instObj C s.heap.objs.size) } := by
  have e1 : (s.heap.push PySem.W.emptyDict).get? s.heap.objs.size = some PySem.W.emptyDict := Heap.get?_push_size s.heap rfl
  have e2 : ((s.heap.push PySem.W.emptyDict).push (PySem.W.instObj C s.heap.objs.size)).get? (s.heap.objs.size + 1) = some (PySem.W.instObj C s.heap.objs.size) := by
    have := Heap.get?_push_size (s.heap.push PySem.W.emptyDict) (o := PySem.W.instObj C s.heap.objs.size) rfl
    rwa [Heap.size_push] at this
  have e3 : (s.heap.push PySem.W.emptyDict).Ns s.heap.objs.size (fun _ => none) := ⟨PySem.W.emptyDict, #[], _, e1, rfl, (fun e he => absurd he (by simp)), fun _ => rfl⟩
  have I1 := I.laid (a := s.heap.objs.size) (o := .own (s.heap.objs.size + 1)) (h' := s.heap.push PySem.W.emptyDict) (t' := s.toks) (fun b u q => Heap.get?_push_of_some _ q) (Nat.le_refl _) ⟨_, e1⟩
  refine I1.laid (a := s.heap.objs.size + 1) (o := .ins C s.heap.objs.size []) (t' := s.toks) (fun b u q => Heap.get?_push_of_some _ q) (Nat.le_of_eq (Heap.size_push _ _)) ?_
  have ne : s.heap.objs.size ≠ s.heap.objs.size + 1 := Nat.ne_of_lt (Nat.lt_succ_self _)
  refine ⟨by rw [upd_ne ne, upd_same], Nat.zero_le _, ne, e2, fun _ => none, (Heap.Ns1.of_empty e3).at fun o q => Heap.get?_push_of_some _ q, fun _ => True.intro, fun y hy => absurd rfl hy⟩

/-- e.f where nothing but the object is asked: through attributeBase (super) and the last hold -/
theorem attr_of {prog : Program} {w : World} {env : Env} {e : Expr} {f : Str} {pos : Pos} {s : Shared} {Q : Value → Shared → Prop} (hb : attributeBase e f env (eval e env) = eval e env)
    (h : wpAny (model prog w) A (eval e env) (fun o s₁ => wpAny (model prog w) A (getAttr o f true) Q E s₁) E s) : wpAny (model prog w) A (eval (.Attribute e f pos) env) Q E s :=
  Attribute_any_ h (by rw [arm_eval_Attribute, hb])
end

/-! ### readings and rules -/
/-- e.f, an attribute of the instance -/
def tFld (K : PySem.W.Frag) (ta : TE) (f : Str) : TE := fun σ H Q => ta σ H fun x H1 => ∃ a C dx fs v, x = .ref a ∧ H1 a = some (.ins C dx fs) ∧ Cls K C ∧ NoAttr K C f ∧ fs.lookup f = some v ∧ Q v H1
/-- e.f, a constant of the class -/
def tCon (K : PySem.W.Frag) (ta : TE) (f : Str) : TE := fun σ H Q => ta σ H fun x H1 => ∃ a C dx fs v u, x = .ref a ∧ H1 a = some (.ins C dx fs) ∧ Cls K C ∧ Con K C f v u ∧ fs.lookup f = none ∧ Q v H1
/-- e.f = value -/
def sFld (K : PySem.W.Frag) (ta tv : TE) (f : Str) : TS := fun D σ H => tv σ H fun y H1 => ta σ H1 fun x H2 => ∃ a C dx fs, x = .ref a ∧ H2 a = some (.ins C dx fs) ∧ Cls K C ∧ NoAttr K C f ∧ fs.length < 1000 ∧
  D.nx σ (upd H2 a (.ins C dx (putF f y fs)))
/-- an augmented operator on two values -/
def InOp (X : Cx) (op : Operator) (rd : V → V → Hp → VK → Prop) : Prop :=
  ∀ (pins : List (Addr × Obj)) (s : Shared) (σ : St) (H : Hp) (x y : V) (u v : Value) (Q : VK), Inv X pins σ H s → RelV x u → RelV y v → rd x y H Q → wpAny (model X.prog X.w) X.A (inplaceOp op u v) (EP X pins σ Q) X.xe s
/-- e.f op= value -/
def sFldAug (K : PySem.W.Frag) (ta tv : TE) (rd : V → V → Hp → VK → Prop) (f : Str) : TS := fun D σ H => ta σ H fun x H1 => ∃ a C dx fs v, x = .ref a ∧ H1 a = some (.ins C dx fs) ∧ Cls K C ∧ NoAttr K C f ∧ fs.lookup f = some v ∧
  tv σ H1 fun y H2 => rd v y H2 fun z H3 => ∃ dx' fs', H3 a = some (.ins C dx' fs') ∧ fs'.length < 1000 ∧ D.nx σ (upd H3 a (.ins C dx' (putF f z fs')))

section
variable {X : Cx} {o e value : Expr} {f : Str} {pos pos' tpos : Pos} {ta tv : TE}
theorem pe_fld (he : PE X e ta) (hb : attributeBase e f X.env (eval e X.env) = eval e X.env) : PE X (.Attribute e f pos) (tFld X.K ta f) := by
  intro pins s σ H Q I h
  refine attr_of hb (thn (he pins s σ H _ I h) fun u s1 ⟨x, H1, I1, rx, a, C, dx, fs, v, ex, ea, c, n, l, q⟩ => ?_)
  subst ex
  obtain rfl : u = Value.ref a := rx
  exact getattr_ok I1 ea c n l fun u' s2 I2 ru => ⟨v, H1, I2, ru, q⟩
theorem pe_con (he : PE X e ta) (hb : attributeBase e f X.env (eval e X.env) = eval e X.env) : PE X (.Attribute e f pos) (tCon X.K ta f) := by
  intro pins s σ H Q I h
  refine attr_of hb (thn (he pins s σ H _ I h) fun u s1 ⟨x, H1, I1, rx, a, C, dx, fs, v, u0, ex, ea, c, k, l, q⟩ => ?_)
  subst ex
  obtain rfl : u = Value.ref a := rx
  exact getcon_ok I1 ea c k l fun s2 I2 => ⟨v, H1, I2, k.rel, q⟩
theorem ps_fld (ha : PE X o ta) (hv : PE X value tv) (hs : swapsWith value (some (.Attribute o f pos')) pos.line X.env = pure false) : PS X (.Assign [.Attribute o f pos'] value pos) (sFld X.K ta tv f) := by
  intro pins s σ H D I h
  refine plainObj_wpAny_Assign_Attribute (thn (hv pins s σ H _ I h) fun u s1 ⟨y, H1, I1, ry, q⟩ => thn (ha pins s1 σ H1 _ I1 q) fun ov s2 ⟨x, H2, I2, rx, a, C, dx, fs, ex, ea, c, n, l, q2⟩ => ?_) hs
  subst ex
  obtain rfl : ov = Value.ref a := rx
  exact setattr_ok I2 ea c n l ry fun s3 I3 => ⟨σ, _, I3, q2⟩
theorem ps_fldaug {op : Operator} {rd : V → V → Hp → VK → Prop} (ha : PE X o ta) (hv : PE X value tv) (hop : InOp X op rd) : PS X (.AugAssign (.Attribute o f tpos) op value pos) (sFldAug X.K ta tv rd f) := by
  intro pins s σ H D I h
  refine wpAny_AugAssign_AttributeAny (thn (ha pins s σ H _ I h) fun ov s1 ⟨x, H1, I1, rx, a, C, dx, fs, v, ex, ea, c, n, l, q⟩ => ?_)
  subst ex
  obtain rfl : ov = Value.ref a := rx
  refine getattr_ok I1 ea c n l fun u s2 I2 ru => thn (hv pins s2 σ H1 _ I2 q) fun w3 s3 ⟨y, H2, I3, ry, q3⟩ => thn (hop pins s3 σ H2 v y u w3 _ I3 ru ry q3) fun w4 s4 ⟨z, H3, I4, rz, dx', fs', ea', l', q4⟩ => ?_
  exact setattr_ok I4 ea' c n l' rz fun s5 I5 => ⟨σ, _, I5, q4⟩
def rAdd : V → V → Hp → VK → Prop := fun x y H Q => ∃ i j, x = .int i ∧ y = .int j ∧ Q (.int (i + j)) H
def rSub : V → V → Hp → VK → Prop := fun x y H Q => ∃ i j, x = .int i ∧ y = .int j ∧ Q (.int (i - j)) H
theorem in_add : InOp X .Add rAdd := by
  rintro pins s σ H x y u v Q I rx ry ⟨i, j, rfl, rfl, q⟩
  obtain ⟨t, rfl⟩ := (show ∃ t, u = Value.int i t from rx)
  obtain ⟨t', rfl⟩ := (show ∃ t', v = Value.int j t' from ry)
  exact PyProof.Rows.iadd_int ⟨.int (i + j), H, I.tok _, ⟨_, rfl⟩, q⟩
theorem in_sub : InOp X .Sub rSub := by
  rintro pins s σ H x y u v Q I rx ry ⟨i, j, rfl, rfl, q⟩
  obtain ⟨t, rfl⟩ := (show ∃ t, u = Value.int i t from rx)
  obtain ⟨t', rfl⟩ := (show ∃ t', v = Value.int j t' from ry)
  exact PyProof.Rows.isub_int ⟨.int (i - j), H, I.tok _, ⟨_, rfl⟩, q⟩

/-- what is between an instance and its method: the tree of a method call -/
theorem methcall_of {pl : Sem Bool} {m : Str} {apos : Pos} {args : List Expr} {pins : List (Addr × Obj)} {s : Shared} {σ : St} {H : Hp} {Q : Value → Shared → Prop} {te : TE} (he : PE X e te) (I : Inv X pins σ H s)
    (h : te σ H fun x H1 => ∃ a C dx fs g, x = .ref a ∧ H1 a = some (.ins C dx fs) ∧ Cls X.K C ∧ Meth X.K C m g ∧ fs.lookup m = none ∧
      ∀ s1, Inv X pins σ H1 s1 → wpAny (model X.prog X.w) X.A (callWith pos (.ref g) [.ref a] (backTo pos (starEach args X.env)) (backToKw pos (keywordEach [] X.env))) Q X.xe s1)
    (ht : eval (.Call (.Attribute e m apos) args [] pos) X.env = (do
      let ov ← eval e X.env
      standAt apos.atName
      let (f, first) ← holding [ov] (getMethod ov m pl)
      callWith pos f first (backTo pos (starEach args X.env)) (backToKw pos (keywordEach [] X.env)))) :
    wpAny (model X.prog X.w) X.A (eval (.Call (.Attribute e m apos) args [] pos) X.env) Q X.xe s := by
  refine PySem.W.methodCall_KW (pl := pl) (thn (he pins s σ H _ I h) fun u s1 ⟨x, H1, I1, rx, a, C, dx, fs, g, ex, ea, c, k, l, q⟩ => ?_) ht
  subst ex
  obtain rfl : u = Value.ref a := rx
  exact getmeth_ok I1 ea c k l (q s1 I1)
end

/-! ### isinstance -/
section
variable {X : Cx} {pins : List (Addr × Obj)} {σ : St} {H : Hp} {s : Shared} {A : Around} {E : Value → Shared → Prop} {Q : Value → Shared → Prop} {c : Value} {b : Bool}
/-- the type of a value, as the fragment's deciders take it; for an instance its class -/
inductive TyOf (K : PySem.W.Frag) (H : Hp) : V → Value → Prop where
  | non : TyOf K H .non (.type "NoneType")
  | bl (x : Bool) : TyOf K H (.bl x) (.type "bool")
  | int (i : Int) : TyOf K H (.int i) (.type "int")
  | str (x : Str) : TyOf K H (.str x) (.type "str")
  | flt (x : UInt64) : TyOf K H (.flt x) (.type "float")
  | lst {a : Addr} {xs : List V} (e : H a = some (.lst xs)) : TyOf K H (.ref a) (.type "list")
  | frz {a : Addr} {o : Obj} {xs : List V} (e : H a = some (.frz o (.lst xs))) : TyOf K H (.ref a) (.type "list")
  | tup {a : Addr} {xs : List V} (e : H a = some (.tup xs)) : TyOf K H (.ref a) (.type "tuple")
  | dK {a : Addr} {kvs : List (Key × V)} (e : H a = some (.dK kvs)) : TyOf K H (.ref a) (.type "dict")
  | dT {a : Addr} {kvs : List (List Key × V)} (e : H a = some (.dT kvs)) : TyOf K H (.ref a) (.type "dict")
  | ins {a C dx : Addr} {fs : List (Str × V)} (e : H a = some (.ins C dx fs)) (cl : Cls K C) (ha : PySem.W.findIn K (.ref C) "__class__" = some (some (.builtin "object.__class__")))
      (hn : PySem.W.specialIn K (.builtin "object.__class__") "__get__" = some (some (.builtin "getset_descriptor.__get__"))) (htk : PySem.W.takesIn K (.builtin "object.__class__") = some true)
      (hm : PySem.W.mroIn K C (.type "object") = some true) : TyOf K H (.ref a) (.ref C)
/-- isinstance(x, c) for one class c, a built-in or an own one: kitOne's answer -/
theorem isinst_ok {x : V} {u t : Value} (I : Inv X pins σ H s) (rx : RelV x u) (ty : TyOf X.K H x t) (e : PySem.W.kitOne X.K t c = some b) (h : ∀ tk, Q (.bool b) { s with toks := tk }) :
    wpAny (model X.prog X.w) A (call (.builtin "isinstance") [u, c]) Q E s := by
  cases ty with
  | non => cases (show u = Value.none from rx); exact PySem.W.kia_one PySem.W.kitx_none I.kIn True.intro e (fun z => nomatch z) h
  | bl y => cases (show u = Value.bool y from rx); exact PySem.W.kia_one PySem.W.kitx_bool I.kIn True.intro e (fun z => nomatch z) h
  | int i => obtain ⟨t, q⟩ := (show ∃ t, u = Value.int i t from rx); cases q; exact PySem.W.kia_one PySem.W.kitx_int I.kIn True.intro e (fun z => nomatch z) h
  | str y => obtain ⟨t, q⟩ := (show ∃ t, u = Value.str y t from rx); cases q; exact PySem.W.kia_one PySem.W.kitx_str I.kIn True.intro e (fun z => nomatch z) h
  | flt y => obtain ⟨t, q⟩ := (show ∃ t, u = Value.float y t from rx); cases q; exact PySem.W.kia_one PySem.W.kitx_float I.kIn True.intro e (fun z => nomatch z) h
  | @lst a xs ea =>
    cases (show u = Value.ref a from rx)
    obtain ⟨_, _, n, _, h1⟩ := (show ObjOk X.prog X.w H s.heap a (.lst xs) from I.hok a _ ea)
    exact PySem.W.kia_one PySem.W.kitx_list I.kIn ⟨_, h1, rfl⟩ e (fun z => nomatch z) h
  | @frz a ob xs ea =>
    cases (show u = Value.ref a from rx)
    obtain ⟨_, _, _, n, _, h1⟩ := (show ObjOk X.prog X.w H s.heap a (.frz ob (.lst xs)) from I.hok a _ ea)
    exact PySem.W.kia_one PySem.W.kitx_list I.kIn ⟨_, h1, rfl⟩ e (fun z => nomatch z) h
  | @tup a xs ea =>
    cases (show u = Value.ref a from rx)
    obtain ⟨_, _, _, p⟩ := (show ObjOk X.prog X.w H s.heap a (.tup xs) from I.hok a _ ea)
    obtain ⟨o, h1, h2, _⟩ := p
    exact PySem.W.kia_one PySem.W.kitx_tuple I.kIn ⟨o, h1, h2⟩ e (fun z => nomatch z) h
  | @dK a kvs ea =>
    cases (show u = Value.ref a from rx)
    obtain ⟨_, _, vs, _, p⟩ := (show ObjOk X.prog X.w H s.heap a (.dK kvs) from I.hok a _ ea)
    obtain ⟨o, es, ep, h1, h2, _⟩ := p
    exact PySem.W.kia_one PySem.W.kitx_dict I.kIn ⟨o, h1, h2.1⟩ e (fun z => nomatch z) h
  | @dT a kvs ea =>
    cases (show u = Value.ref a from rx)
    obtain ⟨_, _, xs, _, o, es, ep, h1, h2, _⟩ := (show ObjOk X.prog X.w H s.heap a (.dT kvs) from I.hok a _ ea)
    exact PySem.W.kia_one PySem.W.kitx_dict I.kIn ⟨o, h1, h2.1⟩ e (fun z => nomatch z) h
  | @ins a C dx fs ea cl ha hn htk hm =>
    cases (show u = Value.ref a from rx)
    obtain ⟨mA, O, _⟩ := ins_get I.hok ea
    obtain ⟨od, J, _⟩ := O.look
    exact PySem.W.kia_one (PySem.W.kitx_own (cl.get _) cl.hd ha hn htk hm) I.kIn J e (fun z => nomatch z) h
end
end L2

namespace L2
open PySem PySem.Spec PyProof.Rows

/-! ### room -/
structure Room (k : Nat) (A : Around) : Prop where
  hd : A.handled = none
  dp : A.depth + 3 * k + 5 < recursionLimit
  un : A.units + 16 * k + 200 < cLine
theorem Room.mono {j k : Nat} {A : Around} (r : Room k A) (h : j ≤ k) : Room j A := ⟨r.hd, by have := r.dp; omega, by have := r.un; omega⟩
theorem Room.deeper {k : Nat} {A : Around} (r : Room (k + 1) A) (env : Env) : Room k (A.deeper env) :=
  ⟨r.hd, by have := r.dp; show A.depth + 1 + 3 * k + 5 < _; omega, by have := r.un; show A.units + 3 + 16 * k + 200 < _; omega⟩
theorem Room.in1 {k : Nat} {A : Around} (r : Room (k + 1) A) : Room k A.in1 :=
  ⟨r.hd, by have := r.dp; show A.depth + 3 * k + 5 < _; omega, by have := r.un; show A.units + 1 + 16 * k + 200 < _; omega⟩
theorem make_depth {A : Around} {C : Addr} {us : List Value} {kw : List (Str × Value)} : (A.under (.builtin "type.__call__" ⟨.ref C :: us, kw⟩)).depth = A.depth + 1 := by
  first | rfl | simp [Around.under, Code.weight, Code.isCreation, Code.isGuard, Code.isCaller, Code.frames, Code.isFrame, guardIds]
theorem make_units {A : Around} {C : Addr} {us : List Value} {kw : List (Str × Value)} : (A.under (.builtin "type.__call__" ⟨.ref C :: us, kw⟩)).units = A.units + 1 := by
  first | rfl | simp [Around.under, Code.cUnits, Code.frames, Code.isFrame]
theorem Room.make {k : Nat} {A : Around} (r : Room (k + 1) A) (C : Addr) (us : List Value) (kw : List (Str × Value)) : Room k (A.under (.builtin "type.__call__" ⟨.ref C :: us, kw⟩)) :=
  ⟨r.hd, by have := r.dp; rw [make_depth]; omega, by have := r.un; rw [make_units]; omega⟩
theorem Room.depth {k : Nat} {A : Around} (r : Room k A) : A.depth < recursionLimit := by have := r.dp; omega
theorem Room.units {k : Nat} {A : Around} (r : Room k A) : A.units + 64 < cLine := by have := r.un; omega
theorem Room.units0 {k : Nat} {A : Around} (r : Room k A) : A.units < cLine := by have := r.un; omega

/-! ### argument lists and displays -/
def tNil : TA := fun _ H Q => Q [] H
def tCons (ta : TE) (tr : TA) : TA := fun σ H Q => ta σ H fun x H1 => tr σ H1 fun xs H2 => Q (x :: xs) H2
section
variable {X : Cx} {e : Expr} {es : List Expr} {te : TE} {t : TA} {pos : Pos}
theorem pa_nil : PA X [] tNil := fun _ _ _ _ H Q I h => Calls.spliced_nil ⟨[], H, I, .nil, h⟩
theorem pa_cons (ha : PE X e te) (hr : PA X es t) (hs : starEach (e :: es) X.env = (false, eval e X.env) :: starEach es X.env := by rfl) : PA X (e :: es) (tCons te t) := by
  intro pos pins s σ H Q I h
  rw [hs]
  show wpAny _ _ (spliced ((false, eval e X.env) :: backTo pos (starEach es X.env))) _ _ s
  refine Calls.spliced_cons (thn (ha pins s σ H _ I h) fun u s1 ⟨x, H1, I1, r1, q1⟩ => ?_)
  exact thn (hr pos pins s1 σ H1 _ I1 q1) fun us s2 ⟨xs, H2, I2, r2, q2⟩ => ⟨x :: xs, H2, I2, .cons r1 r2, q2⟩

/-- a tuple, a list of written items -/
def tTup (t : TA) : TE := fun σ H Q => t σ H fun xs H1 => xs.length ≤ sizeLine ∧ ∀ p, H1 p = none → Q (.ref p) (upd H1 p (.tup xs))
def tLst (t : TA) : TE := fun σ H Q => t σ H fun xs H1 => xs.length ≤ sizeLine ∧ ∀ p, H1 p = none → Q (.ref p) (upd H1 p (.lst xs))
theorem pe_tup {x1} (h : PA X es t) : PE X (.Tuple es x1 pos) (tTup t) := by
  intro pins s σ H Q I hq
  refine wpAny_Tuple_spliced (thn (h pos pins s σ H _ I hq) fun us s1 ⟨xs, H1, I1, r, z, q⟩ => ⟨by rw [← r.length]; exact z, ?_⟩)
  have hf : H1 s1.heap.objs.size = none := I1.hok.fresh (Nat.le_refl _)
  refine ⟨.ref s1.heap.objs.size, upd H1 s1.heap.objs.size (.tup xs), I1.laid (t' := s1.toks) (fun b u e => Heap.get?_push_of_some _ e) (Nat.le_refl _) ?_, rfl, q _ hf⟩
  exact ⟨z, us, r, ⟨_, Heap.get?_push_size _ rfl, rfl, _, rfl⟩⟩
theorem pe_lst (h : PA X es t) : PE X (.List es pos) (tLst t) := by
  intro pins s σ H Q I hq
  refine wpAny_List_spliced (thn (h pos pins s σ H _ I hq) fun us s1 ⟨xs, H1, I1, r, z, q⟩ => ⟨by rw [← r.length]; exact z, ?_⟩)
  have hf : H1 s1.heap.objs.size = none := I1.hok.fresh (Nat.le_refl _)
  refine ⟨.ref s1.heap.objs.size, upd H1 s1.heap.objs.size (.lst xs), I1.laid (t' := s1.toks) (fun b u e => Heap.get?_push_of_some _ e) (Nat.le_refl _) ?_, rfl, q _ hf⟩
  exact ⟨z, us, 0, r, Heap.get?_push_size _ rfl⟩
end

/-! ### what a def promises -/
/-- a def's promise: the bound arguments in the parameters' order, the heap, the wanted end, the wanted exception -/
abbrev Sp := List V → Hp → VK → XK → Prop
/-- how an exception lies behind a call (file 08 gives it): the callers' frames, abstract heap and state ahead of the call, the wish, the exception, the state -/
abbrev CXT := List Env → Hp → Shared → XK → Value → Shared → Prop

/-- the state at a call -/
structure Env0 (P : Program) (w : World) (K : PySem.W.Frag) (mg : Str → Option Value) (base : Heap) (A : Around) (outer : List Env) (s : Shared) (H : Hp) : Prop where
  frames : A.frames = some outer
  mod : Mod K mg base
  bs : ∀ b o, base.get? b = some o → s.heap.get? b = some o ∧ H b = none
  bsz : base.objs.size ≤ s.heap.objs.size
  funs : s.heap.FunFrames base outer
  frf : ∀ b ∈ frs outer, H b = none
  hok : HOk P w H s.heap
  bare : AllBare s.gens
/-- a call's end -/
def CE (outer : List Env) (P : Program) (w : World) (H : Hp) (s : Shared) (Q : VK) (u : Value) (s' : Shared) : Prop :=
  ∃ v H', s'.os = s.os ∧ AllBare s'.gens ∧ Un (frs outer) [] H H' s.heap s'.heap ∧ HOk P w H' s'.heap ∧ RelV v u ∧ Q v H'
def CR (CX : CXT) (outer : List Env) (P : Program) (w : World) (H : Hp) (s : Shared) (Q : VK) (E : XK) (r : Result) (s' : Shared) : Prop :=
  match r with
  | .ok (.ret u) => CE outer P w H s Q u s'
  | .ok _ => False
  | .error e => CX outer H s E e s'
structure FnOk (P : Program) (w : World) (K : PySem.W.Frag) (mg : Str → Option Value) (base : Heap) (CX : CXT) (k : Nat) (f : Addr) (fd : FuncData) (ps : List Str) (sp : Sp) : Prop where
  len : ∀ vs H Q E, sp vs H Q E → vs.length = ps.length
  run : ∀ (A : Around) (outer : List Env) (s : Shared) (H : Hp) (args : Args) (us : List Value) (vs : List V) (Q : VK) (E : XK), Room k A → Env0 P w K mg base A outer s H → BindsTo s fd args (ps.zip us) → Vals vs us → sp vs H Q E →
    codeAny (model P w) A (.call (.ref f) args) (CR CX outer P w H s Q E) s
theorem FnOk.mono {P : Program} {w : World} {K : PySem.W.Frag} {mg : Str → Option Value} {base : Heap} {CX : CXT} {j k : Nat} {f : Addr} {fd : FuncData} {ps : List Str} {sp : Sp} (F : FnOk P w K mg base CX j f fd ps sp) (h : j ≤ k) :
    FnOk P w K mg base CX k f fd ps sp := ⟨F.len, fun A outer s H args us vs Q E hr => F.run A outer s H args us vs Q E (hr.mono h)⟩
/-- a weaker promise -/
theorem FnOk.imp {P : Program} {w : World} {K : PySem.W.Frag} {mg : Str → Option Value} {base : Heap} {CX : CXT} {k : Nat} {f : Addr} {fd : FuncData} {ps : List Str} {sp sp' : Sp} (F : FnOk P w K mg base CX k f fd ps sp)
    (h : ∀ vs H Q E, sp' vs H Q E → sp vs H Q E) : FnOk P w K mg base CX k f fd ps sp' :=
  ⟨fun vs H Q E q => F.len vs H Q E (h _ _ _ _ q), fun A outer s H args us vs Q E hr he hb hv hs => F.run A outer s H args us vs Q E hr he hb hv (h _ _ _ _ hs)⟩

theorem Env0.make {P : Program} {w : World} {K : PySem.W.Frag} {mg : Str → Option Value} {base : Heap} {A : Around} {outer : List Env} {s : Shared} {H : Hp} (e : Env0 P w K mg base A outer s H) (C : Addr) (us : List Value) (kw : List (Str × Value)) :
    Env0 P w K mg base (A.under (.builtin "type.__call__" ⟨.ref C :: us, kw⟩)) outer s H := ⟨by first | exact e.frames | (simpa [Around.under, Code.envs, Code.isFrame, pushEnvs] using e.frames), e.mod, e.bs, e.bsz, e.funs, e.frf, e.hok, e.bare⟩
theorem Env0.in1 {P : Program} {w : World} {K : PySem.W.Frag} {mg : Str → Option Value} {base : Heap} {A : Around} {outer : List Env} {s : Shared} {H : Hp} (e : Env0 P w K mg base A outer s H) :
    Env0 P w K mg base A.in1 outer s H := ⟨e.frames, e.mod, e.bs, e.bsz, e.funs, e.frf, e.hok, e.bare⟩

section
variable {X : Cx} {pins : List (Addr × Obj)} {σ : St} {H : Hp} {s s' : Shared}
/-- from a body: what a callee wants -/
theorem Inv.env0 (I : Inv X pins σ H s) : Env0 X.prog X.w X.K X.mg X.base X.A X.stack s H :=
  ⟨I.ok.frames, I.ok.mod, I.bs, Nat.le_trans I.ok.bsz I.sz, I.stack, I.stkFree, I.hok, I.bare⟩
/-- behind a call -/
theorem Inv.after {Q : VK} {u : Value} (I : Inv X pins σ H s) (h : CE X.stack X.prog X.w H s Q u s') : EP X pins σ Q u s' := by
  obtain ⟨v, H', os, bare, un, hok, r, q⟩ := h
  obtain ⟨hh, g, d, t, os'⟩ := s'
  obtain rfl : os' = s.os := os
  exact ⟨v, H', I.call (h' := hh) (g' := g) (d' := d) (t' := t) (ch := []) un hok bare (fun b z => absurd z (by simp)), r, q⟩
end

/-! ### calls -/
/-- f(..): the written arguments, then the defaults dvs; E: what is wanted of an exception -/
def tCall (sp : Sp) (dvs : List V) (E : XK) (t : TA) : TE := fun σ H Q => t σ H fun vs H1 => sp (vs ++ dvs) H1 Q E
/-- o.m(..) of an instance of the class at C -/
def tMeth (C : Addr) (m : Str) (sp : Sp) (dvs : List V) (E : XK) (ta : TE) (t : TA) : TE := fun σ H Q => ta σ H fun x H1 => ∃ a dx fs, x = .ref a ∧ H1 a = some (.ins C dx fs) ∧ fs.lookup m = none ∧
  t σ H1 fun vs H2 => sp (x :: (vs ++ dvs)) H2 Q E
/-- C(..): a new instance and its dict, then __init__ -/
def tMake (C : Addr) (sp : Sp) (dvs : List V) (E : XK) (t : TA) : TE := fun σ H Q => t σ H fun vs H1 => ∀ x dx, H1 x = none → H1 dx = none → dx ≠ x →
  sp (.ref x :: (vs ++ dvs)) (upd (upd H1 dx (.own x)) x (.ins C dx [])) (fun v H2 => v = .non ∧ Q (.ref x) H2) E

/-- how the parameters are bound: us the positional arguments, kw the keywords' values by name, ds the defaults that fill up -/
def Binds (K : PySem.W.Frag) (fd : FuncData) (ps : List Str) (ds : List Value) : Prop :=
  ∀ (s : Shared) (us : List Value), K.In s.heap → (us ++ ds).length = ps.length → BindsTo s fd ⟨us, []⟩ (ps.zip (us ++ ds))
/-- every parameter is given -/
theorem Binds.all {K : PySem.W.Frag} {fd : FuncData} {ps : List Str} (h : ∀ us : List Value, us.length = ps.length → bindArgs fd ⟨us, []⟩ = pure (ps.zip us)) : Binds K fd ps [] := fun s us _ hl => by
  rw [List.append_nil] at hl ⊢
  exact .of_eq (h us hl)

/-- an exception of a callee reaches what this body wants of exceptions -/
def Passes (CX : CXT) (X : Cx) (E : XK) : Prop := ∀ (pins : List (Addr × Obj)) (σ : St) (H : Hp) (s : Shared) (e : Value) (s' : Shared), Inv X pins σ H s → CX X.stack H s E e s' → X.xe e s'

section
variable {X : Cx} {CX : CXT} {k : Nat} {f C : Addr} {fd : FuncData} {ps : List Str} {sp : Sp} {dvs : List V} {ds : List Value} {E : XK} {x m : Str} {p pos apos : Pos} {e o : Expr} {es : List Expr} {ta : TE} {t : TA}

/-- the callee runs -/
theorem run_fn {pins : List (Addr × Obj)} {σ : St} {H : Hp} {s : Shared} {Q : VK} {us : List Value} {vs : List V} (F : FnOk X.prog X.w X.K X.mg X.base CX k f fd ps sp) (hr : Room k X.A) (hb : Binds X.K fd ps ds) (hd : Vals dvs ds) (hx : Passes CX X E)
    (I : Inv X pins σ H s) (r : Vals vs us) (h : sp (vs ++ dvs) H Q E) : wpAny (model X.prog X.w) X.A (call (.ref f) us) (EP X pins σ Q) X.xe s := by
  have r2 : Vals (vs ++ dvs) (us ++ ds) := r.append hd
  have hl : (us ++ ds).length = ps.length := by rw [← r2.length]; exact F.len _ _ _ _ h
  refine wpAny_call (codeAny_mono (F.run X.A X.stack s H ⟨us, []⟩ (us ++ ds) (vs ++ dvs) Q E hr I.env0 (hb s us I.kIn hl) r2 h) fun r s' hq => ?_)
  cases r with
  | error e => exact hx pins σ H s e s' I hq
  | ok fl =>
    cases fl with
    | ret u => exact I.after hq
    | next => exact False.elim hq
    | brk => exact False.elim hq
    | cont => exact False.elim hq

theorem pe_call (F : FnOk X.prog X.w X.K X.mg X.base CX k f fd ps sp) (hr : Room k X.A) (hg : Gl X x) (hm : X.mg x = some (.ref f)) (hk : PySem.W.keepIn X.K (.ref f) = true) (hb : Binds X.K fd ps ds) (hd : Vals dvs ds) (hx : Passes CX X E)
    (ha : PA X (e :: es) t) (hdb : (x == ("__debug__" : Str)) = false := by decide) (he : starEach (e :: es) X.env = (false, eval e X.env) :: starEach es X.env := by rfl) (hpl : (backTo pos (starEach es X.env)).any (·.1) = false := by rfl) :
    PE X (.Call (.Name x p) (e :: es) [] pos) (tCall sp dvs E t) := by
  intro pins s σ H Q I h
  refine wpAny_Call_Name_kw (ld_glob I hg hm ?_ hdb)
  refine PySem.W.callWith_K (h₀ := X.base) I.ok.mod.kin hk (thn (ha pos pins s σ H _ I h) fun us s1 ⟨vs, H1, I1, r, q⟩ => ⟨I1.kIn, ?_⟩) he hpl
  exact run_fn F hr hb hd hx I1 r q
theorem pe_call0 (F : FnOk X.prog X.w X.K X.mg X.base CX k f fd ps sp) (hr : Room k X.A) (hg : Gl X x) (hm : X.mg x = some (.ref f)) (hk : PySem.W.keepIn X.K (.ref f) = true) (hb : Binds X.K fd ps ds) (hd : Vals dvs ds) (hx : Passes CX X E)
    (hdb : (x == ("__debug__" : Str)) = false := by decide) : PE X (.Call (.Name x p) [] [] pos) (tCall sp dvs E tNil) := by
  intro pins s σ H Q I h
  refine wpAny_Call_Name_kw (ld_glob I hg hm ?_ hdb)
  exact PySem.W.callWith_K0 I.kIn hk (run_fn (us := []) F hr hb hd hx I .nil h)

/-- o.m(e, ..) -/
theorem pe_meth {pl : Sem Bool} (he : PE X o ta) (c : Cls X.K C) (hm : Meth X.K C m f) (F : FnOk X.prog X.w X.K X.mg X.base CX k f fd ps sp) (hr : Room k X.A) (hb : Binds X.K fd ps ds) (hd : Vals dvs ds) (hx : Passes CX X E) (ha : PA X (e :: es) t)
    (hst : starEach (e :: es) X.env = (false, eval e X.env) :: starEach es X.env := by rfl) (hpl : (backTo pos (starEach es X.env)).any (·.1) = false := by rfl)
    (ht : eval (.Call (.Attribute o m apos) (e :: es) [] pos) X.env = (do
      let ov ← eval o X.env
      standAt apos.atName
      let (f, first) ← holding [ov] (getMethod ov m pl)
      callWith pos f first (backTo pos (starEach (e :: es) X.env)) (backToKw pos (keywordEach [] X.env))) := by rfl) :
    PE X (.Call (.Attribute o m apos) (e :: es) [] pos) (tMeth C m sp dvs E ta t) := by
  intro pins s σ H Q I h
  refine PySem.W.methodCall_KW (pl := pl) (thn (he pins s σ H _ I h) fun u s1 ⟨x, H1, I1, rx, a, dx, fs, ex, ea, l, q⟩ => ?_) ht
  subst ex
  obtain rfl : u = Value.ref a := rx
  refine getmeth_ok I1 ea c hm l ?_
  refine PySem.W.callWith_K (first := [.ref a]) (h₀ := X.base) I.ok.mod.kin hm.kp (thn (ha pos pins s1 σ H1 _ I1 q) fun us s2 ⟨vs, H2, I2, r, q2⟩ => ⟨I2.kIn, ?_⟩) hst hpl
  exact run_fn (us := .ref a :: us) (vs := .ref a :: vs) F hr hb hd hx I2 (.cons rfl r) q2
/-- o.m() -/
theorem pe_meth0 {pl : Sem Bool} (he : PE X o ta) (c : Cls X.K C) (hm : Meth X.K C m f) (F : FnOk X.prog X.w X.K X.mg X.base CX k f fd ps sp) (hr : Room k X.A) (hb : Binds X.K fd ps ds) (hd : Vals dvs ds) (hx : Passes CX X E)
    (ht : eval (.Call (.Attribute o m apos) [] [] pos) X.env = (do
      let ov ← eval o X.env
      standAt apos.atName
      let (f, first) ← holding [ov] (getMethod ov m pl)
      callWith pos f first (backTo pos (starEach [] X.env)) (backToKw pos (keywordEach [] X.env))) := by rfl) :
    PE X (.Call (.Attribute o m apos) [] [] pos) (tMeth C m sp dvs E ta tNil) := by
  intro pins s σ H Q I h
  refine PySem.W.methodCall_KW (pl := pl) (thn (he pins s σ H _ I h) fun u s1 ⟨x, H1, I1, rx, a, dx, fs, ex, ea, l, q⟩ => ?_) ht
  subst ex
  obtain rfl : u = Value.ref a := rx
  refine getmeth_ok I1 ea c hm l ?_
  exact PySem.W.callWith_K0 (first := [.ref a]) I1.kIn hm.kp (run_fn (us := [.ref a]) (vs := [.ref a]) F hr hb hd hx I1 (.cons rfl .nil) q)

/-- what a class must have to be made -/
structure Mk (K : PySem.W.Frag) (C f : Addr) : Prop where
  makes : PySem.W.makesIn K C = true
  init : PySem.W.findIn K (.ref C) "__init__" = some (some (.ref f))
  fn : PySem.W.isFn K (.ref f) = true
  kp : PySem.W.keepIn K (.ref C) = true

theorem run_make {pins : List (Addr × Obj)} {σ : St} {H : Hp} {s : Shared} {Q : VK} {us : List Value} {vs : List V} (M : Mk X.K C f) (F : FnOk X.prog X.w X.K X.mg X.base CX k f fd ps sp) (hr : Room (k + 1) X.A) (hb : Binds X.K fd ps ds) (hd : Vals dvs ds)
    (hx : Passes CX X E) (I : Inv X pins σ H s) (r : Vals vs us)
    (h : ∀ x dx, H x = none → H dx = none → dx ≠ x → sp (.ref x :: (vs ++ dvs)) (upd (upd H dx (.own x)) x (.ins C dx [])) (fun v H2 => v = .non ∧ Q (.ref x) H2) E) :
    wpAny (model X.prog X.w) X.A (call (.ref C) us) (EP X pins σ Q) X.xe s := by
  have hq := h (s.heap.objs.size + 1) s.heap.objs.size (I.hok.fresh (Nat.le_succ _)) (I.hok.fresh (Nat.le_refl _)) (Nat.ne_of_lt (Nat.lt_succ_self _))
  have I2 := Inv.made (C := C) I
  have r2 : Vals (V.ref (s.heap.objs.size + 1) :: (vs ++ dvs)) (Value.ref (s.heap.objs.size + 1) :: (us ++ ds)) := .cons rfl (r.append hd)
  have hl : (Value.ref (s.heap.objs.size + 1) :: us ++ ds).length = ps.length := by
    have e := r2.length
    rw [F.len _ _ _ _ hq] at e
    exact e.symm
  refine wpAny_call (make_map (f := f) I.kIn M.makes M.init (beq_iff_eq.mp M.fn) (codeAny_mono (F.run _ X.stack _ _ ⟨Value.ref (s.heap.objs.size + 1) :: us, []⟩ (Value.ref (s.heap.objs.size + 1) :: (us ++ ds)) _ _ E (hr.make C us [])
    (I2.env0.make C us []) (hb _ (Value.ref (s.heap.objs.size + 1) :: us) I2.kIn hl) r2 hq) fun r s' hq' => ?_))
  cases r with
  | error e => exact hx pins σ _ _ e s' I2 hq'
  | ok fl =>
    cases fl with
    | ret u =>
      obtain ⟨v, H', I3, rv, ev, q3⟩ := I2.after hq'
      subst ev
      exact ⟨rv, ⟨V.ref (s.heap.objs.size + 1), H', I3, rfl, q3⟩⟩
    | next => exact False.elim hq'
    | brk => exact False.elim hq'
    | cont => exact False.elim hq'
theorem pe_make (M : Mk X.K C f) (F : FnOk X.prog X.w X.K X.mg X.base CX k f fd ps sp) (hr : Room (k + 1) X.A) (hg : Gl X x) (hm : X.mg x = some (.ref C)) (hb : Binds X.K fd ps ds) (hd : Vals dvs ds) (hx : Passes CX X E)
    (ha : PA X (e :: es) t) (hdb : (x == ("__debug__" : Str)) = false := by decide) (he : starEach (e :: es) X.env = (false, eval e X.env) :: starEach es X.env := by rfl) (hpl : (backTo pos (starEach es X.env)).any (·.1) = false := by rfl) :
    PE X (.Call (.Name x p) (e :: es) [] pos) (tMake C sp dvs E t) := by
  intro pins s σ H Q I h
  refine wpAny_Call_Name_kw (ld_glob I hg hm ?_ hdb)
  refine PySem.W.callWith_K (h₀ := X.base) I.ok.mod.kin M.kp (thn (ha pos pins s σ H _ I h) fun us s1 ⟨vs, H1, I1, r, q⟩ => ⟨I1.kIn, ?_⟩) he hpl
  exact run_make M F hr hb hd hx I1 r q
theorem pe_make0 (M : Mk X.K C f) (F : FnOk X.prog X.w X.K X.mg X.base CX k f fd ps sp) (hr : Room (k + 1) X.A) (hg : Gl X x) (hm : X.mg x = some (.ref C)) (hb : Binds X.K fd ps ds) (hd : Vals dvs ds) (hx : Passes CX X E)
    (hdb : (x == ("__debug__" : Str)) = false := by decide) : PE X (.Call (.Name x p) [] [] pos) (tMake C sp dvs E tNil) := by
  intro pins s σ H Q I h
  refine wpAny_Call_Name_kw (ld_glob I hg hm ?_ hdb)
  exact PySem.W.callWith_K0 I.kIn M.kp (run_make (us := []) M F hr hb hd hx I .nil h)
end

/-! ### keywords -/
/-- the values of the keywords, from the left -/
def PK (X : Cx) (kws : List Keyword) (t : TA) : Prop :=
  ∀ (pos : Pos) (pins : List (Addr × Obj)) (s : Shared) (σ : St) (H : Hp) (Q : List V → Hp → Prop), Inv X pins σ H s → t σ H Q → wpAny (model X.prog X.w) X.A (evalAll ((backToKw pos (keywordEach kws X.env)).map (·.2))) (AP X pins σ Q) X.xe s
section
variable {X : Cx} {CX : CXT} {k : Nat} {f C : Addr} {fd : FuncData} {ps ks : List Str} {sp : Sp} {E : XK} {x m : Str} {p pos apos kpos : Pos} {e o : Expr} {es : List Expr} {kws : List Keyword} {te ta : TE} {t tk : TA} {nm : Option Str}
theorem pk_nil : PK X [] tNil := fun _ _ _ _ H Q I h => wpAny_evalAll_nil ⟨[], H, I, .nil, h⟩
theorem pk_cons (ha : PE X e te) (hr : PK X kws t) : PK X (⟨nm, e, kpos⟩ :: kws) (tCons te t) := by
  intro pos pins s σ H Q I h
  show wpAny _ _ (evalAll ((do let v ← eval e X.env; standAt pos; pure v) :: (backToKw pos (keywordEach kws X.env)).map (·.2))) _ _ s
  refine wpAny_evalAll_cons (wpAny_bind (thn (ha pins s σ H _ I h) fun u s1 ⟨x, H1, I1, r1, q1⟩ => wpAny_bind (wpAny_standAt (wpAny_pure ?_))))
  exact thn (hr pos pins s1 σ H1 _ I1 q1) fun us s2 ⟨xs, H2, I2, r2, q2⟩ => ⟨x :: xs, H2, I2, .cons r1 r2, q2⟩

/-- how a call with keywords binds: g puts the positional values us and the keywords' values ws (names ks) in the parameters' order, defaults among them -/
structure KBinds (K : PySem.W.Frag) (fd : FuncData) (ps ks : List Str) (g : List Value → List Value → List Value) (gV : List V → List V → List V) : Prop where
  to : ∀ (s : Shared) (us ws : List Value), K.In s.heap → (g us ws).length = ps.length → BindsTo s fd ⟨us, ks.zip ws⟩ (ps.zip (g us ws))
  rel : ∀ {vs : List V} {us : List Value} {zs : List V} {ws : List Value}, Vals vs us → Vals zs ws → Vals (gV vs zs) (g us ws)
def tCallK (sp : Sp) (gV : List V → List V → List V) (E : XK) (t tk : TA) : TE := fun σ H Q => t σ H fun vs H1 => tk σ H1 fun zs H2 => sp (gV vs zs) H2 Q E
variable {g : List Value → List Value → List Value} {gV : List V → List V → List V}
theorem run_fnk {pins : List (Addr × Obj)} {σ : St} {H : Hp} {s : Shared} {Q : VK} {us ws : List Value} {vs zs : List V} (F : FnOk X.prog X.w X.K X.mg X.base CX k f fd ps sp) (hr : Room k X.A) (hb : KBinds X.K fd ps ks g gV) (hx : Passes CX X E)
    (I : Inv X pins σ H s) (r : Vals vs us) (rz : Vals zs ws) (h : sp (gV vs zs) H Q E) : wpAny (model X.prog X.w) X.A (call (.ref f) us (ks.zip ws)) (EP X pins σ Q) X.xe s := by
  have r2 := hb.rel r rz
  have hl : (g us ws).length = ps.length := by rw [← r2.length]; exact F.len _ _ _ _ h
  refine wpAny_call (codeAny_mono (F.run X.A X.stack s H ⟨us, ks.zip ws⟩ (g us ws) (gV vs zs) Q E hr I.env0 (hb.to s us ws I.kIn hl) r2 h) fun r s' hq => ?_)
  cases r with
  | error e => exact hx pins σ H s e s' I hq
  | ok fl =>
    cases fl with
    | ret u => exact I.after hq
    | next => exact False.elim hq
    | brk => exact False.elim hq
    | cont => exact False.elim hq
/-- f(e, .., k = v, ..) -/
theorem pe_callK (F : FnOk X.prog X.w X.K X.mg X.base CX k f fd ps sp) (hr : Room k X.A) (hg : Gl X x) (hm : X.mg x = some (.ref f)) (hk : PySem.W.keepIn X.K (.ref f) = true) (hb : KBinds X.K fd ps ks g gV) (hx : Passes CX X E)
    (ha : PA X (e :: es) t) (hkw : PK X kws tk) (hall : (backToKw pos (keywordEach kws X.env)).all (·.1.isSome) = true := by rfl) (hks : (backToKw pos (keywordEach kws X.env)).filterMap (·.1) = ks := by rfl)
    (hdb : (x == ("__debug__" : Str)) = false := by decide) (he : starEach (e :: es) X.env = (false, eval e X.env) :: starEach es X.env := by rfl)
    (hpl : ((backTo pos (starEach (e :: es) X.env)).any (·.1) || (backToKw pos (keywordEach kws X.env)).any (·.1.isNone)) = false := by rfl) :
    PE X (.Call (.Name x p) (e :: es) kws pos) (tCallK sp gV E t tk) := by
  intro pins s σ H Q I h
  refine wpAny_Call_Name_kw (ld_glob I hg hm ?_ hdb)
  refine PySem.W.callWith_KW (h₀ := X.base) I.ok.mod.kin hk hall (thn (ha pos pins s σ H _ I h) fun us s1 ⟨vs, H1, I1, r, q⟩ => ?_) hpl he
  refine thn (hkw pos pins s1 σ H1 _ I1 q) fun ws s2 ⟨zs, H2, I2, rz, q2⟩ => ⟨I2.kIn, ?_⟩
  rw [hks]
  exact run_fnk F hr hb hx I2 r rz q2
end

/-! ### a def's body keeps its promise -/
/-- names: the parameters first -/
structure FnScope (N P : List Str) (sc : Scope) : Prop where
  kind : sc.kind = .function
  co : sc.isCoroutine = false
  gen : sc.isGenerator = false
  nd : N.Nodup
  pre : N.take P.length = P
  par : ∀ x ∈ P, sc.names.lookup x = some .local ∨ sc.names.lookup x = some .cell
  nofree : ∀ y ∈ sc.names, y.2 ≠ .free

theorem bindL_out {kindOf : Str → Option NameKind} {x : Str} : ∀ {binds : List (Str × Value)} {m : Str → Option Value}, (∀ v, (x, v) ∉ binds) → bindL kindOf binds m x = m x
  | [], _, _ => rfl
  | (n, v) :: r, m, h => by
    unfold bindL
    rw [bindL_out fun w hw => h w (List.mem_cons_of_mem _ hw)]
    split
    · have : x ≠ n := by rintro rfl; exact h v List.mem_cons_self
      simp [this]
    · rfl
theorem bindC_out {kindOf : Str → Option NameKind} {x : Str} : ∀ {binds : List (Str × Value)} {m : Str → Option Value}, (∀ v, (x, v) ∉ binds) → bindC kindOf binds m x = m x
  | [], _, _ => rfl
  | (n, v) :: r, m, h => by
    unfold bindC
    rw [bindC_out fun w hw => h w (List.mem_cons_of_mem _ hw)]
    split
    · rfl
    · have : x ≠ n := by rintro rfl; exact h v List.mem_cons_self
      simp [this]
theorem bindL_get {kindOf : Str → Option NameKind} {x : Str} {v : Value} : ∀ {P : List Str} {vs : List Value} {i : Nat} {m : Str → Option Value}, P.Nodup → P[i]? = some x → vs[i]? = some v → kindOf x = some .local →
    bindL kindOf (P.zip vs) m x = some v
  | [], _, _, _, _, h, _, _ => by simp at h
  | _ :: _, [], _, _, _, _, h, _ => by simp at h
  | p :: P, w :: vs, 0, m, nd, h1, h2, hk => by
    simp at h1 h2; subst h1; subst h2
    show bindL kindOf ((p, w) :: P.zip vs) m p = _
    unfold bindL
    rw [bindL_out fun v hv => (List.nodup_cons.mp nd).1 (List.of_mem_zip hv).1, if_pos hk]
    simp
  | p :: P, w :: vs, i + 1, m, nd, h1, h2, hk => by
    show bindL kindOf ((p, w) :: P.zip vs) m x = _
    unfold bindL
    exact bindL_get (i := i) (List.nodup_cons.mp nd).2 (by simpa using h1) (by simpa using h2) hk
theorem bindC_get {kindOf : Str → Option NameKind} {x : Str} {v : Value} : ∀ {P : List Str} {vs : List Value} {i : Nat} {m : Str → Option Value}, P.Nodup → P[i]? = some x → vs[i]? = some v → kindOf x ≠ some .local →
    bindC kindOf (P.zip vs) m x = some v
  | [], _, _, _, _, h, _, _ => by simp at h
  | _ :: _, [], _, _, _, _, h, _ => by simp at h
  | p :: P, w :: vs, 0, m, nd, h1, h2, hk => by
    simp at h1 h2; subst h1; subst h2
    show bindC kindOf ((p, w) :: P.zip vs) m p = _
    unfold bindC
    rw [bindC_out fun v hv => (List.nodup_cons.mp nd).1 (List.of_mem_zip hv).1, if_neg hk]
    simp
  | p :: P, w :: vs, i + 1, m, nd, h1, h2, hk => by
    show bindC kindOf ((p, w) :: P.zip vs) m x = _
    unfold bindC
    exact bindC_get (i := i) (List.nodup_cons.mp nd).2 (by simpa using h1) (by simpa using h2) hk

/-- the names' values at the entry -/
def start (N : List Str) (vs : List V) : St := vs.map some ++ List.replicate (N.length - vs.length) none

/-- the context of a def's body, at its entry; an exception leaves the frame, then lies as CX says -/
def cxOf (CX : CXT) (P : Program) (w : World) (K : PySem.W.Frag) (mg : Str → Option Value) (base : Heap) (N : List Str) (qual : Str) (scope : Scope) (f : Addr) (cd : Value) (A : Around) (outer : List Env) (s : Shared) (H : Hp) (E : XK) : Cx where
  prog := P
  w := w
  K := K
  mg := mg
  base := base
  A := A.deeper (envOfC qual scope s.heap.objs.size f cd)
  N := N
  s₀ := s
  H₀ := H
  env := envOfC qual scope s.heap.objs.size f cd
  outer := outer
  stack := envOfC qual scope s.heap.objs.size f cd :: outer
  ex := []
  calm := true
  fn := fun _ => true
  pn := []
  xe := fun e s' => wpAny (model P w) (A.deeper (envOfC qual scope s.heap.objs.size f cd)) (leaving (envOfC qual scope s.heap.objs.size f cd) e) (fun _ s'' => CX outer H s E e s'') (fun e' s'' => CX outer H s E e' s'') s'

theorem cell_has {sc : Scope} {n : Nat} {x : Str} (h : sc.names.lookup x = some .cell) : ∃ c, (cellsFrom n sc.names []).lookup x = some c := by
  have q := PySem.W.cellsFrom_some sc.names n [] (.inl h)
  exact Option.isSome_iff_exists.mp q

theorem inv_start {CX : CXT} {P : Program} {w : World} {K : PySem.W.Frag} {mg : Str → Option Value} {base : Heap} {N ps : List Str} {qual : Str} {scope : Scope} {f : Addr} {cd : Value} {A : Around} {outer : List Env} {s s1 : Shared} {H : Hp} {E : XK} {us : List Value} {vs : List V}
    (S : FnScope N ps scope) (hd : A.handled = none) (e0 : Env0 P w K mg base A outer s H) (hl : vs.length = ps.length) (r : Vals vs us)
    (x : InCallC s s.heap.objs.size (bindL (envOfC qual scope s.heap.objs.size f cd).kindOf (ps.zip us) fun _ => none) (cellsFrom (s.heap.objs.size + 1) scope.names []) (bindC (envOfC qual scope s.heap.objs.size f cd).kindOf (ps.zip us) fun _ => none) s1) :
    Inv (cxOf CX P w K mg base N qual scope f cd A outer s H E) [] (start N vs) H s1 := by
  have hpl : ps.length ≤ N.length := by have := congrArg List.length S.pre; rw [List.length_take] at this; omega
  obtain ⟨h1, tk, rfl, hk⟩ := x.done
  have noA : ∀ b : Addr, b ∉ (cxOf CX P w K mg base N qual scope f cd A outer s H E).ex := fun b z => absurd (show b ∈ ([] : List Addr) from z) (by simp)
  refine ⟨⟨e0.mod, S.kind, rfl, rfl, Nat.le_refl _, fun y z c h1 h2 => ?_, fun y hy => ?_, fun y c _ h => ?_, fun _ => hd, Around.frames_deeper e0.frames, .inr ⟨rfl, rfl⟩, fun b z => absurd z (noA b), e0.bs, e0.bsz, fun b _ _ => noA b, fun b z => absurd z (noA b), e0.funs, e0.frf⟩,
    rfl, e0.bare, Un.kept hk, ⟨_, x.toInCall.ns, fun i y v h1 h2 h3 => ?_⟩, fun y c h => ⟨_, x.cell y c h⟩, e0.hok.fresh (Nat.le_refl _), fun y c h => ?_, fun p hp => absurd (show p ∈ ([] : List (Addr × Obj)) from hp) (by simp), e0.hok.kept hk, ?_⟩
  · exact name_of_addr x.apart (PySem.mem_of_lookup h1) (PySem.mem_of_lookup h2)
  · have hy : scope.names.lookup y = some .cell ∨ scope.names.lookup y = some .free := hy
    rcases hy with hy | hy
    · exact cell_has hy
    · exact absurd rfl (S.nofree _ (PySem.mem_of_lookup hy))
  · exact Nat.le_of_lt (x.above y c (PySem.mem_of_lookup h))
  · have hi : i < vs.length := by
      unfold start at h2
      by_cases hi : i < vs.length
      · exact hi
      · rw [List.getElem?_append_right (by simpa using hi)] at h2
        rw [List.getElem?_replicate] at h2
        split at h2 <;> cases h2
    have ha : vs[i]? = some v := by
      unfold start at h2
      rw [List.getElem?_append_left (by simpa using hi), List.getElem?_map] at h2
      cases e : vs[i]? with
      | none => rw [e] at h2; cases h2
      | some a => rw [e] at h2; cases h2; rfl
    obtain ⟨u, hu, rv⟩ := r.get ha
    have hp : ps[i]? = some y := by
      rw [← S.pre, List.getElem?_take_of_lt (by omega)]; exact h1
    have ndP : ps.Nodup := by rw [← S.pre]; exact S.nd.sublist (List.take_sublist _ _)
    refine ⟨u, rv, ?_⟩
    rcases S.par y (List.mem_of_getElem? hp) with k | k
    · exact .inl ⟨k, bindL_get ndP hp hu k⟩
    · obtain ⟨c, e⟩ := cell_has (n := s.heap.objs.size + 1) k
      refine .inr ⟨.inl k, c, e, ?_⟩
      have q := x.cell y c e
      rw [bindC_get ndP hp hu (by show scope.names.lookup y ≠ _; rw [k]; decide)] at q
      exact q
  · exact e0.hok.fresh (Nat.le_of_lt (x.above y c (PySem.mem_of_lookup h)))
  · unfold start
    show _ = N.length
    rw [List.length_append, List.length_map, List.length_replicate]
    omega

/-- THE RULE: a def (or a method) of the text, by its body. The body's reading t is chosen for each entry; it is run at the parameters' values -/
theorem fn_of {CX : CXT} {P : Program} {w : World} {K : PySem.W.Frag} {mg : Str → Option Value} {base : Heap} {k : Nat} {f : Addr} {name qual : Str} {params : Arguments} {body : List Stmt} {scope : Scope} {dV kV doc pm cdv ct oc : Value} {an od : Option Addr}
    {osl : Array (Option Value)} {N ps : List Str} {sp : Sp} (lk : K.lookup f = some ⟨oc, od, .func (PySem.W.fnOf name qual params body scope dV kV doc pm an cdv ct), osl⟩) (hcd : PySem.W.codeIn K cdv qual = true) (S : FnScope N ps scope)
    (len : ∀ vs H Q E, sp vs H Q E → vs.length = ps.length)
    (hbody : ∀ (A : Around) (outer : List Env) (s : Shared) (H : Hp) (vs : List V) (Q : VK) (E : XK), Room k (A.deeper (envOfC qual scope s.heap.objs.size f cdv)) → sp vs H Q E →
      ∃ t, PSs (cxOf CX P w K mg base N qual scope f cdv A outer s H E) body t ∧ t { nx := fun _ H' => Q .non H', rt := Q } (start N vs) H) :
    FnOk P w K mg base CX (k + 1) f (PySem.W.fnOf name qual params body scope dV kV doc pm an cdv ct) ps sp := by
  refine ⟨len, fun A outer s H args us vs Q E hr e0 hb r hsp => ?_⟩
  have hl := len _ _ _ _ hsp
  have KX : K.In s.heap := e0.mod.kin.keeps fun b o e => (e0.bs b o e).1
  have lim : s.heap.NoLimit := e0.mod.nolimit.keeps fun b o e => (e0.bs b o e).1
  have hkind : ∀ y ∈ ps.zip us, scope.names.lookup y.1 = some .local ∨ (scope.names.lookup y.1 = some .cell ∧ ((cellsFrom (s.heap.objs.size + 1) scope.names []).lookup y.1).isSome = true) := fun ⟨n, v⟩ hy => by
    rcases S.par n (List.of_mem_zip hy).1 with q | q
    · exact .inl q
    · exact .inr ⟨q, PySem.W.cellsFrom_some _ _ _ (.inl q)⟩
  refine codeAny_call_function hr.depth (KX _ _ lk) rfl S.co S.gen rfl (PySem.W.codeRec_of KX hcd) (hb _ _ _ _ ?_)
  refine wpAny_newFunctionEnv_cells S.kind hkind fun env he s1 x => ?_
  subst he
  refine ⟨lim.keeps x.toInCall.keep, codeAny_func ?_⟩
  obtain ⟨t, ht, hq⟩ := hbody A outer s H vs Q E (hr.deeper _) hsp
  have I : Inv (cxOf CX P w K mg base N qual scope f cdv A outer s H E) [] (start N vs) H s1 := inv_start S hr.hd e0 hl r x
  refine wpAny_mono (ht [] s1 (start N vs) H _ I hq) (fun fl s' hs => ?_) fun e s' hs => hs
  have fin : ∀ {σ' : St} {H' : Hp} {v : V} {u : Value}, Inv (cxOf CX P w K mg base N qual scope f cdv A outer s H E) [] σ' H' s' → RelV v u → Q v H' → CE outer P w H s Q u s' :=
    fun {σ' H' v u} J rv q => ⟨v, H', J.os, J.bare, J.base, J.hok, rv, q⟩
  cases fl with
  | ret u =>
    obtain ⟨v, σ', H', J, rv, q⟩ := hs
    exact fin J rv q
  | next =>
    obtain ⟨σ', H', J, q⟩ := hs
    exact fin (v := V.non) (u := Value.none) J rfl q
  | brk =>
    obtain ⟨_, _, _, q⟩ := hs
    exact False.elim q
  | cont =>
    obtain ⟨_, _, _, q⟩ := hs
    exact False.elim q
end L2

namespace L2
open PySem PySem.Spec PyProof.Rows
section
variable {X : Cx} {x : Str} {p pos : Pos} {e : Expr} {es : List Expr} {t : TA} {id T : String} {r : List V → Hp → VK → Prop}

def tCB (r : List V → Hp → VK → Prop) (t : TA) : TE := fun σ H Q => t σ H fun vs H1 => r vs H1 Q
/-- f(e, ..), f a built-in function -/
theorem pe_callB (hc : CallR X (.builtin id) r) (hg : Gl X x) (hm : X.mg x = none) (hv : bootBuiltins x = some (.builtin id)) (ha : PA X (e :: es) t) (hn : x ≠ "__name__" := by decide) (hdb : (x == ("__debug__" : Str)) = false := by decide)
    (he : starEach (e :: es) X.env = (false, eval e X.env) :: starEach es X.env := by rfl) (hpl : (backTo pos (starEach es X.env)).any (·.1) = false := by rfl) : PE X (.Call (.Name x p) (e :: es) [] pos) (tCB r t) := by
  intro pins s σ H Q I h
  refine wpAny_Call_Name_kw (ld_blt I hg hm hv ?_ hn hdb)
  exact PyProof.Rows.callWith_builtin1 (thn (ha pos pins s σ H _ I h) fun us s1 ⟨vs, H1, I1, r1, q1⟩ => hc pins s1 σ H1 vs us Q I1 r1 q1) he hpl
/-- T(e, ..), T a built-in type -/
theorem pe_callTy (hc : CallR X (.type T) r) (hg : Gl X x) (hm : X.mg x = none) (hv : bootBuiltins x = some (.type T)) (ha : PA X (e :: es) t) (hn : x ≠ "__name__" := by decide) (hdb : (x == ("__debug__" : Str)) = false := by decide)
    (he : starEach (e :: es) X.env = (false, eval e X.env) :: starEach es X.env := by rfl) (hpl : (backTo pos (starEach es X.env)).any (·.1) = false := by rfl) : PE X (.Call (.Name x p) (e :: es) [] pos) (tCB r t) := by
  intro pins s σ H Q I h
  refine wpAny_Call_Name_kw (ld_blt I hg hm hv ?_ hn hdb)
  exact PyProof.Rows.callWith_type1 (thn (ha pos pins s σ H _ I h) fun us s1 ⟨vs, H1, I1, r1, q1⟩ => hc pins s1 σ H1 vs us Q I1 r1 q1) he hpl
/-- T() -/
theorem pe_callTy0 (hc : CallR X (.type T) r) (hg : Gl X x) (hm : X.mg x = none) (hv : bootBuiltins x = some (.type T)) (hn : x ≠ "__name__" := by decide) (hdb : (x == ("__debug__" : Str)) = false := by decide) :
    PE X (.Call (.Name x p) [] [] pos) (tCB r tNil) := by
  intro pins s σ H Q I h
  refine wpAny_Call_Name_kw (ld_blt I hg hm hv ?_ hn hdb)
  exact PyProof.Rows.callWith_type0 (hc pins s σ H [] [] Q I .nil h)
end
end L2

namespace HT
open PySem PyProof.Rows

/-- t < u of tuples of ints -/
def lexLt : List Int → List Int → Bool
  | [], [] => false
  | [], _ :: _ => true
  | _ :: _, [] => false
  | x :: xs, y :: ys => if x = y then lexLt xs ys else decide (x < y)
theorem lexLt_cons (x y : Int) (xs ys : List Int) : lexLt (x :: xs) (y :: ys) = if x = y then lexLt xs ys else decide (x < y) := rfl
theorem lexLt_nil_nil : lexLt [] [] = false := rfl
theorem lexLt_nil_cons (y : Int) (ys : List Int) : lexLt [] (y :: ys) = true := rfl
theorem lexLt_cons_nil (x : Int) (xs : List Int) : lexLt (x :: xs) [] = false := rfl

theorem eqAt_int (A : Around) (s : Shared) (a : Int) (t : Tok) (c : Int) (u : Tok) : ∃ e, SeqAt.EqAt A s (.int a t) (.int c u) e ∧ (e = true ↔ a = c) :=
  ⟨(a == c), SeqAt.EqAt.int_int a t c u, by simp⟩
theorem rcLt_int (A : Around) (s : Shared) (a : Int) (t : Tok) (c : Int) (u : Tok) (prog : Program) (w : World) (E : Value → Shared → Prop) (Q : Value → Shared → Prop) (h : Q (.bool (decide (a < c))) s) :
    wpAny (model prog w) A (richCompare .Lt (.int a t) (.int c u)) Q E s :=
  (PyProof.Rows.lt_int h : wpAny (model prog w) A (compareOp .Lt (.int a t) (.int c u)) Q E s)

section
open PySem.SeqAt
open PySem.AutoSeq1 (wpAny_loadPart')
open PySem.MeetsSeq PySem.MeetsSeq2 PySem.MeetsSeq3

theorem tuple_lt_ints (l b : Addr) (items items2 : Array Value) (n n2 : Nat) (dd dd2 : Option Addr) (sl sl2 : Array (Option Value)) (ns ms : List Int) (hi : IntsAre items.toList ns) (hj : IntsAre items2.toList ms) :
    Meets (Builtin.«tuple.__lt__» ⟨[.ref l, .ref b], []⟩)
      (fun _ R s => s.heap.get? l = some { cls := .type "tuple", dict := dd, data := .seq items n, slots := sl } ∧ s.heap.get? b = some { cls := .type "tuple", dict := dd2, data := .seq items2 n2, slots := sl2 } ∧
        R (.ok (.ret (.bool (lexLt ns ms)))) s) :=
  .of_wp fun prog w A R s h => by
    obtain ⟨hp, g, d, tk, os⟩ := s; obtain ⟨hl, hb, h⟩ := h
    have f2 := AutoSeq1.sub_tuple_tuple
    have z1 : items.size = ns.length := by rw [← hi.length]; simp
    have z2 : items2.size = ms.length := by rw [← hj.length]; simp
    wp_walk using wpAny_loadPart' hl, wpAny_loadPart' hb, wpAny_forIn_list _ (fun rest b s' => b.1 = none ∧ s' = ⟨hp, g, d, tk, os⟩ ∧ ∃ (vs ws : List Value) (ns' ms' : List Int), rest = vs.zip ws ∧
      IntsAre vs ns' ∧ IntsAre ws ms' ∧ ns'.length + items2.size = ms'.length + items.size ∧ R (.ok (.ret (.bool (lexLt ns' ms')))) ⟨hp, g, d, tk, os⟩) _
    case turn =>
      rintro ⟨y, x⟩ rest b s' ⟨hb', rfl, vs, ws, ns', ms', hz, hvi, hwi, hlen, hR⟩
      cases hvi with
      | nil => rw [List.zip_nil_left] at hz; cases hz
      | cons a t hvi' =>
        cases hwi with
        | nil => rw [List.zip_nil_right] at hz; cases hz
        | cons c u hwi' =>
          rw [List.zip_cons_cons] at hz
          injection hz with hyx hrest
          injection hyx with hy hx
          subst hy hx
          rw [lexLt_cons] at hR
          simp only [List.length_cons] at hlen
          obtain ⟨e, he, hiff⟩ := eqAt_int A.in1 ⟨hp, g, d, tk, os⟩ a t c u
          refine wpAny_bind (he prog w _ _ ?_)
          cases e with
          | true =>
            rw [if_pos (hiff.mp rfl)] at hR
            wp_walk
            exact ⟨rfl, rfl, _, _, _, _, hrest, hvi', hwi', by omega, hR⟩
          | false =>
            rw [if_neg (fun q => absurd (hiff.mpr q) Bool.false_ne_true)] at hR
            have hri := rcLt_int A.in1 ⟨hp, g, d, tk, os⟩ a t c u prog w
            wp_walk using hri
            exact ⟨_, rfl, by simpa using hR⟩
    case fin =>
      rintro ⟨b1, b2⟩ s' ⟨hb', rfl, vs, ws, ns', ms', hz, hvi, hwi, hlen, hR⟩
      simp only at hb'
      subst hb'
      have hv : lexLt ns' ms' = decide (items.size < items2.size) := by
        cases hvi with
        | nil =>
          cases hwi with
          | nil =>
            simp only [List.length_nil] at hlen
            rw [lexLt_nil_nil]
            exact (decide_eq_false (by omega)).symm
          | cons c u hw =>
            simp only [List.length_nil, List.length_cons] at hlen
            rw [lexLt_nil_cons]
            exact (decide_eq_true (by omega)).symm
        | cons a t hv =>
          cases hwi with
          | nil =>
            simp only [List.length_nil, List.length_cons] at hlen
            rw [lexLt_cons_nil]
            exact (decide_eq_false (by omega)).symm
          | cons c u hw =>
            rw [List.zip_cons_cons] at hz
            cases hz
      rw [hv] at hR
      wp_walk
      exact ⟨_, rfl, by simpa [Builtin.Tuple.tupleCompareSizes] using hR⟩
    case h =>
      exact ⟨rfl, rfl, items.toList, items2.toList, ns, ms, rfl, hi, hj, by omega, h⟩
end

section
variable {prog : Program} {w : World} {A : Around} {E : Value → Shared → Prop} {s : Shared}

theorem lt_tupInts {l b : Addr} {items items2 : Array Value} {ns ms : List Int} {Q : Value → Shared → Prop} (hl : IsTup s.heap l items) (hb : IsTup s.heap b items2) (hi : IntsAre items.toList ns) (hj : IntsAre items2.toList ms)
    (hu : A.units < cLine) (h : Q (.bool (lexLt ns ms)) s) : wpAny (model prog w) A (compareOp .Lt (.ref l) (.ref b)) Q E s := by
  obtain ⟨⟨cls, dd, data, sl⟩, ho, hc, n, hd⟩ := id hl
  obtain ⟨⟨cls2, dd2, data2, sl2⟩, ho2, hc2, n2, hd2⟩ := id hb
  simp only at hc hd hc2 hd2
  subst hc hd hc2 hd2
  exact richCompare_meets_room (op := .Lt) ⟨_, ho, rfl⟩ ⟨_, ho2, rfl⟩ PySem.F.slot_tuple_lt PySem.F.entry_tuple_lt (PySem.F.args_tuple_lt_2 _ _) (tuple_lt_ints l b items items2 n n2 dd dd2 sl sl2 ns ms hi hj)
    ⟨ho, ho2, show Value.bool (lexLt ns ms) ≠ Value.notImplemented ∧ Q (.bool (lexLt ns ms)) s from ⟨(fun x => nomatch x), h⟩⟩ hu

/-- t + u, t not empty -/
theorem cat_tup {t b : Addr} {vs ws : List Value} {Q : Value → Shared → Prop} (ht : IsTup s.heap t vs.toArray) (hb : IsTup s.heap b ws.toArray) (hv : vs ≠ [])
    (h1 : ws = [] → Q (.ref t) s) (h2 : ws ≠ [] → Q (.ref s.heap.objs.size) { s with heap := s.heap.push { cls := .type "tuple", data := .seq (vs ++ ws).toArray } })
    (hsz : vs.length + ws.length ≤ sizeLine) : wpAny (model prog w) A (binaryOp .Add (.ref t) (.ref b)) Q E s := by
  obtain ⟨⟨cls, dd, data, sl⟩, ho, hc, n, hd⟩ := id ht
  obtain ⟨⟨cls2, dd2, data2, sl2⟩, ho2, hc2, n2, hd2⟩ := id hb
  simp only at hc hd hc2 hd2
  subst hc hd hc2 hd2
  have e : vs.toArray ++ ws.toArray = (vs ++ ws).toArray := by simp
  by_cases hw : ws = []
  · exact concat_meets ⟨_, ho, rfl⟩ ⟨_, ho2, rfl⟩ noFill_tuple_add seq_tuple_add PySem.F.slot_tuple_add PySem.F.entry_tuple_add (PySem.F.args_tuple_add_2 _ _)
      (tuple_addW1 t b vs.toArray ws.toArray n n2 dd dd2 sl sl2 (by simpa using hv) (by simp [hw])) ⟨ho, ho2, h1 hw⟩
  · refine concat_meets ⟨_, ho, rfl⟩ ⟨_, ho2, rfl⟩ noFill_tuple_add seq_tuple_add PySem.F.slot_tuple_add PySem.F.entry_tuple_add (PySem.F.args_tuple_add_2 _ _)
      (tuple_addW2 t b vs.toArray ws.toArray n n2 dd dd2 sl sl2 (by simpa using hv) (by simpa using hw) (by rw [List.size_toArray, List.size_toArray]; exact hsz)) ⟨ho, ho2, ?_⟩
    rw [e]
    exact h2 hw

/-! ### t[a:b], not the whole -/
/-- a slice's bound as a place among n (d where it is left out) -/
def sIx (n d : Nat) : Option Int → Nat
  | none => d
  | some v => if v < 0 then (v + (n : Int)).toNat else min v.toNat n
theorem sIx_none (n d : Nat) : sIx n d none = d := rfl
theorem sIx_nat (n d k : Nat) : sIx n d (some (k : Int)) = min k n := by
  show (if (k : Int) < 0 then ((k : Int) + (n : Int)).toNat else min (k : Int).toNat n) = min k n
  rw [if_neg (by omega), Int.toNat_natCast]
theorem sIx_le (n d : Nat) (hd : d ≤ n) (o : Option Int) : sIx n d o ≤ n := by
  cases o with
  | none => exact hd
  | some v =>
    show (if v < 0 then (v + (n : Int)).toNat else min v.toNat n) ≤ n
    by_cases hv : v < 0
    · rw [if_pos hv]; omega
    · rw [if_neg hv]; exact Nat.min_le_right _ _
theorem clip_eq (v : Int) (n d : Nat) : (if v < 0 then max (v + (n : Int)) 0 else min v (n : Int)) = ((sIx n d (some v) : Nat) : Int) := by
  show (if v < 0 then max (v + (n : Int)) 0 else min v (n : Int)) = (((if v < 0 then (v + (n : Int)).toNat else min v.toNat n) : Nat) : Int)
  by_cases hv : v < 0
  · simp only [if_pos hv]; omega
  · simp only [if_neg hv]; omega
theorem adjust_gen (lo hi : Option Int) (n : Nat) : Builtin.Slice.sliceAdjust lo hi 1 (n : Int) = (((sIx n 0 lo : Nat) : Int), ((sIx n n hi : Nat) : Int)) := by
  have h1 : ¬ ((1 : Int) < 0) := by omega
  unfold Builtin.Slice.sliceAdjust
  simp only [h1, if_false]
  refine Prod.ext ?_ ?_
  · cases lo with
    | none => rfl
    | some v => exact clip_eq v n 0
  · cases hi with
    | none => rfl
    | some v => exact clip_eq v n n
theorem places_gen (i j : Nat) : Builtin.Slice.slicePlaces (i : Int) (j : Int) 1 = j - i := by
  unfold Builtin.Slice.slicePlaces
  have h1 : (1 : Int) > 0 := by omega
  simp only [h1, if_true, Int.ediv_one]
  split <;> omega
theorem slicePart_ {v : Value} {o : Option Int} {Q : Option Int → Shared → Prop} (p : IsPart v o) (h : Q o s) : wpAny (model prog w) A (Builtin.Slice.slicePartIndex v) Q E s := by
  cases p with
  | none => exact slicePart_none h
  | int i t => exact slicePart_int h
theorem sliceApplied_gen {sl : Addr} {vl vu : Value} {lo hi : Option Int} {n : Nat} {Q : Int × Int × Nat → Shared → Prop} (hs : s.heap.IsSliceOf sl vl vu .none) (pl : IsPart vl lo) (pu : IsPart vu hi)
    (h : Q (((sIx n 0 lo : Nat) : Int), 1, sIx n n hi - sIx n 0 lo) s) : wpAny (model prog w) A (Builtin.Slice.sliceApplied (.ref sl) (pure (n : Int))) Q E s := by
  obtain ⟨os, hos, hcs, hds⟩ := id hs
  unfold Builtin.Slice.sliceApplied Builtin.Slice.sliceFields
  refine wpAny_bind (wpAny_bind (wpAny_field hos hds (x := vl) rfl (wpAny_bind (wpAny_field hos hds (x := vu) rfl (wpAny_bind (wpAny_field hos hds (x := .none) rfl (wpAny_pure ?_)))))))
  refine wpAny_bind (slicePart_none ?_)
  show wpAny _ _ (if ((1 : Int) == 0) = true then _ else _) _ _ s
  rw [if_neg (by decide)]
  refine wpAny_bind (slicePart_ pl (wpAny_bind (slicePart_ pu (wpAny_bind (wpAny_pure ?_)))))
  show wpAny _ _ (match Builtin.Slice.sliceAdjust lo hi 1 (n : Int) with | (lo, hi) => pure (lo, (1 : Int), Builtin.Slice.slicePlaces lo hi 1)) _ _ s
  rw [adjust_gen lo hi n]
  show wpAny _ _ (pure (((sIx n 0 lo : Nat) : Int), (1 : Int), Builtin.Slice.slicePlaces ((sIx n 0 lo : Nat) : Int) ((sIx n n hi : Nat) : Int) 1)) _ _ s
  rw [places_gen]
  exact wpAny_pure h
theorem pick_gen (xs : Array Value) (i k : Nat) : ((List.range k).filterMap fun (m : Nat) => xs[((i : Int) + (m : Int) * 1).toNat]?).toArray = ((xs.toList.drop i).take k).toArray := by
  have e : (fun (m : Nat) => xs[((i : Int) + (m : Int) * 1).toNat]?) = fun m => xs[i + m]? := by
    funext m
    have : ((i : Int) + (m : Int) * 1).toNat = i + m := by omega
    rw [this]
  rw [e]
  have := pick_run xs i k
  rw [List.filterMap_map] at this
  have e2 : ((fun x => xs[x]?) ∘ fun x => i + x) = fun m => xs[i + m]? := rfl
  rw [e2] at this
  rw [this]

theorem getItem_tuple_cut {t sl : Addr} {items : Array Value} {vl vu : Value} {lo hi : Option Int} {Q : Value → Shared → Prop} (ht : IsTup s.heap t items) (hs : s.heap.IsSliceOf sl vl vu .none) (pl : IsPart vl lo) (pu : IsPart vu hi)
    (hw : ¬ (sIx items.size 0 lo = 0 ∧ sIx items.size items.size hi = items.size))
    (h : Q (.ref s.heap.objs.size) { s with heap := s.heap.push { cls := .type "tuple", data := .seq ((items.toList.drop (sIx items.size 0 lo)).take (sIx items.size items.size hi - sIx items.size 0 lo)).toArray } })
    (hsz : items.size ≤ sizeLine) : wpAny (model prog w) A (getItem (.ref t) (.ref sl)) Q E s := by
  have htake : sizeOk (.seq ((items.toList.drop (sIx items.size 0 lo)).take (sIx items.size items.size hi - sIx items.size 0 lo)).toArray) := by
    show ((items.toList.drop (sIx items.size 0 lo)).take (sIx items.size items.size hi - sIx items.size 0 lo)).toArray.size ≤ sizeLine
    rw [List.size_toArray, List.length_take, List.length_drop, Array.length_toList]
    omega
  have hj : sIx items.size items.size hi ≤ items.size := sIx_le _ _ (Nat.le_refl _) hi
  obtain ⟨os, hos, hcs, hds⟩ := id hs
  have hTs : s.TypeIs (.ref sl) "slice" := ⟨os, hos, hcs⟩
  unfold getItem
  try with_reducible refine wpAny_holding ?_
  first | refine wpAny_bind (wpAny_pure ?_) | skip
  refine wpAny_bind (wpAny_sequenceKey ht.typeIs (by decide) ?_)
  refine wpAny_bind (wpAny_callSpecial?_slot (name := Str.ofString "__getitem__") ht.typeIs PyProof.Rows.slot_tuple_getitem
    (wpAny_call_entry PyProof.Rows.slot_tuple_getitem ht.typeIs entry_tuple_getitem ?_ (args_tuple_getitem _ _)))
  show wpAny _ _ (Builtin.Tuple.tupleItemsOf (.ref t) >>= _) _ _ s
  refine wpAny_bind (tupleItemsOf_ ht ?_)
  refine wpAny_bind (wpAny_typeOf hTs ?_)
  rw [if_pos (by decide)]
  refine wpAny_bind (sliceApplied_gen hs pl pu ?_)
  have hno : ¬ ((((sIx items.size 0 lo : Nat) : Int) == 0 && (1 : Int) == 1 && (sIx items.size items.size hi - sIx items.size 0 lo) == items.size) = true) := by
    intro q
    rw [Bool.and_eq_true, Bool.and_eq_true] at q
    have q1 : ((sIx items.size 0 lo : Nat) : Int) = 0 := eq_of_beq q.1.1
    have q2 : sIx items.size items.size hi - sIx items.size 0 lo = items.size := eq_of_beq q.2
    exact hw ⟨by omega, by omega⟩
  show wpAny _ _ (if (((sIx items.size 0 lo : Nat) : Int) == 0 && (1 : Int) == 1 && (sIx items.size items.size hi - sIx items.size 0 lo) == items.size) = true then _ else _) _ _ s
  rw [if_neg hno, pick_gen]
  first
    | exact wpAny_bind (m := Builtin.Tuple.tupleExact _) (wpAny_newObj_type (wpAny_pure ⟨_, rfl, wpAny_pure h⟩) htake)
    | exact wpAny_bind (m := Builtin.Tuple.tupleExact _) (wpAny_newObj_type (wpAny_bind (wpAny_pure (wpAny_pure ⟨_, rfl, wpAny_pure h⟩))) htake)
    | exact wpAny_bind (wpAny_bind (m := Builtin.Tuple.tupleExact _) (wpAny_newObj_type (wpAny_pure (wpAny_pure ⟨_, rfl, wpAny_pure h⟩)) htake))
    | exact wpAny_bind (wpAny_bind (m := Builtin.Tuple.tupleExact _) (wpAny_newObj_type (wpAny_pure ⟨_, rfl, wpAny_pure h⟩) htake))
end
end HT

namespace L2
open PySem PySem.Spec PyProof.Rows

/-! ### the parts of a slice -/
abbrev TO := St → Hp → (Option Int → Hp → Prop) → Prop
/-- a slice's part (left out, or an int) -/
def PO (X : Cx) (e : Option Expr) (t : TO) : Prop :=
  ∀ (pins : List (Addr × Obj)) (s : Shared) (σ : St) (H : Hp) (Q : Option Int → Hp → Prop), Inv X pins σ H s → t σ H Q →
    wpAny (model X.prog X.w) X.A (evalPart e X.env) (fun u s' => ∃ o H', Inv X pins σ H' s' ∧ IsPart u o ∧ Q o H') X.xe s
def tNoPart : TO := fun _ H Q => Q none H
def tPart (t : TE) : TO := fun σ H Q => t σ H fun x H1 => ∃ i, x = .int i ∧ Q (some i) H1

theorem intsAre_of {ns : List Int} : ∀ {us : List Value}, Vals (ns.map V.int) us → IntsAre us ns := by
  induction ns with
  | nil => intro us r; rw [List.map_nil] at r; cases r; exact .nil
  | cons n ns ih =>
    intro us r
    rw [List.map_cons] at r
    cases r with
    | cons r1 r2 =>
      obtain ⟨t, e⟩ := r1
      subst e
      exact .cons n t (ih r2)

section
variable {X : Cx} {e : Expr} {te : TE} {lo hi : Option Expr} {tl th : TO} {pos p2 : Pos}

theorem po_none : PO X none tNoPart := by
  intro pins s σ H Q I h
  rw [evalPart_none]
  exact wpAny_pure ⟨none, H, I, .none, h⟩
theorem po_some (h : PE X e te) : PO X (some e) (tPart te) := by
  intro pins s σ H Q I hw
  rw [evalPart_some]
  refine thn (h pins s σ H _ I hw) fun u s1 ⟨x, H1, I1, r1, q1⟩ => ?_
  obtain ⟨i, rfl, q⟩ := q1
  obtain ⟨t, rfl⟩ := r1
  exact ⟨some i, H1, I1, .int i t, q⟩

/-- what a slice of a value is, by values: the slice object stands at sl -/
def SlR (X : Cx) (r : V → Option Int → Option Int → Hp → VK → Prop) : Prop :=
  ∀ (pins : List (Addr × Obj)) (s : Shared) (σ : St) (H : Hp) (x : V) (v vl vu : Value) (lo hi : Option Int) (sl : Addr) (Q : VK), Inv X pins σ H s → RelV x v → s.heap.IsSliceOf sl vl vu .none → IsPart vl lo → IsPart vu hi → r x lo hi H Q →
    ∃ T id, typeLookup (.type T) "__getitem__" = pure (some (.builtin id)) ∧ s.TypeIs v T ∧ wpAny (model X.prog X.w) X.A (getItem v (.ref sl)) (EP X pins σ Q) X.xe s
theorem SlR.or {r r' : V → Option Int → Option Int → Hp → VK → Prop} (h : SlR X r) (h' : SlR X r') : SlR X (fun x lo hi H Q => r x lo hi H Q ∨ r' x lo hi H Q) := by
  intro pins s σ H x v vl vu lo hi sl Q I rx hs pl pu q
  rcases q with q | q
  · exact h pins s σ H x v vl vu lo hi sl Q I rx hs pl pu q
  · exact h' pins s σ H x v vl vu lo hi sl Q I rx hs pl pu q
def tSl (r : V → Option Int → Option Int → Hp → VK → Prop) (te : TE) (tl th : TO) : TE := fun σ H Q => te σ H fun x H1 => tl σ H1 fun l H2 => th σ H2 fun u H3 => r x l u H3 Q
/-- a[lo:hi], any a -/
theorem pe_slice {r : V → Option Int → Option Int → Hp → VK → Prop} (hr : SlR X r) (he : PE X e te) (hl : PO X lo tl) (hu : PO X hi th) : PE X (.Subscript e (.Slice lo hi none p2) pos) (tSl r te tl th) := by
  intro pins s σ H Q I h
  refine Subscript_ (thn (he pins s σ H _ I h) fun v s1 ⟨x, H1, I1, r1, q1⟩ => ?_)
  refine wpAny_Slice (thn (hl pins s1 σ H1 _ I1 q1) fun vl s2 ⟨l, H2, I2, pl, q2⟩ => thn (hu pins s2 σ H2 _ I2 q2) fun vu s3 ⟨u, H3, I3, pu, q3⟩ => ?_)
  rw [evalPart_none]
  refine wpAny_pure ?_
  have I4 : Inv X pins σ H3 { s3 with heap := s3.heap.push { cls := .type "slice", data := .fields #[vl, vu, .none] } } := I3.kept (t' := s3.toks) fun b ob q => Heap.get?_push_of_some _ q
  obtain ⟨T, id, hT, ht, hg⟩ := hr pins { s3 with heap := s3.heap.push { cls := .type "slice", data := .fields #[vl, vu, .none] } } σ H3 x v vl vu l u s3.heap.objs.size Q I4 r1 (Heap.IsSliceOf.new ..) pl pu q3
  show wpAny (model X.prog X.w) X.A (subscriptTail e (.Slice lo hi none p2) v (.ref s3.heap.objs.size)) (EP X pins σ Q) X.xe { s3 with heap := s3.heap.push { cls := .type "slice", data := .fields #[vl, vu, .none] } }
  exact tail_any (ops := [.ref s3.heap.objs.size, v]) ht hT hg (by with_unfolding_all rfl)

/-- the items of xs[lo:hi] -/
def cutV (xs : List V) (lo hi : Option Int) : List V := (xs.drop (HT.sIx xs.length 0 lo)).take (HT.sIx xs.length xs.length hi - HT.sIx xs.length 0 lo)
theorem cutV_length (xs : List V) (lo hi : Option Int) : (cutV xs lo hi).length ≤ xs.length := by
  unfold cutV
  rw [List.length_take, List.length_drop]
  omega
/-- t[lo:hi], not the whole of it (the whole would be t itself) -/
def rSlT (K : PySem.W.Frag) : V → Option Int → Option Int → Hp → VK → Prop := fun x lo hi H Q => ∃ a xs, x = .ref a ∧ SqT K H a xs ∧
  ¬ (HT.sIx xs.length 0 lo = 0 ∧ HT.sIx xs.length xs.length hi = xs.length) ∧ ∀ p, H p = none → Q (.ref p) (upd H p (.tup (cutV xs lo hi)))
theorem sl_tup : SlR X (rSlT X.K) := by
  intro pins s σ H x v vl vu lo hi sl Q I rx hs pl pu h
  obtain ⟨a, xs, rfl, hx, hw, q⟩ := h
  cases rx
  obtain ⟨its, r, ht, hz⟩ := I.tuple hx
  have hlen : its.toArray.size = xs.length := by rw [List.size_toArray]; exact r.length.symm
  refine ⟨"tuple", _, PyProof.Rows.slot_tuple_getitem.lookup, ht.typeIs, ?_⟩
  refine HT.getItem_tuple_cut ht hs pl pu (by rw [hlen]; exact hw) ?_ (by rw [hlen]; exact hz)
  rw [hlen]
  refine ⟨.ref s.heap.objs.size, _, I.laid (t' := s.toks) (o := .tup (cutV xs lo hi)) (fun b ob q => Heap.get?_push_of_some _ q) (Nat.le_refl _) ?_, rfl, q _ (I.hok.fresh (Nat.le_refl _))⟩
  exact ⟨Nat.le_trans (cutV_length xs lo hi) hz, _, (r.drop (HT.sIx xs.length 0 lo)).take (HT.sIx xs.length xs.length hi - HT.sIx xs.length 0 lo), IsTup.new _ _⟩

/-! ### t < u, t + u -/
def rLtT (K : PySem.W.Frag) : R2 := fun x y H Q => ∃ a b ns ms, x = .ref a ∧ y = .ref b ∧ SqT K H a (ns.map V.int) ∧ SqT K H b (ms.map V.int) ∧ Q (.bl (HT.lexLt ns ms)) H
theorem op_ltT (hu : X.A.units < cLine) : OpR X (compareOp .Lt) (rLtT X.K) := by
  intro pins s σ H x y v u Q I rx ry h
  obtain ⟨a, b, ns, ms, rfl, rfl, ha, hb, q⟩ := h
  cases rx
  cases ry
  obtain ⟨its, r1, p1, _⟩ := I.tuple ha
  obtain ⟨its2, r2, p2, _⟩ := I.tuple hb
  have i1 : IntsAre its.toArray.toList ns := intsAre_of r1
  have i2 : IntsAre its2.toArray.toList ms := intsAre_of r2
  exact HT.lt_tupInts p1 p2 i1 i2 hu ⟨.bl (HT.lexLt ns ms), H, I, rfl, q⟩
/-- t + u, t not empty: u empty gives t itself -/
def rCatT (K : PySem.W.Frag) : R2 := fun x y H Q => ∃ a b xs ys, x = .ref a ∧ y = .ref b ∧ SqT K H a xs ∧ SqT K H b ys ∧ xs ≠ [] ∧ xs.length + ys.length ≤ sizeLine ∧
  (ys = [] → Q (.ref a) H) ∧ (ys ≠ [] → ∀ p, H p = none → Q (.ref p) (upd H p (.tup (xs ++ ys))))
theorem Vals.nil_iff {xs : List V} {us : List Value} (r : Vals xs us) : us = [] ↔ xs = [] := by
  cases r with
  | nil => simp
  | cons _ _ => simp
theorem op_catT : OpR X (binaryOp .Add) (rCatT X.K) := by
  intro pins s σ H x y v u Q I rx ry h
  obtain ⟨a, b, xs, ys, rfl, rfl, ha, hb, hx, hz, q1, q2⟩ := h
  cases rx
  cases ry
  obtain ⟨its, r1, p1, _⟩ := I.tuple ha
  obtain ⟨its2, r2, p2, _⟩ := I.tuple hb
  refine HT.cat_tup p1 p2 (fun z => hx (r1.nil_iff.mp z)) (fun z => ⟨.ref a, H, I, rfl, q1 (r2.nil_iff.mp z)⟩) (fun z => ?_) (by rw [← r1.length, ← r2.length]; exact hz)
  refine ⟨.ref s.heap.objs.size, _, I.laid (t' := s.toks) (o := .tup (xs ++ ys)) (fun b ob q => Heap.get?_push_of_some _ q) (Nat.le_refl _) ?_, rfl, q2 (fun w => z (r2.nil_iff.mpr w)) _ (I.hok.fresh (Nat.le_refl _))⟩
  exact ⟨by rw [List.length_append]; exact hz, _, r1.append r2, IsTup.new _ _⟩
/-- tuple(t) -/
theorem call_tupleT : CallR X (.type "tuple") (fun xs H Q => ∃ a ys, xs = [.ref a] ∧ SqT X.K H a ys ∧ Q (.ref a) H) := by
  intro pins s σ H xs us Q I r h
  obtain ⟨a, ys, rfl, ha, q⟩ := h
  obtain ⟨u, rfl, ru⟩ := vals1 r
  cases ru
  obtain ⟨its, _, p1, _⟩ := I.tuple ha
  exact call_tuple_same (items := its.toArray) p1 ⟨.ref a, H, I, rfl, q⟩
end
end L2

namespace L2
open PySem PySem.Spec PyProof.Rows

/-! ### places -/
/-- the place that an index of any sign means -/
def ixN (n : Nat) (i : Int) : Option Nat := if 0 ≤ i then (if i < n then some i.toNat else none) else if -(n : Int) ≤ i then some (i + n).toNat else none
def atI {α : Type} (xs : List α) (i : Int) : Option α := (ixN xs.length i).bind fun j => xs[j]?
theorem ixN_seq {n : Nat} {i : Int} {j : Nat} (h : ixN n i = some j) : seqIndex? i n = some j ∧ j < n ∧ -(n : Int) ≤ i ∧ i < n := by
  unfold ixN at h
  by_cases h0 : 0 ≤ i
  · rw [if_pos h0] at h
    by_cases h1 : i < n
    · rw [if_pos h1] at h
      have e : i.toNat = j := Option.some.inj h
      exact ⟨by rw [seqIndex_of h0 h1, e], by omega, by omega, h1⟩
    · rw [if_neg h1] at h; cases h
  · rw [if_neg h0] at h
    by_cases h1 : -(n : Int) ≤ i
    · rw [if_pos h1] at h
      have e : (i + n).toNat = j := Option.some.inj h
      exact ⟨by rw [seqIndex_neg (by omega) h1, e], by omega, h1, by omega⟩
    · rw [if_neg h1] at h; cases h
theorem atI_get {α : Type} {xs : List α} {i : Int} {v : α} (h : atI xs i = some v) : ∃ j, seqIndex? i xs.length = some j ∧ xs[j]? = some v ∧ j < xs.length ∧ -(xs.length : Int) ≤ i ∧ i < xs.length := by
  unfold atI at h
  cases e : ixN xs.length i with
  | none => rw [e] at h; cases h
  | some j =>
    rw [e] at h
    obtain ⟨h1, h2, h3, h4⟩ := ixN_seq e
    exact ⟨j, h1, h, h2, h3, h4⟩
theorem atI_nat {α : Type} {xs : List α} {j : Nat} {v : α} (h : xs[j]? = some v) : atI xs (j : Int) = some v := by
  have hj : j < xs.length := (List.getElem?_eq_some_iff.mp h).1
  have e : ixN xs.length (j : Int) = some j := by
    unfold ixN
    rw [if_pos (by omega), if_pos (by omega)]; simp
  unfold atI; rw [e]; exact h
theorem atI_last {α : Type} (xs : List α) (v : α) : atI (xs ++ [v]) (-1) = some v := by
  have hl : (xs ++ [v]).length = xs.length + 1 := by simp
  have e : ixN (xs ++ [v]).length (-1) = some xs.length := by
    unfold ixN
    rw [hl, if_neg (by decide), if_pos (by omega)]
    congr 1
    omega
  unfold atI
  rw [e]
  show (xs ++ [v])[xs.length]? = some v
  simp

/-! ### what may be subscripted -/
/-- what stands as an index of a plain subscript -/
def PlainIx (b : Expr) : Prop := ∀ o i, subscripted b false o i = operate [o, i] (getItem o i)
/-- a subscript by values -/
def IxR (X : Cx) (r : R2) : Prop :=
  ∀ (value slice : Expr) (pins : List (Addr × Obj)) (s : Shared) (σ : St) (H : Hp) (x y : V) (v u : Value) (Q : VK), Inv X pins σ H s → RelV x v → RelV y u → r x y H Q →
    subscripted slice false v u = operate [v, u] (getItem v u) → wpAny (model X.prog X.w) X.A (subscriptTail value slice v u) (EP X pins σ Q) X.xe s
/-- a call of a builtin's method by values: the receiver, the arguments -/
def MtR (X : Cx) (id : String) (r : V → List V → Hp → VK → Prop) : Prop :=
  ∀ (pins : List (Addr × Obj)) (s : Shared) (σ : St) (H : Hp) (x : V) (xs : List V) (v : Value) (us : List Value) (Q : VK), Inv X pins σ H s → RelV x v → Vals xs us → r x xs H Q →
    wpAny (model X.prog X.w) X.A (call (.builtin id) (v :: us)) (EP X pins σ Q) X.xe s
section
variable {X : Cx} {a b : Expr} {ta tb : TE} {pos : Pos}
theorem IxR.or {r r' : R2} (h : IxR X r) (h' : IxR X r') : IxR X (fun x y H Q => r x y H Q ∨ r' x y H Q) := by
  intro value slice pins s σ H x y v u Q I rx ry q hs
  rcases q with q | q
  · exact h value slice pins s σ H x y v u Q I rx ry q hs
  · exact h' value slice pins s σ H x y v u Q I rx ry q hs
theorem MtR.or {id : String} {r r' : V → List V → Hp → VK → Prop} (h : MtR X id r) (h' : MtR X id r') : MtR X id (fun x xs H Q => r x xs H Q ∨ r' x xs H Q) := by
  intro pins s σ H x xs v us Q I rx rs q
  rcases q with q | q
  · exact h pins s σ H x xs v us Q I rx rs q
  · exact h' pins s σ H x xs v us Q I rx rs q
/-- a[b] -/
theorem pe_ix {r : R2} (hr : IxR X r) (ha : PE X a ta) (hb : PE X b tb) (hs : PlainIx b) : PE X (.Subscript a b pos) (tOp r ta tb) := by
  intro pins s σ H Q I h
  exact Subscript_ (binT ha hb I h fun v u s2 x y H2 I2 rx ry q => hr a b pins s2 σ H2 x y v u Q I2 rx ry q (hs _ _))

def rIxL (K : PySem.W.Frag) : R2 := fun x y H Q => ∃ p xs i v, x = .ref p ∧ y = .int i ∧ SqL K H p xs ∧ atI xs i = some v ∧ Q v H
def rIxT (K : PySem.W.Frag) : R2 := fun x y H Q => ∃ p xs i v, x = .ref p ∧ y = .int i ∧ SqT K H p xs ∧ atI xs i = some v ∧ Q v H
def rIxS : R2 := fun x y H Q => ∃ z i c, x = .str z ∧ y = .int i ∧ z.length ≤ sizeLine ∧ atI z.cps.toList i = some c ∧ Q (.str ⟨#[c]⟩) H
theorem ix_list : IxR X (rIxL X.K) := by
  intro value slice pins s σ H x y v u Q I rx ry h hs
  obtain ⟨p, xs, i, z, rfl, rfl, hq, he, q⟩ := h
  cases rx
  obtain ⟨t, rfl⟩ := ry
  obtain ⟨its, r, pl, hz⟩ := I.list hq
  obtain ⟨j, h1, h2, h3, h4, h5⟩ := atI_get he
  obtain ⟨w, ew, rw'⟩ := r.get h2
  have hl := r.length
  have hn := line63
  have fin : EP X pins σ Q w s := ⟨z, H, I, rw', q⟩
  by_cases h0 : 0 ≤ i
  · have hj : i.toNat = j := by
      rw [seqIndex_of h0 h5] at h1
      exact Option.some.inj h1
    exact item_listR pl.isList h0 (by omega) (by rw [hj]; simpa using ew) fin hs
  · have hj : (i + (its.toArray.size : Int)).toNat = j := by
      rw [seqIndex_neg (by omega) h4] at h1
      rw [List.size_toArray, ← hl]
      exact Option.some.inj h1
    exact subscriptTail_builtinR (x := w) pl.isList.typeIs slot_list_getitem.lookup
      (wpAny_getItem_list_neg (Q := fun r s' => r = w ∧ EP X pins σ Q r s') pl.isList (by omega) (by rw [List.size_toArray] <;> omega) (by omega) (by rw [hj]; simpa using ew) ⟨rfl, fin⟩) hs
theorem ix_tup : IxR X (rIxT X.K) := by
  intro value slice pins s σ H x y v u Q I rx ry h hs
  obtain ⟨p, xs, i, z, rfl, rfl, hq, he, q⟩ := h
  cases rx
  obtain ⟨t, rfl⟩ := ry
  obtain ⟨its, r, pl, hz⟩ := I.tuple hq
  obtain ⟨j, h1, h2, h3, h4, h5⟩ := atI_get he
  obtain ⟨w, ew, rw'⟩ := r.get h2
  have hl := r.length
  have hn := line63
  have fin : EP X pins σ Q w s := ⟨z, H, I, rw', q⟩
  exact subscriptTail_builtinR (x := w) pl.typeIs slot_tuple_getitem.lookup
    (getItem_tuple (j := j) (Q := fun r s' => r = w ∧ EP X pins σ Q r s') pl (by omega) (by omega) (by rw [List.size_toArray, ← hl]; exact h1) (by simpa using ew) ⟨rfl, fin⟩) hs
theorem ix_str : IxR X rIxS := by
  intro value slice pins s σ H x y v u Q I rx ry h hs
  obtain ⟨z, i, c, rfl, rfl, hz, he, q⟩ := h
  obtain ⟨t, rfl⟩ := rx
  obtain ⟨t', rfl⟩ := ry
  obtain ⟨j, h1, h2, h3, h4, h5⟩ := atI_get he
  have hl : z.cps.toList.length = z.length := by simp [Str.length]
  rw [hl] at h1 h4 h5
  have hn := line63
  exact tail_any (typeIs_str s z t) slot_str_getitem.lookup (getItem_str (c := c) (by
    have e1 : decide (i < -(2 ^ 63 : Int)) = false := decide_eq_false (by omega)
    have e2 : decide (i ≥ 2 ^ 63) = false := decide_eq_false (by omega)
    rw [e1, e2, Bool.or_false]) (by rw [h1]; simpa using h2) ⟨.str ⟨#[c]⟩, H, I.tok _, ⟨_, rfl⟩, q⟩) hs
/-- list, tuple or str -/
def rIx (K : PySem.W.Frag) : R2 := fun x y H Q => rIxL K x y H Q ∨ rIxT K x y H Q ∨ rIxS x y H Q
theorem ix_seq : IxR X (rIx X.K) := ix_list.or (ix_tup.or ix_str)

/-! ### xs[i] = v, any sign -/
/-- the list's object behind a store -/
theorem mapSeq_set (its : List Value) (n j : Nat) (u : Value) : Obj.mapSeq (·.setIfInBounds j u) { cls := .type "list", data := .seq its.toArray n } = { cls := .type "list", data := .seq (its.set j u).toArray n } := by
  simp [Obj.mapSeq]
theorem Inv.lst {pins : List (Addr × Obj)} {σ : St} {H : Hp} {s : Shared} {p : Addr} {xs : List V} (I : Inv X pins σ H s) (h : H p = some (.lst xs)) :
    ∃ (its : List Value) (n : Nat), Vals xs its ∧ s.heap.get? p = some { cls := .type "list", data := .seq its.toArray n } ∧ xs.length ≤ sizeLine := by
  obtain ⟨z, its, n, r, e⟩ := I.hok p _ h
  exact ⟨its, n, r, e, z⟩
/-- the list at p is written by an update of its object -/
theorem Inv.lstUpd {pins : List (Addr × Obj)} {σ : St} {H : Hp} {s : Shared} {p : Addr} {xs ys : List V} {its its' : List Value} {n n' : Nat} {f : Obj → Obj} (I : Inv X pins σ H s) (h : H p = some (.lst xs))
    (ho : s.heap.get? p = some { cls := .type "list", data := .seq its.toArray n }) (hf : f { cls := .type "list", data := .seq its.toArray n } = { cls := .type "list", data := .seq its'.toArray n' }) (r : Vals ys its') (hz : ys.length ≤ sizeLine) (t : Nat) :
    Inv X pins σ (upd H p (.lst ys)) { s with heap := s.heap.update p f, toks := t } := by
  have e : (s.heap.update p f).get? p = some { cls := .type "list", data := .seq its'.toArray n' } := by
    rw [Heap.get?_update_self f ho (by rw [hf] <;> rfl), hf]
  refine I.write (x := p) (e := p) (by rw [h]; trivial) (.inl rfl) (fun b u hb q => (Heap.get?_update_other _ _ (Ne.symm hb)).trans q) ⟨_, e⟩ ?_
  exact ⟨hz, its', n', r, e⟩
def rSetL : V → V → V → Hp → (Hp → Prop) → Prop := fun o i v H Q => ∃ p xs k j, o = .ref p ∧ i = .int k ∧ H p = some (.lst xs) ∧ ixN xs.length k = some j ∧ Q (upd H p (.lst (xs.set j v)))
theorem set_list : PSet X rSetL := by
  intro pins s σ H o i v ov iv u Q I ro ri rv h
  obtain ⟨p, xs, k, j, rfl, rfl, hp, hj, q⟩ := h
  cases ro
  obtain ⟨t, rfl⟩ := ri
  obtain ⟨its, n, r, ho, hz⟩ := I.lst hp
  obtain ⟨h1, h2, h3, h4⟩ := ixN_seq hj
  have hl := r.length
  have hn := line63
  have I' : Inv X pins σ (upd H p (.lst (xs.set j v))) { s with heap := s.heap.update p (Obj.mapSeq (·.setIfInBounds j u)) } :=
    I.lstUpd hp ho (mapSeq_set its n j u) (r.set rv j) (by rw [List.length_set]; exact hz) s.toks
  by_cases h0 : 0 ≤ k
  · have hk : k.toNat = j := by
      rw [seqIndex_of h0 h4] at h1
      exact Option.some.inj h1
    exact PySem.W.ki_setAt ho h0 (by omega) (by rw [List.size_toArray, ← hl]; exact h4) (by rw [hk]; exact ⟨_, I', q⟩)
  · have hk : (k + (its.toArray.size : Int)).toNat = j := by
      rw [seqIndex_neg (by omega) h3] at h1
      rw [List.size_toArray, ← hl]
      exact Option.some.inj h1
    exact PySem.W.ki_setBack ho (by omega) (by rw [List.size_toArray, ← hl]; exact h3) (by omega) (by rw [hk]; exact ⟨_, I', q⟩)

/-! ### slices -/
theorem slice_bounds (lo hi : Option Int) (n : Nat) : (sliceBounds lo hi none n).1 = ((HT.sIx n 0 lo : Nat) : Int) ∧ (sliceBounds lo hi none n).2.1 = ((HT.sIx n n hi : Nat) : Int) ∧ (sliceBounds lo hi none n).2.2 = 1 := by
  refine ⟨?_, ?_, rfl⟩
  · cases lo with
    | none => simp [sliceBounds, HT.sIx]
    | some i =>
      simp only [sliceBounds, HT.sIx, Option.getD_none, show (1 : Int) > 0 by decide, if_true]
      by_cases h : i < 0
      · simp only [h, if_true] <;> omega
      · simp only [h, if_false] <;> omega
  · cases hi with
    | none => simp [sliceBounds, HT.sIx]
    | some i =>
      simp only [sliceBounds, HT.sIx, Option.getD_none, show (1 : Int) > 0 by decide, if_true]
      by_cases h : i < 0
      · simp only [h, if_true] <;> omega
      · simp only [h, if_false] <;> omega
theorem slicePick_cut (its : List Value) (lo hi : Option Int) : slicePick its.toArray lo hi none = ((its.drop (HT.sIx its.length 0 lo)).take (HT.sIx its.length its.length hi - HT.sIx its.length 0 lo)).toArray := by
  obtain ⟨h1, h2, h3⟩ := slice_bounds lo hi its.toArray.size
  unfold slicePick
  rw [h1, h2, h3]
  simp only [sliceRange_one, pick_run, List.size_toArray] <;> rfl
/-- xs[lo:hi] of a list: a new list -/
def rSlL (K : PySem.W.Frag) : V → Option Int → Option Int → Hp → VK → Prop := fun x lo hi H Q => ∃ a xs, x = .ref a ∧ SqL K H a xs ∧ ∀ p, H p = none → Q (.ref p) (upd H p (.lst (cutV xs lo hi)))
theorem sl_list : SlR X (rSlL X.K) := by
  intro pins s σ H x v vl vu lo hi sl Q I rx hs pl pu h
  obtain ⟨a, xs, rfl, hx, q⟩ := h
  cases rx
  obtain ⟨its, r, ht, hz⟩ := I.list hx
  have hlen := r.length
  refine ⟨"list", _, slot_list_getitem.lookup, ht.isList.typeIs, ?_⟩
  refine wpAny_getItem_list_slice ht.isList hs pl pu .none (by simp) ?_ (by rw [List.size_toArray] <;> omega)
  rw [slicePick_cut, ← hlen]
  refine ⟨.ref s.heap.objs.size, _, I.laid (t' := s.toks) (o := .lst (cutV xs lo hi)) (fun b ob q => Heap.get?_push_of_some _ q) (Nat.le_refl _) ?_, rfl, q _ (I.hok.fresh (Nat.le_refl _))⟩
  exact ⟨Nat.le_trans (cutV_length xs lo hi) hz, _, 0, (r.drop (HT.sIx xs.length 0 lo)).take (HT.sIx xs.length xs.length hi - HT.sIx xs.length 0 lo), Heap.get?_push_size _ rfl⟩

/-! ### in, not in: flat items -/
def flatV : V → Bool
  | .non => true
  | .bl _ => true
  | .int _ => true
  | .str _ => true
  | _ => false
/-- == of flat values -/
def eqV : V → V → Bool
  | .non, .non => true
  | .bl a, .bl b => a == b
  | .bl a, .int b => (if a then 1 else 0) == b
  | .int a, .bl b => a == (if b then 1 else 0)
  | .int a, .int b => a == b
  | .str a, .str b => a == b
  | _, _ => false
theorem eqAt_V {A : Around} {s : Shared} {y x : V} {u v : Value} (ry : RelV y u) (rx : RelV x v) (fy : flatV y = true) (fx : flatV x = true) : SeqAt.EqAt A s u v (eqV y x) := by
  cases y with
  | non =>
    cases ry
    cases x with
    | non => cases rx; exact SeqAt.EqAt.same _
    | bl b => cases rx; exact SeqAt.EqAt.none_bool b
    | int b => obtain ⟨t, rfl⟩ := rx; exact SeqAt.EqAt.none_int b t
    | str b => obtain ⟨t, rfl⟩ := rx; exact SeqAt.EqAt.none_str b t
    | _ => exact absurd (show false = true from fx) Bool.false_ne_true
  | bl a =>
    cases ry
    cases x with
    | non => cases rx; exact SeqAt.EqAt.bool_none a
    | bl b => cases rx; exact SeqAt.EqAt.bool_bool a b
    | int b => obtain ⟨t, rfl⟩ := rx; exact SeqAt.EqAt.bool_int a b t
    | str b => obtain ⟨t, rfl⟩ := rx; exact SeqAt.EqAt.bool_str a b t
    | _ => exact absurd (show false = true from fx) Bool.false_ne_true
  | int a =>
    obtain ⟨t', rfl⟩ := ry
    cases x with
    | non => cases rx; exact SeqAt.EqAt.int_none a t'
    | bl b => cases rx; exact SeqAt.EqAt.int_bool a t' b
    | int b => obtain ⟨t, rfl⟩ := rx; exact SeqAt.EqAt.int_int a t' b t
    | str b => obtain ⟨t, rfl⟩ := rx; exact SeqAt.EqAt.int_str a t' b t
    | _ => exact absurd (show false = true from fx) Bool.false_ne_true
  | str a =>
    obtain ⟨t', rfl⟩ := ry
    cases x with
    | non => cases rx; exact SeqAt.EqAt.str_none a t'
    | bl b => cases rx; exact SeqAt.EqAt.str_bool a t' b
    | int b => obtain ⟨t, rfl⟩ := rx; exact SeqAt.EqAt.str_int a t' b t
    | str b => obtain ⟨t, rfl⟩ := rx; exact SeqAt.EqAt.str_str a t' b t
    | _ => exact absurd (show false = true from fx) Bool.false_ne_true
  | _ => exact absurd (show false = true from fy) Bool.false_ne_true
/-- the items' answers, read off the values (a value's own answer does not lean on its token) -/
def eqU (x : V) (u : Value) : Bool := match u with
  | .none => eqV .non x
  | .bool b => eqV (.bl b) x
  | .int i _ => eqV (.int i) x
  | .str z _ => eqV (.str z) x
  | _ => false
theorem eqU_of {x y : V} {u : Value} (r : RelV y u) (f : flatV y = true) : eqU x u = eqV y x := by
  cases y with
  | non => cases r; rfl
  | bl b => cases r; rfl
  | int i => obtain ⟨t, rfl⟩ := r; rfl
  | str z => obtain ⟨t, rfl⟩ := r; rfl
  | _ => exact absurd (show false = true from f) Bool.false_ne_true
theorem any_eqU {x : V} : ∀ {xs : List V} {us : List Value}, Vals xs us → xs.all flatV = true → us.any (eqU x) = xs.any fun y => eqV y x
  | _, _, .nil, _ => rfl
  | y :: xs, u :: us, .cons r t, f => by
    rw [List.all_cons, Bool.and_eq_true] at f
    rw [List.any_cons, List.any_cons, eqU_of r f.1, any_eqU t f.2]
theorem mem_eqAt {A : Around} {s : Shared} {x : V} {v : Value} (rx : RelV x v) (fx : flatV x = true) : ∀ {xs : List V} {us : List Value}, Vals xs us → xs.all flatV = true → ∀ u ∈ us, SeqAt.EqAt A s u v (eqU x u)
  | _, _, .nil, _ => fun u hu => by cases hu
  | y :: xs, u :: us, .cons r t, f => fun u' hu => by
    rw [List.all_cons, Bool.and_eq_true] at f
    rcases List.mem_cons.mp hu with rfl | hu
    · rw [eqU_of r f.1]; exact eqAt_V r rx f.1 fx
    · exact mem_eqAt rx fx t f.2 u' hu
def inV (x : V) (xs : List V) : Bool := xs.any fun y => eqV y x
/-- x in a list or tuple of flat items -/
def rIn (K : PySem.W.Frag) (neg : Bool) : R2 := fun x y H Q => ∃ p xs, y = .ref p ∧ (SqL K H p xs ∨ SqT K H p xs) ∧ flatV x = true ∧ xs.all flatV = true ∧ Q (.bl (if neg then !inV x xs else inV x xs)) H
theorem op_in_seq : OpR X (compareOp .In) (rIn X.K false) := by
  intro pins s σ H x y v u Q I rx ry h
  obtain ⟨p, xs, rfl, hq, fx, fs, q⟩ := h
  cases ry
  rcases hq with hq | hq
  · obtain ⟨its, r, pl, hz⟩ := I.list hq
    refine SeqAt.in_listAt (eqU x) pl.isList (fun w hw => mem_eqAt rx fx r fs w (by simpa using hw)) ⟨.bl _, H, I, rfl, ?_⟩
    rw [show its.toArray.any (eqU x) = its.any (eqU x) by simp, any_eqU r fs]
    exact q
  · obtain ⟨its, r, pl, hz⟩ := I.tuple hq
    refine SeqAt.in_tupleAt (eqU x) pl (fun w hw => mem_eqAt rx fx r fs w (by simpa using hw)) ⟨.bl _, H, I, rfl, ?_⟩
    rw [show its.toArray.any (eqU x) = its.any (eqU x) by simp, any_eqU r fs]
    exact q
theorem op_notIn_seq : OpR X (compareOp .NotIn) (rIn X.K true) := by
  intro pins s σ H x y v u Q I rx ry h
  obtain ⟨p, xs, rfl, hq, fx, fs, q⟩ := h
  cases ry
  rcases hq with hq | hq
  · obtain ⟨its, r, pl, hz⟩ := I.list hq
    refine SeqAt.notIn_listAt (eqU x) pl.isList (fun w hw => mem_eqAt rx fx r fs w (by simpa using hw)) ⟨.bl _, H, I, rfl, ?_⟩
    rw [show its.toArray.any (eqU x) = its.any (eqU x) by simp, any_eqU r fs]
    exact q
  · obtain ⟨its, r, pl, hz⟩ := I.tuple hq
    refine SeqAt.notIn_tupleAt (eqU x) pl (fun w hw => mem_eqAt rx fx r fs w (by simpa using hw)) ⟨.bl _, H, I, rfl, ?_⟩
    rw [show its.toArray.any (eqU x) = its.any (eqU x) by simp, any_eqU r fs]
    exact q
theorem op_notIn_str : OpR X (compareOp .NotIn) (fun x y H Q => ∃ i j, x = .str i ∧ y = .str j ∧ Q (.bl (!(!(Builtin.Str.occurrences j i 0 j.length 1).isEmpty))) H) := by
  intro pins s σ H x y v u Q I rx ry h
  obtain ⟨i, j, rfl, rfl, q⟩ := h
  obtain ⟨t, rfl⟩ := rx
  obtain ⟨t', rfl⟩ := ry
  exact notIn_str ⟨.bl _, H, I, rfl, q⟩

/-! ### len, list(x), tuple(x) of any list or tuple that is read -/
theorem call_len_seq : CallR X (.builtin "len") (fun xs H Q => ∃ p ys, xs = [.ref p] ∧ (SqL X.K H p ys ∨ SqT X.K H p ys) ∧ Q (.int ys.length) H) := by
  intro pins s σ H xs us Q I r h
  obtain ⟨p, ys, rfl, hq, q⟩ := h
  obtain ⟨u, rfl, rx⟩ := vals1 r
  cases rx
  have hn := line63
  rcases hq with hq | hq
  · obtain ⟨its, r', pl, hz⟩ := I.list hq
    have hlen := r'.length
    exact Calls.call_len_list pl.isList (by simp only [List.size_toArray] <;> omega) ⟨.int ys.length, H, I.tok _, ⟨s.toks + 1, by rw [List.size_toArray, hlen]⟩, q⟩
  · obtain ⟨its, r', pl, hz⟩ := I.tuple hq
    have hlen := r'.length
    exact len_tuple pl (by simp only [List.size_toArray] <;> omega) ⟨.int ys.length, H, I.tok _, ⟨s.toks + 1, by rw [List.size_toArray, hlen]⟩, q⟩
theorem call_len_str : CallR X (.builtin "len") (fun xs H Q => ∃ z, xs = [.str z] ∧ z.length ≤ sizeLine ∧ Q (.int z.length) H) := by
  intro pins s σ H xs us Q I r h
  obtain ⟨z, rfl, hz, q⟩ := h
  obtain ⟨u, rfl, t, rfl⟩ := vals1 r
  have hn := line63
  exact len_str (by omega) ⟨.int z.length, H, I.tok _, ⟨_, rfl⟩, q⟩
theorem CallR.or {f : Value} {r r' : List V → Hp → VK → Prop} (h : CallR X f r) (h' : CallR X f r') : CallR X f (fun xs H Q => r xs H Q ∨ r' xs H Q) := by
  intro pins s σ H xs us Q I rs q
  rcases q with q | q
  · exact h pins s σ H xs us Q I rs q
  · exact h' pins s σ H xs us Q I rs q
theorem call_list_of : CallR X (.type "list") (fun xs H Q => ∃ p ys, xs = [.ref p] ∧ (SqL X.K H p ys ∨ SqT X.K H p ys) ∧ ∀ l, H l = none → Q (.ref l) (upd H l (.lst ys))) := by
  intro pins s σ H xs us Q I r h
  obtain ⟨p, ys, rfl, hq, q⟩ := h
  obtain ⟨u, rfl, rx⟩ := vals1 r
  cases rx
  have fin : ∀ (its : List Value), Vals ys its → ys.length ≤ sizeLine → ∀ (h' : Heap) (c' : Nat), (∀ b o', s.heap.get? b = some o' → h'.get? b = some o') →
      h'.get? s.heap.objs.size = some { cls := .type "list", dict := none, data := .seq its.toArray c', slots := #[] } → EP X pins σ Q (.ref s.heap.objs.size) { s with heap := h' } := fun its r' hz h' c' kp e =>
    ⟨.ref s.heap.objs.size, _, I.laid (t' := s.toks) kp (Nat.le_refl _) (show ObjOk X.prog X.w _ h' _ (.lst ys) from ⟨hz, its, c', r', e⟩), rfl, q _ (I.hok.fresh (Nat.le_refl _))⟩
  rcases hq with hq | hq
  · obtain ⟨its, r', pl, hz⟩ := I.list hq
    have hlen := r'.length
    obtain ⟨o, ho, hc, n, hd⟩ := pl.isList
    exact call_list_seq p (.inl rfl) ho hc hd (fun h' c' kp e => fin its r' hz h' c' kp e) (by simp only [List.size_toArray] <;> omega)
  · obtain ⟨its, r', pl, hz⟩ := I.tuple hq
    have hlen := r'.length
    obtain ⟨o, ho, hc, n, hd⟩ := pl
    exact call_list_seq p (.inr rfl) ho hc hd (fun h' c' kp e => fin its r' hz h' c' kp e) (by simp only [List.size_toArray] <;> omega)
theorem call_tuple_of : CallR X (.type "tuple") (fun xs H Q => ∃ p ys, xs = [.ref p] ∧ ((SqL X.K H p ys ∧ ∀ l, H l = none → Q (.ref l) (upd H l (.tup ys))) ∨ (SqT X.K H p ys ∧ Q (.ref p) H))) := by
  intro pins s σ H xs us Q I r h
  obtain ⟨p, ys, rfl, h⟩ := h
  obtain ⟨u, rfl, rx⟩ := vals1 r
  cases rx
  rcases h with ⟨hq, q⟩ | ⟨hq, q⟩
  · obtain ⟨its, r', pl, hz⟩ := I.list hq
    have hlen := r'.length
    refine call_tuple_list pl.isList (fun h' kp => ?_) (by simp only [List.size_toArray] <;> omega)
    have I1 : Inv X pins σ H { s with heap := h' } := I.kept (t' := s.toks) kp
    have I2 : Inv X pins σ (upd H h'.objs.size (.tup ys)) { s with heap := h'.push { cls := .type "tuple", data := .seq its.toArray } } :=
      I1.laid (t' := s.toks) (fun b o e => Heap.get?_push_of_some _ e) (Nat.le_refl _) (show ObjOk X.prog X.w _ _ _ (.tup ys) from ⟨hz, its, r', IsTup.new _ _⟩)
    exact ⟨.ref h'.objs.size, _, I2, rfl, q _ (I1.hok.fresh (Nat.le_refl _))⟩
  · obtain ⟨its, r', pl, hz⟩ := I.tuple hq
    exact call_tuple_same pl ⟨.ref p, H, I, rfl, q⟩

/-! ### the call of a builtin's method: o.m(..) -/
/-- the value is of that builtin type -/
def tyV (K : PySem.W.Frag) (T : String) (x : V) (H : Hp) : Prop := match x with
  | .str _ => T = "str"
  | .int _ => T = "int"
  | .ref p => (T = "list" ∧ ∃ xs, SqL K H p xs) ∨ (T = "tuple" ∧ ∃ o, K.lookup p = some o ∧ o.cls = .type "tuple" ∧ o.dict = none) ∨
      (T = "dict" ∧ ((∃ kvs, H p = some (.dK kvs)) ∨ ∃ kvs, H p = some (.dT kvs))) ∨ (T = "set" ∧ ∃ S n, H p = some (.set S n))
  | _ => False
theorem tyV_is {pins : List (Addr × Obj)} {σ : St} {H : Hp} {s : Shared} {T : String} {x : V} {v : Value} (I : Inv X pins σ H s) (r : RelV x v) (ty : tyV X.K T x H) :
    s.TypeIs v T ∧ ∀ a, v = .ref a → ∃ ob, s.heap.get? a = some ob ∧ ob.dict = none := by
  cases x with
  | str z =>
    obtain ⟨t, rfl⟩ := r
    cases (show T = "str" from ty)
    exact ⟨typeIs_str s z t, fun _ e => nomatch e⟩
  | int i =>
    obtain ⟨t, rfl⟩ := r
    cases (show T = "int" from ty)
    exact ⟨typeIs_int s i t, fun _ e => nomatch e⟩
  | ref p =>
    cases r
    rcases ty with ⟨rfl, xs, hq⟩ | ⟨rfl, o, hk, hc, hd⟩ | ⟨rfl, hk⟩ | ⟨rfl, S, n, hk⟩
    · obtain ⟨its, _, pl, _⟩ := I.list hq
      refine ⟨pl.isList.typeIs, fun a e => ?_⟩
      cases e
      obtain ⟨o, n, e, c, hd, _⟩ := pl
      exact ⟨o, e, hd⟩
    · refine ⟨⟨o, I.kIn p o hk, hc⟩, fun a e => ?_⟩
      cases e
      exact ⟨o, I.kIn _ o hk, hd⟩
    · have z : ∃ o, s.heap.get? p = some o ∧ o.ExactDict := by
        rcases hk with ⟨kvs, hk⟩ | ⟨kvs, hk⟩
        · obtain ⟨_, _, _, _, o, _, _, e, ex, _⟩ := I.hok p _ hk
          exact ⟨o, e, ex⟩
        · obtain ⟨_, _, _, _, o, _, _, e, ex, _⟩ := I.hok p _ hk
          exact ⟨o, e, ex⟩
      obtain ⟨o, e, ex⟩ := z
      refine ⟨⟨o, e, ex.1⟩, fun a e2 => ?_⟩
      cases e2
      exact ⟨o, e, ex.2.1⟩
    · obtain ⟨o, _, _, _, e, ex, _⟩ := I.hok p _ hk
      refine ⟨⟨o, e, ex.1⟩, fun a e2 => ?_⟩
      cases e2
      exact ⟨o, e, ex.2.1⟩
  | _ => exact False.elim ty
def tBM0 (K : PySem.W.Frag) (T : String) (r : V → List V → Hp → VK → Prop) (to : TE) : TE := fun σ H Q => to σ H fun x H1 => tyV K T x H1 ∧ r x [] H1 Q
def tBM (K : PySem.W.Frag) (T : String) (r : V → List V → Hp → VK → Prop) (to : TE) (t : TA) : TE := fun σ H Q => to σ H fun x H1 => tyV K T x H1 ∧ t σ H1 fun xs H2 => r x xs H2 Q
variable {o e : Expr} {es : List Expr} {to : TE} {t : TA} {name : Str} {apos cpos : Pos} {T id : String} {r : V → List V → Hp → VK → Prop}
theorem pe_bm0 (pa : PlainAttrs T) (slot : Slot T name id) (hty : typeOf (.builtin id) = pure (.type "method_descriptor")) (hm : MtR X id r) (ho : PE X o to)
    (hbase : attributeBase o name X.env (eval o X.env) = eval o X.env := by rfl) (hline : (apos.endLine == cpos.line) = true := by rfl) : PE X (.Call (.Attribute o name apos) [] [] cpos) (tBM0 X.K T r to) := by
  intro pins s σ H Q I h
  refine wpAny_Call_method0_late hbase hline (thn (ho pins s σ H _ I h) fun v s1 ⟨x, H1, I1, r1, ty, q1⟩ => ?_)
  obtain ⟨h1, h2⟩ := tyV_is I1 r1 ty
  exact ⟨T, id, pa, slot, hty, h1, h2, Calls.callWith_builtin rfl (PySem.evalArgs_none (hm pins s1 σ H1 x [] v [] Q I1 r1 .nil q1))⟩
theorem pe_bm (pa : PlainAttrs T) (slot : Slot T name id) (hty : typeOf (.builtin id) = pure (.type "method_descriptor")) (hm : MtR X id r) (ho : PE X o to) (ha : PA X (e :: es) t)
    (hbase : attributeBase o name X.env (eval o X.env) = eval o X.env := by rfl)
    (hfew : ((backTo cpos (starEach (e :: es) X.env)).all (fun x => !x.1) && (backToKw cpos (keywordEach [] X.env)).all (fun x => x.1.isSome)
      && decide ((e :: es).length + ([] : List Keyword).length + (if ([] : List Keyword).isEmpty then 0 else 1) < 30)) = true := by rfl)
    (hline : (apos.endLine == cpos.line) = true := by rfl) (hs : starEach (e :: es) X.env = (false, eval e X.env) :: starEach es X.env := by rfl) (hplain : (backTo cpos (starEach es X.env)).any (·.1) = false := by rfl) :
    PE X (.Call (.Attribute o name apos) (e :: es) [] cpos) (tBM X.K T r to t) := by
  intro pins s σ H Q I h
  refine wpAny_Call_method_late hbase hfew hline rfl (thn (ho pins s σ H _ I h) fun v s1 ⟨x, H1, I1, r1, ty, q1⟩ => ?_)
  obtain ⟨h1, h2⟩ := tyV_is I1 r1 ty
  refine ⟨T, id, pa, slot, hty, h1, h2, ?_⟩
  have hA := ha cpos pins s1 σ H1 _ I1 q1
  rw [hs] at hA ⊢
  refine Calls.callWith_builtin (by show (false || (backTo cpos (starEach es X.env)).any (·.1)) = false; rw [hplain] <;> rfl) (Calls.evalArgs_plain ?_)
  exact thn hA fun us s2 ⟨vs, H2, I2, r2, q2⟩ => hm pins s2 σ H2 x vs v us Q I2 r1 r2 q2
/- xs.append(e), list.index on a module's tuple .. are MtR facts of 06m -/
end
end L2

namespace L2
open PySem PySem.Spec PyProof.Rows

def MtM (X : Cx) (id : String) (r : V → List V → Hp → VK → Prop) : Prop :=
  ∀ (pins : List (Addr × Obj)) (s : Shared) (σ : St) (H : Hp) (x : V) (xs : List V) (v : Value) (us : List Value) (Q : VK), Inv X pins σ H s → RelV x v → Vals xs us → r x xs H Q →
    wpAny (model X.prog X.w) X.A (call (.builtin id) (v :: us)) (EP X pins σ Q) X.xe s

/-! ### lists of values -/
theorem Vals.one : ∀ {x : V} {us : List Value}, Vals [x] us → ∃ u, us = [u] ∧ RelV x u
  | _, _, .cons r .nil => ⟨_, rfl, r⟩
theorem Vals.two : ∀ {x y : V} {us : List Value}, Vals [x, y] us → ∃ u v, us = [u, v] ∧ RelV x u ∧ RelV y v
  | _, _, _, .cons r (.cons q .nil) => ⟨_, _, rfl, r, q⟩
theorem Vals.zero : ∀ {us : List Value}, Vals [] us → us = []
  | _, .nil => rfl
theorem Vals.dropLast {xs : List V} {us : List Value} (h : Vals xs us) : Vals xs.dropLast us.dropLast := by
  induction h with
  | nil => exact .nil
  | cons r t ih =>
    cases t with
    | nil => exact .nil
    | cons q t' => exact .cons r ih
theorem Vals.eraseIdx : ∀ {xs : List V} {us : List Value} (i : Nat), Vals xs us → Vals (xs.eraseIdx i) (us.eraseIdx i)
  | _, _, _, .nil => .nil
  | _, _, 0, .cons _ t => t
  | _, _, i + 1, .cons r t => .cons r (Vals.eraseIdx i t)
theorem Vals.reverse {xs : List V} {us : List Value} (h : Vals xs us) : Vals xs.reverse us.reverse := by
  induction h with
  | nil => exact .nil
  | cons r t ih => rw [List.reverse_cons, List.reverse_cons]; exact Vals.append ih (.cons r .nil)
theorem Vals.rep {xs : List V} {us : List Value} (h : Vals xs us) : ∀ k : Nat, Vals (List.replicate k xs).flatten (List.replicate k us).flatten
  | 0 => .nil
  | k + 1 => by
    rw [List.replicate_succ, List.replicate_succ, List.flatten_cons, List.flatten_cons]
    exact Vals.append h (Vals.rep h k)
theorem erase_last {α : Type} (l : List α) : l.eraseIdx (l.length - 1) = l.dropLast := by
  induction l with
  | nil => rfl
  | cons a r ih =>
    cases r with
    | nil => rfl
    | cons b r =>
      have e : (a :: b :: r).length - 1 = ((b :: r).length - 1) + 1 := by
        have h1 : (a :: b :: r).length = r.length + 2 := rfl
        have h2 : (b :: r).length = r.length + 1 := rfl
        omega
      rw [e, List.eraseIdx_cons_succ, ih]
      all_goals rfl
theorem len_erase {α : Type} : ∀ (l : List α) (i : Nat), (l.eraseIdx i).length ≤ l.length
  | [], _ => Nat.le_refl _
  | _ :: _, 0 => Nat.le_succ _
  | _ :: r, i + 1 => Nat.succ_le_succ (len_erase r i)
theorem foldl_rep (its : List Value) : ∀ (k : Nat) (acc : List Value),
    List.foldl (fun x1 x2 => x1 ++ x2) acc.toArray (List.replicate k its.toArray) = (acc ++ (List.replicate k its).flatten).toArray
  | 0, acc => by simp
  | k + 1, acc => by
    have e : acc.toArray ++ its.toArray = (acc ++ its).toArray := by simp
    have e2 : (acc ++ its) ++ (List.replicate k its).flatten = acc ++ (List.replicate (k + 1) its).flatten := by
      rw [List.replicate_succ, List.flatten_cons, List.append_assoc]
    rw [← e2, ← foldl_rep its k (acc ++ its), ← e, List.replicate_succ, List.foldl_cons]

section
variable {X : Cx} {pins : List (Addr × Obj)} {σ : St} {H : Hp} {s : Shared} {l b : Addr} {xs ys zs : List V}

/-! ### the two steps: a tracked list is rewritten, a new list is laid -/
theorem Inv.lset {its its' : List Value} {n : Nat} {f : Array Value → Array Value} {t' : Nat} (I : Inv X pins σ H s) (hH : H l = some (.lst xs))
    (e : s.heap.get? l = some { cls := .type "list", data := .seq its.toArray n }) (hf : f its.toArray = its'.toArray) (hv : Vals ys its') (hz : ys.length ≤ sizeLine) :
    Inv X pins σ (upd H l (.lst ys)) { s with heap := s.heap.update l (Obj.mapSeq f), toks := t' } := by
  have q := PySem.IsL.update e f
  rw [hf] at q
  refine I.write (x := l) (e := l) (by rw [hH]; exact trivial) (.inl rfl) (fun b' u hb hu => (Heap.get?_update_other s.heap (Obj.mapSeq f) (Ne.symm hb)).trans hu) ⟨_, q⟩ ?_
  exact ⟨hz, its', _, hv, q⟩
theorem Inv.lnew {its : List Value} {t' : Nat} (I : Inv X pins σ H s) (hv : Vals ys its) (hz : ys.length ≤ sizeLine) :
    Inv X pins σ (upd H s.heap.objs.size (.lst ys)) { s with heap := s.heap.push { cls := .type "list", data := .seq its.toArray }, toks := t' } :=
  I.laid (fun _ _ q => Heap.get?_push_of_some _ q) (Nat.le_refl _) ⟨hz, its, 0, hv, Heap.get?_push_size _ rfl⟩
theorem Inv.fresh (I : Inv X pins σ H s) : H s.heap.objs.size = none := I.hok.fresh (Nat.le_refl _)
theorem Inv.lstM (I : Inv X pins σ H s) (hH : H l = some (.lst xs)) : xs.length ≤ sizeLine ∧ ∃ (its : List Value) (n : Nat), Vals xs its ∧ xs.length = its.length ∧ s.heap.get? l = some { cls := .type "list", data := .seq its.toArray n } := by
  obtain ⟨z, its, n, r, e⟩ := I.hok l _ hH
  exact ⟨z, its, n, r, r.length, e⟩

theorem notLongL {n : Nat} (h : n ≤ sizeLine) : Builtin.List.listTooLong n = false := by
  unfold Builtin.List.listTooLong
  exact decide_eq_false (by omega)
end

section
variable {X : Cx}

/-! ### methods -/
def rAppend : V → List V → Hp → VK → Prop := fun x vs H Q => ∃ l xs y, x = .ref l ∧ vs = [y] ∧ H l = some (.lst xs) ∧ xs.length < sizeLine ∧ Q .non (upd H l (.lst (xs ++ [y])))
theorem mt_append : MtM X "list.append" rAppend := by
  intro pins s σ H x vs v us Q I rx rv h
  obtain ⟨l, xs, y, rfl, rfl, hH, hz, q⟩ := h
  cases rx
  obtain ⟨u, rfl, ru⟩ := rv.one
  obtain ⟨z, its, n, r, hl, e⟩ := I.lstM hH
  refine call_meets F.slot_list_append ⟨_, e, rfl⟩ F.entry_list_append (F.args_list_append_2 _ _) (PySem.list_append l its.toArray n u (by rw [List.size_toArray]; omega)) ⟨e, ?_⟩
  refine ⟨.non, _, I.lset (its' := its ++ [u]) hH e (by simp) (r.append (.cons ru .nil)) ?_, rfl, q⟩
  rw [List.length_append, List.length_singleton]
  omega

def rExtend : V → List V → Hp → VK → Prop := fun x vs H Q => ∃ l b xs zs, x = .ref l ∧ vs = [.ref b] ∧ H l = some (.lst xs) ∧ H b = some (.lst zs) ∧ xs.length + zs.length ≤ sizeLine ∧ Q .non (upd H l (.lst (xs ++ zs)))
theorem mt_extend : MtM X "list.extend" rExtend := by
  intro pins s σ H x vs v us Q I rx rv h
  obtain ⟨l, b, xs, zs, rfl, rfl, hH, hB, hz, q⟩ := h
  cases rx
  obtain ⟨u, rfl, ru⟩ := rv.one
  cases ru
  obtain ⟨z, its, n, r, hl, e⟩ := I.lstM hH
  obtain ⟨z2, its2, n2, r2, hl2, e2⟩ := I.lstM hB
  have hsz : its.toArray.size + its2.toArray.size ≤ sizeLine := by rw [List.size_toArray, List.size_toArray]; omega
  have hlong : ¬ (!its.toArray.isEmpty && Builtin.List.listTooLong (its.toArray.size + its2.toArray.size)) = true := by
    rw [notLongL hsz, Bool.and_false]
    exact Bool.false_ne_true
  refine call_meets F.slot_list_extend ⟨_, e, rfl⟩ F.entry_list_extend (F.args_list_extend_2 _ _)
    (AutoSeq1.list_extend_list_list_0 l its.toArray n b its2.toArray n2 hlong (by rw [List.size_toArray]; omega) (by omega)) ⟨e, e2, ?_⟩
  refine ⟨.non, _, I.lset (its' := its ++ its2) hH e (by simp) (r.append r2) ?_, rfl, q⟩
  rw [List.length_append]
  omega

def rPop : V → List V → Hp → VK → Prop := fun x vs H Q => ∃ l xs y, x = .ref l ∧ vs = [] ∧ H l = some (.lst xs) ∧ xs[xs.length - 1]? = some y ∧ Q y (upd H l (.lst xs.dropLast))
theorem mt_pop : MtM X "list.pop" rPop := by
  intro pins s σ H x vs v us Q I rx rv h
  obtain ⟨l, xs, y, rfl, rfl, hH, hy, q⟩ := h
  cases rx
  have hus := rv.zero
  subst hus
  obtain ⟨z, its, n, r, hl, e⟩ := I.lstM hH
  obtain ⟨u, hu, ru⟩ := r.get hy
  have hy' : its.toArray[its.toArray.size - 1]? = some u := by
    show its.toArray[its.length - 1]? = some u
    rw [← Array.getElem?_toList, ← hl]
    exact hu
  refine call_meets F.slot_list_pop ⟨_, e, rfl⟩ F.entry_list_pop (F.args_list_pop_1 _) (MeetsSeq.list_pop_last l its.toArray n u hy' (by rw [List.size_toArray]; omega)) ⟨e, ?_⟩
  refine ⟨y, _, I.lset (its' := its.dropLast) hH e ?_ r.dropLast ?_, ru, q⟩
  · show its.toArray.eraseIdxIfInBounds (its.toArray.size - 1) = its.dropLast.toArray
    rw [List.size_toArray, List.eraseIdxIfInBounds_toArray, erase_last]
  · rw [List.length_dropLast]
    omega

def rPopAt : V → List V → Hp → VK → Prop := fun x vs H Q => ∃ l xs i k y, x = .ref l ∧ vs = [.int i] ∧ H l = some (.lst xs) ∧ -(2 ^ 63) ≤ i ∧ i < 2 ^ 63 ∧ seqIndex? i xs.length = some k ∧ xs[k]? = some y ∧ Q y (upd H l (.lst (xs.eraseIdx k)))
theorem mt_popAt : MtM X "list.pop" rPopAt := by
  intro pins s σ H x vs v us Q I rx rv h
  obtain ⟨l, xs, i, k, y, rfl, rfl, hH, h1, h2, hk, hy, q⟩ := h
  cases rx
  obtain ⟨u, rfl, ru⟩ := rv.one
  obtain ⟨t, rfl⟩ := ru
  obtain ⟨z, its, n, r, hl, e⟩ := I.lstM hH
  obtain ⟨w, hw, rw'⟩ := r.get hy
  refine call_meets F.slot_list_pop ⟨_, e, rfl⟩ F.entry_list_pop (F.args_list_pop_2 _ _)
    (MeetsSeq.list_pop_at l its.toArray n i t k w (fitsIndex_both h1 h2) (by rw [List.size_toArray, ← hl]; exact hk) (by rw [← Array.getElem?_toList]; exact hw) (by rw [List.size_toArray]; omega)) ⟨e, ?_⟩
  refine ⟨y, _, I.lset (its' := its.eraseIdx k) hH e ?_ (r.eraseIdx k) ?_, rw', q⟩
  · show its.toArray.eraseIdxIfInBounds k = (its.eraseIdx k).toArray
    rw [List.eraseIdxIfInBounds_toArray]
  · have := len_erase xs k
    omega

def rReverse : V → List V → Hp → VK → Prop := fun x vs H Q => ∃ l xs, x = .ref l ∧ vs = [] ∧ H l = some (.lst xs) ∧ Q .non (upd H l (.lst xs.reverse))
theorem mt_reverse : MtM X "list.reverse" rReverse := by
  intro pins s σ H x vs v us Q I rx rv h
  obtain ⟨l, xs, rfl, rfl, hH, q⟩ := h
  cases rx
  have hus := rv.zero
  subst hus
  obtain ⟨z, its, n, r, hl, e⟩ := I.lstM hH
  refine call_meets F.slot_list_reverse ⟨_, e, rfl⟩ F.entry_list_reverse (F.args_list_reverse_1 _) (AutoSeq1.list_reverse_list_0 l its.toArray n (by rw [List.size_toArray]; omega)) ⟨e, ?_⟩
  refine ⟨.non, _, I.lset (its' := its.reverse) hH e (by simp) r.reverse ?_, rfl, q⟩
  rw [List.length_reverse]
  omega

def rClear : V → List V → Hp → VK → Prop := fun x vs H Q => ∃ l xs, x = .ref l ∧ vs = [] ∧ H l = some (.lst xs) ∧ Q .non (upd H l (.lst []))
theorem mt_clear : MtM X "list.clear" rClear := by
  intro pins s σ H x vs v us Q I rx rv h
  obtain ⟨l, xs, rfl, rfl, hH, q⟩ := h
  cases rx
  have hus := rv.zero
  subst hus
  obtain ⟨z, its, n, r, hl, e⟩ := I.lstM hH
  refine call_meets F.slot_list_clear ⟨_, e, rfl⟩ F.entry_list_clear (F.args_list_clear_1 _) (AutoSeq1.list_clear_list_0 l its.toArray n (by rw [List.size_toArray]; omega)) ⟨e, ?_⟩
  exact ⟨.non, _, I.lset (its' := []) (ys := []) hH e rfl .nil (Nat.zero_le _), rfl, q⟩

/-! ### list + list, list += list, list * int -/
def rCat : R2 := fun x y H Q => ∃ l b xs zs, x = .ref l ∧ y = .ref b ∧ H l = some (.lst xs) ∧ H b = some (.lst zs) ∧ xs.length + zs.length ≤ sizeLine ∧ ∀ p, H p = none → Q (.ref p) (upd H p (.lst (xs ++ zs)))
theorem op_cat : OpR X (binaryOp .Add) rCat := by
  intro pins s σ H x y v u Q I rx ry h
  obtain ⟨l, b, xs, zs, rfl, rfl, hH, hB, hz, q⟩ := h
  cases rx
  cases ry
  obtain ⟨z, its, n, r, hl, e⟩ := I.lstM hH
  obtain ⟨z2, its2, n2, r2, hl2, e2⟩ := I.lstM hB
  refine PySem.P.add_list e e2 ?_ (by rw [List.size_toArray, List.size_toArray]; omega)
  have ea : its.toArray ++ its2.toArray = (its ++ its2).toArray := by simp
  rw [ea]
  exact ⟨.ref _, _, I.lnew (t' := s.toks) (r.append r2) (by rw [List.length_append]; omega), rfl, q _ I.fresh⟩
/-- a list times an int (a negative one is nothing) -/
def rRep : R2 := fun x y H Q => ∃ l k xs, x = .ref l ∧ y = .int k ∧ H l = some (.lst xs) ∧ -(2 ^ 63) ≤ k ∧ k < 2 ^ 63 ∧ xs.length * k.toNat ≤ sizeLine ∧
  ∀ p, H p = none → Q (.ref p) (upd H p (.lst (List.replicate k.toNat xs).flatten))
theorem len_rep {α : Type} (xs : List α) (k : Nat) : (List.replicate k xs).flatten.length = k * xs.length := by
  induction k with
  | zero => simp
  | succ k ih => rw [List.replicate_succ, List.flatten_cons, List.length_append, ih, Nat.succ_mul, Nat.add_comm]
theorem op_rep : OpR X (binaryOp .Mult) rRep := by
  intro pins s σ H x y v u Q I rx ry h
  obtain ⟨l, k, xs, rfl, rfl, hH, h1, h2, hz, q⟩ := h
  cases rx
  obtain ⟨t, rfl⟩ := ry
  obtain ⟨z, its, n, r, hl, e⟩ := I.lstM hH
  have hlen : its.toArray.size * k.toNat ≤ sizeLine := by rw [List.size_toArray, ← hl]; exact hz
  have hcap : ¬ its.toArray.size * k.toNat > (2 ^ 63 - 1) / 8 := by
    have : (sizeLine : Nat) ≤ (2 ^ 63 - 1) / 8 := by decide
    omega
  have hfit : ¬ (!Builtin.List.listFitsIndex k) = true := by
    rw [fitsIndex_both h1 h2]
    exact Bool.false_ne_true
  have hlong : ¬ Builtin.List.listTooLong (its.toArray.size * k.toNat) = true := by
    rw [notLongL hlen]
    exact Bool.false_ne_true
  have hnew : List.foldl (fun x1 x2 => x1 ++ x2) #[] (List.replicate (if its.toArray.isEmpty = true then 0 else k.toNat) its.toArray) = (List.replicate k.toNat its).flatten.toArray := by
    have f0 : ∀ m : Nat, List.foldl (fun x1 x2 => x1 ++ x2) #[] (List.replicate m its.toArray) = (List.replicate m its).flatten.toArray := fun m => by
      have := foldl_rep its m []
      rw [List.nil_append] at this
      exact this
    rw [f0]
    cases its with
    | nil => simp
    | cons a r' => rw [if_neg (by simp)]
  refine wpAny_binaryOp_repeat_ref (T := "list") (U := "int") (by decide) ⟨_, e, rfl⟩ (fun s' => typeIs_int s' k t) noFill_list_mul F.fills_int_mul F.slot_int_rmul repeat_list F.slot_int_index.lookup
    (call_meets F.slot_int_rmul (typeIs_int s k t) F.entry_int_rmul (F.args_int_rmul_2 _ _) (int___rmul___int_list k t l its.toArray n)
      ⟨e, rfl, ⟨_, e, rfl⟩, call_meets F.slot_list_mul ⟨_, e, rfl⟩ F.entry_list_mul (F.args_list_mul_2 _ _) (AutoListH.list___mul___list_int_3 l its.toArray n k t hfit hcap hlong) ⟨e, ?_⟩⟩)
  rw [hnew]
  exact ⟨.ref _, _, I.lnew (t' := s.toks) (r.rep k.toNat) (by rw [len_rep, Nat.mul_comm]; exact hz), rfl, q _ I.fresh⟩

/-! ### del xs[i] -/
theorem del_list {pins : List (Addr × Obj)} {s : Shared} {σ : St} {H : Hp} {l : Addr} {xs : List V} {i : Int} {t : Tok} {k : Nat} {Q : Unit → Shared → Prop} (I : Inv X pins σ H s) (hH : H l = some (.lst xs))
    (h1 : -(2 ^ 63) ≤ i) (h2 : i < 2 ^ 63) (hk : seqIndex? i xs.length = some k) (h : ∀ s', Inv X pins σ (upd H l (.lst (xs.eraseIdx k))) s' → Q () s') :
    wpAny (model X.prog X.w) X.A (delItem (.ref l) (.int i t)) Q X.xe s := by
  obtain ⟨z, its, n, r, hl, e⟩ := I.lstM hH
  refine PySem.P.delItem_list (k := k) e (fitsIndex_both h1 h2) (by rw [List.size_toArray, ← hl]; exact hk) (h _ ?_) (by rw [List.size_toArray]; omega)
  refine I.lset (its' := its.eraseIdx k) (t' := s.toks) hH e ?_ (r.eraseIdx k) ?_
  · show its.toArray.eraseIdxIfInBounds k = (its.eraseIdx k).toArray
    rw [List.eraseIdxIfInBounds_toArray]
  · have := len_erase xs k
    omega
end

/-! ### xs[a:b] = ys -/
section
variable {prog : Program} {w : World} {A : Around} {E : Value → Shared → Prop} {s : Shared}
theorem splice_eq (its its2 : List Value) (a c : Nat) : its.toArray.extract 0 a ++ its2.toArray ++ its.toArray.extract c its.toArray.size = (its.take a ++ its2 ++ its.drop c).toArray := by
  apply Array.toList_inj.mp
  first
    | (simp
       exact List.take_of_length_le (by simp))
    | simp [List.take_of_length_le]
    | simp
theorem bounds_run {a c n : Nat} (hac : a ≤ c) (hc : c ≤ n) : sliceBounds (some (a : Int)) (some (c : Int)) none n = ((a : Int), (c : Int), 1) := by
  simp only [sliceBounds, Option.getD_none]
  have h1 : ¬ ((a : Int) < 0) := by omega
  have h2 : ¬ ((c : Int) < 0) := by omega
  simp only [h1, h2, if_false, show (1 : Int) > 0 by decide, if_true]
  congr 1
  · omega
  · congr 1; omega
set_option maxRecDepth 100000 in
/-- list.__setitem__ with a slice of step one and another list -/
theorem setItem_slice {l b sl : Addr} {items new : Array Value} {n n2 : Nat} {vl vu : Value} {a c : Nat} {Q : Unit → Shared → Prop}
    (e : s.heap.get? l = some { cls := .type "list", data := .seq items n }) (e2 : s.heap.get? b = some { cls := .type "list", data := .seq new n2 }) (hne : l ≠ b)
    (hs : s.heap.IsSliceOf sl vl vu .none) (pl : IsPart vl (some (a : Int))) (pu : IsPart vu (some (c : Int))) (hac : a ≤ c) (hc : c ≤ items.size)
    (hsz : items.size + new.size ≤ sizeLine) (h : Q () { s with heap := s.heap.update l (Obj.mapSeq fun xs => xs.extract 0 a ++ new ++ xs.extract c xs.size) }) :
    wpAny (model prog w) A (setItem (.ref l) (.ref sl) (.ref b)) Q E s := by
  have hl : s.heap.IsList l items := PySem.IsL.isList e
  have hb : s.heap.IsList b new := PySem.IsL.isList e2
  obtain ⟨os, hos, hcs, hds⟩ := id hs
  have hTs : s.TypeIs (.ref sl) "slice" := ⟨os, hos, hcs⟩
  have hstep : ¬ ((rawPart none == rawInt 0) = true) := Bool.false_ne_true
  have hsame : Builtin.List.listSameRef (.ref l) (.ref b) = false := by
    unfold Builtin.List.listSameRef
    exact beq_eq_false_iff_ne.mpr hne
  have hmax : (max (a : Int) (c : Int)).toNat = c := by omega
  have hz' : ((fun xs : Array Value => xs.extract 0 a ++ new ++ xs.extract c xs.size) items).size ≤ sizeLine + 1 := by
    simp only [Array.size_append, Array.size_extract]
    omega
  unfold setItem
  try with_reducible refine wpAny_holding ?_
  first | refine wpAny_bind (wpAny_pure ?_) | skip
  refine wpAny_bind (wpAny_sequenceKey hl.typeIs (by decide) ?_)
  refine wpAny_bind (wpAny_callSpecial?_slot (name := Str.ofString "__setitem__") hl.typeIs slot_list_setitem
    (wpAny_call_entry slot_list_setitem hl.typeIs entry_list_setitem ?_ (args_list_setitem _ _ _)))
  show wpAny _ _ (Builtin.List.listSubscript? (.ref sl) >>= _) _ _ s
  refine wpAny_bind ?_
  unfold Builtin.List.listSubscript?
  refine wpAny_bind (wpAny_specialOf hTs slice_no_index ?_)
  simp only [Option.isNone_none, if_true]
  refine wpAny_pure ?_
  show wpAny _ _ (typeOf (.ref sl) >>= _) _ _ s
  refine wpAny_bind (wpAny_typeOf hTs ?_)
  first
    | rw [if_neg (by decide)]
    | refine PySem.W.KFB.if_not (by decide) ?_
  rw [listSliceParts_eq]
  refine wpAny_bind (wpAny_bind (wpAny_field hos hds (x := .none) rfl (wpAny_bind (wpAny_listPart .none ?_))))
  rw [if_neg hstep]
  refine wpAny_bind (wpAny_field hos hds (x := vl) rfl (wpAny_bind (wpAny_listPart pl ?_)))
  refine wpAny_bind (wpAny_field hos hds (x := vu) rfl (wpAny_bind (wpAny_listPart pu (wpAny_pure ?_))))
  first
    | simp only [hsame, Bool.false_eq_true, if_false]
    | refine PySem.W.KFB.if_not hsame ?_
    | (dsimp only
       rw [if_neg (by rw [hsame]; exact Bool.false_ne_true)])
  refine wpAny_bind (m := Builtin.List.listAllItems (.ref b) "must assign iterable to extended slice") ?_
  unfold Builtin.List.listAllItems
  refine wpAny_bind (wpAny_typeOf hb.typeIs ?_)
  first
    | refine PySem.W.KFB.if_so (by decide) ?_
    | rw [if_pos (by decide)]
    | simp only [beq_self_eq_true, Bool.true_or, if_true]
  unfold Builtin.List.listItems
  refine wpAny_bind (wpAny_seqItems e2 rfl (wpAny_pure ?_))
  refine wpAny_bind (wpAny_bind (wpAny_seqItems e rfl (wpAny_pure ?_)))
  refine wpAny_bind (wpAny_of_eq ((sliceIndices_raw (some (a : Int)) (some (c : Int)) none items.size (by simp)).trans (congrArg (pure : Int × Int × Int → Sem (Int × Int × Int)) (bounds_run hac hc))) ?_)
  show wpAny _ _ (if ((1 : Int) == 1) = true then _ else _) _ _ s
  rw [if_pos (by decide)]
  refine wpAny_bind (wpAny_rule ?_)
  first
    | simp only [notLongL hsz, Bool.false_eq_true, if_false]
    | refine PySem.W.KFB.if_not (notLongL hsz) ?_
  first | refine wpAny_bind (wpAny_pure ?_) | skip
  show wpAny _ _ (updateSeq l (fun xs => xs.extract 0 ((a : Int)).toNat ++ new ++ xs.extract (max (a : Int) (c : Int)).toNat xs.size) >>= _) _ _ s
  rw [hmax, Int.toNat_natCast]
  refine wpAny_bind (wpAny_updateSeq (hz := Nat.le_trans (Nat.le_add_right _ _) hsz) (_hz' := hz') e rfl ?_)
  refine wpAny_bind (wpAny_letGo ?_)
  first
    | exact wpAny_bind (wpAny_pure (wpAny_pure ⟨.none, rfl, wpAny_pure h⟩))
    | exact wpAny_pure ⟨.none, rfl, wpAny_pure h⟩
end

section
variable {X : Cx}
/-- xs[a:c] = ys of another list, at the value level: sl is the slice object that was just made -/
theorem set_slice {pins : List (Addr × Obj)} {s : Shared} {σ : St} {H : Hp} {l b sl : Addr} {xs ys : List V} {a c : Int} {vl vu : Value} {Q : Unit → Shared → Prop} (I : Inv X pins σ H s)
    (hH : H l = some (.lst xs)) (hB : H b = some (.lst ys)) (hne : l ≠ b) (hs : s.heap.IsSliceOf sl vl vu .none) (ra : RelV (.int a) vl) (rc : RelV (.int c) vu) (h0 : 0 ≤ a) (hac : a ≤ c) (hc : c ≤ xs.length)
    (hz : xs.length + ys.length ≤ sizeLine) (h : ∀ s', Inv X pins σ (upd H l (.lst (xs.take a.toNat ++ ys ++ xs.drop c.toNat))) s' → Q () s') :
    wpAny (model X.prog X.w) X.A (setItem (.ref l) (.ref sl) (.ref b)) Q X.xe s := by
  obtain ⟨ta, rfl⟩ := ra
  obtain ⟨tc, rfl⟩ := rc
  obtain ⟨z, its, n, r, hl, e⟩ := I.lstM hH
  obtain ⟨z2, its2, n2, r2, hl2, e2⟩ := I.lstM hB
  obtain ⟨a', rfl⟩ := Int.eq_ofNat_of_zero_le h0
  obtain ⟨c', rfl⟩ := Int.eq_ofNat_of_zero_le (Int.le_trans h0 hac)
  simp only [Int.toNat_natCast] at h
  refine setItem_slice (a := a') (c := c') e e2 hne hs (.int _ _) (.int _ _) (by omega) (by rw [List.size_toArray]; omega) (by rw [List.size_toArray, List.size_toArray]; omega) (h _ ?_)
  refine I.lset (its' := its.take a' ++ its2 ++ its.drop c') (t' := s.toks) hH e ?_ (Vals.append (Vals.append (r.take _) r2) (r.drop _)) ?_
  · exact splice_eq its its2 a' c'
  · rw [List.length_append, List.length_append, List.length_take, List.length_drop]
    omega
end
end L2

namespace L2
open PySem PySem.Spec PyProof.Rows

/-! ### lists of pairs as tables -/
section
variable {κ : Type} [DecidableEq κ]
def valV (kvs : List (κ × V)) (k : κ) : Option V := (kvs.find? fun kv => decide (kv.1 = k)).map (·.2)
/-- in its place, or at the end -/
def putK (kvs : List (κ × V)) (k : κ) (v : V) : List (κ × V) :=
  if (kvs.any fun kv => decide (kv.1 = k)) = true then kvs.map (fun kv => if kv.1 = k then (kv.1, v) else kv) else kvs ++ [(k, v)]
def dropK (kvs : List (κ × V)) (k : κ) : List (κ × V) := kvs.filter fun kv => decide (kv.1 ≠ k)

theorem valV_nil {k : κ} : valV ([] : List (κ × V)) k = none := rfl
theorem valV_pos {p : κ × V} {r : List (κ × V)} {k : κ} (e : p.1 = k) : valV (p :: r) k = some p.2 := by simp [valV, List.find?_cons, e]
theorem valV_neg {p : κ × V} {r : List (κ × V)} {k : κ} (e : ¬ p.1 = k) : valV (p :: r) k = valV r k := by simp [valV, List.find?_cons, e]
theorem valV_any (k : κ) : ∀ kvs : List (κ × V), (kvs.any fun kv => decide (kv.1 = k)) = (valV kvs k).isSome
  | [] => rfl
  | p :: r => by
    rw [List.any_cons]
    by_cases e : p.1 = k
    · simp only [valV_pos e, decide_eq_true e, Bool.true_or, Option.isSome_some]
    · rw [valV_neg e, decide_eq_false e, Bool.false_or]; exact valV_any k r
theorem valV_map (k j : κ) (y : V) : ∀ kvs : List (κ × V), valV (kvs.map fun kv => if kv.1 = k then (kv.1, y) else kv) j = (valV kvs j).map fun x => if j = k then y else x
  | [] => rfl
  | p :: r => by
    have ih := valV_map k j y r
    rw [List.map_cons]
    by_cases h : p.1 = k
    · rw [if_pos h]
      by_cases e : p.1 = j
      · rw [valV_pos (p := (p.1, y)) e, valV_pos e, Option.map_some, if_pos (e.symm.trans h)]
      · rw [valV_neg (p := (p.1, y)) e, valV_neg e, ih]
    · rw [if_neg h]
      by_cases e : p.1 = j
      · rw [valV_pos (p := p) e, valV_pos e, Option.map_some, if_neg (fun z => h (e.trans z))]
      · rw [valV_neg (p := p) e, valV_neg e, ih]
theorem valV_snoc (k j : κ) (y : V) : ∀ kvs : List (κ × V), valV kvs k = none → valV (kvs ++ [(k, y)]) j = if j = k then some y else valV kvs j
  | [], _ => by
    by_cases e : k = j
    · rw [if_pos e.symm]; exact valV_pos (p := (k, y)) e
    · rw [if_neg (fun z => e z.symm)]; exact valV_neg (p := (k, y)) e
  | p :: r, hn => by
    rw [List.cons_append]
    have hk : ¬ p.1 = k := fun z => by rw [valV_pos z] at hn; cases hn
    rw [valV_neg hk] at hn
    have ih := valV_snoc k j y r hn
    by_cases e : p.1 = j
    · rw [valV_pos e, valV_pos e, if_neg (fun z => hk (e.trans z))]
    · rw [valV_neg e, valV_neg e, ih]
theorem valV_put (kvs : List (κ × V)) (k j : κ) (y : V) : valV (putK kvs k y) j = if j = k then some y else valV kvs j := by
  unfold putK
  by_cases a : (kvs.any fun kv => decide (kv.1 = k)) = true
  · rw [if_pos a, valV_map]
    rw [valV_any] at a
    by_cases e : j = k
    · obtain ⟨x, hx⟩ := Option.isSome_iff_exists.mp a
      rw [if_pos e, e, hx, Option.map_some, if_pos rfl]
    · rw [if_neg e]
      cases valV kvs j with
      | none => rfl
      | some x => rw [Option.map_some, if_neg e]
  · rw [if_neg a]
    refine valV_snoc k j y kvs ?_
    rw [valV_any] at a
    cases q : valV kvs k with
    | none => rfl
    | some x => rw [q] at a; exact (a rfl).elim
theorem length_putK (kvs : List (κ × V)) (k : κ) (v : V) : (putK kvs k v).length ≤ kvs.length + 1 := by
  unfold putK
  split
  · rw [List.length_map]; omega
  · rw [List.length_append, List.length_cons, List.length_nil]; omega
theorem putK_new {kvs : List (κ × V)} {k : κ} (v : V) (h : valV kvs k = none) : putK kvs k v = kvs ++ [(k, v)] := by
  unfold putK
  rw [valV_any, h]
  exact if_neg (by decide)

theorem RelO.isSome_eq {o : Option V} {u : Option Value} (r : RelO o u) : o.isSome = u.isSome := by
  cases o with
  | none => cases u with
    | none => rfl
    | some _ => exact (show False from r).elim
  | some _ => cases u with
    | none => exact (show False from r).elim
    | some _ => rfl
theorem RelO.getD {o : Option V} {u : Option Value} {d : V} {d' : Value} (r : RelO o u) (rd : RelV d d') : RelV (o.getD d) (u.getD d') := by
  cases o with
  | none => cases u with
    | none => exact rd
    | some _ => exact (show False from r).elim
  | some _ => cases u with
    | none => exact (show False from r).elim
    | some _ => exact r

/-- raw tables of the same keys -/
theorem KV.val {kvs : List (κ × V)} {vs : List (κ × Value)} (r : KV kvs vs) (k : κ) : RelO (valV kvs k) (valueAt vs k) := by
  unfold KV at r
  induction r with
  | nil => exact True.intro
  | @cons p q ps qs h t ih =>
    obtain ⟨h1, h2⟩ := h
    by_cases e : p.1 = k
    · have e' : q.1 = k := h1.symm.trans e
      have b : valueAt (q :: qs) k = some q.2 := by simp [valueAt, List.find?_cons, e']
      rw [valV_pos e, b]; exact h2
    · have e' : ¬ q.1 = k := fun z => e (h1.trans z)
      have b : valueAt (q :: qs) k = valueAt qs k := by simp [valueAt, List.find?_cons, e']
      rw [valV_neg e, b]; exact ih
theorem KV.any {kvs : List (κ × V)} {vs : List (κ × Value)} (r : KV kvs vs) (k : κ) : (kvs.any fun kv => decide (kv.1 = k)) = vs.any fun kv => decide (kv.1 = k) := by
  unfold KV at r
  induction r with
  | nil => rfl
  | cons h t ih => rw [List.any_cons, List.any_cons, ih, h.1]
theorem KV.repl {kvs : List (κ × V)} {vs : List (κ × Value)} (r : KV kvs vs) (k : κ) {y : V} {u : Value} (ry : RelV y u) :
    KV (kvs.map fun kv => if kv.1 = k then (kv.1, y) else kv) (vs.map fun kv => if kv.1 = k then (kv.1, u) else kv) := by
  unfold KV at r ⊢
  induction r with
  | nil => exact .nil
  | @cons p q ps qs h t ih =>
    rw [List.map_cons, List.map_cons]
    refine .cons ?_ ih
    obtain ⟨h1, h2⟩ := h
    by_cases e : p.1 = k
    · rw [if_pos e, if_pos (h1.symm.trans e)]; exact ⟨h1, ry⟩
    · rw [if_neg e, if_neg (fun z => e (h1.trans z))]; exact ⟨h1, h2⟩
theorem KV.put {kvs : List (κ × V)} {vs : List (κ × Value)} (r : KV kvs vs) (k : κ) {y : V} {u : Value} (ry : RelV y u) : KV (putK kvs k y) (stored vs k u) := by
  unfold putK stored
  rw [r.any k]
  by_cases e : (vs.any fun kv => decide (kv.1 = k)) = true
  · rw [if_pos e, if_pos e]; exact r.repl k ry
  · rw [if_neg e, if_neg e]; exact Paired.snoc r ⟨rfl, ry⟩
theorem KV.drop {kvs : List (κ × V)} {vs : List (κ × Value)} (r : KV kvs vs) (k : κ) : KV (dropK kvs k) (without vs k) := by
  unfold KV at r ⊢
  unfold dropK without
  induction r with
  | nil => exact .nil
  | @cons p q ps qs h t ih =>
    obtain ⟨h1, h2⟩ := h
    rw [List.filter_cons, List.filter_cons]
    by_cases e : p.1 = k
    · have a : ¬ decide (p.1 ≠ k) = true := by simp [e]
      have b : ¬ decide (q.1 ≠ k) = true := by simp [h1.symm.trans e]
      rw [if_neg a, if_neg b]; exact ih
    · have e' : ¬ q.1 = k := fun z => e (h1.trans z)
      have a : decide (p.1 ≠ k) = true := by simp [e]
      have b : decide (q.1 ≠ k) = true := by simp [e']
      rw [if_pos a, if_pos b]; exact .cons ⟨h1, h2⟩ ih
theorem KV.keys {kvs : List (κ × V)} {vs : List (κ × Value)} (r : KV kvs vs) : kvs.map (·.1) = vs.map (·.1) := by
  unfold KV at r
  induction r with
  | nil => rfl
  | cons h t ih => rw [List.map_cons, List.map_cons, ih, h.1]
theorem KV.length {kvs : List (κ × V)} {vs : List (κ × Value)} (r : KV kvs vs) : kvs.length = vs.length := Paired.length r
theorem dropK_le (kvs : List (κ × V)) (k : κ) : (dropK kvs k).length ≤ kvs.length := List.length_filter_le _ _
end


/-! ### a tracked dict, its keys ints and texts or tuples of these -/
theorem kV_is {P : Program} {w : World} {k : Key} {u : Value} (r : RelV (kV k) u) : (mixKind P w).is k u = true := by
  cases k with
  | inl i => obtain ⟨t, e⟩ := (show ∃ t, u = Value.int i t from r); subst e; exact mixKind_int P w i t
  | inr x => obtain ⟨t, e⟩ := (show ∃ t, u = Value.str x t from r); subst e; exact mixKind_str P w x t
theorem kV_inj {a b : Key} (e : kV a = kV b) : a = b := by
  cases a with
  | inl i => cases b with
    | inl j => have e' : V.int i = V.int j := e; injection e' with e'; rw [e']
    | inr y => exact nomatch (show V.int i = V.str y from e)
  | inr x => cases b with
    | inl j => exact nomatch (show V.str x = V.int j from e)
    | inr y => have e' : V.str x = V.str y := e; injection e' with e'; rw [e']
theorem kVs_inj : ∀ {a b : List Key}, a.map kV = b.map kV → a = b
  | [], [], _ => rfl
  | [], _ :: _, e => by simp at e
  | _ :: _, [], e => by simp at e
  | x :: xs, y :: ys, e => by
    rw [List.map_cons, List.map_cons] at e
    injection e with e1 e2
    rw [kV_inj e1, kVs_inj e2]
theorem items_are {P : Program} {w : World} : ∀ {ks : List Key} {us : List Value}, Vals (ks.map kV) us → ItemsAre (mixKind P w) ks us
  | [], _, r => by rw [List.map_nil] at r; cases r; exact .nil
  | k :: ks, _, r => by
    rw [List.map_cons] at r
    cases r with
    | cons h t => exact .cons (kV_is h) (items_are t)

/-- raw entries of a dict with tuple keys -/
abbrev KT (H : Hp) : List (List Key × V) → List (List Key × Addr × Value) → Prop := Paired fun p q => p.1 = q.1 ∧ H q.2.1 = some (.tup (p.1.map kV)) ∧ RelV p.2 q.2.2
theorem KT.val {H : Hp} {kvs : List (List Key × V)} {xs : List (List Key × Addr × Value)} (r : KT H kvs xs) (k : List Key) : RelO (valV kvs k) ((atKey xs k).map (·.2)) := by
  induction r with
  | nil => exact True.intro
  | @cons p q ps qs h t ih =>
    obtain ⟨h1, _, h2⟩ := h
    by_cases e : p.1 = k
    · have e' : q.1 = k := h1.symm.trans e
      have b : atKey (q :: qs) k = some q.2 := by simp [atKey, List.find?_cons, e']
      rw [valV_pos e, b]; exact h2
    · have e' : ¬ q.1 = k := fun z => e (h1.trans z)
      have b : atKey (q :: qs) k = atKey qs k := by simp [atKey, List.find?_cons, e']
      rw [valV_neg e, b]; exact ih
theorem KT.repl {H : Hp} {kvs : List (List Key × V)} {xs : List (List Key × Addr × Value)} (r : KT H kvs xs) (k : List Key) {y : V} {u : Value} (ry : RelV y u) :
    KT H (kvs.map fun kv => if kv.1 = k then (kv.1, y) else kv) (xs.map (putAt k u)) := by
  induction r with
  | nil => exact .nil
  | @cons p q ps qs h t ih =>
    rw [List.map_cons, List.map_cons]
    refine .cons ?_ ih
    obtain ⟨h1, h2, h3⟩ := h
    unfold putAt
    by_cases e : p.1 = k
    · rw [if_pos e, if_pos (h1.symm.trans e)]; exact ⟨h1, h2, ry⟩
    · rw [if_neg e, if_neg (fun z => e (h1.trans z))]; exact ⟨h1, h2, h3⟩
theorem KT.put {H : Hp} {kvs : List (List Key × V)} {xs : List (List Key × Addr × Value)} (r : KT H kvs xs) (k : List Key) {b : Addr} {y : V} {u : Value} (hb : H b = some (.tup (k.map kV))) (ry : RelV y u) :
    KT H (putK kvs k y) (storedH xs k b u) := by
  have e : (kvs.any fun kv => decide (kv.1 = k)) = (atKey xs k).isSome := by
    rw [valV_any, (r.val k).isSome_eq, Option.isSome_map]
  unfold putK storedH
  rw [e]
  by_cases q : (atKey xs k).isSome = true
  · rw [if_pos q, if_pos q]; exact r.repl k ry
  · rw [if_neg q, if_neg q]; exact Paired.snoc r ⟨rfl, hb, ry⟩
theorem KT.keeps {H H' : Hp} {kvs : List (List Key × V)} {xs : List (List Key × Addr × Value)} (r : KT H kvs xs) (ht : ∀ b ys, H b = some (.tup ys) → H' b = some (.tup ys)) : KT H' kvs xs :=
  Paired.mapP r fun _ _ z => ⟨z.1, ht _ _ z.2.1, z.2.2⟩

section
variable {P : Program} {w : World} {H : Hp} {h : Heap} {a : Addr}
theorem rd_of {u : HO} (ok : HOk P w H h) (e : Rd H a u) : ObjOk P w H h a u := e.ok ok
theorem dk_rd {kvs : List (Key × V)} (ok : HOk P w H h) (e : Rd H a (.dK kvs)) : kvs.length ≤ sizeLine ∧ (a == sysModules) = false ∧ ∃ vs, KV kvs vs ∧ h.DictOf (mixKind P w) a vs :=
  show ObjOk P w H h a (.dK kvs) from rd_of ok e
theorem dk_of {kvs : List (Key × V)} (ok : HOk P w H h) (e : H a = some (.dK kvs)) : kvs.length ≤ sizeLine ∧ (a == sysModules) = false ∧ ∃ vs, KV kvs vs ∧ h.DictOf (mixKind P w) a vs := dk_rd ok (.inl e)
/-- a tracked tuple of ints and texts is a key -/
theorem key_of {ks : List Key} (ok : HOk P w H h) (e : H a = some (.tup (ks.map kV))) : (tupleKind (mixKind P w)).is h ks a := by
  obtain ⟨_, its, r, o, h1, h2, n, h3⟩ := (show ObjOk P w H h a (.tup (ks.map kV)) from ok a _ e)
  exact ⟨o, its.toArray, n, h1, h2, h3, by simpa using items_are r⟩
theorem dt_rd {kvs : List (List Key × V)} (ok : HOk P w H h) (e : Rd H a (.dT kvs)) : kvs.length ≤ sizeLine ∧ (a == sysModules) = false ∧
    ∃ xs, KT H kvs xs ∧ h.DictOfH (tupleKind (mixKind P w)) a xs := by
  obtain ⟨z, y, xs, r, o, es, ep, h1, h2, h3, h4, h5⟩ := (show ObjOk P w H h a (.dT kvs) from rd_of ok e)
  refine ⟨z, y, xs, r, o, es, ep, h1, h2, h3, h4, fun x hx => ?_, h5⟩
  have all : ∀ {l : List (List Key × V)} {m : List (List Key × Addr × Value)}, KT H l m → ∀ x ∈ m, (tupleKind (mixKind P w)).is h x.1 x.2.1 := by
    intro l m q
    induction q with
    | nil => intro x hx; exact nomatch hx
    | @cons p q ps qs hq t ih =>
      intro x hx
      rcases List.mem_cons.mp hx with e | hx
      · subst e
        exact key_of ok (by rw [← hq.1]; exact hq.2.1)
      · exact ih x hx
  exact all r x hx
theorem dt_of {kvs : List (List Key × V)} (ok : HOk P w H h) (e : H a = some (.dT kvs)) : kvs.length ≤ sizeLine ∧ (a == sysModules) = false ∧
    ∃ xs, KT H kvs xs ∧ h.DictOfH (tupleKind (mixKind P w)) a xs := dt_rd ok (.inl e)
end

/-- what the dict at a holds at the key y -/
def DGet (H : Hp) (a : Addr) (y : V) (r : Option V) : Prop :=
  (∃ kvs k, Rd H a (.dK kvs) ∧ y = kV k ∧ r = valV kvs k) ∨ ∃ kvs k b, Rd H a (.dT kvs) ∧ y = .ref b ∧ H b = some (.tup (k.map kV)) ∧ r = valV kvs k
/-- the heap behind a[y] = v -/
def DPut (H : Hp) (a : Addr) (y v : V) (H' : Hp) : Prop :=
  (∃ kvs k, H a = some (.dK kvs) ∧ y = kV k ∧ kvs.length < sizeLine ∧ H' = upd H a (.dK (putK kvs k v))) ∨
  ∃ kvs k b, H a = some (.dT kvs) ∧ y = .ref b ∧ H b = some (.tup (k.map kV)) ∧ kvs.length < sizeLine ∧ H' = upd H a (.dT (putK kvs k v))
theorem DGet.k {H : Hp} {a : Addr} {kvs : List (Key × V)} {k : Key} (e : H a = some (.dK kvs)) : DGet H a (kV k) (valV kvs k) := .inl ⟨kvs, k, .inl e, rfl, rfl⟩
theorem DGet.t {H : Hp} {a b : Addr} {kvs : List (List Key × V)} {k : List Key} (e : H a = some (.dT kvs)) (eb : H b = some (.tup (k.map kV))) : DGet H a (.ref b) (valV kvs k) := .inr ⟨kvs, k, b, .inl e, rfl, eb, rfl⟩
theorem DPut.k {H : Hp} {a : Addr} {kvs : List (Key × V)} {k : Key} {v : V} (e : H a = some (.dK kvs)) (hl : kvs.length < sizeLine) : DPut H a (kV k) v (upd H a (.dK (putK kvs k v))) := .inl ⟨kvs, k, e, rfl, hl, rfl⟩
theorem DPut.t {H : Hp} {a b : Addr} {kvs : List (List Key × V)} {k : List Key} {v : V} (e : H a = some (.dT kvs)) (eb : H b = some (.tup (k.map kV))) (hl : kvs.length < sizeLine) :
    DPut H a (.ref b) v (upd H a (.dT (putK kvs k v))) := .inr ⟨kvs, k, b, e, rfl, eb, hl, rfl⟩


section
variable {X : Cx} {pins : List (Addr × Obj)} {σ : St} {H : Hp} {s : Shared} {a : Addr} {y v : V} {u r : Value} {o : Option V} {A : Around} {E : Value → Shared → Prop}

theorem Inv.big (I : Inv X pins σ H s) : sysModules < s.heap.objs.size := by
  have h : mainGlobals < s.heap.objs.size := (I.mod.glob.keeps I.bk).lt
  exact Nat.lt_trans (by decide) h

/-- d[y], there -/
theorem d_getItem {Q : Value → Shared → Prop} (hu : A.units + 1 < cLine) (I : Inv X pins σ H s) (g : DGet H a y (some v)) (ry : RelV y u) (h : ∀ w' s', Inv X pins σ H s' → RelV v w' → Q w' s') :
    wpAny (model X.prog X.w) A (getItem (.ref a) u) Q E s := by
  rcases g with ⟨kvs, k, e, ey, l⟩ | ⟨kvs, k, b, e, ey, eb, l⟩
  · subst ey
    obtain ⟨z, hd, vs, rel, dd⟩ := dk_rd I.hok e
    obtain ⟨w', hw, rw'⟩ := RelO.some_of (v := v) (o := valueAt vs k) (by rw [l]; exact rel.val k)
    exact wpAny_getItem_of (kV_is ry) dd.mapOf hw (h w' _ (I.tok _) rw')
  · subst ey
    cases (show u = Value.ref b from ry)
    obtain ⟨z, hd, xs, rel, dd⟩ := dt_rd I.hok e
    obtain ⟨w', hw, rw'⟩ := RelO.some_of (v := v) (o := (atKey xs k).map (·.2)) (by rw [l]; exact rel.val k)
    obtain ⟨p, hp, hp2⟩ := Option.map_eq_some_iff.mp hw
    refine wpAny_getItem_heap (tupleKind_room_in1 hu) (key_of I.hok eb) dd hp ?_
    rw [hp2]
    exact h w' _ (I.tok _) rw'
/-- y in d -/
theorem d_in {Q : Value → Shared → Prop} (hu : A.units + 1 < cLine) (I : Inv X pins σ H s) (g : DGet H a y o) (ry : RelV y u) (h : ∀ s', Inv X pins σ H s' → Q (.bool o.isSome) s') :
    wpAny (model X.prog X.w) A (compareOp .In u (.ref a)) Q E s := by
  rcases g with ⟨kvs, k, e, ey, l⟩ | ⟨kvs, k, b, e, ey, eb, l⟩
  · subst ey
    obtain ⟨z, hd, vs, rel, dd⟩ := dk_rd I.hok e
    refine wpAny_in_of (kV_is ry) hd dd.mapOf ?_
    rw [← (rel.val k).isSome_eq, ← l]
    exact h _ (I.tok _)
  · subst ey
    cases (show u = Value.ref b from ry)
    obtain ⟨z, hd, xs, rel, dd⟩ := dt_rd I.hok e
    refine wpAny_in_heap (tupleKind_room_in1 hu) (key_of I.hok eb) hd dd ?_
    have q := (rel.val k).isSome_eq
    rw [Option.isSome_map] at q
    rw [← q, ← l]
    exact h _ (I.tok _)
theorem d_notIn {Q : Value → Shared → Prop} (hu : A.units + 1 < cLine) (I : Inv X pins σ H s) (g : DGet H a y o) (ry : RelV y u) (h : ∀ s', Inv X pins σ H s' → Q (.bool (!o.isSome)) s') :
    wpAny (model X.prog X.w) A (compareOp .NotIn u (.ref a)) Q E s := by
  rcases g with ⟨kvs, k, e, ey, l⟩ | ⟨kvs, k, b, e, ey, eb, l⟩
  · subst ey
    obtain ⟨z, hd, vs, rel, dd⟩ := dk_rd I.hok e
    refine wpAny_notIn_of (kV_is ry) hd dd.mapOf ?_
    rw [← (rel.val k).isSome_eq, ← l]
    exact h _ (I.tok _)
  · subst ey
    cases (show u = Value.ref b from ry)
    obtain ⟨z, hd, xs, rel, dd⟩ := dt_rd I.hok e
    refine wpAny_notIn_heap (tupleKind_room_in1 hu) (key_of I.hok eb) hd dd ?_
    have q := (rel.val k).isSome_eq
    rw [Option.isSome_map] at q
    rw [← q, ← l]
    exact h _ (I.tok _)
/-- a dict's object is replaced -/
theorem d_write {h' : Heap} {t' : Nat} {ob : HO} (I : Inv X pins σ H s) (mu : Mut (H a)) (hs : Heap.SameBut a s.heap h') (he : ∃ q, h'.get? a = some q) (new : ObjOk X.prog X.w (upd H a ob) h' a ob) :
    Inv X pins σ (upd H a ob) { s with heap := h', toks := t' } :=
  I.write (x := a) (e := a) mu (.inl rfl) (fun b q hb z => (hs.2 b hb).trans z) he new
theorem dk_new {P : Program} {w : World} {H' : Hp} {h' : Heap} {kvs : List (Key × V)} {vs : List (Key × Value)} (z : kvs.length ≤ sizeLine) (hd : (a == sysModules) = false) (rel : KV kvs vs) (dd : h'.DictOf (mixKind P w) a vs) :
    ObjOk P w H' h' a (.dK kvs) := ⟨z, hd, vs, rel, dd⟩
/-- d[y] = v -/
theorem d_setItem {H' : Hp} {Q : Unit → Shared → Prop} (hu : A.units + 1 < cLine) (I : Inv X pins σ H s) (g : DPut H a y v H') (ry : RelV y u) (rv : RelV v r) (h : ∀ s', Inv X pins σ H' s' → Q () s') :
    wpAny (model X.prog X.w) A (setItem (.ref a) u r) Q E s := by
  rcases g with ⟨kvs, k, e, ey, l, eH⟩ | ⟨kvs, k, b, e, ey, eb, l, eH⟩
  · subst ey eH
    obtain ⟨z, hd, vs, rel, dd⟩ := dk_of I.hok e
    have hz : vs.length ≤ sizeLine := by rw [← rel.length]; exact z
    have hl : (putK kvs k v).length ≤ sizeLine := by have := length_putK kvs k v; omega
    refine wpAny_setItem_pairs (hsz := hz) (kV_is ry) dd fun h' dd' hs => h _ ?_
    have he : ∃ q, h'.get? a = some q := let ⟨q, _, _, hq, _⟩ := dd'; ⟨q, hq⟩
    exact d_write I (by rw [e]; exact True.intro) hs he (dk_new hl hd (rel.put k rv) dd')
  · subst ey eH
    cases (show u = Value.ref b from ry)
    obtain ⟨z, hd, xs, rel, dd⟩ := dt_of I.hok e
    have hz : xs.length ≤ sizeLine := by rw [← Paired.length rel]; exact z
    have hl : (putK kvs k v).length ≤ sizeLine := by have := length_putK kvs k v; omega
    refine wpAny_setItem_heap (hsz := hz) (tupleKind_room_in1 hu) (key_of I.hok eb) dd fun h' dd' hs => h _ ?_
    obtain ⟨q, es, ep, hq, h2, h3, h4, _, h5⟩ := dd'
    refine d_write I (by rw [e]; exact True.intro) hs ⟨q, hq⟩ ⟨hl, hd, _, (rel.put k eb rv).keeps fun c ys ec => ?_, q, es, ep, hq, h2, h3, h4, h5⟩
    rw [upd_ne (ne_of ec e (fun z => nomatch z))]
    exact ec
end

section
variable {X : Cx} {pins : List (Addr × Obj)} {σ : St} {H : Hp} {s : Shared} {a : Addr} {kvs : List (Key × V)} {k : Key} {u : Value} {A : Around} {E : Value → Shared → Prop}
/-- del d[k] -/
theorem d_delItem {Q : Unit → Shared → Prop} (I : Inv X pins σ H s) (e : H a = some (.dK kvs)) (ry : RelV (kV k) u) (l : (valV kvs k).isSome = true) (h : ∀ s', Inv X pins σ (upd H a (.dK (dropK kvs k))) s' → Q () s') :
    wpAny (model X.prog X.w) A (delItem (.ref a) u) Q E s := by
  obtain ⟨z, hd, vs, rel, dd⟩ := dk_of I.hok e
  refine wpAny_delItem_slot dd.typeIs (by decide) PySem.F.slot_dict_delitem
    (call_meetsIn PySem.F.slot_dict_delitem dd.typeIs PySem.F.entry_dict_delitem (PySem.F.args_dict_delitem_2 _ _) (meets_dict_delitem_pairs (mixKind X.prog X.w) a (kV_is ry)) ⟨vs, dd, by rw [← rel.length]; exact z, by rw [← (rel.val k).isSome_eq]; exact l, fun h' dd' hs => h _ ?_⟩)
  have he : ∃ q, h'.get? a = some q := let ⟨q, _, _, hq, _⟩ := dd'; ⟨q, hq⟩
  exact d_write I (by rw [e]; exact True.intro) hs he (dk_new (Nat.le_trans (dropK_le kvs k) z) hd (rel.drop k) dd')
/-- d.pop(k[, x]), there -/
theorem d_pop {v : V} {more : List Value} {Q : Value → Shared → Prop} (I : Inv X pins σ H s) (e : H a = some (.dK kvs)) (ry : RelV (kV k) u) (l : valV kvs k = some v) (hm : more = [] ∨ ∃ x, more = [x])
    (h : ∀ w' s', Inv X pins σ (upd H a (.dK (dropK kvs k))) s' → RelV v w' → Q w' s') : wpAny (model X.prog X.w) A (call (.builtin "dict.pop") (.ref a :: u :: more)) Q E s := by
  obtain ⟨z, hd, vs, rel, dd⟩ := dk_of I.hok e
  obtain ⟨w', hw, rw'⟩ := RelO.some_of (v := v) (o := valueAt vs k) (by rw [← l]; exact rel.val k)
  have hp : (keyPart u).isSome = true := by
    cases k with
    | inl i => obtain ⟨t, q⟩ := (show ∃ t, u = Value.int i t from ry); subst q; rfl
    | inr x => obtain ⟨t, q⟩ := (show ∃ t, u = Value.str x t from ry); subst q; rfl
  have ha : argsOk "dict.pop" ⟨.ref a :: u :: more, []⟩ := by
    rcases hm with q | ⟨x, q⟩
    · subst q; exact PySem.F.args_dict_pop_2 _ _
    · subst q; exact PySem.F.args_dict_pop_3 _ _ _
  refine call_meetsIn PySem.F.slot_dict_pop dd.typeIs PySem.F.entry_dict_pop ha (meets_dict_pop_there (mixKind X.prog X.w) a (kV_is ry) more hm hp)
    ⟨vs, w', dd, by rw [← rel.length]; exact z, hw, fun h' dd' hs => h w' _ ?_ rw'⟩
  have he : ∃ q, h'.get? a = some q := let ⟨q, _, _, hq, _⟩ := dd'; ⟨q, hq⟩
  exact d_write I (by rw [e]; exact True.intro) hs he (dk_new (Nat.le_trans (dropK_le kvs k) z) hd (rel.drop k) dd')
/-- d.pop(k, x), not there -/
theorem d_popD {r : Value} {Q : Value → Shared → Prop} (I : Inv X pins σ H s) (e : H a = some (.dK kvs)) (ry : RelV (kV k) u) (l : valV kvs k = none) (h : ∀ s', Inv X pins σ H s' → Q r s') :
    wpAny (model X.prog X.w) A (call (.builtin "dict.pop") [.ref a, u, r]) Q E s := by
  obtain ⟨z, hd, vs, rel, dd⟩ := dk_of I.hok e
  have hn : valueAt vs k = none := RelO.none_of (by rw [← l]; exact rel.val k)
  have hp : (keyPart u).isSome = true := by
    cases k with
    | inl i => obtain ⟨t, q⟩ := (show ∃ t, u = Value.int i t from ry); subst q; rfl
    | inr x => obtain ⟨t, q⟩ := (show ∃ t, u = Value.str x t from ry); subst q; rfl
  exact call_meetsIn PySem.F.slot_dict_pop dd.typeIs PySem.F.entry_dict_pop (PySem.F.args_dict_pop_3 _ _ _) (meets_dict_pop_default (mixKind X.prog X.w) a (kV_is ry) hd hp r) ⟨vs, dd, hn, h _ (I.tok _)⟩
/-- d.clear() -/
theorem d_clear {Q : Value → Shared → Prop} (I : Inv X pins σ H s) (e : H a = some (.dK kvs)) (h : ∀ s', Inv X pins σ (upd H a (.dK [])) s' → Q .none s') : wpAny (model X.prog X.w) A (call (.builtin "dict.clear") [.ref a]) Q E s := by
  obtain ⟨z, hd, vs, rel, dd⟩ := dk_of I.hok e
  refine call_meetsIn PySem.F.slot_dict_clear dd.typeIs PySem.F.entry_dict_clear (PySem.F.args_dict_clear_1 _) (meets_dict_clear (mixKind X.prog X.w) a) ⟨vs, dd, by rw [← rel.length]; exact z, fun h' dd' hs => h _ ?_⟩
  have he : ∃ q, h'.get? a = some q := let ⟨q, _, _, hq, _⟩ := dd'; ⟨q, hq⟩
  exact d_write (t' := s.toks) I (by rw [e]; exact True.intro) hs he (dk_new (Nat.zero_le _) hd .nil dd')
/-- len(d) -/
theorem d_len {Q : Value → Shared → Prop} (I : Inv X pins σ H s) (e : Rd H a (.dK kvs)) (h : ∀ t s', Inv X pins σ H s' → Q (.int kvs.length t) s') : wpAny (model X.prog X.w) A (call (.builtin "len") [.ref a]) Q E s := by
  obtain ⟨z, hd, vs, rel, dd⟩ := dk_rd I.hok e
  refine call_len_dict hd dd (by rw [← rel.length]; rw [sizeLine_eq] at z; omega) ?_
  rw [← rel.length]
  exact h _ _ (I.tok _)
/-- if d -/
theorem d_truth {Q : Bool → Shared → Prop} (I : Inv X pins σ H s) (e : Rd H a (.dK kvs)) (h : ∀ s', Inv X pins σ H s' → Q (!kvs.isEmpty) s') : wpAny (model X.prog X.w) A (truthy (.ref a)) Q E s := by
  obtain ⟨z, hd, vs, rel, dd⟩ := dk_rd I.hok e
  refine wpAny_truthy_dict hd dd (by rw [← rel.length]; rw [sizeLine_eq] at z; omega) ?_
  have q : kvs.isEmpty = vs.isEmpty := by cases rel <;> rfl
  rw [← q]
  exact h _ (I.tok _)
end


/-! ### readings and rules -/
/-- the element of a subscription, not a slice -/
def NoSl (i : Expr) : Prop := ∀ ov iv, subscripted i false ov iv = operate [ov, iv] (getItem ov iv)
theorem subD_of {prog : Program} {w : World} {A : Around} {E : Value → Shared → Prop} {s : Shared} {env : Env} {value slice : Expr} {pos : Pos} {T id : String} {Q : Value → Shared → Prop}
    (hl : typeLookup (.type T) "__getitem__" = pure (some (.builtin id))) (hs : NoSl slice)
    (h : wpAny (model prog w) A (eval value env) (fun o s₁ => wpAny (model prog w) A (eval slice env) (fun i s₂ => s₂.TypeIs o T ∧ wpAny (model prog w) A (getItem o i) Q E s₂) E s₁) E s) :
    wpAny (model prog w) A (eval (.Subscript value slice pos) env) Q E s := by
  refine Subscript_ (wpAny_mono h (fun o s₁ h₁ => wpAny_mono h₁ (fun i s₂ h₂ => ?_) fun _ _ x => x) fun _ _ x => x)
  obtain ⟨hT, h₂⟩ := h₂
  unfold subscriptTail
  refine wpAny_bind ?_
  rw [getitemInPython_of_ne hT.not_modules]
  refine wpAny_bind (wpAny_specialOf hT hl ?_)
  have fin : wpAny (model prog w) A (subscripted slice false o i) (fun r s₃ => wpAny (model prog w) A (letTemporaryGo value o r >>= fun _ => pure r) Q E s₃) E s₂ := by
    rw [hs o i]
    exact wpAny_operating (wpAny_mono h₂ (fun r s₃ h₃ => wpAny_bind (wpAny_letTemporaryGo (wpAny_pure h₃))) fun _ _ x => x)
  first
    | exact wpAny_pure (wpAny_bind fin)
    | exact wpAny_bind (wpAny_pure (wpAny_bind fin))
    | exact wpAny_bind fin

theorem dict_typeIs {X : Cx} {pins : List (Addr × Obj)} {σ : St} {H : Hp} {s : Shared} {a : Addr} {y : V} {o : Option V} (I : Inv X pins σ H s) (g : DGet H a y o) : s.TypeIs (.ref a) "dict" := by
  rcases g with ⟨kvs, k, e, _, _⟩ | ⟨kvs, k, b, e, _, _, _⟩
  · obtain ⟨_, _, vs, _, dd⟩ := dk_rd I.hok e
    exact dd.typeIs
  · obtain ⟨_, _, xs, _, dd⟩ := dt_rd I.hok e
    exact dd.typeIs
theorem dict_noDict {X : Cx} {pins : List (Addr × Obj)} {σ : St} {H : Hp} {s : Shared} {a : Addr} {y : V} {o : Option V} (I : Inv X pins σ H s) (g : DGet H a y o) :
    ∀ b, Value.ref a = .ref b → ∃ ob, s.heap.get? b = some ob ∧ ob.dict = none := fun b q => by
  cases q
  rcases g with ⟨kvs, k, e, _, _⟩ | ⟨kvs, k, b, e, _, _, _⟩
  · obtain ⟨_, _, vs, _, ob, _, _, h1, h2, _⟩ := dk_rd I.hok e
    exact ⟨ob, h1, h2.2.1⟩
  · obtain ⟨_, _, xs, _, ob, _, _, h1, h2, _⟩ := dt_rd I.hok e
    exact ⟨ob, h1, h2.2.1⟩

/-- d[y] -/
def tDGet (td ty : TE) : TE := fun σ H Q => td σ H fun x H1 => ty σ H1 fun y H2 => ∃ a v, x = .ref a ∧ DGet H2 a y (some v) ∧ Q v H2
/-- y in d, y not in d -/
def tDIn (ty td : TE) : TE := fun σ H Q => ty σ H fun y H1 => td σ H1 fun x H2 => ∃ a o, x = .ref a ∧ DGet H2 a y o ∧ Q (.bl o.isSome) H2
def tDNotIn (ty td : TE) : TE := fun σ H Q => ty σ H fun y H1 => td σ H1 fun x H2 => ∃ a o, x = .ref a ∧ DGet H2 a y o ∧ Q (.bl (!o.isSome)) H2
/-- d[y] = v -/
def sDPut (td ty tv : TE) : TS := fun D σ H => tv σ H fun v H1 => td σ H1 fun x H2 => ty σ H2 fun y H3 => ∃ a H4, x = .ref a ∧ DPut H3 a y v H4 ∧ D.nx σ H4
/-- d[y] op= v -/
def sDAug (td ty tv : TE) (rd : V → V → Hp → VK → Prop) : TS := fun D σ H => td σ H fun x H1 => ty σ H1 fun y H2 => ∃ a v, x = .ref a ∧ DGet H2 a y (some v) ∧
  tv σ H2 fun y2 H3 => rd v y2 H3 fun z H4 => ∃ H5, DPut H4 a y z H5 ∧ D.nx σ H5
/-- del d[y] -/
def sDDel (td ty : TE) : TS := fun D σ H => td σ H fun x H1 => ty σ H1 fun y H2 => ∃ a kvs k, x = .ref a ∧ H2 a = some (.dK kvs) ∧ y = kV k ∧ (valV kvs k).isSome = true ∧ D.nx σ (upd H2 a (.dK (dropK kvs k)))

section
variable {X : Cx} {o i e value : Expr} {pos pos' tpos : Pos} {td ty tv : TE}
theorem pe_dget (hu : X.A.units + 1 < cLine) (ho : PE X o td) (hi : PE X i ty) (hs : NoSl i) : PE X (.Subscript o i pos) (tDGet td ty) := by
  intro pins s σ H Q I h
  refine subD_of PySem.F.slot_dict_getitem.lookup hs (thn (ho pins s σ H _ I h) fun u s1 ⟨x, H1, I1, rx, q1⟩ => thn (hi pins s1 σ H1 _ I1 q1) fun iv s2 ⟨y, H2, I2, ry, a, v, ex, g, q2⟩ => ?_)
  subst ex
  obtain rfl : u = Value.ref a := rx
  exact ⟨dict_typeIs I2 g, d_getItem hu I2 g ry fun w' s3 I3 rw' => ⟨v, H2, I3, rw', q2⟩⟩
theorem pc_din (hu : X.A.units + 1 < cLine) (hi : PE X i ty) (ho : PE X o td) : PC X .In i o (tDIn ty td) := by
  intro pins s σ H Q I h
  refine thn (hi pins s σ H _ I h) fun iv s1 ⟨y, H1, I1, ry, q1⟩ => thn (ho pins s1 σ H1 _ I1 q1) fun u s2 ⟨x, H2, I2, rx, a, ov, ex, g, q2⟩ => ?_
  subst ex
  obtain rfl : u = Value.ref a := rx
  exact d_in hu I2 g ry fun s3 I3 => ⟨.bl ov.isSome, H2, I3, rfl, q2⟩
theorem pc_dnotin (hu : X.A.units + 1 < cLine) (hi : PE X i ty) (ho : PE X o td) : PC X .NotIn i o (tDNotIn ty td) := by
  intro pins s σ H Q I h
  refine thn (hi pins s σ H _ I h) fun iv s1 ⟨y, H1, I1, ry, q1⟩ => thn (ho pins s1 σ H1 _ I1 q1) fun u s2 ⟨x, H2, I2, rx, a, ov, ex, g, q2⟩ => ?_
  subst ex
  obtain rfl : u = Value.ref a := rx
  exact d_notIn hu I2 g ry fun s3 I3 => ⟨.bl (!ov.isSome), H2, I3, rfl, q2⟩
theorem ps_dput (hu : X.A.units + 1 < cLine) (ho : PE X o td) (hi : PE X i ty) (hv : PE X value tv) (hs : swapsWith value (some (.Subscript o i pos')) pos.line X.env = pure false) :
    PS X (.Assign [.Subscript o i pos'] value pos) (sDPut td ty tv) := by
  intro pins s σ H D I h
  refine wpAny_Assign_Subscript (thn (hv pins s σ H _ I h) fun r s1 ⟨v, H1, I1, rv, q1⟩ => thn (ho pins s1 σ H1 _ I1 q1) fun u s2 ⟨x, H2, I2, rx, q2⟩ => thn (hi pins s2 σ H2 _ I2 q2) fun iv s3 ⟨y, H3, I3, ry, a, H4, ex, g, q3⟩ => ?_) hs
  subst ex
  obtain rfl : u = Value.ref a := rx
  exact d_setItem hu I3 g ry rv fun s4 I4 => ⟨σ, H4, I4, q3⟩
theorem ps_daug {op : Operator} {rd : V → V → Hp → VK → Prop} (hu : X.A.units + 1 < cLine) (ho : PE X o td) (hi : PE X i ty) (hv : PE X value tv) (hop : InOp X op rd)
    (ha : ∀ ov iv new, augStore i ov iv new = (do holding [new, ov, iv] (setItem ov iv new); release [new, ov, iv] []; pure .next)) : PS X (.AugAssign (.Subscript o i tpos) op value pos) (sDAug td ty tv rd) := by
  intro pins s σ H D I h
  refine wpAny_AugAssign_SubscriptAny (thn (ho pins s σ H _ I h) fun u s1 ⟨x, H1, I1, rx, q1⟩ => thn (hi pins s1 σ H1 _ I1 q1) fun iv s2 ⟨y, H2, I2, ry, a, v, ex, g, q2⟩ => ?_) ha
  subst ex
  obtain rfl : u = Value.ref a := rx
  refine d_getItem hu I2 g ry fun w' s3 I3 rw' => thn (hv pins s3 σ H2 _ I3 q2) fun w2 s4 ⟨y2, H3, I4, ry2, q3⟩ => thn (hop pins s4 σ H3 v y2 w' w2 _ I4 rw' ry2 q3) fun w3 s5 ⟨z, H4, I5, rz, H5, g5, q4⟩ => ?_
  exact d_setItem hu I5 g5 ry rz fun s6 I6 => ⟨σ, H5, I6, q4⟩
theorem ps_ddel (ho : PE X o td) (hi : PE X i ty) : PS X (.Delete [.Subscript o i tpos] pos) (sDDel td ty) := by
  intro pins s σ H D I h
  refine wpAny_Delete (wpAny_deleteEach_cons (wpAny_delete_Subscript (thn (ho pins s σ H _ I h) fun u s1 ⟨x, H1, I1, rx, q1⟩ => thn (hi pins s1 σ H1 _ I1 q1) fun iv s2 ⟨y, H2, I2, ry, a, kvs, k, ex, e, ey, l, q2⟩ => ?_)))
  subst ex ey
  obtain rfl : u = Value.ref a := rx
  exact d_delItem I2 e ry l fun s3 I3 => wpAny_deleteEach_nil ⟨σ, _, I3, q2⟩
end


/-! ### displays -/
theorem dk_empty {P : Program} {w : World} {H : Hp} (h : Heap) (hb : sysModules < h.objs.size) : ObjOk P w H (h.push { cls := .type "dict", data := .dict #[] }) h.objs.size (.dK []) :=
  ⟨Nat.zero_le _, beq_eq_false_iff_ne.mpr (Ne.symm (Nat.ne_of_lt hb)), [], .nil, Heap.DictOf.new h⟩
theorem dt_empty {P : Program} {w : World} {H : Hp} (h : Heap) (hb : sysModules < h.objs.size) : ObjOk P w H (h.push { cls := .type "dict", data := .dict #[] }) h.objs.size (.dT []) :=
  ⟨Nat.zero_le _, beq_eq_false_iff_ne.mpr (Ne.symm (Nat.ne_of_lt hb)), [], .nil, _, #[], 0, Heap.get?_push_size _ rfl, ⟨rfl, rfl, rfl⟩, rfl, rfl, List.nodup_nil⟩
/-- {}, to be a dict of the kind that is wanted -/
def tDNewK : TE := fun _ H Q => ∀ p, H p = none → Q (.ref p) (upd H p (.dK []))
def tDNewT : TE := fun _ H Q => ∀ p, H p = none → Q (.ref p) (upd H p (.dT []))
section
variable {X : Cx} {pos : Pos}
theorem pe_dnewK : PE X (.Dict [] [] pos) tDNewK := fun pins s σ H Q I h =>
  wpAny_Dict_empty ⟨.ref s.heap.objs.size, _, I.laid (a := s.heap.objs.size) (o := .dK []) (t' := s.toks) (fun _ _ q => Heap.get?_push_of_some _ q) (Nat.le_refl _) (dk_empty s.heap I.big), rfl, h _ (I.hok.fresh (Nat.le_refl _))⟩
theorem pe_dnewT : PE X (.Dict [] [] pos) tDNewT := fun pins s σ H Q I h =>
  wpAny_Dict_empty ⟨.ref s.heap.objs.size, _, I.laid (a := s.heap.objs.size) (o := .dT []) (t' := s.toks) (fun _ _ q => Heap.get?_push_of_some _ q) (Nat.le_refl _) (dt_empty s.heap I.big), rfl, h _ (I.hok.fresh (Nat.le_refl _))⟩
end

/-- the pairs of a display, from the left -/
def tPairs : List (TE × TE) → St → Hp → (List (V × V) → Hp → Prop) → Prop
  | [], _, H, Q => Q [] H
  | (tk, tv) :: r, σ, H, Q => tk σ H fun x H1 => tv σ H1 fun y H2 => tPairs r σ H2 fun ps H3 => Q ((x, y) :: ps) H3
abbrev VV : List (V × V) → List (Value × Value) → Prop := Paired fun p q => RelV p.1 q.1 ∧ RelV p.2 q.2
def PPs (X : Cx) (pos : Pos) (keys : List (Option Expr)) (values : List Expr) (trs : List (TE × TE)) : Prop :=
  ∀ (pins : List (Addr × Obj)) (s : Shared) (σ : St) (H : Hp) (Q : List (V × V) → Hp → Prop), Inv X pins σ H s → tPairs trs σ H Q →
    wpAny (model X.prog X.w) X.A (evalPairs (pairTrees keys values X.env pos)) (fun vs s' => ∃ ps H', Inv X pins σ H' s' ∧ VV ps vs ∧ Q ps H') X.xe s
theorem pps_nil {X : Cx} {pos : Pos} : PPs X pos [] [] [] := fun pins s σ H Q I h => pairTrees_nil_walk ⟨[], H, I, .nil, h⟩
theorem pps_cons {X : Cx} {pos : Pos} {k v : Expr} {ks : List (Option Expr)} {vs : List Expr} {tk tv : TE} {trs : List (TE × TE)} (hk : PE X k tk) (hv : PE X v tv) (hr : PPs X pos ks vs trs) :
    PPs X pos (some k :: ks) (v :: vs) ((tk, tv) :: trs) := fun pins s σ H Q I h =>
  pairTrees_cons_walk (thn (hk pins s σ H _ I h) fun u s1 ⟨x, H1, I1, rx, q1⟩ => thn (hv pins s1 σ H1 _ I1 q1) fun w2 s2 ⟨y, H2, I2, ry, q2⟩ =>
    thn (hr pins s2 σ H2 _ I2 q2) fun ws s3 ⟨ps, H3, I3, rel, q3⟩ => ⟨(x, y) :: ps, H3, I3, .cons ⟨rx, ry⟩ rel, q3⟩)

def mergeK (kvs more : List (Key × V)) : List (Key × V) := more.foldl (fun acc kv => putK acc kv.1 kv.2) kvs
theorem KV.merge : ∀ {more : List (Key × V)} {rs : List (Key × Value)} {kvs : List (Key × V)} {vs : List (Key × Value)}, KV more rs → KV kvs vs → KV (mergeK kvs more) (merged vs rs) := by
  intro more rs kvs vs r
  unfold KV at r
  induction r generalizing kvs vs with
  | nil => intro q; exact q
  | @cons p q ps qs h t ih =>
    intro r0
    have e : KV (putK kvs p.1 p.2) (stored vs q.1 q.2) := by
      have := r0.put p.1 h.2
      rw [← h.1]; exact this
    exact ih e
theorem length_mergeK : ∀ (more kvs : List (Key × V)), (mergeK kvs more).length ≤ kvs.length + more.length
  | [], kvs => by show kvs.length ≤ kvs.length + 0; omega
  | p :: r, kvs => by
    have h1 := length_mergeK r (putK kvs p.1 p.2)
    have h2 := length_putK kvs p.1 p.2
    show (mergeK (putK kvs p.1 p.2) r).length ≤ _
    rw [List.length_cons]; omega
theorem carries_of {P : Program} {w : World} : ∀ {kvs : List (Key × V)} {ws : List (Value × Value)}, VV (kvs.map fun kv => (kV kv.1, kv.2)) ws → ∃ rs, Carries (mixKind P w) ws rs ∧ KV kvs rs
  | [], _, r => by rw [List.map_nil] at r; cases r; exact ⟨[], True.intro, .nil⟩
  | p :: kvs, _, r => by
    rw [List.map_cons] at r
    cases r with
    | @cons a b as bs h t =>
      obtain ⟨rs, c, q⟩ := carries_of (P := P) (w := w) t
      obtain ⟨b1, b2⟩ := b
      exact ⟨(p.1, b2) :: rs, ⟨kV_is h.1, rfl, c⟩, .cons ⟨rfl, h.2⟩ q⟩
/-- {k: v, ..} with keys ints and texts; the new dict stands empty while the pairs are made -/
def tDisp (trs : List (TE × TE)) : TE := fun σ H Q => ∀ p, H p = none → tPairs trs σ (upd H p (.dK [])) fun ps H2 => H2 p = some (.dK []) ∧ ∃ kvs : List (Key × V), ps = kvs.map (fun kv => (kV kv.1, kv.2)) ∧ kvs.length ≤ 15 ∧ Q (.ref p) (upd H2 p (.dK (mergeK [] kvs)))
theorem pe_disp {X : Cx} {pos : Pos} {keys : List (Option Expr)} {values : List Expr} {trs : List (TE × TE)} (h : PPs X pos keys values trs) (hall : keys.all (·.isSome) = true) (hl : keys.length = values.length) (h0 : keys ≠ [])
    (h15 : keys.length ≤ 15) : PE X (.Dict keys values pos) (tDisp trs) := by
  intro pins s σ H Q I q
  have hn := I.hok.fresh (Nat.le_refl s.heap.objs.size)
  have I1 := I.laid (a := s.heap.objs.size) (o := .dK []) (h' := s.heap.push { cls := .type "dict", data := .dict #[] }) (t' := s.toks) (fun _ _ q => Heap.get?_push_of_some _ q) (Nat.le_refl _) (dk_empty s.heap I.big)
  refine wpAny_Dict_walk (knd := mixKind X.prog X.w) hall hl h0 h15 (thn (h pins _ σ _ _ I1 (q _ hn)) fun ws s2 ⟨ps, H2, I2, rel, e, kvs, ep, lk, q2⟩ => ?_)
  subst ep
  obtain ⟨rs, c, rk⟩ := carries_of (P := X.prog) (w := X.w) rel
  obtain ⟨z, hd, vs0, r0, dd⟩ := dk_of I2.hok e
  cases r0
  refine ⟨rs, c, dd, fun h' dd' hs => ⟨.ref s.heap.objs.size, _, ?_, rfl, q2⟩⟩
  have hz : (mergeK [] kvs).length ≤ sizeLine := by
    have h1 := length_mergeK kvs []
    rw [List.length_nil] at h1
    rw [sizeLine_eq]; omega
  have he : ∃ q, h'.get? s.heap.objs.size = some q := let ⟨q, _, _, hq, _⟩ := dd'; ⟨q, hq⟩
  exact d_write I2 (by rw [e]; exact True.intro) hs he (dk_new hz hd (rk.merge .nil) dd')


/-! ### methods -/
/-- a method call o.m(e) of a built-in, with one argument: what must be seen of the text -/
structure M1 (X : Cx) (o : Expr) (m : Str) (apos : Pos) (e : Expr) (cpos : Pos) : Prop where
  base : attributeBase o m X.env (eval o X.env) = eval o X.env
  few : ((backTo cpos (starEach [e] X.env)).all (fun x => !x.1) && (backToKw cpos (keywordEach [] X.env)).all (fun x => x.1.isSome)
    && decide (([e] : List Expr).length + ([] : List Keyword).length + (if ([] : List Keyword).isEmpty then 0 else 1) < 30)) = true
  line : (apos.endLine == cpos.line) = true
  trees : backTo cpos (starEach [e] X.env) = [(false, eval e X.env)]
structure M2 (X : Cx) (o : Expr) (m : Str) (apos : Pos) (e f : Expr) (cpos : Pos) : Prop where
  base : attributeBase o m X.env (eval o X.env) = eval o X.env
  few : ((backTo cpos (starEach [e, f] X.env)).all (fun x => !x.1) && (backToKw cpos (keywordEach [] X.env)).all (fun x => x.1.isSome)
    && decide (([e, f] : List Expr).length + ([] : List Keyword).length + (if ([] : List Keyword).isEmpty then 0 else 1) < 30)) = true
  line : (apos.endLine == cpos.line) = true
  trees : backTo cpos (starEach [e, f] X.env) = [(false, eval e X.env), (false, eval f X.env)]

/-- a is a dict, whatever its keys -/
def IsD (H : Hp) (a : Addr) : Prop := (∃ kvs, Rd H a (.dK kvs)) ∨ ∃ kvs, Rd H a (.dT kvs)
theorem isD_at {X : Cx} {pins : List (Addr × Obj)} {σ : St} {H : Hp} {s : Shared} {a : Addr} (I : Inv X pins σ H s) (d : IsD H a) :
    s.TypeIs (.ref a) "dict" ∧ (∀ b, Value.ref a = .ref b → ∃ ob, s.heap.get? b = some ob ∧ ob.dict = none) ∧ (a == sysModules) = false := by
  rcases d with ⟨kvs, e⟩ | ⟨kvs, e⟩
  · obtain ⟨_, hd, vs, _, dd⟩ := dk_rd I.hok e
    refine ⟨dd.typeIs, fun b q => ?_, hd⟩
    cases q
    obtain ⟨ob, _, _, h1, h2, _⟩ := dd
    exact ⟨ob, h1, h2.2.1⟩
  · obtain ⟨_, hd, xs, _, dd⟩ := dt_rd I.hok e
    refine ⟨dd.typeIs, fun b q => ?_, hd⟩
    cases q
    obtain ⟨ob, _, _, h1, h2, _⟩ := dd
    exact ⟨ob, h1, h2.2.1⟩

section
variable {X : Cx} {pins : List (Addr × Obj)} {σ : St} {H : Hp} {s : Shared} {a : Addr} {y d : V} {u r : Value} {o : Option V} {A : Around} {E : Value → Shared → Prop}
/-- d.get(y) -/
theorem d_get1 {Q : Value → Shared → Prop} (hu : A.units + 1 < cLine) (I : Inv X pins σ H s) (g : DGet H a y o) (ry : RelV y u) (h : ∀ w' s', Inv X pins σ H s' → RelV (o.getD .non) w' → Q w' s') :
    wpAny (model X.prog X.w) A (call (.builtin "dict.get") [.ref a, u]) Q E s := by
  rcases g with ⟨kvs, k, e, ey, l⟩ | ⟨kvs, k, b, e, ey, eb, l⟩
  · subst ey
    obtain ⟨z, hd, vs, rel, dd⟩ := dk_rd I.hok e
    refine call_meetsIn PySem.F.slot_dict_get dd.typeIs PySem.F.entry_dict_get (PySem.F.args_dict_get_2 _ _) (meets_dict_get (mixKind X.prog X.w) a (kV_is ry) hd) ⟨_, dd.mapOf, h _ _ (I.tok _) ?_⟩
    rw [l]
    exact (rel.val k).getD rfl
  · subst ey
    cases (show u = Value.ref b from ry)
    obtain ⟨z, hd, xs, rel, dd⟩ := dt_rd I.hok e
    refine call_meetsIn PySem.F.slot_dict_get dd.typeIs PySem.F.entry_dict_get (PySem.F.args_dict_get_2 _ _) (meetsH_dict_get (tupleKind (mixKind X.prog X.w)) a b hd) ⟨tupleKind_room_in1 hu, k, xs, key_of I.hok eb, dd, h _ _ (I.tok _) ?_⟩
    rw [l]
    exact (rel.val k).getD rfl
/-- d.get(y, x) -/
theorem d_get2 {Q : Value → Shared → Prop} (hu : A.units + 1 < cLine) (I : Inv X pins σ H s) (g : DGet H a y o) (ry : RelV y u) (rd : RelV d r) (h : ∀ w' s', Inv X pins σ H s' → RelV (o.getD d) w' → Q w' s') :
    wpAny (model X.prog X.w) A (call (.builtin "dict.get") [.ref a, u, r]) Q E s := by
  rcases g with ⟨kvs, k, e, ey, l⟩ | ⟨kvs, k, b, e, ey, eb, l⟩
  · subst ey
    obtain ⟨z, hd, vs, rel, dd⟩ := dk_rd I.hok e
    refine call_meetsIn PySem.F.slot_dict_get dd.typeIs PySem.F.entry_dict_get (PySem.F.args_dict_get_3 _ _ _) (meets_dict_get_default (mixKind X.prog X.w) a (kV_is ry) hd r) ⟨_, dd.mapOf, h _ _ (I.tok _) ?_⟩
    rw [l]
    exact (rel.val k).getD rd
  · subst ey
    cases (show u = Value.ref b from ry)
    obtain ⟨z, hd, xs, rel, dd⟩ := dt_rd I.hok e
    refine call_meetsIn PySem.F.slot_dict_get dd.typeIs PySem.F.entry_dict_get (PySem.F.args_dict_get_3 _ _ _) (meetsH_dict_get_default (tupleKind (mixKind X.prog X.w)) a b hd r) ⟨tupleKind_room_in1 hu, k, xs, key_of I.hok eb, dd, h _ _ (I.tok _) ?_⟩
    rw [l]
    exact (rel.val k).getD rd
end

def tDGet1 (td ty : TE) : TE := fun σ H Q => td σ H fun x H1 => ∃ a, x = .ref a ∧ IsD H1 a ∧ ty σ H1 fun y H2 => ∃ o, DGet H2 a y o ∧ Q (o.getD .non) H2
def tDGet2 (td ty tx : TE) : TE := fun σ H Q => td σ H fun x H1 => ∃ a, x = .ref a ∧ IsD H1 a ∧ ty σ H1 fun y H2 => tx σ H2 fun z H3 => ∃ o, DGet H3 a y o ∧ Q (o.getD z) H3
/-- d.pop(k): there; d.pop(k, x): there or not -/
def tDPop1 (td ty : TE) : TE := fun σ H Q => td σ H fun x H1 => ∃ a, x = .ref a ∧ IsD H1 a ∧ ty σ H1 fun y H2 => ∃ kvs k v, H2 a = some (.dK kvs) ∧ y = kV k ∧ valV kvs k = some v ∧ Q v (upd H2 a (.dK (dropK kvs k)))
def tDPop2 (td ty tx : TE) : TE := fun σ H Q => td σ H fun x H1 => ∃ a, x = .ref a ∧ IsD H1 a ∧ ty σ H1 fun y H2 => tx σ H2 fun z H3 => ∃ kvs k, H3 a = some (.dK kvs) ∧ y = kV k ∧
  (∀ v, valV kvs k = some v → Q v (upd H3 a (.dK (dropK kvs k)))) ∧ (valV kvs k = none → Q z H3)
section
variable {X : Cx} {o e f : Expr} {apos cpos : Pos} {td ty tx : TE}
theorem pe_dget1 (hu : X.A.units + 1 < cLine) (ho : PE X o td) (he : PE X e ty) (m : M1 X o "get" apos e cpos) : PE X (.Call (.Attribute o "get" apos) [e] [] cpos) (tDGet1 td ty) := by
  intro pins s σ H Q I h
  refine wpAny_Call_method m.base m.few m.line PySem.F.plainAttrs_dict PySem.F.slot_dict_get PySem.F.type_dict_get (thn (ho pins s σ H _ I h) fun u s1 ⟨x, H1, I1, rx, a, ex, d, q1⟩ => ?_)
  subst ex
  obtain rfl : u = Value.ref a := rx
  obtain ⟨t1, t2, _⟩ := isD_at I1 d
  refine ⟨t1, t2, ?_⟩
  rw [m.trees]
  refine Calls.callWith_builtin rfl (Calls.evalArgs_plain (Calls.spliced_cons (thn (he pins s1 σ H1 _ I1 q1) fun iv s2 ⟨y, H2, I2, ry, ov, g, q2⟩ => Calls.spliced_nil ?_)))
  exact d_get1 hu I2 g ry fun w' s3 I3 rw' => ⟨_, H2, I3, rw', q2⟩
theorem pe_dget2 (hu : X.A.units + 1 < cLine) (ho : PE X o td) (he : PE X e ty) (hf : PE X f tx) (m : M2 X o "get" apos e f cpos) : PE X (.Call (.Attribute o "get" apos) [e, f] [] cpos) (tDGet2 td ty tx) := by
  intro pins s σ H Q I h
  refine wpAny_Call_method m.base m.few m.line PySem.F.plainAttrs_dict PySem.F.slot_dict_get PySem.F.type_dict_get (thn (ho pins s σ H _ I h) fun u s1 ⟨x, H1, I1, rx, a, ex, d, q1⟩ => ?_)
  subst ex
  obtain rfl : u = Value.ref a := rx
  obtain ⟨t1, t2, _⟩ := isD_at I1 d
  refine ⟨t1, t2, ?_⟩
  rw [m.trees]
  refine Calls.callWith_builtin rfl (Calls.evalArgs_plain (Calls.spliced_cons (thn (he pins s1 σ H1 _ I1 q1) fun iv s2 ⟨y, H2, I2, ry, q2⟩ =>
    Calls.spliced_cons (thn (hf pins s2 σ H2 _ I2 q2) fun fv s3 ⟨z, H3, I3, rz, ov, g, q3⟩ => Calls.spliced_nil ?_))))
  exact d_get2 hu I3 g ry rz fun w' s4 I4 rw' => ⟨_, H3, I4, rw', q3⟩
theorem pe_dpop1 (ho : PE X o td) (he : PE X e ty) (m : M1 X o "pop" apos e cpos) : PE X (.Call (.Attribute o "pop" apos) [e] [] cpos) (tDPop1 td ty) := by
  intro pins s σ H Q I h
  refine wpAny_Call_method m.base m.few m.line PySem.F.plainAttrs_dict PySem.F.slot_dict_pop PySem.F.type_dict_pop (thn (ho pins s σ H _ I h) fun u s1 ⟨x, H1, I1, rx, a, ex, d, q1⟩ => ?_)
  subst ex
  obtain rfl : u = Value.ref a := rx
  obtain ⟨t1, t2, _⟩ := isD_at I1 d
  refine ⟨t1, t2, ?_⟩
  rw [m.trees]
  refine Calls.callWith_builtin rfl (Calls.evalArgs_plain (Calls.spliced_cons (thn (he pins s1 σ H1 _ I1 q1) fun iv s2 ⟨y, H2, I2, ry, kvs, k, v, ea, ey, l, q2⟩ => Calls.spliced_nil ?_)))
  subst ey
  exact d_pop I2 ea ry l (.inl rfl) fun w' s3 I3 rw' => ⟨v, _, I3, rw', q2⟩
theorem pe_dpop2 (ho : PE X o td) (he : PE X e ty) (hf : PE X f tx) (m : M2 X o "pop" apos e f cpos) : PE X (.Call (.Attribute o "pop" apos) [e, f] [] cpos) (tDPop2 td ty tx) := by
  intro pins s σ H Q I h
  refine wpAny_Call_method m.base m.few m.line PySem.F.plainAttrs_dict PySem.F.slot_dict_pop PySem.F.type_dict_pop (thn (ho pins s σ H _ I h) fun u s1 ⟨x, H1, I1, rx, a, ex, d, q1⟩ => ?_)
  subst ex
  obtain rfl : u = Value.ref a := rx
  obtain ⟨t1, t2, _⟩ := isD_at I1 d
  refine ⟨t1, t2, ?_⟩
  rw [m.trees]
  refine Calls.callWith_builtin rfl (Calls.evalArgs_plain (Calls.spliced_cons (thn (he pins s1 σ H1 _ I1 q1) fun iv s2 ⟨y, H2, I2, ry, q2⟩ =>
    Calls.spliced_cons (thn (hf pins s2 σ H2 _ I2 q2) fun fv s3 ⟨z, H3, I3, rz, kvs, k, ea, ey, q3, q4⟩ => Calls.spliced_nil ?_))))
  subst ey
  cases l : valV kvs k with
  | some v => exact d_pop I3 ea ry l (.inr ⟨fv, rfl⟩) fun w' s4 I4 rw' => ⟨v, _, I4, rw', q3 v l⟩
  | none => exact d_popD I3 ea ry l fun s4 I4 => ⟨z, H3, I4, rz, q4 l⟩
end

/-! ### dict(d): a copy -/
section
variable {X : Cx} {pins : List (Addr × Obj)} {σ : St} {H : Hp} {s : Shared} {a : Addr} {kvs : List (Key × V)} {A : Around} {E : Value → Shared → Prop}
theorem d_copyOf {Q : Value → Shared → Prop} (I : Inv X pins σ H s) (e : Rd H a (.dK kvs)) (h : ∀ p s', H p = none → Inv X pins σ (upd H p (.dK kvs)) s' → Q (.ref p) s') : wpAny (model X.prog X.w) A (call (.type "dict") [.ref a]) Q E s := by
  obtain ⟨z, hd, vs, rel, dd⟩ := dk_rd I.hok e
  refine kt_call_dict hd dd (by rw [← rel.length]; exact z) fun h' dd' hs => ?_
  refine h _ _ (I.hok.fresh (Nat.le_refl _)) (I.laid (a := s.heap.objs.size) (o := .dK kvs) (t' := s.toks) (fun b q hq => ?_) (Nat.le_refl _) (dk_new z (beq_eq_false_iff_ne.mpr (Ne.symm (Nat.ne_of_lt I.big))) rel dd'))
  exact (hs.2 b (Nat.ne_of_lt (Heap.lt_size hq))).trans (Heap.get?_push_of_some _ hq)
end


section
variable {X : Cx} {pins : List (Addr × Obj)} {σ : St} {H : Hp} {s : Shared} {a : Addr} {y : V} {u : Value} {A : Around} {E : Value → Shared → Prop}
/-- d[y], not there: a KeyError -/
theorem d_missing {Q : Value → Shared → Prop} (hu : A.units + 1 < cLine) (hh : A.handled = none) (I : Inv X pins σ H s) (g : DGet H a y none) (ry : RelV y u)
    (h : ∀ h' e t', Heap.NewExc s.heap h' e "KeyError" → E (.ref e) { s with heap := h', toks := t' }) : wpAny (model X.prog X.w) A (getItem (.ref a) u) Q E s := by
  rcases g with ⟨kvs, k, e, ey, l⟩ | ⟨kvs, k, b, e, ey, eb, l⟩
  · subst ey
    obtain ⟨z, hd, vs, rel, dd⟩ := dk_rd I.hok e
    have hn : valueAt vs k = none := RelO.none_of (by rw [l]; exact rel.val k)
    exact wpAny_getItem_missing_of (kV_is ry) hd hh dd.mapOf hn fun h' ex ne => h h' ex _ ne
  · subst ey
    cases (show u = Value.ref b from ry)
    obtain ⟨z, hd, xs, rel, dd⟩ := dt_rd I.hok e
    have hn : (atKey xs k).map (·.2) = none := RelO.none_of (by rw [l]; exact rel.val k)
    exact wpAny_getItem_missing_heap (tupleKind_room_in1 hu) (key_of I.hok eb) hd hh dd (Option.map_eq_none_iff.mp hn) fun h' ex ne => h h' ex _ ne
end
end L2

namespace Att
open PySem PySem.W PySem.Calls PyProof.Rows

/-! ### the script -/
theorem ints_of_wellAll {P : Params} {h : Heap} : ∀ (ns : List Int) (vs : List Value), WellAll P h vs (ns.map WData.int) → IntsAre vs ns := by
  intro ns
  induction ns with
  | nil =>
    intro vs w
    rw [List.map_nil] at w
    cases w
    exact .nil
  | cons n ns ih =>
    intro vs w
    rw [List.map_cons] at w
    cases w with
    | cons a b =>
      cases a
      exact .cons _ _ (ih _ b)

theorem script_of {l : OpenLaw} {n : Nat} (hn : l.most = some n) {P : Params} {h : Heap} {args : List WData} {vals : List Value}
    (hpre : l.row.toRowW.claim.pre args = true) (hwl : WellAll P h vals args) :
    ∃ a vs ns, vals = [Value.ref a] ∧ args = [WData.list (ns.map WData.int)] ∧ h.get? a = some { cls := .type "list", data := .seq vs.toArray } ∧ IntsAre vs ns ∧ ns.length ≤ n := by
  have hsh : WShape.hasAll [] args [.list .int] = true := (pre_splitW hpre).1
  have hc : l.pre.holds [] { args := args } = true := (pre_splitW hpre).2
  obtain ⟨d, r, rfl, h1, h2⟩ := hasAllW_cons hsh
  obtain rfl := hasAllW_nil h2
  obtain ⟨xs, rfl, h3⟩ := hasW_list h1
  obtain ⟨ns, rfl⟩ := items_int h3
  have hlen : ns.length ≤ n := by
    unfold OpenLaw.pre at hc
    have h4 : (WTm.not (.lt (.lit (.int (n : Int))) (.len (.arg 0)))).holds [] { args := [.list (ns.map .int)] } = true := by
      have h4 := (holds_andW hc).1
      rw [hn] at h4
      exact h4
    have h5 := condW_of h4 (w_not (w_lt w_lit (w_len_list (w_arg rfl))))
    rw [List.length_map] at h5
    refine Nat.le_of_not_lt fun q => ?_
    have q' : (n : Int) < ((ns.length : Nat) : Int) := by omega
    first
      | (rw [decide_eq_true q'] at h5; exact absurd h5 (by decide))
      | (simp at h5; omega)
  cases hwl with
  | cons w1 w2 =>
    cases w2
    cases w1 with
    | list ho hall => exact ⟨_, _, ns, rfl, rfl, ho, ints_of_wellAll ns _ hall, hlen⟩

theorem post_true (l : OpenLaw) (args : List WData) : l.row.toRowW.claim.post args (.bool true) args = true :=
  postW_of (r := l.row.toRowW) (X := (true == true))
    (show WShape.has [] (.bool true) .bool = true by first | rfl | decide | simp [WShape.has, WShape.arms, WShape.armsAll])
    (show (WTm.eq .res (.lit (.bool true))).value [] { args := args, res := some (.bool true), after := args } = some (.bool (true == true)) from w_eq_bool (w_res rfl) w_lit) rfl

/-! ### the attachment: holds_open's last premise (the goal 'hc' behind k_head) from a wpAny of the law's body -/
theorem attach {l : OpenLaw} {n : Nat} {q : Program} {loose : List Str} {XP : (Str → Option Value) → Heap → Prop} {YP : World → Heap → Prop} {d : DefRec} {x : Str}
    (hn : l.most = some n) (hdf : d.params.defaults = [])
    (hbind : ∀ pm cd doc v : Value, bindArgs (docDef d.name d.params d.body d.scope pm cd doc) ⟨[v], []⟩ = pure [(x, v)])
    (hx : d.scope.names.lookup x = some .local ∨ d.scope.names.lookup x = some .cell)
    (hk : d.scope.kind = .function) (hco : d.scope.isCoroutine = false) (hgen : d.scope.isGenerator = false)
    (body : ∀ (w : World) (s₀ s₁ s : Shared) (mg mb : Str → Option Value) (fa : Addr) (o : Obj) (pm cd doc : Value) (a : Addr) (vs : List Value) (ns : List Int),
      Ground q loose [] XP w s₀ mg mb s₁.heap → YP w s₁.heap →
      s₁.heap.get? fa = some o → o.data = .func (docDef d.name d.params d.body d.scope pm cd doc) → s₁.heap.CodeRec cd d.name → mg d.name = some (.ref fa) →
      s₁.heap.get? a = some { cls := .type "list", data := .seq vs.toArray } → IntsAre vs ns → ns.length ≤ n →
      s.gens = #[] → s.os = s₁.os →
      Fr s₁.heap s₁.heap.objs.size s.heap (bindL (envOfC d.name d.scope s₁.heap.objs.size fa cd).kindOf [(x, .ref a)] fun _ => none) →
      Cl s₁.heap.objs.size (cellsFrom (s₁.heap.objs.size + 1) d.scope.names []) s.heap (bindC (envOfC d.name d.scope s₁.heap.objs.size fa cd).kindOf [(x, .ref a)] fun _ => none) →
      wpAny (model l.prog w) (callerA.deeper (envOfC d.name d.scope s₁.heap.objs.size fa cd)) (execs d.body (envOfC d.name d.scope s₁.heap.objs.size fa cd))
        (fun f s' => f = .ret (.bool true) ∧ OldK s₁.heap s'.heap ∧ s'.os = s₁.os ∧ AllBare s'.gens) (fun _ _ => False) s) :
    WalkO q loose XP YP l.row.toRowW d [] (fun f vs => PySem.call f vs) := by
  intro w s₀ s₁ mg mb G Y fa o pm cd doc dV kV ho hd hcd hD hmg hg args vals as hpre hlay hrd hwl hlo
  obtain rfl : dV = .none := Dflts.none hD hdf
  obtain rfl : kV = .none := Dflts.noKw hD
  obtain ⟨a, vs, ns, rfl, rfl, hobj, hints, hlen⟩ := script_of hn hpre hwl
  refine enter_call ?_
  refine call_cells_ret (o := o) (by rw [depth_caller]; decide) ho (fd_plain hd) G.T.nolimit hcd (hbind pm cd doc (.ref a)) (fun y hy => ?_) (fun h₁ tk F X => ?_) hco hgen hk
  · obtain rfl : y = (x, Value.ref a) := List.mem_singleton.mp hy
    rcases hx with e | e
    · exact .inl e
    · exact .inr ⟨e, cellsFrom_some _ _ _ (.inl e)⟩
  · refine wpAny_mono (body w s₀ s₁ { s₁ with heap := h₁, toks := tk } mg mb fa o pm cd doc a vs ns G Y ho (fd_plain hd) hcd hmg hobj hints hlen hg rfl F X) (fun f s' hq => ?_) (fun _ _ hq => hq)
    obtain ⟨rfl, h2, h3, h4⟩ := hq
    exact ⟨.inl ⟨.bool true, .bool true, [], rfl, fun _ => rfl, .bool true, post_true l _, fun _ => ⟨List.Pairwise.nil, fun _ hm => (nomatch hm)⟩⟩, h2, h3, h4⟩

/-- the same from a codeAny of the CALL (for a layer whose function contracts speak of calls) -/
theorem attach_call {l : OpenLaw} {n : Nat} {q : Program} {loose : List Str} {XP : (Str → Option Value) → Heap → Prop} {YP : World → Heap → Prop} {d : DefRec}
    (hn : l.most = some n) (hdf : d.params.defaults = [])
    (call : ∀ (w : World) (s₀ s₁ : Shared) (mg mb : Str → Option Value) (fa : Addr) (o : Obj) (pm cd doc : Value) (a : Addr) (vs : List Value) (ns : List Int),
      Ground q loose [] XP w s₀ mg mb s₁.heap → YP w s₁.heap →
      s₁.heap.get? fa = some o → o.data = .func (docDef d.name d.params d.body d.scope pm cd doc) → s₁.heap.CodeRec cd d.name → mg d.name = some (.ref fa) →
      s₁.heap.get? a = some { cls := .type "list", data := .seq vs.toArray } → IntsAre vs ns → ns.length ≤ n → s₁.gens = #[] →
      codeAny (model l.prog w) callerA (.call (.ref fa) ⟨[.ref a], []⟩) (fun r s' => r = .ok (.ret (.bool true)) ∧ OldK s₁.heap s'.heap ∧ s'.os = s₁.os ∧ AllBare s'.gens) s₁) :
    WalkO q loose XP YP l.row.toRowW d [] (fun f vs => PySem.call f vs) := by
  intro w s₀ s₁ mg mb G Y fa o pm cd doc dV kV ho hd hcd hD hmg hg args vals as hpre hlay hrd hwl hlo
  obtain rfl : dV = .none := Dflts.none hD hdf
  obtain rfl : kV = .none := Dflts.noKw hD
  obtain ⟨a, vs, ns, rfl, rfl, hobj, hints, hlen⟩ := script_of hn hpre hwl
  refine enter_call (codeAny_mono (call w s₀ s₁ mg mb fa o pm cd doc a vs ns G Y ho (fd_plain hd) hcd hmg hobj hints hlen hg) fun r s' hq => ?_)
  obtain ⟨rfl, h2, h3, h4⟩ := hq
  exact ⟨.inl ⟨.bool true, .bool true, [], rfl, fun _ => rfl, .bool true, post_true l _, fun _ => ⟨List.Pairwise.nil, fun _ hm => (nomatch hm)⟩⟩, h2, h3, h4⟩

/-- the same where the top left finished generators (o_head chose holds_openN): nothing may have changed at all and no generator may be left -/
theorem attachN {l : OpenLaw} {n : Nat} {q : Program} {loose : List Str} {XP : (Str → Option Value) → Heap → Prop} {YP : World → Heap → Prop} {d : DefRec} {x : Str}
    (hn : l.most = some n) (hdf : d.params.defaults = [])
    (hbind : ∀ pm cd doc v : Value, bindArgs (docDef d.name d.params d.body d.scope pm cd doc) ⟨[v], []⟩ = pure [(x, v)])
    (hx : d.scope.names.lookup x = some .local ∨ d.scope.names.lookup x = some .cell)
    (hk : d.scope.kind = .function) (hco : d.scope.isCoroutine = false) (hgen : d.scope.isGenerator = false)
    (body : ∀ (w : World) (s₀ s₁ s : Shared) (mg mb : Str → Option Value) (fa : Addr) (o : Obj) (pm cd doc : Value) (a : Addr) (vs : List Value) (ns : List Int),
      Ground q loose [] XP w s₀ mg mb s₁.heap → YP w s₁.heap →
      s₁.heap.get? fa = some o → o.data = .func (docDef d.name d.params d.body d.scope pm cd doc) → s₁.heap.CodeRec cd d.name → mg d.name = some (.ref fa) →
      s₁.heap.get? a = some { cls := .type "list", data := .seq vs.toArray } → IntsAre vs ns → ns.length ≤ n →
      s.gens = #[] → s.os = s₁.os →
      Fr s₁.heap s₁.heap.objs.size s.heap (bindL (envOfC d.name d.scope s₁.heap.objs.size fa cd).kindOf [(x, .ref a)] fun _ => none) →
      Cl s₁.heap.objs.size (cellsFrom (s₁.heap.objs.size + 1) d.scope.names []) s.heap (bindC (envOfC d.name d.scope s₁.heap.objs.size fa cd).kindOf [(x, .ref a)] fun _ => none) →
      wpAny (model l.prog w) (callerA.deeper (envOfC d.name d.scope s₁.heap.objs.size fa cd)) (execs d.body (envOfC d.name d.scope s₁.heap.objs.size fa cd))
        (fun f s' => f = .ret (.bool true) ∧ (∀ b o, s₁.heap.get? b = some o → s'.heap.get? b = some o) ∧ s'.os = s₁.os ∧ s'.gens = #[]) (fun _ _ => False) s) :
    WalkN q loose XP YP l.row.toRowW d [] (fun f vs => PySem.call f vs) := by
  intro w s₀ s₁ mg mb G Y fa o pm cd doc dV kV ho hd hcd hD hmg hg args vals as hpre hlay hrd hwl hlo
  obtain rfl : dV = .none := Dflts.none hD hdf
  obtain rfl : kV = .none := Dflts.noKw hD
  obtain ⟨a, vs, ns, rfl, rfl, hobj, hints, hlen⟩ := script_of hn hpre hwl
  refine enter_callW ?_
  refine call_cells_ret (o := o) (by rw [depth_caller]; decide) ho (fd_plain hd) G.T.nolimit hcd (hbind pm cd doc (.ref a)) (fun y hy => ?_) (fun h₁ tk F X => ?_) hco hgen hk
  · obtain rfl : y = (x, Value.ref a) := List.mem_singleton.mp hy
    rcases hx with e | e
    · exact .inl e
    · exact .inr ⟨e, cellsFrom_some _ _ _ (.inl e)⟩
  · refine wpAny_mono (body w s₀ s₁ { s₁ with heap := h₁, toks := tk } mg mb fa o pm cd doc a vs ns G Y ho (fd_plain hd) hcd hmg hobj hints hlen hg rfl F X) (fun f s' hq => ?_) (fun _ _ hq => hq)
    obtain ⟨rfl, h2, h3, h4⟩ := hq
    exact ⟨.inl ⟨.bool true, .bool true, [], rfl, fun _ => rfl, .bool true, post_true l _, fun _ => ⟨List.Pairwise.nil, fun _ hm => (nomatch hm)⟩⟩, h2, h3, h4⟩

/-! ### rules over ANY heap (no ledger) from facts about the written part K: the library's own take a ledger (News) for what they write -/
section
variable {prog : Program} {w : World} {A : Around} {E : Value → Shared → Prop} {s : Shared} {K : Frag}

/-- a def of the module, or a method (qual 'C.m'), entered: the frame is the next address; cells behind it -/
theorem call_fn {R : Result → Shared → Prop} {name qual : Str} {params : Arguments} {body : List Stmt} {scope : Scope} {dV kV doc pm cdv ct oc : Value} {an od : Option Addr} {osl : Array (Option Value)} {f : Addr} {args : Args} {binds : List (Str × Value)}
    (X : K.In s.heap) (hlim : s.heap.NoLimit) (ho : K.lookup f = some ⟨oc, od, .func (fnOf name qual params body scope dV kV doc pm an cdv ct), osl⟩) (hcd : codeIn K cdv qual = true) (hroom : A.depth < recursionLimit)
    (hbind : BindsTo s (fnOf name qual params body scope dV kV doc pm an cdv ct) args binds)
    (hkind : (binds.all fun y => scope.names.lookup y.1 == some .local || scope.names.lookup y.1 == some .cell) = true)
    (h : ∀ s₁, InCallC s s.heap.objs.size (bindL (envOfC qual scope s.heap.objs.size f cdv).kindOf binds fun _ => none) (cellsFrom (s.heap.objs.size + 1) scope.names [])
        (bindC (envOfC qual scope s.heap.objs.size f cdv).kindOf binds fun _ => none) s₁ →
      wpAny (model prog w) (A.deeper (envOfC qual scope s.heap.objs.size f cdv)) (execs body (envOfC qual scope s.heap.objs.size f cdv))
        (fun fl s' => R (.ok (.ret (match fl with | .ret v => v | _ => .none))) s')
        (fun e s' => wpAny (model prog w) (A.deeper (envOfC qual scope s.heap.objs.size f cdv)) (leaving (envOfC qual scope s.heap.objs.size f cdv) e) (fun _ s'' => R (.error e) s'') (fun e' s'' => R (.error e') s'') s') s₁)
    (hco : scope.isCoroutine = false) (hgen : scope.isGenerator = false) (hk : scope.kind = .function) : codeAny (model prog w) A (.call (.ref f) args) R s := by
  refine codeAny_call_function hroom (X _ _ ho) rfl hco hgen rfl (codeRec_of X hcd) (hbind _ _ _ _ ?_)
  refine wpAny_newFunctionEnv_cells hk (kindsX hkind _) fun env he s₁ x => ?_
  subst he
  exact ⟨hlim.keeps x.toInCall.keep, codeAny_func (h s₁ x)⟩

/-- C(..): dict at size, instance at size + 1, then __init__ -/
theorem make_obj {R : Result → Shared → Prop} {C fI : Addr} {rest : List Value} {kw : List (Str × Value)}
    (X : K.In s.heap) (hm : makesIn K C = true) (hi : findIn K (.ref C) "__init__" = some (some (.ref fI))) (hf : isFn K (.ref fI) = true)
    (h : codeAny (model prog w) (A.under (.builtin "type.__call__" ⟨.ref C :: rest, kw⟩)) (.call (.ref fI) ⟨.ref (s.heap.objs.size + 1) :: rest, kw⟩) (InitBack (s.heap.objs.size + 1) R)
      { s with heap := (s.heap.push emptyDict).push (instObj C s.heap.objs.size) }) : codeAny (model prog w) A (.call (.ref C) ⟨rest, kw⟩) R s := by
  obtain ⟨hh, g, d, t, os⟩ := s
  exact make_core (makes_of X hm) (looks_findIn X hi) (fun self => bind_fn X self (beq_iff_eq.mp hf)) (.inl rfl) h

/-- x.name where the instance's dict holds the name and the class does not -/
theorem get_field {x C : Addr} {ox : Obj} {es : List DictEntry} {n : Nat} {name : Str} {expr : Bool} {v : Value} {Q : Value → Shared → Prop}
    (X : K.In s.heap) (I : PySem.W.InstAt s.heap x ox C (some (dictOf es n))) (hg : plainGet K C name = true) (hh : hasDictIn K C = true) (ha : findIn K (.ref C) name = some none)
    (hl : getL name es = some (some v)) (hv : handedIn v = true) (h : Q v { s with toks := s.toks + 1 }) : wpAny (model prog w) A (getAttr (.ref x) name expr) Q E s :=
  get_value X I (plainGet_of hg).1 (findObj_own hh ha rfl hl) hv h

/-- x.m(..): the method found in the class -/
theorem get_method {x C f : Addr} {ox : Obj} {es : List DictEntry} {n : Nat} {name : Str} {pl : Sem Bool} {Q : Value × List Value → Shared → Prop}
    (X : K.In s.heap) (I : PySem.W.InstAt s.heap x ox C (some (dictOf es n))) (hg : plainGet K C name = true) (hf : findIn K (.ref C) name = some (some (.ref f))) (ht : isFn K (.ref f) = true)
    (hl : getL name es = some none) (h : Q (.ref f, [.ref x]) s) : wpAny (model prog w) A (getMethod (.ref x) name pl) Q E s :=
  method_fn X I (plainGet_of hg).1 (plainGet_of hg).2 hf (beq_iff_eq.mp ht) (by show (lookIn name (dictOf es n)).map _ = _; rw [lookIn_dict, hl]; rfl) h

/-! the whole heap as the ledger: makes every rule that writes through a ledger a rule over any heap -/
def noObjs (h : Heap) : Heap := { h with objs := #[] }
theorem noObjs_get (h : Heap) (b : Addr) : (noObjs h).get? b = none := by
  cases e : (noObjs h).get? b with
  | none => rfl
  | some o => exact absurd (Heap.lt_size e) (Nat.not_lt_zero _)
def ledger (h : Heap) (L d : Addr) : List (Addr × Obj) := (List.range h.objs.size).filterMap fun a => if a = L ∨ a = d then none else (h.get? a).map fun o => (a, o)
theorem mem_ledger {h : Heap} {L d a : Addr} {o : Obj} : (a, o) ∈ ledger h L d ↔ a ≠ L ∧ a ≠ d ∧ h.get? a = some o := by
  unfold ledger
  rw [List.mem_filterMap]
  constructor
  · rintro ⟨b, _, e⟩
    split at e
    · cases e
    · rename_i hb
      obtain ⟨o', ho, e'⟩ := Option.map_eq_some_iff.mp e
      cases e'
      exact ⟨fun q => hb (.inl q), fun q => hb (.inr q), ho⟩
  · rintro ⟨n1, n2, ho⟩
    refine ⟨a, List.mem_range.mpr (Heap.lt_size ho), ?_⟩
    rw [if_neg (show ¬ (a = L ∨ a = d) from fun q => q.elim n1 n2), ho] <;> rfl
theorem news_ledger {h : Heap} {L d : Addr} {od : Obj} (hne : d ≠ L) (ho : h.get? d = some od) : News (noObjs h) L h ([] ++ (d, od) :: ledger h L d) := by
  rintro ⟨a, o⟩ hp
  rcases List.mem_cons.mp hp with e | hp
  · cases e
    exact ⟨ho, hne, noObjs_get _ _⟩
  · obtain ⟨n1, n2, e⟩ := mem_ledger.mp hp
    exact ⟨e, n1, noObjs_get _ _⟩
theorem fr_all {h : Heap} {L : Addr} {m : Str → Option Value} (n : h.Ns L m) : Fr (noObjs h) L h m :=
  ⟨n, fun b o e => (by rw [noObjs_get] at e; cases e), Nat.zero_le _⟩
/-- Upd of the head entry (for append_K, setItem_K ..) -/
theorem upd_ledger {h : Heap} {L d : Addr} {o o' : Obj} : Upd d o o' ((d, o) :: ledger h L d) ((d, o') :: ledger h L d) :=
  .head fun ⟨_, _⟩ hp => (mem_ledger.mp hp).2.1

/-- x.name = v over any heap: L is any namespace of the heap (the frame's, say): its map stays, its object is not told; all else but the dict stays -/
theorem set_field {x C dx L : Addr} {ox : Obj} {m : Str → Option Value} {es es' : List DictEntry} {n n' : Nat} {name : Str} {v : Value} {Q : Unit → Shared → Prop}
    (X : K.In s.heap) (I : PySem.W.InstAt s.heap x ox C (some (dictOf es n))) (hd : ox.dict = some dx) (hL : s.heap.Ns L m) (hne : dx ≠ L)
    (hs : findIn K (.ref C) "__setattr__" = some (some (.builtin "object.__setattr__"))) (hp : plainOver K C = true) (ht : takerIn K C name = some none) (hh : hasDictIn K C = true) (hl : (getL name es).isSome = true)
    (e : (putL name (PyData.keyHash w.params name) (.str name (s.toks + 1)) v es, putN name es n) = (es', n')) (hz : es'.length ≤ 1000)
    (h : ∀ h' : Heap, h'.Ns L m → h'.get? dx = some (dictOf es' n') → (∀ b o, b ≠ dx → b ≠ L → s.heap.get? b = some o → h'.get? b = some o) → Q () { s with heap := h', toks := s.toks + 2 }) :
    wpAny (model prog w) A (setAttr (.ref x) name v) Q E s := by
  obtain ⟨e1, e2⟩ := Prod.mk.inj e
  have hdx : s.heap.get? dx = some (dictOf es n) := by
    have := I.dict
    rw [hd] at this
    exact this
  refine set_plain X I hs (osa_dict (s := { s with toks := s.toks + 1 }) (h₀ := noObjs s.heap) (L := L) (m := m) (od := dictOf es n) (od' := dictOf es' n') (es := es') (n := n') (pre := []) (post := ledger s.heap L dx)
    (fr_all hL) (news_ledger hne hdx) X I hd hp ht hh hl (fun _ q => nomatch q) (fun ⟨_, _⟩ q => (mem_ledger.mp q).2.1) (by rw [putName_dict, e1, e2]) rfl hz fun h' F' N' => ?_)
  exact h h' F'.ns (N'.get (List.Mem.head _)) fun b o n1 n2 ho => N'.get (List.Mem.tail _ (mem_ledger.mpr ⟨n2, n1, ho⟩))
end
end Att

namespace L2
open PySem PySem.Spec PyProof.Rows

theorem vals_ints : ∀ {vs : List Value} {ns : List Int}, IntsAre vs ns → Vals (ns.map V.int) vs
  | _, _, .nil => .nil
  | _, _, .cons n t h => .cons ⟨t, rfl⟩ (vals_ints h)

/-- nothing is tracked but the script, known to the object (or it is an object of the module) -/
def Only (H : Hp) : Prop := ∀ b, H b = none ∨ ∃ o xs, H b = some (.frz o (.lst xs))

/-- THE HEAD: the law's promise, at the heap behind the top. F, the promise of the law's def, may use that base is part of the heap (so K.In base, base.Ns mainGlobals mg stand in Mod) -/
theorem law_call {P : Program} {w : World} {K : PySem.W.Frag} {mg mb : Str → Option Value} {CX : CXT} {k : Nat} {fa a : Addr} {fd : FuncData} {x : Str} {sp : Sp} {s₁ : Shared} {vs : List Value} {ns : List Int}
    (KX : K.In s₁.heap) (hns : s₁.heap.Ns mainGlobals mg) (hb : s₁.heap.Ns builtinsNs mb) (hbb : ∀ x : Str, x ≠ "__name__" → mb x = bootBuiltins x) (hlim : s₁.heap.NoLimit) (hg : s₁.gens = #[])
    (ha : s₁.heap.get? a = some { cls := .type "list", data := .seq vs.toArray }) (hi : IntsAre vs ns) (hl : ns.length ≤ sizeLine) (hr : Room k callerA)
    (F : ∀ base : Heap, K.In base → base.Ns mainGlobals mg → FnOk P w K mg base CX k fa fd [x] sp) (hbind : ∀ (s : Shared) (u : Value), BindsTo s fd ⟨[u], []⟩ [(x, u)])
    (hsp : ∀ H : Hp, Only H → SqL K H a (ns.map V.int) → sp [.ref a] H (fun v _ => v = .bl true) fun _ _ _ => False)
    (hCX : ∀ H e s', CX [] H s₁ (fun _ _ _ => False) e s' → False) :
    codeAny (model P w) callerA (.call (.ref fa) ⟨[.ref a], []⟩) (fun r s' => r = .ok (.ret (.bool true)) ∧ OldK s₁.heap s'.heap ∧ s'.os = s₁.os ∧ AllBare s'.gens) s₁ := by
  have rv := vals_ints hi
  have lenV := hi.length
  -- from an abstract heap in which nothing but the script may be tracked
  have core : ∀ H : Hp, Only H → SqL K H a (ns.map V.int) → HOk P w H s₁.heap → (∀ b, H b ≠ none → b = a) → (H a ≠ none → K.lookup a = none) →
      codeAny (model P w) callerA (.call (.ref fa) ⟨[.ref a], []⟩) (fun r s' => r = .ok (.ret (.bool true)) ∧ OldK s₁.heap s'.heap ∧ s'.os = s₁.os ∧ AllBare s'.gens) s₁ := by
    intro H hO hS hok hA hK
    have base_of : ∀ {b : Addr} {o : Obj}, s₁.heap.get? b = some o → H b = none → (hidT s₁.heap H).get? b = some o := fun e n => hidT_get e n
    have noA : ∀ {b : Addr} {o : Obj} {es : Array DictEntry} {ep : Nat}, s₁.heap.get? b = some o → o.data = .dict es ep → H b = none := fun {b o es ep} e d => by
      cases q : H b with
      | none => rfl
      | some u =>
        have e' : b = a := hA b (by rw [q]; simp)
        subst e'
        rw [ha] at e; cases e
        have d' : Data.seq vs.toArray _ = Data.dict es ep := d
        cases d'
    have nsK : ∀ {b : Addr} {m : Str → Option Value}, s₁.heap.Ns b m → (hidT s₁.heap H).Ns b m := fun {b m} ⟨o, es, ep, e, d, r⟩ => ⟨o, es, ep, base_of e (noA e d), d, r⟩
    have hKb : K.In (hidT s₁.heap H) := fun b o e => base_of (KX b o e) (by
      cases q : H b with
      | none => rfl
      | some u =>
        have e' : b = a := hA b (by rw [q]; simp)
        subst e'
        rw [hK (by rw [q]; simp)] at e; cases e)
    have hM : Mod K mg (hidT s₁.heap H) := ⟨hKb, nsK hns, ⟨mb, nsK hb, hbb⟩, let ⟨mc, h1, h2⟩ := hlim; ⟨mc, nsK h1, h2⟩⟩
    have e0 : Env0 P w K mg (hidT s₁.heap H) callerA [] s₁ H := ⟨rfl, hM, fun b o e => of_hidT e, Nat.le_of_eq (hidT_size _ _), trivial, fun b hb => absurd (show b ∈ ([] : List Addr) from hb) (by simp), hok, .of_eq hg⟩
    refine codeAny_mono ((F _ hKb (nsK hns)).run callerA [] s₁ H ⟨[.ref a], []⟩ [.ref a] [.ref a] _ _ hr e0 (hbind s₁ (.ref a)) (.cons rfl .nil) (hsp H hO hS)) fun r s' h => ?_
    cases r with
    | error e => exact (hCX H e s' h).elim
    | ok fl =>
      cases fl with
      | next => exact False.elim h
      | brk => exact False.elim h
      | cont => exact False.elim h
      | ret u =>
        obtain ⟨v, H', os, bare, un, hok', r', q⟩ := h
        have q' : v = .bl true := q
        subst q'
        obtain rfl : u = Value.bool true := r'
        refine ⟨rfl, OldK.of_keep fun b o e => ?_, os, bare⟩
        cases q : H b with
        | none => exact un.keep b o e q (by intro z; exact absurd (show b ∈ ([] : List Addr) from z) (by simp)) (by simp)
        | some u =>
          rcases hO b with z | ⟨ob, xs, z⟩
          · rw [q] at z; cases z
          · have z2 := un.frzs b ob _ z
            obtain ⟨e1, _⟩ := hok b _ z
            obtain ⟨e2, _⟩ := hok' b _ z2
            rw [e] at e1; cases e1
            exact e2
  cases hk : K.lookup a with
  | some o =>
    -- the script is one of the module's own objects
    have e := KX a o hk
    rw [ha] at e
    cases e
    refine core (fun _ => none) (fun _ => .inl rfl) (.inr ⟨_, vs.toArray, _, hk, rfl, rfl, rfl, by rw [List.size_toArray, lenV]; exact hl, by simpa using rv⟩) (fun b u z => by have z' : (none : Option HO) = some u := z; cases z') (fun b z => absurd rfl z) fun z => absurd rfl z
  | none =>
    refine core (fun b => if b = a then some (.frz { cls := .type "list", data := .seq vs.toArray } (.lst (ns.map V.int))) else none) (fun b => ?_) (.inl (.inr ⟨{ cls := .type "list", data := .seq vs.toArray }, if_pos rfl⟩)) (fun b u z => ?_) (fun b z => ?_) fun _ => hk
    · by_cases hb : b = a
      · exact .inr ⟨_, _, if_pos hb⟩
      · exact .inl (if_neg hb)
    · by_cases hb : b = a
      · have z' := (if_pos hb).symm.trans z
        cases z'
        subst hb
        exact ⟨ha, by rw [List.length_map]; exact hl, vs, _, rv, ha⟩
      · have z' := (if_neg hb).symm.trans z
        cases z'
    · by_cases hb : b = a
      · exact hb
      · exact absurd (if_neg hb) z
end L2

namespace L2
open PySem PySem.Spec PyProof.Rows

abbrev KOf {K : PySem.W.Frag} {h : Heap} (_ : K.In h) : PySem.W.Frag := K

/-- the goal that k_head leaves (case hc), from the law's promise. F gives the function object fd (K's own) once, then the promise over every base -/
theorem walk_of {l : PySem.W.OpenLaw} {n k : Nat} {q : Program} {loose : List Str} {XP : (Str → Option Value) → Heap → Prop} {YP : World → Heap → Prop} {d : DefRec} {K : Params → PySem.W.Frag} {CX : World → CXT} {sp : World → Sp} {x : Str}
    (hn : l.most = some n) (hn2 : n ≤ sizeLine) (hdf : d.params.defaults = []) (hr : Room k callerA)
    (hY : ∀ (w : World) (h : Heap), YP w h → (K w.params).In h)
    (F : ∀ (w : World) (mg : Str → Option Value) (fa : Addr) (h : Heap), (K w.params).In h → h.Ns mainGlobals mg → mg d.name = some (.ref fa) →
      ∃ fd : FuncData, (∀ (s : Shared) (u : Value), BindsTo s fd ⟨[u], []⟩ [(x, u)]) ∧
        ∀ base : Heap, (K w.params).In base → base.Ns mainGlobals mg → FnOk l.prog w (K w.params) mg base (CX w) k fa fd [x] (sp w))
    (hsp : ∀ (w : World) (H : Hp) (a : Addr) (ns : List Int), ns.length ≤ n → Only H → SqL (K w.params) H a (ns.map V.int) → sp w [.ref a] H (fun v _ => v = .bl true) fun _ _ _ => False)
    (hCX : ∀ (w : World) (H : Hp) (s : Shared) (e : Value) (s' : Shared), CX w [] H s (fun _ _ _ => False) e s' → False) :
    PySem.W.WalkO q loose XP YP l.row.toRowW d [] (fun f vs => PySem.call f vs) := by
  refine Att.attach_call hn hdf fun w s₀ s₁ mg mb fa o pm cd doc a vs ns G Y ho hd hcd hmg hobj hints hlen hg => ?_
  have KX := hY w _ Y
  obtain ⟨fd, hb, hF⟩ := F w mg fa _ KX G.T.g hmg
  exact law_call KX G.T.g G.T.b G.T.builtins G.T.nolimit hg hobj hints (Nat.le_trans hlen hn2) hr hF hb (fun H hO hS => hsp w H a ns hlen hO hS) fun H e s' => hCX w H s₁ e s'
/-- the same where the promise hangs on the written part alone: (sp := My.sp_law), no hole under a binder -/
theorem walk_ofK {l : PySem.W.OpenLaw} {n k : Nat} {q : Program} {loose : List Str} {XP : (Str → Option Value) → Heap → Prop} {YP : World → Heap → Prop} {d : DefRec} {K : Params → PySem.W.Frag} {CX : CXT} {sp : PySem.W.Frag → Sp} {x : Str}
    (hn : l.most = some n) (hn2 : n ≤ sizeLine) (hdf : d.params.defaults = []) (hr : Room k callerA)
    (hY : ∀ (w : World) (h : Heap), YP w h → (K w.params).In h)
    (F : ∀ (w : World) (mg : Str → Option Value) (fa : Addr) (h : Heap), (K w.params).In h → h.Ns mainGlobals mg → mg d.name = some (.ref fa) →
      ∃ fd : FuncData, (∀ (s : Shared) (u : Value), BindsTo s fd ⟨[u], []⟩ [(x, u)]) ∧
        ∀ base : Heap, (K w.params).In base → base.Ns mainGlobals mg → FnOk l.prog w (K w.params) mg base CX k fa fd [x] (sp (K w.params)))
    (hsp : ∀ (K : PySem.W.Frag) (H : Hp) (a : Addr) (ns : List Int), ns.length ≤ n → Only H → SqL K H a (ns.map V.int) → sp K [.ref a] H (fun v _ => v = .bl true) fun _ _ _ => False)
    (hCX : ∀ (H : Hp) (s : Shared) (e : Value) (s' : Shared), CX [] H s (fun _ _ _ => False) e s' → False) :
    PySem.W.WalkO q loose XP YP l.row.toRowW d [] (fun f vs => PySem.call f vs) :=
  walk_of (K := K) (CX := fun _ => CX) (sp := fun w => sp (K w.params)) hn hn2 hdf hr hY F (fun w H a ns h1 h2 h3 => hsp (K w.params) H a ns h1 h2 h3) fun _ H s e s' => hCX H s e s'
end L2

/- THE LAST THEOREM (shape; LID, My.* are yours):
   My.Adr: a structure of the addresses that your layer names (classes, functions); My.Txt K t: a structure (Prop) of the equations over K;
   My.txt_mk : {K} {implicit addresses ..} (e1 : nsIn K mainGlobals "law" = some (some (.ref f))) (e2 : K.lookup f = some ⟨oc, od, .func (fnOf "law" "law" params body scope dV kV doc pm an cdv ct), sl⟩) (e3 : codeIn K cdv "law" = true) .. : ∃ t, My.Txt K t

set_option maxRecDepth 100000 in
set_option maxHeartbeats 0 in
theorem PySem.Challenge.cw_LID_holds : PySem.Challenge.rw_LID.Holds := by
  w_on; o_law; k_head; (case hw => w_witness2)
  k_fill
  refine L2.walk_of (l := PySem.Challenge.rw_LID) (n := 63) (k := 40) (x := "script") (CX := fun w => ..) (sp := fun _ => My.sp_law) rfl (by decide) rfl ⟨rfl, by decide, by decide⟩ (fun w h Y => PySem.W.kIn_of Y) ?F ?S ?C
  case F =>
    intro w mg fa h KX G hmg
    have T : ∃ t, My.Txt (L2.KOf KX) t := by
      dsimp only [L2.KOf]                          -- K must stand as «<heap const> w.params» for k_is
      refine' My.txt_mk ?e1 ?e2 ?e3 ..
      (case e1 => PySem.W.k_is)                    -- in the order: a name -> its address -> its object -> its parts
      (case e2 => PySem.W.k_is)
      ..
    obtain ⟨t, T⟩ := T
    have e0 := hmg.symm.trans (PySem.W.mg_of KX G T.law)
    cases e0                                       -- fa is the law's own address
    exact ⟨_, fun s u => .of_eq rfl, fun base kb nb => My.law_fn T kb nb⟩     -- if «.of_eq rfl» comes too early: refine' ⟨_, ?b, fun base kb nb => My.law_fn T kb nb⟩; exact fun s u => .of_eq rfl
  case S => exact fun w H a ns hl hO hS => ..
  case C => exact ..
(the tactic k_is has no namespace: write k_is) -/

/-! SHORT WORDS over the layer: a def of the text, its body, what a loop and a test want. -/
namespace L2
open PySem PySem.Spec PyProof.Rows

/-! ### the text by places -/
/-- the j-th statement of a class's body -/
def inClass (s : Stmt) (j : Nat) : Stmt := match s with
  | .ClassDef _ _ _ body _ _ _ _ _ _ _ => body.getD j (.Pass ⟨0, 0, 0, 0⟩)
  | _ => .Pass ⟨0, 0, 0, 0⟩
def defArgs (s : Stmt) : Arguments := match s with
  | .FunctionDef _ a _ _ _ _ _ _ _ _ => a
  | _ => { posonlyargs := [], args := [], vararg := none, kwonlyargs := [], kw_defaults := [], kwarg := none, defaults := [] }
def defBody (s : Stmt) : List Stmt := match s with
  | .FunctionDef _ _ b _ _ _ _ _ _ _ => b
  | _ => []
def defScope (s : Stmt) : Scope := match s with
  | .FunctionDef _ _ _ _ _ _ sc _ _ _ => sc
  | _ => { kind := .function, names := [], isGenerator := false, isCoroutine := false }

/-! ### no exception leaves a def -/
abbrev CX0 : CXT := fun _ _ _ _ _ _ => False
abbrev E0 : XK := fun _ _ _ => False
theorem pass0 {X : Cx} : Passes CX0 X E0 := fun _ _ _ _ _ _ _ h => h.elim

/-! ### a def (or method) of the text as it stands behind the top -/
structure Fun (K : PySem.W.Frag) (x qual : Str) (st : Stmt) (f : Addr) (fd : FuncData) : Prop where
  ex : ∃ (oc : Value) (od : Option Addr) (kV doc pm : Value) (an : Option Addr) (cdv ct : Value) (osl : Array (Option Value)),
    fd = PySem.W.fnOf x qual (defArgs st) (defBody st) (defScope st) .none kV doc pm an cdv ct ∧ K.lookup f = some ⟨oc, od, .func fd, osl⟩ ∧ PySem.W.codeIn K cdv qual = true
  kp : PySem.W.keepIn K (.ref f) = true
section
variable {P : Program} {w : World} {K : PySem.W.Frag} {mg : Str → Option Value} {base : Heap}
/-- THE RULE for a def: its body as a term of rules, and the reading of that term -/
theorem Fun.ok {x qual : Str} {st : Stmt} {f : Addr} {fd : FuncData} {N ps : List Str} {k : Nat} {sp : Sp} (F : Fun K x qual st f fd) (S : FnScope N ps (defScope st)) (len : ∀ vs H Q E, sp vs H Q E → vs.length = ps.length)
    (hbody : ∀ (cdv : Value) (A : Around) (outer : List Env) (s : Shared) (H : Hp) (vs : List V) (Q : VK) (E : XK), Room k (A.deeper (envOfC qual (defScope st) s.heap.objs.size f cdv)) → sp vs H Q E →
      ∃ t, PSs (cxOf CX0 P w K mg base N qual (defScope st) f cdv A outer s H E).nox (defBody st) t ∧ t { nx := fun _ H' => Q .non H', rt := Q } (start N vs) H) : FnOk P w K mg base CX0 (k + 1) f fd ps sp := by
  obtain ⟨oc, od, kV, doc, pm, an, cdv, ct, osl, rfl, lk, hcd⟩ := F.ex
  refine fn_of lk hcd S len fun A outer s H vs Q E hr hsp => ?_
  obtain ⟨t, h, q⟩ := hbody cdv A outer s H vs Q E hr hsp
  exact ⟨t, h.nox, q⟩
/-- how its arguments bind (no defaults): h is «fun _ _ _ _ _ _ us hl => match us, hl with | [_, _], _ => rfl», one _ a parameter -/
theorem Fun.binds {x qual : Str} {st : Stmt} {f : Addr} {fd : FuncData} {ps : List Str} (F : Fun K x qual st f fd)
    (h : ∀ (kV doc pm : Value) (an : Option Addr) (cdv ct : Value) (us : List Value), us.length = ps.length → bindArgs (PySem.W.fnOf x qual (defArgs st) (defBody st) (defScope st) .none kV doc pm an cdv ct) ⟨us, []⟩ = pure (ps.zip us)) : Binds K fd ps [] := by
  obtain ⟨oc, od, kV, doc, pm, an, cdv, ct, osl, rfl, lk, hcd⟩ := F.ex
  exact .all (h kV doc pm an cdv ct)
theorem fun_mk {x qual : Str} {st : Stmt} {f : Addr} {oc : Value} {od an : Option Addr} {osl : Array (Option Value)} {kV doc pm cdv ct : Value} (l : K.lookup f = some ⟨oc, od, .func (PySem.W.fnOf x qual (defArgs st) (defBody st) (defScope st) .none kV doc pm an cdv ct), osl⟩)
    (c : PySem.W.codeIn K cdv qual = true) (k : PySem.W.keepIn K (.ref f) = true) : Fun K x qual st f (PySem.W.fnOf x qual (defArgs st) (defBody st) (defScope st) .none kV doc pm an cdv ct) := ⟨⟨oc, od, kV, doc, pm, an, cdv, ct, osl, rfl, l, c⟩, k⟩
end
theorem hu_of {A : Around} {k : Nat} (hr : Room k A) : A.units + 1 < cLine := Nat.lt_of_le_of_lt (Nat.add_le_add_left (by decide : 1 ≤ 64) _) hr.units
theorem small1000 {n : Nat} (h : n ≤ 1000) : n < sizeLine := Nat.lt_of_le_of_lt h (by decide)

/-! ### expressions in short: the name that stands in the i-th slot -/
section
variable {X : Cx}
theorem pv (i : Nat) {x : Str} {pos : Pos} (hN : X.N[i]? = some x := by rfl) (hv : Vis X.env.scope x := by first | exact Or.inl rfl | exact Or.inr (Or.inl rfl) | exact Or.inr (Or.inr rfl)) (hd : (x == ("__debug__" : Str)) = false := by decide)
    (hcd : (x == ("__classdict__" : Str)) = false := by decide) : PE X (.Name x pos) (tVar i) := pe_var hN hv hd hcd
end

section
variable {X : Cx}
/-- len of a dict -/
theorem call_lenD : CallR X (.builtin "len") (fun xs H Q => ∃ a kvs, xs = [V.ref a] ∧ H a = some (.dK kvs) ∧ Q (.int kvs.length) H) := by
  intro pins s σ H xs us Q I r h
  obtain ⟨a, kvs, rfl, ha, q⟩ := h
  obtain ⟨u, rfl, ru⟩ := vals1 r
  cases ru
  exact d_len I (.inl ha) fun t s' I' => ⟨.int kvs.length, H, I', ⟨t, rfl⟩, q⟩
end

/-! ### tests -/
theorem iteF {A B : Prop} (h : B) : if false = true then A else B := by
  rw [if_neg Bool.false_ne_true]
  exact h
theorem iteT {A B : Prop} (h : A) : if true = true then A else B := by
  rw [if_pos rfl]
  exact h
theorem ite2 {c A B : Prop} [Decidable c] (h1 : c → A) (h2 : ¬ c → B) : if c then A else B := by
  by_cases h : c
  · rw [if_pos h]
    exact h1 h
  · rw [if_neg h]
    exact h2 h
theorem iteNS {c A B : Prop} [Decidable c] (hc : c) (h : B) : if (!decide c) = true then A else B := by
  rw [decide_eq_true hc]
  exact iteF h

/-! ### heaps -/
/-- all that was tracked is as it was -/
def Same (H H' : Hp) : Prop := ∀ b o, H b = some o → H' b = some o
theorem Same.refl (H : Hp) : Same H H := fun _ _ h => h
theorem Same.trans {H H1 H2 : Hp} (a : Same H H1) (b : Same H1 H2) : Same H H2 := fun c o h => b c o (a c o h)
theorem Same.free {H H' : Hp} (e : Same H H') {l : Addr} (h : H' l = Option.none) : H l = Option.none := by
  cases q : H l with
  | none => rfl
  | some o =>
    rw [e l o q] at h
    cases h
theorem Same.seq {K : PySem.W.Frag} {H H' : Hp} {a : Addr} {xs : List V} (e : Same H H') (h : SqL K H a xs) : SqL K H' a xs := by
  rcases h with (h | ⟨o, h⟩) | h
  · exact .inl (.inl (e _ _ h))
  · exact .inl (.inr ⟨o, e _ _ h⟩)
  · exact .inr h

/-! ### a dict's pairs: keys that differ -/
section
variable {κ : Type} [DecidableEq κ]
theorem valV_not {kvs : List (κ × V)} {k : κ} (h : valV kvs k = none) : ¬ k ∈ kvs.map (·.1) := by
  intro m
  obtain ⟨p, hp, e⟩ := List.mem_map.mp m
  have q : (kvs.any fun kv => decide (kv.1 = k)) = true := List.any_eq_true.mpr ⟨p, hp, decide_eq_true e⟩
  rw [valV_any, h] at q
  exact absurd q (by simp)
theorem valV_in {kvs : List (κ × V)} {k : κ} {v : V} (h : valV kvs k = some v) : k ∈ kvs.map (·.1) := by
  have q : (kvs.any fun kv => decide (kv.1 = k)) = true := by
    rw [valV_any, h]
    all_goals rfl
  obtain ⟨p, hp, e⟩ := List.any_eq_true.mp q
  exact List.mem_map.mpr ⟨p, hp, of_decide_eq_true e⟩
theorem nd_snoc : ∀ {l : List κ} {k : κ}, l.Nodup → ¬ k ∈ l → (l ++ [k]).Nodup
  | [], k, _, _ => by simp
  | a :: r, k, h, hk => by
    obtain ⟨h1, h2⟩ := List.nodup_cons.mp h
    show (a :: (r ++ [k])).Nodup
    refine List.nodup_cons.mpr ⟨fun m => ?_, nd_snoc h2 fun m => hk (List.mem_cons.mpr (Or.inr m))⟩
    rcases List.mem_append.mp m with q | q
    · exact h1 q
    · exact hk (List.mem_cons.mpr (Or.inl (List.mem_singleton.mp q).symm))
theorem nd_putK {kvs : List (κ × V)} {k : κ} (v : V) (hn : (kvs.map (·.1)).Nodup) (h : valV kvs k = none) : ((putK kvs k v).map (·.1)).Nodup := by
  rw [putK_new v h, List.map_append]
  exact nd_snoc hn (valV_not h)
theorem dropK_pos {p : κ × V} {r : List (κ × V)} {k : κ} (e : p.1 = k) : dropK (p :: r) k = dropK r k := by
  unfold dropK
  rw [List.filter_cons, if_neg (by simp [e])]
theorem dropK_neg {p : κ × V} {r : List (κ × V)} {k : κ} (e : ¬ p.1 = k) : dropK (p :: r) k = p :: dropK r k := by
  unfold dropK
  rw [List.filter_cons, if_pos (by simp [e])]
theorem dropK_no : ∀ {kvs : List (κ × V)} {k : κ}, ¬ k ∈ kvs.map (·.1) → dropK kvs k = kvs
  | [], _, _ => rfl
  | p :: r, k, h => by
    have h' : ¬ k ∈ r.map (·.1) := fun m => by
      obtain ⟨q, hq, e⟩ := List.mem_map.mp m
      exact h (List.mem_map.mpr ⟨q, List.mem_cons.mpr (Or.inr hq), e⟩)
    rw [dropK_neg fun e => h (List.mem_map.mpr ⟨p, List.mem_cons.mpr (Or.inl rfl), e⟩), dropK_no h']
theorem dropK_mem {kvs : List (κ × V)} {k : κ} {p : κ × V} (h : p ∈ dropK kvs k) : p ∈ kvs := (List.mem_filter.mp h).1
theorem nd_dropK : ∀ {kvs : List (κ × V)} {k : κ}, (kvs.map (·.1)).Nodup → ((dropK kvs k).map (·.1)).Nodup
  | [], _, _ => List.nodup_nil
  | p :: r, k, h => by
    have h : (p.1 :: r.map (·.1)).Nodup := h
    obtain ⟨h1, h2⟩ := List.nodup_cons.mp h
    by_cases e : p.1 = k
    · rw [dropK_pos e]
      exact nd_dropK h2
    · rw [dropK_neg e]
      show (p.1 :: (dropK r k).map (·.1)).Nodup
      refine List.nodup_cons.mpr ⟨fun m => h1 ?_, nd_dropK h2⟩
      obtain ⟨q, hq, eq⟩ := List.mem_map.mp m
      exact List.mem_map.mpr ⟨q, dropK_mem hq, eq⟩
theorem dropK_len : ∀ {kvs : List (κ × V)} {k : κ}, (kvs.map (·.1)).Nodup → k ∈ kvs.map (·.1) → (dropK kvs k).length + 1 = kvs.length
  | [], _, _, m => by simp at m
  | p :: r, k, h, m => by
    have h : (p.1 :: r.map (·.1)).Nodup := h
    have m : k = p.1 ∨ k ∈ r.map (·.1) := List.mem_cons.mp m
    obtain ⟨h1, h2⟩ := List.nodup_cons.mp h
    by_cases e : p.1 = k
    · subst e
      rw [dropK_pos rfl, dropK_no h1]
      all_goals rfl
    · have m' : k ∈ r.map (·.1) := m.resolve_left fun z => e z.symm
      have q := dropK_len h2 m'
      rw [dropK_neg e, List.length_cons, List.length_cons]
      omega
end
end L2
/-! MY OWN RULES over the hand layer: comprehensions, texts walked sign by sign, slices of texts, join, all, any, == of data, isinstance. -/
namespace L2
open PySem PySem.Spec PyProof.Rows

/-! ### a heap: an object that is already there becomes tracked -/
theorem HOk.track {P : Program} {w : World} {H : Hp} {h : Heap} {a : Addr} {o : HO} (x : HOk P w H h) (hn : H a = none) (new : ObjOk P w (upd H a o) h a o) : HOk P w (upd H a o) h := by
  intro b u e
  by_cases hb : b = a
  · subst hb
    rw [upd_same] at e
    cases e
    exact new
  · rw [upd_ne hb] at e
    refine (x b u e).stay (fun _ _ _ q => q) (fun c q => ?_) fun c xs q => ?_
    · rw [upd_ne (ne_of_none q hn)]; exact q
    · rw [upd_ne (ne_of_none q hn)]; exact q
/-- an untracked object is changed: what is tracked is held all the same -/
theorem HOk.other {P : Program} {w : World} {H : Hp} {h h' : Heap} {a : Addr} (x : HOk P w H h) (hn : H a = none) (k : ∀ b u, b ≠ a → h.get? b = some u → h'.get? b = some u) : HOk P w H h' := by
  intro b u e
  refine (x b u e).stay (fun c v hc q => k c v ?_ q) (fun _ q => q) fun _ _ q => q
  rcases hc with z | z
  · rw [z]; exact ne_of_none e hn
  · exact ne_of_none z hn

/-! ### the closure of a comprehension -/
def closStep (env : Env) (cs : List (Str × Addr)) (x : Str × NameKind) : List (Str × Addr) := if x.2 = .free then (x.1, (env.cells.lookup x.1).getD 0) :: cs else cs
def closOf (env : Env) (names : List (Str × NameKind)) : List (Str × Addr) := names.foldl (closStep env) []
theorem forIn_fold {α β : Type} {f : α → β → Sem (ForInStep β)} {g : β → α → β} : ∀ (l : List α) (acc : β), (∀ x ∈ l, ∀ c, f x c = pure (.yield (g c x))) → forIn l acc f = pure (l.foldl g acc)
  | [], acc, _ => rfl
  | x :: l, acc, h => by
    rw [List.forIn_cons, h x List.mem_cons_self acc]
    show forIn l (g acc x) f = _
    rw [forIn_fold l (g acc x) fun y hy => h y (List.mem_cons_of_mem _ hy)]
    rfl
theorem closureFor_of {scope : Scope} {env : Env} (h : ∀ y ∈ scope.names, y.2 = .free → ∃ c, env.cells.lookup y.1 = some c) : closureFor scope env = pure (closOf env scope.names) := by
  simp only [closureFor]
  rw [forIn_fold (g := closStep env) scope.names [] fun x hx c => by
    obtain ⟨n, kind⟩ := x
    by_cases hk : kind = .free
    · subst hk
      obtain ⟨a, ha⟩ := h _ hx rfl
      have ha' : env.cells.lookup n = some a := ha
      simp only [beq_self_eq_true, if_true, closStep, cellOf, ha', Option.getD_some]
      rfl
    · have hb : (kind == NameKind.free) = false := by simpa using hk
      simp only [hb, Bool.false_eq_true, if_false, closStep, hk]]
  rfl
theorem clos_some {env : Env} {y : Str} {c : Addr} : ∀ (names : List (Str × NameKind)) (acc : List (Str × Addr)), (names.foldl (closStep env) acc).lookup y = some c →
    acc.lookup y = some c ∨ ((y, NameKind.free) ∈ names ∧ (env.cells.lookup y).getD 0 = c)
  | [], acc, h => .inl h
  | (n, k) :: r, acc, h => by
    rw [List.foldl_cons] at h
    rcases clos_some r _ h with q | ⟨q, z⟩
    · unfold closStep at q
      by_cases hk : k = .free
      · rw [if_pos hk, List.lookup_cons] at q
        cases hy : y == n with
        | true =>
          rw [hy] at q
          have e : y = n := eq_of_beq hy
          subst e hk
          exact .inr ⟨List.mem_cons_self, Option.some.inj q⟩
        | false =>
          rw [hy] at q
          exact .inl q
      · rw [if_neg hk] at q
        exact .inl q
    · exact .inr ⟨List.mem_cons_of_mem _ q, z⟩
theorem clos_has {env : Env} {y : Str} : ∀ (names : List (Str × NameKind)) (acc : List (Str × Addr)), ((y, NameKind.free) ∈ names ∨ ∃ c, acc.lookup y = some c) → ∃ c, (names.foldl (closStep env) acc).lookup y = some c
  | [], acc, h => by
    rcases h with h | h
    · cases h
    · exact h
  | (n, k) :: r, acc, h => by
    rw [List.foldl_cons]
    refine clos_has r _ ?_
    by_cases hy : (y, NameKind.free) ∈ r
    · exact .inl hy
    · refine .inr ?_
      rcases h with h | ⟨c, h⟩
      · rcases List.mem_cons.mp h with e | e
        · cases e
          exact ⟨_, by unfold closStep; rw [if_pos rfl, List.lookup_cons_self]⟩
        · exact absurd e hy
      · unfold closStep
        by_cases hk : k = .free
        · rw [if_pos hk, List.lookup_cons]
          cases y == n with
          | true => exact ⟨_, rfl⟩
          | false => exact ⟨c, h⟩
        · rw [if_neg hk]
          exact ⟨c, h⟩

/-! ### the loop of a comprehension, one clause -/
theorem compLoop_gen {prog : Program} {w : World} {A : Around} {R : Result → Shared → Prop} {s : Shared} {elt target iter : Expr} {ifs : List Expr} {scope : Scope} {pos : Pos} {it acc : Value} {env : Env} (I : Nat → Shared → Prop)
    (turn : ∀ n s, I n s → wpAny (model prog w) A (pyNext it) (fun r s₁ => match r with
      | none => R (.ok .next) s₁
      | some v => wpAny (model prog w) A (letOwnedTupleGo target it v) (fun _ s₁' => wpAny (model prog w) A (assign target env v) (fun _ s₂ =>
          wpAny (model prog w) A (forIn ifs true fun c r => if r = true then do let ok ← isTrue c env (eval c env); pure (ForInStep.yield ok) else pure (ForInStep.yield r)) (fun ok s₃ =>
            if ok = true then wpAny (model prog w) A (eval elt env) (fun x s₄ =>
              wpAny (model prog w) A (call (.builtin "list.append") [acc, x]) (fun _ s₅ => ∃ m, m < n ∧ I m s₅) (fun _ _ => False) s₄) (fun _ _ => False) s₃
            else ∃ m, m < n ∧ I m s₃) (fun _ _ => False) s₂) (fun _ _ => False) s₁') (fun _ _ => False) s₁) (fun _ _ => False) s)
    (n : Nat) (h : I n s) :
    codeAny (model prog w) A (.compLoop (.ListComp elt [⟨target, iter, ifs, 0⟩] scope pos) 0 it acc env) R s := by
  refine codeAny_loop rfl I (fun n s hI => ?_) n h
  show wpAny _ A ((compTurn (.ListComp elt [⟨target, iter, ifs, 0⟩] scope pos) 0 it acc env).onRaise (fun x => do noteFrame x env; theTreesLotGoes x)) _ _ s
  refine wpAny_noted ?_
  rw [compTurn_list]
  refine wpAny_bind (wpAny_standAt (wpAny_bind (wpAny_mono (turn n s hI) (fun r s₁ h₁ => ?_) fun _ _ h' => h'.elim)))
  cases r with
  | none => exact wpAny_pure h₁
  | some v =>
    refine wpAny_bind (wpAny_mono h₁ (fun _ s₁' h₁' => ?_) fun _ _ h' => h'.elim)
    refine wpAny_bind (wpAny_mono h₁' (fun _ s₂ h₂ => wpAny_bind (wpAny_mono h₂ (fun ok s₃ h₃ => ?_) fun _ _ h' => h'.elim)) fun _ _ h' => h'.elim)
    cases ok with
    | false => exact wpAny_pure ⟨rfl, h₃⟩
    | true =>
      exact wpAny_bind (wpAny_bind (wpAny_mono h₃ (fun x s₄ h₄ => wpAny_bind (wpAny_mono h₄ (fun _ s₅ h₅ => wpAny_pure (wpAny_pure ⟨rfl, h₅⟩)) fun _ _ h' => h'.elim)) fun _ _ h' => h'.elim))

/-! ### tests of a comprehension -/
def PTs (X : Cx) (ifs : List Expr) (t : TT) : Prop :=
  ∀ (pins : List (Addr × Obj)) (s : Shared) (σ : St) (H : Hp) (Q : Bool → Hp → Prop), Inv X pins σ H s → t σ H Q →
    wpAny (model X.prog X.w) X.A (forIn ifs true fun c r => if r = true then do let ok ← isTrue c X.env (eval c X.env); pure (ForInStep.yield ok) else pure (ForInStep.yield r)) (TP X pins σ Q) X.xe s
def tYes : TT := fun _ H Q => Q true H
theorem pts_nil {X : Cx} : PTs X [] tYes := fun pins s σ H Q I h => wpAny_tests_nil ⟨H, I, h⟩
theorem pts_one {X : Cx} {c : Expr} {t : TT} (h : PT X c t) : PTs X [c] t := fun pins s σ H Q I hw => wpAny_tests_one (h pins s σ H Q I hw)

/-! ### the context of a comprehension's block -/
def cxComp (X : Cx) (scope : Scope) (N : List Str) (C : Addr) (s : Shared) (H : Hp) (ex : List Addr) : Cx :=
  { X with N := N, s₀ := s, H₀ := H, env := compEnvC scope (closOf X.env scope.names) C X.env, outer := X.stack, stack := X.stack, ex := ex, fn := fun _ => false, pn := [], xe := fun _ _ => False }

def pick (σ : St) (j : Nat) : Option V := (σ[j]?).getD none
/-- a list comprehension: n0 names of its own, then the free names by their slots outside; W: turn, measure, the block's names, the items so far, the heap -/
def CompG (n0 : Nat) (fr : List Nat) (g : TG) (tt : TT) (te : TE) (σ : St) (Q : VK) (J : It) (H1 : Hp) : Prop := ∃ W : Nat → Nat → St → List V → Hp → Prop,
  (∃ m, W 0 m (List.replicate n0 none ++ fr.map (pick σ)) [] H1) ∧ ∀ i m τ acc H, W i m τ acc H →
    (J.stop i H ∧ ∀ D, H D = none → Q (.ref D) (upd H D (.lst acc))) ∨
    (J.go i H ∧ acc.length < sizeLine ∧ ∀ x H', J.yld i H x H' → g x τ H' fun τ1 H1 => tt τ1 H1 fun b H2 =>
      if b = true then te τ1 H2 fun y H3 => ∃ m', m' < m ∧ W (i + 1) m' τ1 (acc ++ [y]) H3 else ∃ m', m' < m ∧ W (i + 1) m' τ1 acc H2)
def tComp (n0 : Nat) (fr : List Nat) (wi : TI) (g : TG) (tt : TT) (te : TE) : TE := fun σ H Q => wi σ H (CompG n0 fr g tt te σ Q)

theorem relabel_cell {env : Env} : ∀ {names : List (Str × NameKind)} {y : Str}, (∀ z ∈ names, z.2 ≠ .cell) →
    ((names.map fun (n, k) => if (k == NameKind.free && env.scope.kind == .function && env.kindOf n == some .cell) then (n, NameKind.cell) else (n, k)).lookup y = some .cell ∨
     (names.map fun (n, k) => if (k == NameKind.free && env.scope.kind == .function && env.kindOf n == some .cell) then (n, NameKind.cell) else (n, k)).lookup y = some .free) → (y, NameKind.free) ∈ names
  | [], y, _, h => by simp at h
  | (n, k) :: r, y, hc, h => by
    have ih := @relabel_cell env r y fun z hz => hc z (List.mem_cons_of_mem _ hz)
    by_cases hy : y = n
    · subst hy
      by_cases hk : k = .free
      · subst hk; exact List.mem_cons_self
      · have hkb : (k == NameKind.free) = false := by simpa using hk
        simp only [List.map_cons, hkb, Bool.false_and, Bool.false_eq_true, if_false, List.lookup_cons_self, Option.some.injEq] at h
        rcases h with h | h
        · exact absurd h (hc _ List.mem_cons_self)
        · exact absurd h hk
    · have hyb : (y == n) = false := by simpa using hy
      refine List.mem_cons_of_mem _ (ih ?_)
      simp only [List.map_cons] at h
      by_cases hcnd : (k == NameKind.free && env.scope.kind == .function && env.kindOf n == some .cell) = true
      · rw [if_pos hcnd] at h
        simp only [List.lookup_cons, hyb] at h
        exact h
      · rw [if_neg hcnd] at h
        simp only [List.lookup_cons, hyb] at h
        exact h
theorem lookup_relabel_free {env : Env} : ∀ {names : List (Str × NameKind)} {y : Str}, names.lookup y = some .free →
    (names.map fun (n, k) => if (k == NameKind.free && env.scope.kind == .function && env.kindOf n == some .cell) then (n, NameKind.cell) else (n, k)).lookup y = some .cell ∨
     (names.map fun (n, k) => if (k == NameKind.free && env.scope.kind == .function && env.kindOf n == some .cell) then (n, NameKind.cell) else (n, k)).lookup y = some .free
  | [], y, h => by simp at h
  | (n, k) :: r, y, h => by
    have ih := @lookup_relabel_free env r y
    simp only [List.map_cons]
    cases hy : y == n with
    | true =>
      simp only [List.lookup_cons, hy] at h
      cases h
      by_cases hcnd : (NameKind.free == NameKind.free && env.scope.kind == .function && env.kindOf n == some .cell) = true
      · rw [if_pos hcnd]; simp [List.lookup_cons, hy]
      · rw [if_neg hcnd]; simp [List.lookup_cons, hy]
    | false =>
      simp only [List.lookup_cons, hy] at h
      by_cases hcnd : (k == NameKind.free && env.scope.kind == .function && env.kindOf n == some .cell) = true
      · rw [if_pos hcnd]; simp only [List.lookup_cons, hy]; exact ih h
      · rw [if_neg hcnd]; simp only [List.lookup_cons, hy]; exact ih h

/-- the free names and their slots outside -/
def FrOk (X : Cx) (scope : Scope) : List (Str × Nat) → Prop
  | [] => True
  | p :: r => X.N[p.2]? = some p.1 ∧ scope.names.lookup p.1 = some .free ∧ FrOk X scope r
theorem FrOk.all {X : Cx} {scope : Scope} : ∀ {fr : List (Str × Nat)}, FrOk X scope fr → ∀ p ∈ fr, X.N[p.2]? = some p.1 ∧ scope.names.lookup p.1 = some .free
  | p :: r, h, q, hq => by
    rcases List.mem_cons.mp hq with e | e
    · subst e; exact ⟨h.1, h.2.1⟩
    · exact FrOk.all h.2.2 q e
section
variable {X : Cx}
theorem pe_comp {tg iter elt : Expr} {ifs : List Expr} {scope : Scope} {wi : TI} {g : TG} {tt : TT} {te : TE} {own : List Str} {fr : List (Str × Nat)} {pos : Pos}
    (hc : X.calm = true) (hi : PI X tg iter wi)
    (hk : scope.kind = .function) (hcell : ∀ y ∈ scope.names, y.2 ≠ .cell) (hnames : ∀ y ∈ scope.names, y.2 = .local → scope.names.lookup y.1 = some .local)
    (hfree : ∀ y ∈ scope.names, y.2 = .free → X.env.kindOf y.1 = some .cell ∨ X.env.kindOf y.1 = some .free) (hfr : FrOk X scope fr)
    (hg : ∀ C s H ex, PG (cxComp X scope (own ++ fr.map (·.1)) C s H ex) tg g)
    (ht : ∀ C s H ex, PTs (cxComp X scope (own ++ fr.map (·.1)) C s H ex) ifs tt)
    (he : ∀ C s H ex, PE (cxComp X scope (own ++ fr.map (·.1)) C s H ex) elt te)
    (hs : ∀ x, foldedSetIterable iter X.env x = pure x := by intro _; rfl) :
    PE X (.ListComp elt [⟨tg, iter, ifs, 0⟩] scope pos) (tComp own.length (fr.map (·.2)) wi g tt te) := by
  intro pins s σ H Q I h
  rw [eval_ListComp]
  have hcl : ∀ y c, (closOf X.env scope.names).lookup y = some c → X.env.cells.lookup y = some c := fun y c e => by
    rcases clos_some scope.names [] e with q | ⟨q, z⟩
    · simp at q
    · obtain ⟨c', e'⟩ := I.ok.has y (hfree _ q rfl)
      rw [e'] at z
      rw [e', ← z]
      rfl
  have hclos : closureFor scope X.env = pure (closOf X.env scope.names) := closureFor_of fun y hy e => I.ok.has y.1 (hfree y hy e)
  refine wpAny_comprehension_free (use := none) (cl := closOf X.env scope.names) rfl hs hclos hk hnames ?_
  refine thn (hi pins s σ H _ I h) fun v s1 h1 => thn h1 fun itv s2 h2 => ?_
  obtain ⟨it, fp, tn, J, H2, e, I2, T, st2, f2, W, ⟨m0, w0⟩, turn⟩ := h2
  subst e
  refine wpAny_newObj_type (wpAny_newFunctionEnv hcell (by intro y hy; simp at hy) (fun h₁ hns₁ hsb₁ => ?_) hk)
  dsimp only at hns₁ hsb₁ ⊢
  generalize hH2 : s2.heap.push { cls := .type "list", dict := none, data := .seq ([] : List Value).toArray } = HL at hns₁ hsb₁ ⊢
  have hC : HL.objs.size = s2.heap.objs.size + 1 := by rw [← hH2, Heap.size_push]
  generalize hCC : HL.objs.size = C at hns₁ hsb₁ hC ⊢
  have hDC : s2.heap.objs.size ≠ C := by rw [hC]; exact Nat.ne_of_lt (Nat.lt_succ_self _)
  have below : ∀ b, b < s2.heap.objs.size → b ≠ C ∧ b ≠ s2.heap.objs.size := fun b hb => ⟨by rw [hC]; exact Nat.ne_of_lt (Nat.lt_succ_of_lt hb), Nat.ne_of_lt hb⟩
  have old : ∀ b o, s2.heap.get? b = some o → h₁.get? b = some o := fun b o e => hsb₁.extBut b o (below b (Heap.lt_size e)).1 (Heap.get?_push_of_some _ (hH2 ▸ Heap.get?_push_of_some _ e))
  have eD0 : h₁.get? s2.heap.objs.size = some { cls := .type "list", data := .seq ([] : List Value).toArray } := hsb₁.extBut _ _ hDC (Heap.get?_push_of_some _ (hH2 ▸ Heap.get?_push_size _ rfl))
  have fpLt : ∀ b ∈ fp, b < s2.heap.objs.size := fun b hb => by
    obtain ⟨o, e, _⟩ := T.obj _ _ st2 b hb
    exact Heap.lt_size e
  generalize hD : s2.heap.objs.size = D at hDC below eD0 fpLt hC
  have hDfp : D ∉ fp := fun z => Nat.lt_irrefl _ (fpLt D z)
  -- the block's context is in order
  have okY : (cxComp X scope (own ++ fr.map (·.1)) C s2 H2 fp).Ok := by
    refine ⟨I2.ok.mod, hk, I2.ok.glob, I2.ok.blt, by show s2.heap.objs.size ≤ C; omega, fun x y c e1 e2 => I2.ok.inj x y c (hcl x c e1) (hcl y c e2), fun y hy => ?_, fun x c z _ => (by cases z), I2.ok.hd, I2.ok.frames, .inl rfl, fun b hb => ⟨(below b (fpLt b hb)).1, fun y c e => ?_⟩, I2.bs,
      Nat.le_trans I2.ok.bsz I2.sz, fun b o e hb => ?_, fun b hb z => ?_, I2.stack, I2.stkFree⟩
    · exact clos_has scope.names [] (.inl (relabel_cell (env := X.env) hcell hy))
    · exact (f2 b hb).2.2.2.2.1 y c (hcl y c e)
    · rcases (f2 b hb).2.2.2.1 with z | z
      · exact I2.ok.noex b o e z
      · exact absurd (Nat.lt_of_lt_of_le (Heap.lt_size e) (Nat.le_trans I2.ok.bsz z)) (Nat.lt_irrefl _)
    · rcases List.mem_cons.mp (I2.stkSub b z) with q | q
      · exact (f2 b hb).2.1 q
      · exact (f2 b hb).2.2.1 q
  have cellLt : ∀ y c, X.env.cells.lookup y = some c → c < D := fun y c e => by
    obtain ⟨v, z⟩ := I2.cell y c e
    exact Nat.lt_of_lt_of_le z.lt (Nat.le_of_eq hD)
  have stkLt : ∀ b ∈ frs X.stack, b < D := fun b hb => by
    rcases List.mem_cons.mp (I2.stkSub b hb) with q | q
    · rw [q]; exact Nat.lt_of_lt_of_le I2.lt (Nat.le_of_eq hD)
    · obtain ⟨_, o, ho, _⟩ := I2.ok.funs.mem q
      exact Nat.lt_of_lt_of_le (Heap.lt_size ho) (Nat.le_trans I2.sz (Nat.le_of_eq hD))
  have fresh : ∀ a, D ≤ a → H2 a = none := fun a ha => I2.hok.fresh (Nat.le_trans (Nat.le_of_eq hD) ha)
  have IY : Inv (cxComp X scope (own ++ fr.map (·.1)) C s2 H2 fp) [] (List.replicate own.length none ++ (fr.map (·.2)).map (pick σ)) H2 { s2 with heap := h₁, toks := s2.toks + ([] : List (Str × Value)).length } := by
    refine ⟨okY, rfl, I2.bare, Un.kept old, ⟨_, hns₁, fun i y v e1 e2 e3 => ?_⟩, fun y c e => ?_, fresh C (by omega), fun y c e => I2.freeC y c (hcl y c e), fun p hp => absurd (show p ∈ ([] : List (Addr × Obj)) from hp) (by simp), I2.hok.kept old, ?_⟩
    · have e1 : (own ++ fr.map (·.1))[i]? = some y := e1
      have hi' : own.length ≤ i := by
        by_cases hlt : i < own.length
        · rw [List.getElem?_append_left (by simpa using hlt), List.getElem?_replicate, if_pos hlt] at e2
          cases e2
        · omega
      rw [List.getElem?_append_right hi', List.getElem?_map] at e1
      rw [List.getElem?_append_right (by simpa using hi'), List.getElem?_map, List.getElem?_map, List.length_replicate] at e2
      cases hp : fr[i - own.length]? with
      | none => rw [hp] at e1; cases e1
      | some p =>
        rw [hp] at e1 e2
        have ey : p.1 = y := Option.some.inj e1
        have ev : pick σ p.2 = some v := Option.some.inj e2
        obtain ⟨a1, a3⟩ := hfr.all p (List.mem_of_getElem? hp)
        have es : σ[p.2]? = some (some v) := by
          unfold pick at ev
          cases q : σ[p.2]? with
          | none => rw [q] at ev; cases ev
          | some z => rw [q] at ev; exact congrArg some ev
        have hfk : X.env.kindOf p.1 = some .cell ∨ X.env.kindOf p.1 = some .free := hfree (p.1, .free) (PySem.mem_of_lookup a3) rfl
        obtain ⟨m, hn, hl⟩ := I2.loc
        obtain ⟨u, r, l⟩ := hl p.2 p.1 v a1 es (hfk.elim (fun z => .inr (.inl z)) fun z => .inr (.inr z))
        refine ⟨u, r, .inr ?_⟩
        rcases l with ⟨z, _⟩ | ⟨_, c, ec, zc⟩
        · rcases hfk with q | q <;> rw [z] at q <;> cases q
        · obtain ⟨c', ec'⟩ := clos_has (env := X.env) (y := p.1) scope.names [] (.inl (PySem.mem_of_lookup a3))
          have : c' = c := Option.some.inj ((hcl _ _ ec').symm.trans ec)
          subst this
          rw [← ey]
          obtain ⟨o, ho, hdd⟩ := zc
          exact ⟨lookup_relabel_free (env := X.env) a3, c', ec', o, old _ o ho, hdd⟩
    · obtain ⟨v, z⟩ := I2.cell y c (hcl y c e)
      obtain ⟨o, ho, hdd⟩ := z
      exact ⟨v, o, old _ o ho, hdd⟩
    · show (List.replicate own.length (none : Option V) ++ (fr.map (fun p => p.2)).map (pick σ)).length = (own ++ fr.map (fun p => p.1)).length
      simp
  have fpY : ∀ {H3 : Hp} {ob : Obj}, (∀ b ∈ fp, H3 b = none) → ∀ b ∈ fp, FpOk (cxComp X scope (own ++ fr.map (·.1)) C s2 H2 fp) [(D, ob)] H3 b := fun {H3 ob} hn b hb =>
    ⟨hn b hb, (below b (fpLt b hb)).1, fun z => okY.exfs b hb z, .inl hb, fun y c e => (okY.exf b hb).2 y c e, fun p hp => by
      have e : p = (D, ob) := by simpa [cxComp] using hp
      rw [e]
      show D ≠ b
      exact fun z => hDfp (z ▸ hb)⟩
  have noC : ∀ (xs : Array Value) (k : Nat) (v : Option Value), ({ cls := .type "list", data := .seq xs k } : Obj).data ≠ .cell v := fun xs k v z => by cases z
  have loop : ∀ s₃ : Shared, s₃ = { s2 with heap := h₁, toks := s2.toks + ([] : List (Str × Value)).length } →
      codeAny (model X.prog X.w) X.A (.compLoop (.ListComp elt [⟨tg, iter, ifs, 0⟩] scope pos) 0 (.ref it) (.ref D) (compEnvC scope (closOf X.env scope.names) C X.env))
        (compPost (model X.prog X.w) X.A X.xe none (EP X pins σ Q) (.ref D) C) s₃ := by
    rintro s₃ rfl
    refine compLoop_gen (fun n s' => ∃ (i : Nat) (τ : St) (acc : List V) (H' : Hp) (its : List Value) (k : Nat), Inv (cxComp X scope (own ++ fr.map (·.1)) C s2 H2 fp) [] τ H' s' ∧ tn i s'.heap ∧ (∀ b ∈ fp, H' b = none) ∧ H' D = none ∧ Vals acc its ∧
      s'.heap.get? D = some { cls := .type "list", data := .seq its.toArray k } ∧ acc.length ≤ sizeLine ∧ W i n τ acc H') ?_ m0
      ⟨0, _, [], H2, [], 0, IY, T.keep _ _ _ st2 fun b _ o e => old b o e, fun b hb => (f2 b hb).1, fresh D (Nat.le_refl _), .nil, eD0, Nat.zero_le _, w0⟩
    rintro n s3 ⟨i, τ, acc, H3, its, k, I3, st3, fr3, fD, rv, eD, hz, w3⟩
    have I3' : Inv (cxComp X scope (own ++ fr.map (·.1)) C s2 H2 fp) [(D, { cls := .type "list", data := .seq its.toArray k })] τ H3 s3 := I3.pins_of fun p hp => by
      have e : p = (D, { cls := .type "list", data := .seq its.toArray k }) := by simpa using hp
      subst e
      exact ⟨eD, fD, hDC, fun z => Nat.lt_irrefl _ (stkLt D z), noC _ _⟩
    rcases turn i n τ acc H3 w3 with ⟨stop, qn⟩ | ⟨go, hlt, step⟩
    · refine thn (T.done (cxComp X scope (own ++ fr.map (·.1)) C s2 H2 fp) rfl rfl rfl hc i _ s3 τ H3 (fun _ _ => False) I3' (fpY fr3) st3 stop) fun r s4 ⟨hr, I4⟩ => ?_
      subst hr
      obtain ⟨m, hn4, _⟩ := I4.loc
      obtain ⟨eD4, fD4, _⟩ := I4.pin (D, { cls := .type "list", data := .seq its.toArray k }) (List.mem_append_right _ (List.mem_singleton.mpr rfl))
      refine ⟨m, hn4, fun h' sb => ?_⟩
      have b4 : Un (frs X.stack) fp H2 H3 s2.heap s4.heap := I4.base
      have lt2 : ∀ b o, s2.heap.get? b = some o → b ≠ C ∧ b ≠ D := fun b o e => below b (Nat.lt_of_lt_of_le (Heap.lt_size e) (Nat.le_of_eq hD))
      have tr2 : ∀ b o, H2 b = some o → b ≠ D := fun b o e z => by
        have := fresh D (Nat.le_refl _)
        rw [z, this] at e
        cases e
      have un : Un (frs X.stack) fp H2 (upd H3 D (.lst acc)) s2.heap h' := by
        refine ⟨fun b o e n hb hx => (sb.2 b (lt2 b o e).1).trans (b4.keep b o e n hb hx), fun b o e n hb hx => ?_, fun b o e n hx => ?_, fun b o e hx => ?_, fun b xs e => ?_, fun b o u e => ?_, fun b ps e => ?_⟩
        · obtain ⟨sl, q⟩ := b4.slot b o e n hb hx
          exact ⟨sl, (sb.2 b (lt2 b o e).1).trans q⟩
        · rw [upd_ne (lt2 b o e).2]; exact b4.free b o e n hx
        · obtain ⟨o', q⟩ := b4.there b o e hx
          exact ⟨o', (sb.2 b (lt2 b o e).1).trans q⟩
        · rw [upd_ne (tr2 _ _ e)]; exact b4.tups b xs e
        · rw [upd_ne (tr2 _ _ e)]; exact b4.frzs b o u e
        · rw [upd_ne (tr2 _ _ e)]; exact b4.tbls b ps e
      have hok' : HOk X.prog X.w (upd H3 D (.lst acc)) h' := by
        have q : HOk X.prog X.w H3 h' := HOk.other (a := C) I4.hok I4.free fun b u hb e => (sb.2 b hb).trans e
        exact q.track fD4 ⟨hz, its, k, rv, (sb.2 D hDC).trans eD4⟩
      refine ⟨.ref D, upd H3 D (.lst acc), I2.call' (s' := { s4 with heap := h' }) (ch := fp) I4.os un hok' I4.bare fun b hb => ⟨(f2 b hb).2.2.2.1, (f2 b hb).2.1, (f2 b hb).2.2.2.2.1, (f2 b hb).2.2.2.2.2⟩, rfl, qn D fD4⟩
    · refine thn (T.item (cxComp X scope (own ++ fr.map (·.1)) C s2 H2 fp) rfl rfl rfl hc i _ s3 τ H3 (fun _ _ => False) I3' (fpY fr3) st3 go) fun r s4 ⟨u, hr, h4⟩ => ?_
      subst hr
      refine thn h4 fun _ s5 ⟨x, H5, I5, r5, y5, st5, fr5⟩ => ?_
      have I5' := I5.pinned (fpY fr5) (T.obj _ _ st5)
      refine thn (hg _ _ _ _ _ s5 τ H5 x u _ I5' r5 (step x H5 y5)) fun _ s6 ⟨τ6, H6, I6, q6⟩ => ?_
      refine thn (ht _ _ _ _ _ s6 τ6 H6 _ I6 q6) fun b s7 ⟨H7, I7, q7⟩ => ?_
      have facts : ∀ {s8 : Shared} {H8 : Hp} {τ8 : St}, Inv (cxComp X scope (own ++ fr.map (·.1)) C s2 H2 fp) ([(D, { cls := .type "list", data := .seq its.toArray k })] ++ pinsAt fp s5.heap) τ8 H8 s8 →
          tn (i + 1) s8.heap ∧ (∀ b ∈ fp, H8 b = none) ∧ H8 D = none ∧ s8.heap.get? D = some { cls := .type "list", data := .seq its.toArray k } := fun {s8 H8 τ8} I8 => by
        have hp : ∀ b ∈ fp, ∀ o, s5.heap.get? b = some o → s8.heap.get? b = some o ∧ H8 b = none := fun b hb o e => by
          have q := I8.pin (b, o) (List.mem_append_right _ (List.mem_append_right _ (mem_pinsAt hb e)))
          exact ⟨q.1, q.2.1⟩
        have qD := I8.pin (D, { cls := .type "list", data := .seq its.toArray k }) (List.mem_append_right _ (List.mem_append_left _ (List.mem_singleton.mpr rfl)))
        refine ⟨T.keep _ _ _ st5 fun b hb o e => (hp b hb o e).1, fun b hb => ?_, qD.2.1, qD.1⟩
        obtain ⟨o, e, _⟩ := T.obj _ _ st5 b hb
        exact (hp b hb o e).2
      cases b with
      | false =>
        have q7 : ∃ m', m' < n ∧ W (i + 1) m' τ6 acc H7 := q7
        obtain ⟨m', hm, w7⟩ := q7
        obtain ⟨z1, z2, z3, z4⟩ := facts I7
        exact ⟨m', hm, i + 1, τ6, acc, H7, its, k, I7.pins_of fun p hp => absurd hp (by simp), z1, z2, z3, rv, z4, hz, w7⟩
      | true =>
        refine thn (he _ _ _ _ _ s7 τ6 H7 _ I7 q7) fun u8 s8 ⟨y, H8, I8, r8, m', hm, w8⟩ => ?_
        obtain ⟨z1, z2, z3, z4⟩ := facts I8
        have hl := rv.length
        refine call_meets F.slot_list_append ⟨_, z4, rfl⟩ F.entry_list_append (F.args_list_append_2 _ _) (PySem.list_append D its.toArray k u8 (by rw [List.size_toArray]; omega)) ⟨z4, ?_⟩
        have z5 := PySem.IsL.update z4 (·.push u8)
        have z6 : its.toArray.push u8 = (its ++ [u8]).toArray := by simp
        rw [z6] at z5
        have kk : ∀ b o, b ≠ D → s8.heap.get? b = some o → (s8.heap.update D (Obj.mapSeq (·.push u8))).get? b = some o := fun b o hb e => (Heap.get?_update_other s8.heap (Obj.mapSeq (·.push u8)) (Ne.symm hb)).trans e
        have I8' : Inv (cxComp X scope (own ++ fr.map (·.1)) C s2 H2 fp) [] τ6 H8 s8 := I8.pins_of fun p hp => absurd hp (by simp)
        refine ⟨m', hm, i + 1, τ6, acc ++ [y], H8, its ++ [u8], _, I8'.turned (it := D) kk z3 hDC (.inr (by show s2.heap.objs.size ≤ D; omega)) (fun y c e => Nat.ne_of_lt (cellLt y c (hcl y c e))) (fun p hp => absurd (show p ∈ ([] : List (Addr × Obj)) from hp) (by simp)), ?_, z2, z3,
          rv.append (.cons r8 .nil), z5, ?_, w8⟩
        · exact T.keep _ _ _ z1 fun b hb o e => kk b o (fun z => hDfp (z ▸ hb)) e
        · rw [List.length_append, List.length_singleton]; omega
  exact codeAny_compStart_list (loop _ rfl) (T.self X.A 0 _ _ _ (T.keep _ _ _ st2 fun b _ o e => old b o e) (loop _ rfl))
end

section
variable {X : Cx}
/-- for x in ..: one name -/
theorem pe_comp1 {iter elt : Expr} {ifs : List Expr} {scope osc : Scope} {wi : TI} {tt : TT} {te : TE} {x : Str} {px : Pos} {pos : Pos} (fr : List (Str × Nat))
    (hc : X.calm = true) (hi : PI X (.Name x px) iter wi) (ho : X.env.scope = osc)
    (hk : scope.kind = .function) (hcell : ∀ y ∈ scope.names, y.2 ≠ .cell) (hnames : ∀ y ∈ scope.names, y.2 = .local → scope.names.lookup y.1 = some .local)
    (hfree : ∀ y ∈ scope.names, y.2 = .free → osc.names.lookup y.1 = some .cell ∨ osc.names.lookup y.1 = some .free) (hfr : FrOk X scope fr)
    (hx : scope.names.lookup x = some .local) (hnd : (x :: fr.map (·.1)).Nodup)
    (ht : ∀ C s H ex, PTs (cxComp X scope (x :: fr.map (·.1)) C s H ex) ifs tt)
    (he : ∀ C s H ex, PE (cxComp X scope (x :: fr.map (·.1)) C s H ex) elt te)
    (hs : ∀ x, foldedSetIterable iter X.env x = pure x := by intro _; rfl) :
    PE X (.ListComp elt [⟨.Name x px, iter, ifs, 0⟩] scope pos) (tComp 1 (fr.map (·.2)) wi (gName 0) tt te) :=
  pe_comp (own := [x]) hc hi hk hcell hnames (fun y hy e => by show X.env.scope.names.lookup y.1 = _ ∨ X.env.scope.names.lookup y.1 = _; rw [ho]; exact hfree y hy e) hfr
    (fun C s H ex => pg_name (i := 0) hnd rfl (.inl (lookup_relabel_local hx)) (.inr (lookup_relabel_local hx))) ht he hs
end

/-! ### the signs of a text -/
def Its (z : Str) : It := ⟨fun i _ => i < z.cps.size, fun i H x H' => H' = H ∧ ∃ c, z.cps[i]? = some c ∧ x = .str ⟨#[c]⟩, fun i _ => z.cps.size ≤ i⟩
def iStr (tl : TE) : TI := fun σ H R => tl σ H fun x H1 => ∃ z, x = .str z ∧ R (Its z) H1
theorem turn_str {P : Program} {w : World} {K : PySem.W.Frag} {tg : Expr} (it : Addr) (z : Str) (t : Tok) (ty : String) (hty : ty = "str_ascii_iterator" ∨ ty = "str_iterator") : Turn P w K tg (Its z) [it] it (fun i h => i ≤ z.cps.size ∧ h.IsStrIter it ty z t i) where
  mem := by simp
  obj := fun i h st b hb => by
    have e : b = it := by simpa using hb
    subst e
    obtain ⟨_, o, e, c, d⟩ := st
    exact ⟨o, e, fun v z => by rw [d] at z; cases z⟩
  keep := fun i h h' st k => by
    obtain ⟨hi, o, e, r⟩ := st
    exact ⟨hi, o, k it (by simp) o e, r⟩
  item := by
    intro X hP hw hK hc i pins s σ H E I hf st hg
    subst hP hw hK
    obtain ⟨f0, f1, f2, f3, f4, f5⟩ := hf it (by simp)
    have hg : i < z.cps.size := hg
    rcases hty with e | e <;> subst e
    · have W := Walks.strAscii (prog := X.prog) (w := X.w) (I.ok.hd hc) it z t
      refine W.item i s _ _ hg st.2 fun v h' tk hv st' kk => ?_
      obtain ⟨c, u, hc', rfl⟩ := hv
      have I1 : Inv X pins σ H { s with heap := h', toks := tk } := I.turned (fun b o hb e => kk b o (by simpa using hb) e) f0 f1 f3 f4 f5
      obtain ⟨o, e, c1, d⟩ := id st'
      exact ⟨_, rfl, go_of (s := { s with heap := h', toks := tk }) e c1 d (by decide) ⟨.str ⟨#[c]⟩, H, I1, ⟨_, rfl⟩, ⟨rfl, c, hc', rfl⟩, ⟨hg, st'⟩, fun b hb => (hf b hb).1⟩⟩
    · have W := Walks.strWide (prog := X.prog) (w := X.w) (I.ok.hd hc) it z t
      refine W.item i s _ _ hg st.2 fun v h' tk hv st' kk => ?_
      obtain ⟨c, u, hc', rfl⟩ := hv
      have I1 : Inv X pins σ H { s with heap := h', toks := tk } := I.turned (fun b o hb e => kk b o (by simpa using hb) e) f0 f1 f3 f4 f5
      obtain ⟨o, e, c1, d⟩ := id st'
      exact ⟨_, rfl, go_of (s := { s with heap := h', toks := tk }) e c1 d (by decide) ⟨.str ⟨#[c]⟩, H, I1, ⟨_, rfl⟩, ⟨rfl, c, hc', rfl⟩, ⟨hg, st'⟩, fun b hb => (hf b hb).1⟩⟩
  done := by
    intro X hP hw hK hc i pins s σ H E I hf st hg
    subst hP hw hK
    obtain ⟨f0, f1, f2, f3, f4, f5⟩ := hf it (by simp)
    have hg : z.cps.size ≤ i := hg
    have hi : i = z.cps.size := Nat.le_antisymm st.1 hg
    subst hi
    rcases hty with e | e <;> subst e
    · have W := Walks.strAscii (prog := X.prog) (w := X.w) (I.ok.hd hc) it z t
      exact W.done s _ _ st.2 fun h' tk kk => ⟨rfl, I.turned (fun b o hb e => kk b o (by simpa using hb) e) f0 f1 f3 f4 f5⟩
    · have W := Walks.strWide (prog := X.prog) (w := X.w) (I.ok.hd hc) it z t
      exact W.done s _ _ st.2 fun h' tk kk => ⟨rfl, I.turned (fun b o hb e => kk b o (by simpa using hb) e) f0 f1 f3 f4 f5⟩
  self := fun _ _ _ _ _ st h => by
    rcases hty with e | e <;> subst e
    · exact wpAny_pyIter_striter_ascii st.2 h
    · exact wpAny_pyIter_striter_wide st.2 h
section
variable {X : Cx} {tg : Expr}
theorem pi_str {l : Expr} {tl : TE} (hl : PE X l tl) : PI X tg l (iStr tl) := by
  intro pins s σ H R I h
  refine thn (hl pins s σ H _ I h) fun v s1 ⟨x, H1, I1, r1, q1⟩ => ?_
  obtain ⟨z, e, q⟩ := q1
  subst e
  obtain ⟨t, rfl⟩ := r1
  cases ha : z.cps.all (· < 128)
  · refine wpAny_pyIter_wide ha ?_
    refine ⟨s1.heap.objs.size, [s1.heap.objs.size], _, _, H1, rfl, I1.kept (t' := s1.toks) fun b o e => Heap.get?_push_of_some _ e, turn_str _ z t "str_iterator" (.inr rfl), ⟨Nat.zero_le _, _, Heap.get?_push_size _ rfl, rfl, rfl⟩, fun b hb => ?_, q⟩
    have e : b = s1.heap.objs.size := by simpa using hb
    subst e
    exact I1.fpOk (Nat.le_refl _) (I1.hok.fresh (Nat.le_refl _))
  · refine wpAny_pyIter_ascii ha ?_
    refine ⟨s1.heap.objs.size, [s1.heap.objs.size], _, _, H1, rfl, I1.kept (t' := s1.toks) fun b o e => Heap.get?_push_of_some _ e, turn_str _ z t "str_ascii_iterator" (.inl rfl), ⟨Nat.zero_le _, _, Heap.get?_push_size _ rfl, rfl, rfl⟩, fun b hb => ?_, q⟩
    have e : b = s1.heap.objs.size := by simpa using hb
    subst e
    exact I1.fpOk (Nat.le_refl _) (I1.hok.fresh (Nat.le_refl _))
end

/-! ### the forms of a comprehension that one uses -/
/-- any walk of known length n, by an invariant over the items so far: yl i x: what the walk hands out at turn i -/
theorem comp_by {J : It} {n0 : Nat} {fr : List Nat} {g : TG} {tt : TT} {te : TE} {σ : St} {H : Hp} {Q : VK} (n : Nat) (hn : n ≤ sizeLine) (Pv : Nat → St → List V → Hp → Prop)
    (h0 : Pv 0 (List.replicate n0 none ++ fr.map (pick σ)) [] H)
    (hgo : ∀ i τ acc H, i < n → Pv i τ acc H → J.go i H)
    (hst : ∀ τ acc H, Pv n τ acc H → J.stop n H)
    (hs : ∀ i τ acc H x H', i < n → acc.length ≤ i → Pv i τ acc H → J.yld i H x H' → g x τ H' fun τ1 H1 => tt τ1 H1 fun b H2 => if b = true then te τ1 H2 fun y H3 => Pv (i + 1) τ1 (acc ++ [y]) H3 else Pv (i + 1) τ1 acc H2)
    (mg : ∀ x τ H (R R' : St → Hp → Prop), (∀ τ H, R τ H → R' τ H) → g x τ H R → g x τ H R')
    (mt : ∀ τ H (R R' : Bool → Hp → Prop), (∀ b H, R b H → R' b H) → tt τ H R → tt τ H R')
    (me : ∀ τ H (R R' : VK), (∀ y H, R y H → R' y H) → te τ H R → te τ H R')
    (hd : ∀ τ acc H, acc.length ≤ n → Pv n τ acc H → ∀ D, H D = none → Q (.ref D) (upd H D (.lst acc))) :
    CompG n0 fr g tt te σ Q J H := by
  refine ⟨fun i m τ acc H => m = n - i ∧ i ≤ n ∧ acc.length ≤ i ∧ Pv i τ acc H, ⟨n, by simp, Nat.zero_le _, Nat.zero_le _, h0⟩, ?_⟩
  rintro i m τ acc H ⟨rfl, hi, hl, p⟩
  by_cases hlt : i < n
  · refine .inr ⟨hgo i τ acc H hlt p, by omega, fun x H' y => mg _ _ _ _ _ (fun τ1 H1 q => mt _ _ _ _ (fun b H2 q2 => ?_) q) (hs i τ acc H x H' hlt hl p y)⟩
    cases b with
    | true => exact me _ _ _ _ (fun z H3 q3 => ⟨n - (i + 1), by omega, rfl, hlt, by rw [List.length_append, List.length_singleton]; omega, q3⟩) q2
    | false => exact ⟨n - (i + 1), by omega, rfl, hlt, by omega, q2⟩
  · have e : i = n := by omega
    subst e
    exact .inl ⟨hst τ acc H p, hd τ acc H hl p⟩

/-- the target is one name of the block's own, the heap stays: xs the items walked, p the test, f the element -/
theorem comp_pure {J : It} {fr : List Nat} {tt : TT} {te : TE} {σ : St} {H : Hp} {Q : VK} (xs : List V) (p : V → Bool) (f : V → V) (hn : xs.length ≤ sizeLine)
    (hgo : ∀ i, i < xs.length → J.go i H) (hst : J.stop xs.length H) (hy : ∀ i x H', i < xs.length → J.yld i H x H' → H' = H ∧ xs[i]? = some x)
    (htt : ∀ x (R : Bool → Hp → Prop), x ∈ xs → R (p x) H → tt (some x :: fr.map (pick σ)) H R)
    (hte : ∀ x (R : VK), x ∈ xs → p x = true → R (f x) H → te (some x :: fr.map (pick σ)) H R)
    (hd : ∀ D, H D = none → Q (.ref D) (upd H D (.lst ((xs.filter p).map f)))) :
    CompG 1 fr (gName 0) tt te σ Q J H := by
  refine ⟨fun i m τ acc H' => m = xs.length - i ∧ i ≤ xs.length ∧ H' = H ∧ (∃ o, τ = o :: fr.map (pick σ)) ∧ acc = (((xs.take i).filter p).map f), ⟨xs.length, by simp, Nat.zero_le _, rfl, ⟨none, rfl⟩, rfl⟩, ?_⟩
  rintro i m τ acc H' ⟨rfl, hi, rfl, ⟨o, rfl⟩, rfl⟩
  by_cases hlt : i < xs.length
  · refine .inr ⟨hgo i hlt, ?_, fun x H1 y => ?_⟩
    · rw [List.length_map]
      have h1 : ((xs.take i).filter p).length ≤ (xs.take i).length := List.length_filter_le _ _
      rw [List.length_take] at h1
      omega
    · obtain ⟨e1, e2⟩ := hy i x H1 hlt y
      subst e1
      have hx : x ∈ xs := List.mem_of_getElem? e2
      show tt ((o :: fr.map (pick σ)).set 0 (some x)) _ _
      refine htt x _ hx ?_
      have ht := take_succ_filter p xs i x e2
      cases hp : p x with
      | true =>
        show te (some x :: fr.map (pick σ)) _ _
        refine hte x _ hx hp ⟨xs.length - (i + 1), by omega, rfl, hlt, rfl, ⟨some x, rfl⟩, ?_⟩
        rw [ht, hp]
        simp
      | false =>
        show ∃ m', m' < xs.length - i ∧ _
        refine ⟨xs.length - (i + 1), by omega, rfl, hlt, rfl, ⟨some x, rfl⟩, ?_⟩
        rw [ht, hp]
        simp
  · have e : i = xs.length := by omega
    subst e
    rw [List.take_length]
    exact .inl ⟨hst, hd⟩
theorem comp_pure_list {K : PySem.W.Frag} {a : Addr} {fr : List Nat} {tt : TT} {te : TE} {σ : St} {H : Hp} {Q : VK} {xs : List V} (p : V → Bool) (f : V → V) (hq : SqL K H a xs) (hn : xs.length ≤ sizeLine)
    (htt : ∀ x (R : Bool → Hp → Prop), x ∈ xs → R (p x) H → tt (some x :: fr.map (pick σ)) H R)
    (hte : ∀ x (R : VK), x ∈ xs → p x = true → R (f x) H → te (some x :: fr.map (pick σ)) H R)
    (hd : ∀ D, H D = none → Q (.ref D) (upd H D (.lst ((xs.filter p).map f)))) :
    CompG 1 fr (gName 0) tt te σ Q (Itl K a) H :=
  comp_pure xs p f hn (fun i hi => ⟨xs, xs[i], hq, by simp [hi]⟩) ⟨xs, hq, Nat.le_refl _⟩ (fun i x H' _ y => ⟨y.1, y.2 xs hq⟩) htt hte hd
/-- the signs of a text as values -/
def signsV (z : Str) : List V := z.cps.toList.map fun c => V.str ⟨#[c]⟩
theorem comp_pure_str {z : Str} {fr : List Nat} {tt : TT} {te : TE} {σ : St} {H : Hp} {Q : VK} (p : V → Bool) (f : V → V) (hn : z.length ≤ sizeLine)
    (htt : ∀ x (R : Bool → Hp → Prop), x ∈ signsV z → R (p x) H → tt (some x :: fr.map (pick σ)) H R)
    (hte : ∀ x (R : VK), x ∈ signsV z → p x = true → R (f x) H → te (some x :: fr.map (pick σ)) H R)
    (hd : ∀ D, H D = none → Q (.ref D) (upd H D (.lst (((signsV z).filter p).map f)))) :
    CompG 1 fr (gName 0) tt te σ Q (Its z) H := by
  have hl : (signsV z).length = z.cps.size := by simp [signsV]
  have hl2 : z.length = z.cps.size := rfl
  refine comp_pure (signsV z) p f (by omega) (fun i hi => by show i < z.cps.size; omega) (by show z.cps.size ≤ _; omega) (fun i x H' hi y => ?_) htt hte hd
  obtain ⟨e, c, hc, rfl⟩ := y
  refine ⟨e, ?_⟩
  unfold signsV
  rw [List.getElem?_map]
  have : z.cps.toList[i]? = some c := by simpa using hc
  rw [this]
  rfl
def intsV (lo : Int) (n : Nat) : List V := (List.range n).map fun (i : Nat) => V.int (lo + (i : Int))
theorem comp_pure_range {lo : Int} {n : Nat} {fr : List Nat} {tt : TT} {te : TE} {σ : St} {H : Hp} {Q : VK} (p : V → Bool) (f : V → V) (hn : n ≤ sizeLine)
    (htt : ∀ x (R : Bool → Hp → Prop), x ∈ intsV lo n → R (p x) H → tt (some x :: fr.map (pick σ)) H R)
    (hte : ∀ x (R : VK), x ∈ intsV lo n → p x = true → R (f x) H → te (some x :: fr.map (pick σ)) H R)
    (hd : ∀ D, H D = none → Q (.ref D) (upd H D (.lst (((intsV lo n).filter p).map f)))) :
    CompG 1 fr (gName 0) tt te σ Q (Itr lo n) H := by
  have hl : (intsV lo n).length = n := by simp [intsV]
  refine comp_pure (intsV lo n) p f (by omega) (fun i hi => by show i < n; omega) (by show n ≤ _; omega) (fun i x H' hi y => ?_) htt hte hd
  obtain ⟨e, rfl⟩ := y
  refine ⟨e, ?_⟩
  unfold intsV
  rw [List.getElem?_map, List.getElem?_range (by omega)]
  rfl

/-! ### all, any of a list of bools -/
theorem all_at (ys : List Bool) : (List.range ys.length).all (fun i => ys.getD i false) = ys.all id := by
  induction ys with
  | nil => rfl
  | cons y r ih =>
    rw [List.length_cons, List.range_succ_eq_map, List.all_cons, List.all_map, List.all_cons]
    show (y && _) = (y && _)
    rw [← ih]
    rfl
theorem any_at (ys : List Bool) : (List.range ys.length).any (fun i => ys.getD i false) = ys.any id := by
  induction ys with
  | nil => rfl
  | cons y r ih =>
    rw [List.length_cons, List.range_succ_eq_map, List.any_cons, List.any_map, List.any_cons]
    show (y || _) = (y || _)
    rw [← ih]
    rfl
section
variable {X : Cx}
theorem bools_at {ys : List Bool} {its : List Value} (r : Vals (ys.map V.bl) its) {i : Nat} {v : Value} (h : its.toArray[i]? = some v) : v = .bool (ys.getD i false) := by
  have h : its[i]? = some v := by simpa using h
  have hl := r.length
  rw [List.length_map] at hl
  have hi : i < ys.length := by rw [hl]; exact (List.getElem?_eq_some_iff.mp h).1
  obtain ⟨u, e, q⟩ := r.get (i := i) (x := V.bl (ys.getD i false)) (by simp [hi, List.getD_eq_getElem?_getD])
  rw [h] at e
  cases e
  exact q
theorem call_all_bools {K : PySem.W.Frag} (hc : X.calm = true) (hK : X.K = K := by rfl) : CallR X (.builtin "all") (fun xs H Q => ∃ (p : Addr) (ys : List Bool), xs = [.ref p] ∧ SqL K H p (ys.map V.bl) ∧ Q (.bl (ys.all id)) H) := by
  subst hK
  intro pins s σ H xs us Q I r h
  obtain ⟨p, ys, rfl, hq, q⟩ := h
  obtain ⟨u, rfl, ru⟩ := vals1 r
  cases ru
  obtain ⟨its, rv, pl, hz⟩ := I.list hq
  have hl := rv.length
  rw [List.length_map] at hl
  have hp : p < s.heap.objs.size := by obtain ⟨o, e, _⟩ := pl.isList; exact Heap.lt_size e
  refine call_all_walk (wpAny_pyIter_list pl.isList ?_)
  refine ⟨s.heap.objs.size, _, _, _, _, _, fun i => ys.getD i false, rfl, Walks.list (show X.A.in1.handled = none from I.ok.hd hc) _ p (Nat.ne_of_lt hp) its.toArray, ⟨⟨_, Heap.get?_push_size _ rfl, rfl, rfl⟩, pl.isList.push _⟩, fun i v s' Q' E' hP hQ => ?_, fun h' tk hk => ?_⟩
  · rw [bools_at rv hP]
    exact wpAny_truthy_bool hQ
  · rw [List.size_toArray, ← hl, all_at]
    refine ⟨.bl _, H, I.kept (t' := tk) fun b o e => hk b o (by simp; exact Nat.ne_of_lt (Heap.lt_size e)) (Heap.get?_push_of_some _ e), rfl, q⟩
theorem call_any_bools {K : PySem.W.Frag} (hc : X.calm = true) (hK : X.K = K := by rfl) : CallR X (.builtin "any") (fun xs H Q => ∃ (p : Addr) (ys : List Bool), xs = [.ref p] ∧ SqL K H p (ys.map V.bl) ∧ Q (.bl (ys.any id)) H) := by
  subst hK
  intro pins s σ H xs us Q I r h
  obtain ⟨p, ys, rfl, hq, q⟩ := h
  obtain ⟨u, rfl, ru⟩ := vals1 r
  cases ru
  obtain ⟨its, rv, pl, hz⟩ := I.list hq
  have hl := rv.length
  rw [List.length_map] at hl
  have hp : p < s.heap.objs.size := by obtain ⟨o, e, _⟩ := pl.isList; exact Heap.lt_size e
  refine call_any_walk (wpAny_pyIter_list pl.isList ?_)
  refine ⟨s.heap.objs.size, _, _, _, _, _, fun i => ys.getD i false, rfl, Walks.list (show X.A.in1.handled = none from I.ok.hd hc) _ p (Nat.ne_of_lt hp) its.toArray, ⟨⟨_, Heap.get?_push_size _ rfl, rfl, rfl⟩, pl.isList.push _⟩, fun i v s' Q' E' hP hQ => ?_, fun h' tk hk => ?_⟩
  · rw [bools_at rv hP]
    exact wpAny_truthy_bool hQ
  · rw [List.size_toArray, ← hl, any_at]
    refine ⟨.bl _, H, I.kept (t' := tk) fun b o e => hk b o (by simp; exact Nat.ne_of_lt (Heap.lt_size e)) (Heap.get?_push_of_some _ e), rfl, q⟩

/-! ### slices of texts -/
def rSlS : V → Option Int → Option Int → Hp → VK → Prop := fun x lo hi H Q => ∃ z, x = .str z ∧ z.length ≤ sizeLine ∧ Q (.str (Txt.slice z lo hi)) H
theorem part_of {v : Value} {o : Option Int} (p : IsPart v o) : ∃ l : Option (Int × Tok), v = partValue l ∧ l.map (·.1) = o := by
  cases p with
  | none => exact ⟨none, rfl, rfl⟩
  | int i t => exact ⟨some (i, t), rfl, rfl⟩
theorem sl_str : SlR X rSlS := by
  intro pins s σ H x v vl vu lo hi sl Q I rx hs pl pu h
  obtain ⟨z, rfl, hz, q⟩ := h
  obtain ⟨t, rfl⟩ := rx
  obtain ⟨l, rfl, rfl⟩ := part_of pl
  obtain ⟨u, rfl, rfl⟩ := part_of pu
  exact ⟨"str", _, F.slot_str_getitem.lookup, typeIs_str _ _ _, wpAny_getItem_str_slice (l := l) (u := u) (st := none) hs rfl
    (post_val_or_str ⟨Nat.le_trans (Txt.slice_le z _ _) hz, fun t' k => ⟨.str _, H, I.tok _, ⟨_, rfl⟩, q⟩⟩)⟩

/-! ### sep.join(a list of texts) -/
theorem strsAre_of {zs : List Str} : ∀ {us : List Value}, Vals (zs.map V.str) us → StrsAre us zs := by
  induction zs with
  | nil => intro us r; rw [List.map_nil] at r; cases r; exact .nil
  | cons n ns ih =>
    intro us r
    rw [List.map_cons] at r
    cases r with
    | cons r1 r2 =>
      obtain ⟨t, e⟩ := r1
      subst e
      exact .cons n t (ih r2)
theorem mt_join {K : PySem.W.Frag} (hK : X.K = K := by rfl) : MtR X "str.join" (fun x xs H Q => ∃ (sep : Str) (p : Addr) (zs : List Str), x = .str sep ∧ xs = [.ref p] ∧ SqL K H p (zs.map V.str) ∧ (zs.map (·.length)).sum + zs.length * sep.length ≤ 16777216 ∧ Q (.str (Txt.join sep zs)) H) := by
  subst hK
  intro pins s σ H x xs v us Q I rx rs h
  obtain ⟨sep, p, zs, rfl, rfl, hq, hz, q⟩ := h
  obtain ⟨t, rfl⟩ := rx
  obtain ⟨u, rfl, ru⟩ := vals1 rs
  cases ru
  obtain ⟨its, rv, pl, _⟩ := I.list hq
  exact join_list pl.isList (by simpa using strsAre_of rv) hz fun t' k => ⟨.str _, H, I.tok _, ⟨_, rfl⟩, q⟩

/-! ### isinstance(x, T), T a builtin type -/
theorem call_isinst {K : PySem.W.Frag} (hK : X.K = K := by rfl) : CallR X (.builtin "isinstance") (fun xs H Q => ∃ x n t b, xs = [x, .ty n] ∧ TyOf K H x t ∧ PySem.W.kitOne K t (.type n) = some b ∧ Q (.bl b) H) := by
  subst hK
  intro pins s σ H xs us Q I r h
  obtain ⟨x, n, t, b, rfl, ty, e, q⟩ := h
  obtain ⟨u, w', rfl, rx, rn⟩ := vals2 r
  cases (show w' = Value.type n from rn)
  exact isinst_ok I rx ty e fun tk => ⟨.bl b, H, I.tok _, rfl, q⟩
end

/-! ### == of data: lists and tuples of any depth, by what they hold -/
mutual
inductive Dv (K : PySem.W.Frag) (H : Hp) : V → PyData → Prop where
  | non : Dv K H .non .none
  | bl (b : Bool) : Dv K H (.bl b) (.bool b)
  | int (i : Int) : Dv K H (.int i) (.int i)
  | str (x : Str) : Dv K H (.str x) (.str x)
  | lst {a : Addr} {xs : List V} {ds : List PyData} : SqL K H a xs → Dvs K H xs ds → Dv K H (.ref a) (.list ds)
  | tup {a : Addr} {xs : List V} {ds : List PyData} : SqT K H a xs → Dvs K H xs ds → Dv K H (.ref a) (.tuple ds)
inductive Dvs (K : PySem.W.Frag) (H : Hp) : List V → List PyData → Prop where
  | nil : Dvs K H [] []
  | cons {x : V} {d : PyData} {xs : List V} {ds : List PyData} : Dv K H x d → Dvs K H xs ds → Dvs K H (x :: xs) (d :: ds)
end
section
variable {X : Cx} {pins : List (Addr × Obj)} {σ : St} {H : Hp} {s : Shared}
mutual
theorem Dv.reads (I : Inv X pins σ H s) : ∀ {x : V} {d : PyData} {u : Value}, Dv X.K H x d → RelV x u → ∃ as, Reads s.heap u d as
  | _, _, _, .non, r => by cases (show _ = Value.none from r); exact ⟨_, .none⟩
  | _, _, _, .bl b, r => by cases (show _ = Value.bool b from r); exact ⟨_, .bool b⟩
  | _, _, _, .int i, r => by obtain ⟨t, rfl⟩ := r; exact ⟨_, .int i t⟩
  | _, _, _, .str x, r => by obtain ⟨t, rfl⟩ := r; exact ⟨_, .str x t⟩
  | _, _, _, .lst hq ds, r => by
    cases r
    obtain ⟨its, rv, pl, _⟩ := I.list hq
    obtain ⟨as, q⟩ := Dvs.reads I ds rv
    obtain ⟨o, e, c, n, d⟩ := pl.isList
    exact ⟨_, .list e c d (by simpa using q)⟩
  | _, _, _, .tup hq ds, r => by
    cases r
    obtain ⟨its, rv, pl, _⟩ := I.tuple hq
    obtain ⟨as, q⟩ := Dvs.reads I ds rv
    obtain ⟨o, e, c, n, d⟩ := pl
    exact ⟨_, .tuple e c d (by simpa using q)⟩
theorem Dvs.reads (I : Inv X pins σ H s) : ∀ {xs : List V} {ds : List PyData} {us : List Value}, Dvs X.K H xs ds → Vals xs us → ∃ as, ReadsAll s.heap us ds as
  | _, _, _, .nil, r => by cases r; exact ⟨_, .nil⟩
  | _, _, _, .cons d ds, r => by
    cases r with
    | cons r1 r2 =>
      obtain ⟨as, q⟩ := Dv.reads I d r1
      obtain ⟨bs, p⟩ := Dvs.reads I ds r2
      exact ⟨_, .cons q p⟩
end
end
section
variable {X : Cx}
def rEqD (K : PySem.W.Frag) : R2 := fun x y H Q => ∃ d e, Dv K H x d ∧ Dv K H y e ∧ SeqAt.shaped d = true ∧ SeqAt.shaped e = true ∧ Q (.bl (PyData.eqv d e)) H
def rNeD (K : PySem.W.Frag) : R2 := fun x y H Q => ∃ d e, Dv K H x d ∧ Dv K H y e ∧ SeqAt.shaped d = true ∧ SeqAt.shaped e = true ∧ Q (.bl (!PyData.eqv d e)) H
theorem op_eqD {K : PySem.W.Frag} (hu : X.A.units + 64 < cLine) (hK : X.K = K := by rfl) : OpR X (compareOp .Eq) (rEqD K) := by
  subst hK
  intro pins s σ H x y v u Q I rx ry h
  obtain ⟨d, e, hd, he, sd, se, q⟩ := h
  obtain ⟨as, r1⟩ := hd.reads I rx
  obtain ⟨bs, r2⟩ := he.reads I ry
  exact eq_dataH r1 r2 sd se hu ⟨.bl _, H, I, rfl, q⟩
theorem op_neD {K : PySem.W.Frag} (hu : X.A.units + 64 < cLine) (hK : X.K = K := by rfl) : OpR X (compareOp .NotEq) (rNeD K) := by
  subst hK
  intro pins s σ H x y v u Q I rx ry h
  obtain ⟨d, e, hd, he, sd, se, q⟩ := h
  obtain ⟨as, r1⟩ := hd.reads I rx
  obtain ⟨bs, r2⟩ := he.reads I ry
  exact ne_dataH r1 r2 sd se hu ⟨.bl _, H, I, rfl, q⟩
theorem dvs_bools {K : PySem.W.Frag} {H : Hp} : ∀ ys : List Bool, Dvs K H (ys.map V.bl) (ys.map PyData.bool)
  | [] => .nil
  | y :: r => .cons (.bl y) (dvs_bools r)
theorem dvs_strs {K : PySem.W.Frag} {H : Hp} : ∀ ys : List Str, Dvs K H (ys.map V.str) (ys.map PyData.str)
  | [] => .nil
  | y :: r => .cons (.str y) (dvs_strs r)
theorem dvs_ints {K : PySem.W.Frag} {H : Hp} : ∀ ys : List Int, Dvs K H (ys.map V.int) (ys.map PyData.int)
  | [] => .nil
  | y :: r => .cons (.int y) (dvs_ints r)
theorem lay_bools : ∀ ys : List Bool, PyData.canLayAll0 (ys.map PyData.bool) = true ∧ PyData.depthAll (ys.map PyData.bool) = 0
  | [] => ⟨rfl, rfl⟩
  | y :: r => by
    obtain ⟨a, b⟩ := lay_bools r
    simp [PyData.canLayAll0, PyData.canLay0, PyData.depthAll, PyData.depth, a, b]
theorem shaped_bools (ys : List Bool) : SeqAt.shaped (.list (ys.map PyData.bool)) = true := by
  obtain ⟨a, b⟩ := lay_bools ys
  simp [SeqAt.shaped, PyData.canLay0, PyData.depth, a, b]
theorem eqv_bools : ∀ ys zs : List Bool, PyData.eqvAll (ys.map PyData.bool) (zs.map PyData.bool) = decide (ys = zs)
  | [], [] => by simp [PyData.eqvAll]
  | [], _ :: _ => by simp [PyData.eqvAll]
  | _ :: _, [] => by simp [PyData.eqvAll]
  | a :: r, b :: t => by
    simp only [List.map_cons, PyData.eqvAll, PyData.eqv, eqv_bools r t]
    by_cases h : a = b <;> by_cases h' : r = t <;> simp [h, h']
theorem lay_strs : ∀ ys : List Str, (∀ y ∈ ys, PyData.strOk y = true) → PyData.canLayAll0 (ys.map PyData.str) = true ∧ PyData.depthAll (ys.map PyData.str) = 0
  | [], _ => ⟨rfl, rfl⟩
  | y :: r, h => by
    obtain ⟨a, b⟩ := lay_strs r fun z hz => h z (List.mem_cons_of_mem _ hz)
    have c := h y List.mem_cons_self
    simp [PyData.canLayAll0, PyData.canLay0, PyData.depthAll, PyData.depth, a, b, c]
theorem shaped_strs (ys : List Str) (h : ∀ y ∈ ys, PyData.strOk y = true) : SeqAt.shaped (.list (ys.map PyData.str)) = true := by
  obtain ⟨a, b⟩ := lay_strs ys h
  simp [SeqAt.shaped, PyData.canLay0, PyData.depth, a, b]
theorem eqv_strs : ∀ ys zs : List Str, PyData.eqvAll (ys.map PyData.str) (zs.map PyData.str) = decide (ys = zs)
  | [], [] => by simp [PyData.eqvAll]
  | [], _ :: _ => by simp [PyData.eqvAll]
  | _ :: _, [] => by simp [PyData.eqvAll]
  | a :: r, b :: t => by
    simp only [List.map_cons, PyData.eqvAll, PyData.eqv, eqv_strs r t]
    by_cases h : a = b <;> by_cases h' : r = t <;> simp [h, h']
end

section
variable {X : Cx}
/-- a list == [] -/
def rEqNil (K : PySem.W.Frag) : R2 := fun x y H Q => ∃ a b xs, x = .ref a ∧ y = .ref b ∧ SqL K H a xs ∧ SqL K H b [] ∧ Q (.bl xs.isEmpty) H
theorem op_eqNil {K : PySem.W.Frag} (hu : X.A.units < cLine) (hK : X.K = K := by rfl) : OpR X (compareOp .Eq) (rEqNil K) := by
  subst hK
  intro pins s σ H x y v u Q I rx ry h
  obtain ⟨a, b, xs, rfl, rfl, ha, hb, q⟩ := h
  cases rx
  cases ry
  obtain ⟨its, r1, p1, _⟩ := I.list ha
  obtain ⟨its2, r2, p2, _⟩ := I.list hb
  cases r2
  have hl := r1.length
  cases xs with
  | nil =>
    cases r1
    exact SeqAt.eq_listAt (e := fun _ => true) p1.isList p2.isList rfl hu (fun j h1 _ => absurd h1 (by simp)) ⟨.bl true, H, I, rfl, q⟩
  | cons x r =>
    refine SeqAt.eq_list_lengthsAt p1.isList p2.isList ?_ hu ⟨.bl false, H, I, rfl, q⟩
    rw [List.size_toArray, ← hl]
    rfl
end
/-- an item at a rest by the length -/
theorem atI_mod {α : Type} (xs : List α) (n : Int) (hn : (xs.length : Int) = n) (h0 : 0 < n) (c : Int) : ∃ v, atI xs (c % n) = some v ∧ v ∈ xs := by
  have h1 : 0 ≤ c % n := Int.emod_nonneg _ (by omega)
  have h2 : c % n < n := Int.emod_lt_of_pos _ h0
  obtain ⟨j, hj⟩ := Int.eq_ofNat_of_zero_le h1
  have hlt : j < xs.length := by omega
  refine ⟨xs[j], ?_, List.getElem_mem hlt⟩
  rw [hj]
  exact atI_nat (List.getElem?_eq_getElem hlt)
theorem iteB {c : Bool} {A B : Prop} (h1 : c = true → A) (h2 : c = false → B) : if c = true then A else B := by
  cases c with
  | true => exact iteT (h1 rfl)
  | false => exact iteF (h2 rfl)
theorem Same.upd {H H' : Hp} {a : Addr} {o : HO} (e : Same H H') (h : H' a = none) : Same H (upd H' a o) := fun b u q => by
  rw [upd_ne (ne_of_none (e b u q) h)]
  exact e b u q

/-! ### the layer's rules with the written part named (within a comprehension's block its name must not hang on the block) -/
section
variable {X : Cx} {K : PySem.W.Frag}
theorem ix_listK (hK : X.K = K := by rfl) : IxR X (rIxL K) := by subst hK; exact ix_list
theorem ix_tupK (hK : X.K = K := by rfl) : IxR X (rIxT K) := by subst hK; exact ix_tup
theorem ix_seqK (hK : X.K = K := by rfl) : IxR X (rIx K) := by subst hK; exact ix_seq
theorem sl_listK (hK : X.K = K := by rfl) : SlR X (rSlL K) := by subst hK; exact sl_list
theorem sl_tupK (hK : X.K = K := by rfl) : SlR X (rSlT K) := by subst hK; exact sl_tup
theorem op_in_seqK (hK : X.K = K := by rfl) : OpR X (compareOp .In) (rIn K false) := by subst hK; exact op_in_seq
theorem op_notIn_seqK (hK : X.K = K := by rfl) : OpR X (compareOp .NotIn) (rIn K true) := by subst hK; exact op_notIn_seq
theorem op_catTK (hK : X.K = K := by rfl) : OpR X (binaryOp .Add) (rCatT K) := by subst hK; exact op_catT
theorem call_len_seqK (hK : X.K = K := by rfl) : CallR X (.builtin "len") (fun xs H Q => ∃ p ys, xs = [.ref p] ∧ (SqL K H p ys ∨ SqT K H p ys) ∧ Q (.int ys.length) H) := by subst hK; exact call_len_seq
theorem call_lenK (hK : X.K = K := by rfl) : CallR X (.builtin "len") (fun xs H Q => ∃ x n, xs = [x] ∧ LenV K x H n ∧ Q (.int n) H) := by subst hK; exact call_len
theorem call_list_ofK (hK : X.K = K := by rfl) : CallR X (.type "list") (fun xs H Q => ∃ p ys, xs = [.ref p] ∧ (SqL K H p ys ∨ SqT K H p ys) ∧ ∀ l, H l = none → Q (.ref l) (upd H l (.lst ys))) := by subst hK; exact call_list_of
theorem pi_listK {tg l : Expr} {tl : TE} (hl : PE X l tl) (hK : X.K = K := by rfl) : PI X tg l (iList K tl) := by subst hK; exact pi_list hl
theorem pi_tupK {tg l : Expr} {tl : TE} (hl : PE X l tl) (hK : X.K = K := by rfl) : PI X tg l (iTup K tl) := by subst hK; exact pi_tup hl
theorem pt_truthK {a : Expr} {ta : TE} (ha : PE X a ta) (he : ∀ whole, isTrue a X.env whole = (do let v ← whole; standAt a.pos; holding [v] (truthy v))) (hK : X.K = K := by rfl) :
    PT X a (fun σ H Q => ta σ H fun x H' => ∃ k, TruV K x H' k ∧ Q k H') := by subst hK; exact pt_truth ha he
theorem pe_bm0K {o : Expr} {to : TE} {name : Str} {apos cpos : Pos} {T id : String} {r : V → List V → Hp → VK → Prop} (pa : PlainAttrs T) (slot : Slot T name id) (hty : typeOf (.builtin id) = pure (.type "method_descriptor")) (hm : MtR X id r) (ho : PE X o to)
    (hK : X.K = K := by rfl) (hbase : attributeBase o name X.env (eval o X.env) = eval o X.env := by rfl) (hline : (apos.endLine == cpos.line) = true := by rfl) : PE X (.Call (.Attribute o name apos) [] [] cpos) (tBM0 K T r to) := by
  subst hK; exact pe_bm0 pa slot hty hm ho hbase hline
theorem pe_bmK {o e : Expr} {es : List Expr} {to : TE} {t : TA} {name : Str} {apos cpos : Pos} {T id : String} {r : V → List V → Hp → VK → Prop} (pa : PlainAttrs T) (slot : Slot T name id) (hty : typeOf (.builtin id) = pure (.type "method_descriptor")) (hm : MtR X id r) (ho : PE X o to) (ha : PA X (e :: es) t)
    (hK : X.K = K := by rfl) (hbase : attributeBase o name X.env (eval o X.env) = eval o X.env := by rfl)
    (hfew : ((backTo cpos (starEach (e :: es) X.env)).all (fun x => !x.1) && (backToKw cpos (keywordEach [] X.env)).all (fun x => x.1.isSome)
      && decide ((e :: es).length + ([] : List Keyword).length + (if ([] : List Keyword).isEmpty then 0 else 1) < 30)) = true := by rfl)
    (hline : (apos.endLine == cpos.line) = true := by rfl) (hs : starEach (e :: es) X.env = (false, eval e X.env) :: starEach es X.env := by rfl) (hplain : (backTo cpos (starEach es X.env)).any (·.1) = false := by rfl) :
    PE X (.Call (.Attribute o name apos) (e :: es) [] cpos) (tBM K T r to t) := by
  subst hK; exact pe_bm pa slot hty hm ho ha hbase hfew hline hs hplain
end

/-! ### more of texts and numbers -/
section
variable {X : Cx} {K : PySem.W.Frag}
theorem op_mulB : OpR X (binaryOp .Mult) (rI IntMulOk fun i j => .int (i * j)) := opI fun _ _ _ _ _ _ _ hc q => mul_int q hc
theorem op_mul_str : OpR X (binaryOp .Mult) (fun x y H Q => ∃ z n, x = .str z ∧ y = .int n ∧ MulOk z n ∧ Q (.str (Txt.mul z n)) H) := by
  intro pins s σ H x y v u Q I rx ry h
  obtain ⟨z, n, rfl, rfl, hz, q⟩ := h
  obtain ⟨t, rfl⟩ := rx
  obtain ⟨t', rfl⟩ := ry
  exact SB.mul hz fun t' k => ⟨.str _, H, I.tok _, ⟨_, rfl⟩, q⟩
theorem mt_startswith : MtR X "str.startswith" (fun x xs H Q => ∃ z y, x = .str z ∧ xs = [.str y] ∧ Q (.bl (Txt.startswith z y)) H) := by
  intro pins s σ H x xs v us Q I rx rs h
  obtain ⟨z, y, rfl, rfl, q⟩ := h
  obtain ⟨t, rfl⟩ := rx
  obtain ⟨u, rfl, t', rfl⟩ := vals1 rs
  exact call_meets F.slot_str_startswith (typeIs_str _ _ _) F.entry_str_startswith (F.args_str_startswith_2 _ _) (gives_str_startswith z y t t').meets ⟨.bl _, H, I, rfl, q⟩
theorem call_int_str : CallR X (.type "int") (fun xs H Q => ∃ z n, xs = [.str z] ∧ PySem.intText? z = some n ∧ z.length ≤ 640 ∧ Q (.int n) H) := by
  intro pins s σ H xs us Q I r h
  obtain ⟨z, n, rfl, e, hz, q⟩ := h
  obtain ⟨u, rfl, t, rfl⟩ := vals1 r
  exact PySem.W.KIN.call_text e hz ⟨.int n, H, I.tok _, ⟨_, rfl⟩, q⟩
end
end L2
/-! MY OWN RULES, second part: reversed, join of it; the script's ints bounded by what can be laid. -/
namespace Rev
open PySem PySem.Builtin PySem.Builtin.Str PySem.Builtin.Int
theorem nolen_lri : typeLookup (.type "list_reverseiterator") "__len__" = pure none := by rw [typeLookup_type, builtinLookup_eq_fast]; kernel_rfl
theorem hint_lri : typeLookup (.type "list_reverseiterator") "__length_hint__" = pure (some (.builtin "list_reverseiterator.__length_hint__")) := by rw [typeLookup_type, builtinLookup_eq_fast]; kernel_rfl
section
variable {prog : Program} {w : World} {A : Around} {R : Result → Shared → Prop} {I : Addr} {fp wr : List Addr} {G : Array GenState → Array GenState → Prop} {n : Nat} {P : Nat → Value → Prop} {St : Nat → Shared → Prop} {Live : Shared → Prop}
/-- the loop of extend, with what is known of the last state -/
theorem extend_live (W : WalksS prog w A.in1 I fp wr G n P St) (hend : ∀ (s : Shared) (Q : Option Value → Shared → Prop) (E : Value → Shared → Prop), St n s → (∀ s', Moved wr G s s' → Live s' → Q none s') → wpAny (model prog w) A.in1 (pyNext (.ref I)) Q E s)
    (hn : n ≤ sizeLine) (S : Addr) (hSf : S ∉ fp) (res : Value) :
    ∀ (k i : Nat) (s : Shared) (acc : Array Value) (c : Nat), n - i = k → i ≤ n → St i s → s.heap.get? S = some { cls := .type "list", dict := none, data := .seq acc c, slots := #[] } → ItemsOf P acc i →
    (∀ s' acc' c', Moved (S :: wr) G s s' → s'.heap.get? S = some { cls := .type "list", dict := none, data := .seq acc' c', slots := #[] } → ItemsOf P acc' n → Live s' → R (.ok (.ret res)) s') →
    codeAny (model prog w) A (.builtin "list.extend.loop" ⟨[.ref S, .ref I, res], []⟩) R s := by
  have hSw : S ∉ wr := fun h => hSf (W.sub _ h)
  have hsub : ∀ b ∈ wr, b ∈ S :: wr := fun b hb => List.mem_cons_of_mem _ hb
  intro k
  induction k with
  | zero =>
    intro i s acc c hk hi hst hS hacc hR
    have hin : i = n := by omega
    subst hin
    refine codeAny_builtin F.entry_extend_loop ?_
    rw [Around.under_plainId F.plain_extend_loop _]
    show wpAny _ A.in1 (pyNext (.ref I) >>= _) _ _ s
    refine wpAny_bind (hend s _ _ hst fun s' hm hl => ?_)
    exact wpAny_pure (hR s' acc c (hm.mono hsub) (hm.heap S _ hSw hS) hacc hl)
  | succ k ih =>
    intro i s acc c hk hi hst hS hacc hR
    have hlt : i < n := by omega
    refine codeAny_builtin F.entry_extend_loop ?_
    rw [Around.under_plainId F.plain_extend_loop _]
    show wpAny _ A.in1 (pyNext (.ref I) >>= _) _ _ s
    refine wpAny_bind (W.item i s _ _ hlt hst fun v s' hP hst' hm => ?_)
    have hS' := hm.heap S _ hSw hS
    show wpAny _ A.in1 (updateSeq S (·.push v) >>= _) _ _ _
    refine wpAny_bind ?_
    refine wpAny_updateSeq hS' rfl (wpAny_pure ⟨plainId_quiet F.plain_extend_loop _, ih (i + 1) _ (acc.push v) _ (by omega) hlt (W.frame _ s' _ s'.toks hst' (Nat.le_refl _) fun b hb o e => ?_) (Heap.get?_update_self _ hS' rfl) (hacc.push hP) fun s'' acc' c' hm'' hS'' hacc' hl => ?_⟩)
      (by rw [hacc.1]; omega) (by show (acc.push v).size ≤ sizeLine + 1; rw [Array.size_push, hacc.1]; omega)
    · exact (Heap.get?_update_other _ _ (fun h : S = b => hSf (by rw [h]; exact hb))).trans e
    · refine hR s'' acc' c' (Moved.trans W.gtrans ((hm.mono hsub).then_heap (by first | exact Nat.le_refl _ | exact Nat.le_succ _ | omega) fun b o hb e => ?_) hm'') hS'' hacc' hl
      exact (Heap.get?_update_other _ _ (fun h : S = b => hb (by rw [h]; exact List.mem_cons_self))).trans e
end
section
variable {prog : Program} {w : World} {A : Around} {E : Value → Shared → Prop} {s : Shared}
/-- at its end the iterator stays there -/
theorem rev_end {it l : Addr} {Q : Option Value → Shared → Prop} (hh : A.handled = none) (hit : s.heap.IsRevIter it l (-1))
    (hQ : ∀ h', Heap.ExtBut it s.heap h' → (∃ o, h'.get? it = some o) → Q none { s with heap := h' }) : wpAny (model prog w) A (pyNext (.ref it)) Q E s := by
  obtain ⟨o, ho, hc, hd⟩ := id hit
  unfold pyNext
  refine wpAny_bind (wpAny_attempt (wpAny_callSpecial?_slot (name := Str.ofString "__next__") hit.typeIs F.slot_lri_next
    (wpAny_call_entry F.slot_lri_next hit.typeIs F.entry_lri_next ?_ (F.args_lri_next_1 _))))
  unfold Builtin.«list_reverseiterator.__next__»
  refine wpAny_bind (wpAny_of_eq (a := (Value.ref it, [])) rfl ?_)
  try dsimp only
  refine wpAny_bind (wpAny_field ho hd (x := rawInt (-1)) rfl ?_)
  show wpAny _ _ (if (-1 : Int) < 0 then _ else _) _ _ s
  rw [if_pos (by decide)]
  refine wpAny_bind (wpAny_rule ?_)
  first
  | show wpAny _ _ (newExc (.type "StopIteration") [] >>= _) _ _ _
  | (refine wpAny_bind ?_; show wpAny _ _ (newExc (.type "StopIteration") [] >>= _) _ _ _)
  refine wpAny_bind ?_
  simp only [newExc, newTuple]
  refine wpAny_bind (wpAny_newObj_type ?_ (by size_fits))
  refine wpAny_bind (m := firstArgMember _ _) (wpAny_of_eq (a := Value.none) (by first | rfl | (simp only [firstArgMember]; rfl)) ?_)
  refine wpAny_newObj_type ?_ (by size_fits)
  simp only [raiseNew]
  refine wpAny_bind (wpAny_handled ?_)
  first | rw [show A.in1.handled = none from hh] | rw [hh]
  refine wpAny_bind (wpAny_pure (wpAny_throw ?_))
  refine wpAny_bind (wpAny_isInstance (T := "StopIteration") (b := true) ⟨_, Heap.get?_push_size _ rfl, rfl⟩ isSubtype_stop ?_)
  exact wpAny_pure (hQ _ (((Heap.ExtBut.refl _ _).push _).push _) ⟨o, Heap.get?_push_of_some _ (Heap.get?_push_of_some _ ho)⟩)
end
section
variable {prog : Program} {w : World} {A : Around} {E : Value → Shared → Prop} {s : Shared} {I : Addr} {fp wr : List Addr} {G : Array GenState → Array GenState → Prop} {n : Nat} {P : Nat → Value → Prop} {St : Nat → Shared → Prop} {Live : Shared → Prop}
theorem collect_rev {Q : List Value → Shared → Prop}
    (W : WalksS prog w A.in1 I fp wr G n P St) (hend : ∀ (s : Shared) (Q : Option Value → Shared → Prop) (E : Value → Shared → Prop), St n s → (∀ s', Moved wr G s s' → Live s' → Q none s') → wpAny (model prog w) A.in1 (pyNext (.ref I)) Q E s) (hT : ∀ i s, St i s → s.TypeIs (.ref I) "list_reverseiterator") (hst : St 0 s) (hfp : ∀ b ∈ fp, b < s.heap.objs.size) (hI : I ∈ fp)
    (hQ : ∀ s' acc, Moved wr G s s' → ItemsOf P acc n → Live s' → Q acc.toList s') (hn : n ≤ sizeLine := by size_fits) : wpAny (model prog w) A (collect (.ref I)) Q E s := by
  have hSf : s.heap.objs.size ∉ fp := fun hm => Nat.lt_irrefl _ (hfp _ hm)
  have hSI : s.heap.objs.size ≠ I := fun e => hSf (e ▸ hI)
  unfold collect
  refine wpAny_bind (wpAny_runValue (codeAny_builtin F.entry_proto_collect ?_))
  rw [Around.under_plainId F.plain_proto_collect _]
  show wpAny _ A.in1 (newList [] >>= fun l => again (.builtin "list.__iadd__" ⟨[l, .ref I], []⟩)) _ _ s
  refine wpAny_bind (wpAny_newObj_type ?_)
  refine wpAny_pure ⟨plainId_quiet F.plain_list_iadd _, codeAny_builtin F.entry_list_iadd ?_⟩
  rw [Around.under_plainId F.plain_list_iadd _]
  have hst₁ := W.frame 0 s (s.heap.push { cls := .type "list", data := .seq ([] : List Value).toArray }) s.toks hst (Nat.le_refl _) fun b _ o e => Heap.get?_push_of_some _ e
  have hS₁ : (s.heap.push { cls := .type "list", data := .seq ([] : List Value).toArray }).get? s.heap.objs.size = some { cls := .type "list", data := .seq ([] : List Value).toArray } := Heap.get?_push_size _ rfl
  have h1 : Builtin.List.listSameRef (.ref s.heap.objs.size) (.ref I) = false := by simp [Builtin.List.listSameRef, hSI]
  show wpAny _ A.in1 (Builtin.List.listExtendWith (.ref s.heap.objs.size) (.ref I) (.ref s.heap.objs.size)) _ _ _
  unfold Builtin.List.listExtendWith
  refine wpAny_bind (wpAny_typeOf (hT 0 _ hst₁) ?_)
  rw [if_neg (by rw [h1]; decide)]
  refine wpAny_bind (W.self 0 _ _ _ hst₁ ?_)
  refine wpAny_bind (wpAny_holding ?_)
  unfold Builtin.List.listLengthHint
  refine wpAny_bind (wpAny_specialOf (hT 0 _ hst₁) nolen_lri ?_)
  show wpAny _ A.in1 (specialOf (Value.ref I) (Str.ofString "__length_hint__") >>= _) _ _ _
  refine wpAny_bind (wpAny_specialOf (hT 0 _ hst₁) hint_lri ?_)
  (generalize hid : ("list_reverseiterator.__length_hint__" : String) = id0; (fail_if_success (clear hid id0)); wp_delta; rw [show splitId id0 = some ("list_reverseiterator", "__length_hint__") from by subst hid; decide +kernel]; subst hid)
  refine wpAny_bind (wpAny_isInstance (b := true) (hT 0 _ hst₁) (by rw [isSubtype_type]; kernel_rfl) ?_)
  refine wpAny_pure ?_
  rw [if_neg (by decide)]
  refine wpAny_pure ⟨plainId_quiet F.plain_extend_loop _, extend_live W hend hn _ hSf _ n 0 _ _ _ rfl (Nat.zero_le _) hst₁ hS₁ (ItemsOf.nil P) fun s' acc' c' hm hS' hacc hl => ?_⟩
  show wpAny _ A (load s.heap.objs.size >>= _) _ _ s'
  refine wpAny_bind (wpAny_load hS' ?_)
  exact wpAny_pure (hQ s' acc' (Moved.drop_new (o := { cls := .type "list", data := .seq ([] : List Value).toArray }) (tk := s.toks) hm (Nat.le_refl _)) hacc hl)
end
end Rev
namespace Rev
open PySem PySem.Builtin PySem.Builtin.Str PySem.Builtin.Int
section
variable {prog : Program} {w : World} {A : Around} {E : Value → Shared → Prop} {s : Shared} {x : Str} {t : Tok} {Q : Value → Shared → Prop} {I : Addr} {fp wr : List Addr} {G : Array GenState → Array GenState → Prop} {n : Nat} {P : Nat → Value → Prop} {St : Nat → Shared → Prop} {Live : Shared → Prop}
theorem joinRev (W : WalksS prog w A.in1.in1 I fp wr G n P St) (hend : ∀ (s : Shared) (Q : Option Value → Shared → Prop) (E : Value → Shared → Prop), St n s → (∀ s', Moved wr G s s' → Live s' → Q none s') → wpAny (model prog w) A.in1.in1 (pyNext (.ref I)) Q E s) (hT : ∀ i s, St i s → s.TypeIs (.ref I) "list_reverseiterator") (hst : St 0 s) (hfp : ∀ b ∈ fp, b < s.heap.objs.size) (hI : I ∈ fp)
    (hstr : ∀ i v, P i v → ∃ y u, v = Value.str y u)
    (hq : ∀ s' (l : List (Str × Tok)), Moved wr G s s' → ItemsOf P (strValues l).toArray n → Live s' → JoinOk x (l.map (·.1)) = true ∧ ∀ t' k, Q (.str (Txt.join x (l.map (·.1))) t') { s' with toks := k })
    (hsz : n ≤ sizeLine := by size_fits) :
    wpAny (model prog w) A (call (.builtin "str.join") [.str x t, .ref I]) Q E s := by
  refine wpAny_call (codeAny_call_builtin F.slot_str_join.plain F.entry_str_join (F.slot_str_join.check _ _ _ _ _ _ _ _ (typeIs_str _ _ _) (F.args_str_join_2 _ _) ?_))
  rw [join_tree_other]
  refine wpAny_bind (wpAny_typeOf (hT 0 s hst) ?_)
  show wpAny _ A.in1 ((pyIter (.ref I)).tryCatch _ >>= fun it => collect it >>= fun items => joinTail x items) _ _ s
  refine wpAny_bind (wpAny_tryCatch (W.of_in1.self 0 s _ _ hst ?_))
  refine wpAny_bind (collect_rev W hend hT hst hfp hI (fun s' acc hm hacc hl0 => ?_) hsz)
  obtain ⟨l, hl⟩ := exists_strValues acc.toList fun v hv => by
    obtain ⟨j, hj, rfl⟩ := Array.mem_iff_getElem.mp (Array.mem_toList_iff.mp hv)
    exact hstr j _ (hacc.2 j _ (Array.getElem?_eq_getElem hj))
  rw [← hl]
  have hacc' : ItemsOf P (strValues l).toArray n := by rw [hl]; simpa using hacc
  obtain ⟨hok, hpost⟩ := hq s' l hm hacc' hl0
  unfold JoinOk at hok
  rw [Bool.not_eq_true'] at hok
  have g : Gives (joinTail x (strValues l)) (joinMade x l) := by
    have g0 := gives_joinTail x l hok
    cases l with
    | nil => exact g0
    | cons p r => cases r with
      | nil => exact g0
      | cons q r' => exact g0
  exact g prog w A (wants Q E) s' (post_join l ⟨joinFit_length hok, hpost⟩)
end
end Rev
namespace L2
open PySem PySem.Spec PyProof.Rows
section
variable {X : Cx} {K : PySem.W.Frag}
/-- a list's reverse iterator that nothing has moved yet -/
def RevO (r p : Addr) (n : Nat) : HO := .ext fun h => h.IsRevIter r p ((n : Int) - 1)
theorem call_reversed (hK : X.K = K := by rfl) : CallR X (.type "reversed") (fun xs H Q => ∃ p ys, xs = [.ref p] ∧ SqL K H p ys ∧ ∀ r, H r = none → Q (.ref r) (upd H r (RevO r p ys.length))) := by
  subst hK
  intro pins s σ H xs us Q I r h
  obtain ⟨p, ys, rfl, hq, q⟩ := h
  obtain ⟨u, rfl, ru⟩ := vals1 r
  cases ru
  obtain ⟨its, rv, pl, _⟩ := I.list hq
  have hl := rv.length
  refine call_reversed_list pl.isList ?_
  have e : ((its.toArray.size : Nat) : Int) - 1 = (ys.length : Int) - 1 := by rw [List.size_toArray, hl]
  rw [e]
  refine ⟨.ref s.heap.objs.size, _, I.laid (t' := s.toks) (o := RevO s.heap.objs.size p ys.length) (fun b o e => Heap.get?_push_of_some _ e) (Nat.le_refl _) ?_, rfl, q _ I.fresh⟩
  exact ⟨⟨_, Heap.get?_push_size _ rfl, rfl, rfl⟩, ⟨_, Heap.get?_push_size _ rfl⟩, fun h1 h2 ⟨o, e1, r1⟩ k => ⟨o, k o e1, r1⟩⟩
/-- sep.join of it -/
theorem mt_joinRev (hc : X.calm = true) (hK : X.K = K := by rfl) : MtR X "str.join" (fun x xs H Q => ∃ (sep : Str) (r p : Addr) (zs : List Str), x = .str sep ∧ xs = [.ref r] ∧ H r = some (RevO r p zs.length) ∧ SqL K H p (zs.map V.str) ∧
    (zs.map (·.length)).sum + zs.length * sep.length ≤ 16777216 ∧ Q (.str (Txt.join sep zs.reverse)) (upd H r (.ext fun _ => True))) := by
  subst hK
  intro pins s σ H x xs v us Q I rx rs h
  obtain ⟨sep, r, p, zs, rfl, rfl, hr, hq, hz, q⟩ := h
  obtain ⟨t, rfl⟩ := rx
  obtain ⟨u, rfl, ru⟩ := vals1 rs
  cases ru
  obtain ⟨its, rv, pl, hlz⟩ := I.list hq
  have hl := rv.length
  rw [List.length_map] at hl hlz
  have sa := strsAre_of rv
  obtain ⟨hrev, ⟨orv, eorv⟩, _⟩ : ObjOk X.prog X.w H s.heap r (RevO r p zs.length) := I.hok r _ hr
  have hrev : s.heap.IsRevIter r p ((zs.length : Int) - 1) := hrev
  obtain ⟨ol, eol, _⟩ := id pl.isList
  have hne : p ≠ r := by
    rintro rfl
    obtain ⟨o1, e1, c1, _⟩ := pl.isList
    obtain ⟨o2, e2, c2, _⟩ := hrev
    rw [e1] at e2
    cases e2
    rw [c1] at c2
    exact absurd (Value.type.inj c2) (by decide)
  have W := (Walks.listRev (prog := X.prog) (w := X.w) (A := X.A.in1.in1) (show X.A.in1.in1.handled = none from I.ok.hd hc) r p hne its.toArray).toS
  have hst : s.heap.IsRevIter r p ((its.toArray.size : Int) - 1 - ((0 : Nat) : Int)) := by
    have e : (its.toArray.size : Int) - 1 - ((0 : Nat) : Int) = (zs.length : Int) - 1 := by rw [List.size_toArray, hl]; simp
    rw [e]; exact hrev
  refine Rev.joinRev (Live := fun s' => ∃ u, s'.heap.get? r = some u) W (fun s1 Q1 E1 st hQ1 => ?_) (fun i s' st => st.2.1.typeIs) ⟨Nat.zero_le _, hst, pl.isList⟩ (fun b hb => ?_) (by simp) (fun i v hv => ?_) (fun s' l hm hacc there => ?_) (by rw [List.size_toArray, ← hl]; exact hlz)
  · have e : (its.toArray.size : Int) - 1 - (its.toArray.size : Int) = -1 := by omega
    have hit : s1.heap.IsRevIter r p ((its.toArray.size : Int) - 1 - (its.toArray.size : Int)) := st.2.1
    rw [e] at hit
    exact Rev.rev_end (show X.A.in1.in1.handled = none from I.ok.hd hc) hit fun h' he ho => hQ1 _ ⟨fun b o hb eo => he b o (by simpa using hb) eo, rfl, rfl, rfl, Nat.le_refl _⟩ ho
  · simp at hb
    rcases hb with rfl | rfl
    · exact Heap.lt_size eorv
    · exact Heap.lt_size eol
  · have hv : its.toArray[its.toArray.size - 1 - i]? = some v := hv
    have hv' : its[its.toArray.size - 1 - i]? = some v := by simpa using hv
    have hlt : its.toArray.size - 1 - i < zs.length := by rw [hl]; exact (List.getElem?_eq_some_iff.mp hv').1
    obtain ⟨t', e'⟩ := sa.get (its.toArray.size - 1 - i) zs[its.toArray.size - 1 - i] (List.getElem?_eq_getElem hlt)
    rw [hv'] at e'
    exact ⟨_, t', Option.some.inj e'⟩
  · have e : l.map (·.1) = zs.reverse := by
      apply List.ext_getElem?
      intro j
      have hsz : l.length = zs.length := by have := hacc.1; simp [strValues] at this; omega
      by_cases hj : j < l.length
      · have hvj := hacc.2 j (.str l[j].1 l[j].2) (by simp [strValues, List.getElem?_eq_getElem hj])
        have hvj : its.toArray[its.toArray.size - 1 - j]? = some (.str l[j].1 l[j].2) := hvj
        have hv' : its[its.toArray.size - 1 - j]? = some (.str l[j].1 l[j].2) := by simpa using hvj
        have e0 : its.toArray.size - 1 - j = zs.length - 1 - j := by rw [List.size_toArray, hl]
        rw [e0] at hv'
        have hlt : zs.length - 1 - j < zs.length := by omega
        obtain ⟨t', e'⟩ := sa.get (zs.length - 1 - j) zs[zs.length - 1 - j] (List.getElem?_eq_getElem hlt)
        rw [hv'] at e'
        injection e' with e'
        injection e' with e1 e2
        rw [List.getElem?_map, List.getElem?_eq_getElem hj, List.getElem?_reverse (by omega), List.getElem?_eq_getElem hlt]
        show some l[j].1 = _
        rw [e1]
      · rw [List.getElem?_eq_none (by simpa using Nat.le_of_not_lt hj), List.getElem?_eq_none (by rw [List.length_reverse]; omega)]
    rw [e]
    refine ⟨joinOk_of ?_, fun t' k => ?_⟩
    · rw [List.map_reverse, List.sum_reverse, List.length_reverse]
      exact hz
    · have kk : ∀ b u, b ≠ r → s.heap.get? b = some u → s'.heap.get? b = some u := fun b u hb eb => hm.heap b u (by simpa using hb) eb
      have g1 : s'.gens = s.gens := hm.gens
      have o1 : s'.os = s.os := hm.os
      have d1 : s'.drawn = s.drawn := hm.drawn
      obtain ⟨h', g', d', tk', os'⟩ := s'
      have g1 : g' = s.gens := g1
      have o1 : os' = s.os := o1
      have d1 : d' = s.drawn := d1
      subst g1 o1 d1
      refine ⟨.str _, _, I.write (x := r) (e := r) (o := .ext fun _ => True) (t' := k) (h' := h') (by rw [hr]; exact trivial) (.inl rfl) kk there ⟨trivial, there, fun _ _ _ _ => trivial⟩, ⟨_, rfl⟩, q⟩
end
end L2
namespace Att
open PySem PySem.W PySem.Calls PyProof.Rows
theorem bits_all : ∀ (ns : List Int), (WData.weightAll (ns.map WData.int)) ≤ 2 ^ 20 → ∀ n ∈ ns, Builtin.Int.intBits n < 2 ^ 20
  | [], _, n, h => by cases h
  | m :: r, hw, n, h => by
    have e : WData.weightAll ((m :: r).map WData.int) = Builtin.Int.intBits m + 1 + WData.weightAll (r.map WData.int) := rfl
    rw [e] at hw
    rcases List.mem_cons.mp h with q | q
    · subst q; omega
    · exact bits_all r (by omega) n q
theorem bits_of {ns : List Int} (h : WData.layableAll [WData.list (ns.map WData.int)] = true) : ∀ n ∈ ns, Builtin.Int.intBits n < 2 ^ 20 := by
  have h1 : WData.layable (WData.list (ns.map WData.int)) = true := by
    simp only [WData.layableAll, List.all_cons, List.all_nil, Bool.and_true] at h
    exact h
  unfold WData.layable at h1
  rw [Bool.and_eq_true, decide_eq_true_eq] at h1
  exact bits_all ns h1.2
theorem attach_callB {l : OpenLaw} {n : Nat} {q : Program} {loose : List Str} {XP : (Str → Option Value) → Heap → Prop} {YP : World → Heap → Prop} {d : DefRec}
    (hn : l.most = some n) (hdf : d.params.defaults = [])
    (call : ∀ (w : World) (s₀ s₁ : Shared) (mg mb : Str → Option Value) (fa : Addr) (o : Obj) (pm cd doc : Value) (a : Addr) (vs : List Value) (ns : List Int),
      Ground q loose [] XP w s₀ mg mb s₁.heap → YP w s₁.heap →
      s₁.heap.get? fa = some o → o.data = .func (docDef d.name d.params d.body d.scope pm cd doc) → s₁.heap.CodeRec cd d.name → mg d.name = some (.ref fa) →
      s₁.heap.get? a = some { cls := .type "list", data := .seq vs.toArray } → IntsAre vs ns → ns.length ≤ n → (∀ m ∈ ns, Builtin.Int.intBits m < 2 ^ 20) → s₁.gens = #[] →
      codeAny (model l.prog w) callerA (.call (.ref fa) ⟨[.ref a], []⟩) (fun r s' => r = .ok (.ret (.bool true)) ∧ OldK s₁.heap s'.heap ∧ s'.os = s₁.os ∧ AllBare s'.gens) s₁) :
    WalkO q loose XP YP l.row.toRowW d [] (fun f vs => PySem.call f vs) := by
  intro w s₀ s₁ mg mb G Y fa o pm cd doc dV kV ho hd hcd hD hmg hg args vals as hpre hlay hrd hwl hlo
  obtain rfl : dV = .none := Dflts.none hD hdf
  obtain rfl : kV = .none := Dflts.noKw hD
  obtain ⟨a, vs, ns, rfl, rfl, hobj, hints, hlen⟩ := script_of hn hpre hwl
  refine enter_call (codeAny_mono (call w s₀ s₁ mg mb fa o pm cd doc a vs ns G Y ho (fd_plain hd) hcd hmg hobj hints hlen (bits_of hlay) hg) fun r s' hq => ?_)
  obtain ⟨rfl, h2, h3, h4⟩ := hq
  exact ⟨.inl ⟨.bool true, .bool true, [], rfl, fun _ => rfl, .bool true, post_true l _, fun _ => ⟨List.Pairwise.nil, fun _ hm => (nomatch hm)⟩⟩, h2, h3, h4⟩
end Att
namespace L2
open PySem PySem.Spec PyProof.Rows
/-- walk_ofK, with the ints bounded: what is handed in can be laid -/
theorem walk_ofB {l : PySem.W.OpenLaw} {n k : Nat} {q : Program} {loose : List Str} {XP : (Str → Option Value) → Heap → Prop} {YP : World → Heap → Prop} {d : DefRec} {K : Params → PySem.W.Frag} {CX : CXT} {sp : PySem.W.Frag → Sp} {x : Str}
    (hn : l.most = some n) (hn2 : n ≤ sizeLine) (hdf : d.params.defaults = []) (hr : Room k callerA)
    (hY : ∀ (w : World) (h : Heap), YP w h → (K w.params).In h)
    (F : ∀ (w : World) (mg : Str → Option Value) (fa : Addr) (h : Heap), (K w.params).In h → h.Ns mainGlobals mg → mg d.name = some (.ref fa) →
      ∃ fd : FuncData, (∀ (s : Shared) (u : Value), BindsTo s fd ⟨[u], []⟩ [(x, u)]) ∧
        ∀ base : Heap, (K w.params).In base → base.Ns mainGlobals mg → FnOk l.prog w (K w.params) mg base CX k fa fd [x] (sp (K w.params)))
    (hsp : ∀ (K : PySem.W.Frag) (H : Hp) (a : Addr) (ns : List Int), ns.length ≤ n → (∀ m ∈ ns, Builtin.Int.intBits m < 2 ^ 20) → Only H → SqL K H a (ns.map V.int) → sp K [.ref a] H (fun v _ => v = .bl true) fun _ _ _ => False)
    (hCX : ∀ (H : Hp) (s : Shared) (e : Value) (s' : Shared), CX [] H s (fun _ _ _ => False) e s' → False) :
    PySem.W.WalkO q loose XP YP l.row.toRowW d [] (fun f vs => PySem.call f vs) := by
  refine Att.attach_callB hn hdf fun w s₀ s₁ mg mb fa o pm cd doc a vs ns G Y ho hd hcd hmg hobj hints hlen hbits hg => ?_
  have KX := hY w _ Y
  obtain ⟨fd, hb, hF⟩ := F w mg fa _ KX G.T.g hmg
  exact law_call KX G.T.g G.T.b G.T.builtins G.T.nolimit hg hobj hints (Nat.le_trans hlen hn2) hr hF hb (fun H hO hS => hsp (K w.params) H a ns hlen hbits hO hS) fun H e s' => hCX H s₁ e s'
end L2
namespace L2
open PySem PySem.Spec PyProof.Rows
section
variable {X : Cx} {K : PySem.W.Frag}
/-- a list != [] -/
def rNeNil (K : PySem.W.Frag) : R2 := fun x y H Q => ∃ a b xs, x = .ref a ∧ y = .ref b ∧ SqL K H a xs ∧ SqL K H b [] ∧ Q (.bl (!xs.isEmpty)) H
theorem op_neNil (hu : X.A.units < cLine) (hK : X.K = K := by rfl) : OpR X (compareOp .NotEq) (rNeNil K) := by
  subst hK
  intro pins s σ H x y v u Q I rx ry h
  obtain ⟨a, b, xs, rfl, rfl, ha, hb, q⟩ := h
  cases rx
  cases ry
  obtain ⟨its, r1, p1, _⟩ := I.list ha
  obtain ⟨its2, r2, p2, _⟩ := I.list hb
  cases r2
  have hl := r1.length
  cases xs with
  | nil =>
    cases r1
    exact SeqAt.RcNeAt.lists (e := fun _ => true) p1.isList p2.isList rfl hu (fun j h1 _ => absurd h1 (by simp)) _ _ _ _ ⟨.bl false, H, I, rfl, q⟩
  | cons x r =>
    refine SeqAt.RcNeAt.lists_lengths p1.isList p2.isList ?_ hu _ _ _ _ ⟨.bl true, H, I, rfl, q⟩
    rw [List.size_toArray, ← hl]
    rfl
end
end L2
/-! the figures of a number -/
namespace Fig
open PySem
def dig (m : Nat) : List Nat := (Nat.toDigits 10 m).map Char.toNat
theorem dig_lt {m : Nat} (h : m < 10) : dig m = [48 + m] := by
  unfold dig
  rw [Nat.toDigits_of_lt_base h]
  have : ∀ d : Nat, d < 10 → (Nat.digitChar d).toNat = 48 + d := by decide
  rw [List.map_cons, this m h, List.map_nil]
theorem dig_ge {m : Nat} (h : 10 ≤ m) : dig m = dig (m / 10) ++ [48 + m % 10] := by
  have hm : m % 10 < 10 := Nat.mod_lt m (by decide)
  have t : Nat.toDigits 10 (m / 10) ++ Nat.toDigits 10 (m % 10) = Nat.toDigits 10 (10 * (m / 10) + m % 10) := Nat.toDigits_append_toDigits (by decide) (by omega) hm
  rw [Nat.div_add_mod] at t
  have e := dig_lt hm
  unfold dig at e ⊢
  rw [← t, List.map_append, e]
theorem dig_step {m : Nat} (h : 0 < m) : dig m = (if m / 10 = 0 then [] else dig (m / 10)) ++ [48 + m % 10] := by
  by_cases h10 : m < 10
  · rw [if_pos (by omega), dig_lt h10, List.nil_append, Nat.mod_eq_of_lt h10]
  · rw [if_neg (by omega), dig_ge (by omega)]
theorem dig_all (m : Nat) : ∀ c ∈ dig m, 48 ≤ c ∧ c ≤ 57 := by
  induction m using Nat.strongRecOn with
  | _ m ih =>
    intro c hc
    by_cases h : m < 10
    · rw [dig_lt h] at hc
      have := List.mem_singleton.mp hc
      omega
    · rw [dig_ge (by omega)] at hc
      rcases List.mem_append.mp hc with q | q
      · exact ih (m / 10) (by omega) c q
      · have := List.mem_singleton.mp q
        omega
theorem dig_head (m : Nat) : ∃ c r, dig m = c :: r ∧ (0 < m → c ≠ 48) := by
  induction m using Nat.strongRecOn with
  | _ m ih =>
    by_cases h : m < 10
    · exact ⟨48 + m, [], dig_lt h, fun _ => by omega⟩
    · obtain ⟨c, r, e, hc⟩ := ih (m / 10) (by omega)
      exact ⟨c, r ++ [48 + m % 10], by rw [dig_ge (by omega), e]; rfl, fun _ => hc (by omega)⟩
theorem dig_ne (m : Nat) : dig m ≠ [] := by
  obtain ⟨c, r, e, _⟩ := dig_head m
  rw [e]
  exact List.cons_ne_nil _ _
theorem dig_len : ∀ (k m : Nat), m < 10 ^ (k + 1) → (dig m).length ≤ k + 1
  | 0, m, h => by rw [dig_lt (by simpa using h)]; exact Nat.le_refl _
  | k + 1, m, h => by
    by_cases h10 : m < 10
    · rw [dig_lt h10]; show 1 ≤ _; omega
    · rw [dig_ge (by omega), List.length_append, List.length_singleton]
      have := dig_len k (m / 10) (by rw [Nat.pow_succ] at h; omega)
      omega
theorem dig_val (m : Nat) : NumText.digitsVal (dig m) = m := PySem.W.KIN.val_back m
theorem str_dig (m : Nat) : (PySem.Str.ofString (toString ((m : Nat) : Int))).cps.toList = dig m := PySem.W.KIN.signs_num m
end Fig
namespace L2
/-- a statement's meaning, weakened: where a branch wants one way on -/
theorem ps_weak {X : Cx} {st : PySem.Stmt} {t t' : TS} (h : PS X st t) (hw : ∀ D σ H, t' D σ H → t D σ H) : PS X st t' := fun pins s σ H D I q => h pins s σ H D I (hw D σ H q)
theorem pss_weak {X : Cx} {st : List PySem.Stmt} {t t' : TS} (h : PSs X st t) (hw : ∀ D σ H, t' D σ H → t D σ H) : PSs X st t' := fun pins s σ H D I q => h pins s σ H D I (hw D σ H q)
theorem pe_weak {X : Cx} {e : PySem.Expr} {t t' : TE} (h : PE X e t) (hw : ∀ σ H Q, t' σ H Q → t σ H Q) : PE X e t' := fun pins s σ H Q I q => h pins s σ H Q I (hw σ H Q q)
theorem pt_weak {X : Cx} {e : PySem.Expr} {t t' : TT} (h : PT X e t) (hw : ∀ σ H Q, t' σ H Q → t σ H Q) : PT X e t' := fun pins s σ H Q I q => h pins s σ H Q I (hw σ H Q q)
end L2
/-! MY OWN RULES, third part: a dict and a tuple of the module's top, read. -/
namespace L2
open PySem PySem.Spec PyProof.Rows
/-- a dict of the module's top that nothing changes: its keys ints and texts -/
def FzD (w : World) (K : PySem.W.Frag) (a : Addr) (kvs : List (Key × V)) : Prop :=
  (a == sysModules) = false ∧ ∃ (o : Obj) (es : Array DictEntry) (ep : Nat), K.lookup a = some o ∧ o.ExactDict ∧ o.data = .dict es ep ∧
    Paired (fun (p : Key × V) (e : DictEntry) => keyIs p.1 e.key = true ∧ e.hash = keyH w p.1 ∧ RelV p.2 e.val) kvs es.toList ∧ (kvs.map (·.1)).Nodup
theorem fz_pairs {P : Program} {w : World} : ∀ {kvs : List (Key × V)} {es : List DictEntry}, Paired (fun (p : Key × V) (e : DictEntry) => keyIs p.1 e.key = true ∧ e.hash = keyH w p.1 ∧ RelV p.2 e.val) kvs es →
    ∃ vs : List (Key × Value), KV kvs vs ∧ Pairs (mixKind P w) es vs ∧ vs.map (·.1) = kvs.map (·.1) ∧ ∀ e ∈ es, ∃ k, (mixKind P w).is k e.key = true ∧ e.hash = (mixKind P w).hash k
  | [], _, r => by cases r; exact ⟨[], .nil, .nil, rfl, fun e h => nomatch h⟩
  | p :: kvs, _, r => by
    cases r with
    | @cons a b as bs h t =>
      obtain ⟨vs, q1, q2, q3, q4⟩ := fz_pairs (P := P) t
      refine ⟨(p.1, b.val) :: vs, .cons ⟨rfl, h.2.2⟩ q1, .cons h.1 rfl q2, by rw [List.map_cons, List.map_cons, q3], fun e he => ?_⟩
      rcases List.mem_cons.mp he with rfl | he
      · exact ⟨p.1, h.1, h.2.1⟩
      · exact q4 e he
theorem Inv.fz {X : Cx} {pins : List (Addr × Obj)} {σ : St} {H : Hp} {s : Shared} {a : Addr} {kvs : List (Key × V)} (I : Inv X pins σ H s) (d : FzD X.w X.K a kvs) :
    (a == sysModules) = false ∧ ∃ vs, KV kvs vs ∧ s.heap.DictOf (mixKind X.prog X.w) a vs := by
  obtain ⟨hd, o, es, ep, hk, hx, he, hp, hn⟩ := d
  obtain ⟨vs, q1, q2, q3, q4⟩ := fz_pairs (P := X.prog) hp
  exact ⟨hd, vs, q1, o, es, ep, I.kIn a o hk, hx, he, fun e hm => q4 e (Array.mem_toList_iff.mpr hm), q2, by rw [q3]; exact hn⟩
section
variable {X : Cx} {K : PySem.W.Frag} {w : World} {o i : Expr} {pos : Pos} {td ty : TE}
/-- D[y], y in D -/
def tFGet (w : World) (K : PySem.W.Frag) (td ty : TE) : TE := fun σ H Q => td σ H fun x H1 => ty σ H1 fun y H2 => ∃ a kvs k v, x = .ref a ∧ FzD w K a kvs ∧ y = kV k ∧ valV kvs k = some v ∧ Q v H2
def tFIn (w : World) (K : PySem.W.Frag) (ty td : TE) : TE := fun σ H Q => ty σ H fun y H1 => td σ H1 fun x H2 => ∃ a kvs k, x = .ref a ∧ FzD w K a kvs ∧ y = kV k ∧ Q (.bl (valV kvs k).isSome) H2
theorem pe_fget (ho : PE X o td) (hi : PE X i ty) (hs : NoSl i) (hK : X.K = K := by rfl) (hw : X.w = w := by rfl) : PE X (.Subscript o i pos) (tFGet w K td ty) := by
  subst hK hw
  intro pins s σ H Q I h
  refine subD_of PySem.F.slot_dict_getitem.lookup hs (thn (ho pins s σ H _ I h) fun u s1 ⟨x, H1, I1, rx, q1⟩ => thn (hi pins s1 σ H1 _ I1 q1) fun iv s2 ⟨y, H2, I2, ry, a, kvs, k, v, ex, g, ey, l, q2⟩ => ?_)
  subst ex ey
  obtain rfl : u = Value.ref a := rx
  obtain ⟨hd, vs, rel, dd⟩ := I2.fz g
  obtain ⟨w', hw, rw'⟩ := RelO.some_of (v := v) (o := valueAt vs k) (by rw [← l]; exact rel.val k)
  exact ⟨dd.typeIs, wpAny_getItem_of (kV_is ry) dd.mapOf hw ⟨v, H2, I2.tok _, rw', q2⟩⟩
theorem pc_fin (hi : PE X i ty) (ho : PE X o td) (hK : X.K = K := by rfl) (hw : X.w = w := by rfl) : PC X .In i o (tFIn w K ty td) := by
  subst hK hw
  intro pins s σ H Q I h
  refine thn (hi pins s σ H _ I h) fun iv s1 ⟨y, H1, I1, ry, q1⟩ => thn (ho pins s1 σ H1 _ I1 q1) fun u s2 ⟨x, H2, I2, rx, a, kvs, k, ex, g, ey, q2⟩ => ?_
  subst ex ey
  obtain rfl : u = Value.ref a := rx
  obtain ⟨hd, vs, rel, dd⟩ := I2.fz g
  refine wpAny_in_of (kV_is ry) hd dd.mapOf ?_
  rw [← (rel.val k).isSome_eq]
  exact ⟨.bl _, H2, I2.tok _, rfl, q2⟩
end
end L2
namespace L2
open PySem PySem.Spec PyProof.Rows
inductive F2 (Pr : V → V → Prop) : List V → List V → Prop where
  | nil : F2 Pr [] []
  | cons {x y : V} {xs ys : List V} (h : Pr x y) (t : F2 Pr xs ys) : F2 Pr (x :: xs) (y :: ys)
theorem F2.snoc {Pr : V → V → Prop} : ∀ {xs ys : List V} {x y : V}, F2 Pr xs ys → Pr x y → F2 Pr (xs ++ [x]) (ys ++ [y])
  | [], _, _, _, h, p => by cases h; exact .cons p .nil
  | a :: xs, _, _, _, h, p => by
    cases h with
    | cons q t => exact .cons q (t.snoc p)
theorem F2.len {Pr : V → V → Prop} : ∀ {xs ys : List V}, F2 Pr xs ys → xs.length = ys.length
  | [], _, h => by cases h; rfl
  | a :: xs, _, h => by
    cases h with
    | cons q t => simp [t.len]
theorem F2.map {f : V → V} : ∀ {xs ys : List V}, F2 (fun x y => y = f x) xs ys → ys = xs.map f
  | [], _, h => by cases h; rfl
  | a :: xs, _, h => by
    cases h with
    | cons q t => rw [q, t.map]; rfl
/-- no tests; each item may lay new things -/
theorem comp_same {J : It} {fr : List Nat} {te : TE} {σ : St} {H : Hp} {Q : VK} (xs : List V) (Pr : V → V → Prop) (hn : xs.length ≤ sizeLine)
    (hgo : ∀ i H1, Same H H1 → i < xs.length → J.go i H1) (hst : ∀ H1, Same H H1 → J.stop xs.length H1) (hy : ∀ i x H1 H', Same H H1 → i < xs.length → J.yld i H1 x H' → H' = H1 ∧ xs[i]? = some x)
    (hte : ∀ x H1 (R : VK), x ∈ xs → Same H H1 → (∀ y H2, Same H1 H2 → Pr x y → R y H2) → te (some x :: fr.map (pick σ)) H1 R)
    (hd : ∀ acc H1, Same H H1 → F2 Pr xs acc → ∀ D, H1 D = none → Q (.ref D) (upd H1 D (.lst acc))) :
    CompG 1 fr (gName 0) tYes te σ Q J H := by
  refine ⟨fun i m τ acc H' => m = xs.length - i ∧ i ≤ xs.length ∧ Same H H' ∧ (∃ o, τ = o :: fr.map (pick σ)) ∧ F2 Pr (xs.take i) acc, ⟨xs.length, by simp, Nat.zero_le _, Same.refl H, ⟨none, rfl⟩, .nil⟩, ?_⟩
  rintro i m τ acc H' ⟨rfl, hi, s1, ⟨o, rfl⟩, f⟩
  by_cases hlt : i < xs.length
  · refine .inr ⟨hgo i H' s1 hlt, ?_, fun x H1 y => ?_⟩
    · have := f.len
      rw [List.length_take] at this
      omega
    · obtain ⟨e1, e2⟩ := hy i x H' H1 s1 hlt y
      subst e1
      have hx : x ∈ xs := List.mem_of_getElem? e2
      show te (some x :: fr.map (pick σ)) H1 _
      refine hte x H1 _ hx s1 fun y H2 s2 p => ⟨xs.length - (i + 1), by omega, rfl, hlt, s1.trans s2, ⟨some x, rfl⟩, ?_⟩
      have ht : xs.take (i + 1) = xs.take i ++ [x] := by rw [List.take_add_one, e2]; rfl
      rw [ht]
      exact f.snoc p
  · have e : i = xs.length := by omega
    subst e
    rw [List.take_length] at f
    exact .inl ⟨hst H' s1, hd acc H' s1 f⟩
theorem comp_same_tup {K : PySem.W.Frag} {a : Addr} {fr : List Nat} {te : TE} {σ : St} {H : Hp} {Q : VK} {xs : List V} (Pr : V → V → Prop) (e : H a = some (.tup xs)) (hn : xs.length ≤ sizeLine)
    (hte : ∀ x H1 (R : VK), x ∈ xs → Same H H1 → (∀ y H2, Same H1 H2 → Pr x y → R y H2) → te (some x :: fr.map (pick σ)) H1 R)
    (hd : ∀ acc H1, Same H H1 → F2 Pr xs acc → ∀ D, H1 D = none → Q (.ref D) (upd H1 D (.lst acc))) :
    CompG 1 fr (gName 0) tYes te σ Q (Itt K a) H :=
  comp_same xs Pr hn (fun i H1 s hi => ⟨xs, xs[i], SqT.of (s _ _ e), by simp [hi]⟩) (fun H1 s => ⟨xs, SqT.of (s _ _ e), Nat.le_refl _⟩) (fun i x H1 H' s _ y => ⟨y.1, y.2 xs (SqT.of (s _ _ e))⟩) hte hd
theorem comp_same_range {lo : Int} {n : Nat} {fr : List Nat} {te : TE} {σ : St} {H : Hp} {Q : VK} (Pr : V → V → Prop) (hn : n ≤ sizeLine)
    (hte : ∀ x H1 (R : VK), x ∈ intsV lo n → Same H H1 → (∀ y H2, Same H1 H2 → Pr x y → R y H2) → te (some x :: fr.map (pick σ)) H1 R)
    (hd : ∀ acc H1, Same H H1 → F2 Pr (intsV lo n) acc → ∀ D, H1 D = none → Q (.ref D) (upd H1 D (.lst acc))) :
    CompG 1 fr (gName 0) tYes te σ Q (Itr lo n) H := by
  have hl : (intsV lo n).length = n := by simp [intsV]
  refine comp_same (intsV lo n) Pr (by omega) (fun i H1 _ hi => by show i < n; omega) (fun H1 _ => by show n ≤ _; omega) (fun i x H1 H' _ hi y => ?_) hte hd
  obtain ⟨e, rfl⟩ := y
  refine ⟨e, ?_⟩
  unfold intsV
  rw [List.getElem?_map, List.getElem?_range (by omega)]
  rfl
theorem Room.u1 {k : Nat} {A : Around} (r : Room k A) : A.units + 1 < cLine := by have := r.un; omega
/-- t + u of tuples, either may be empty -/
def rCat3 : R2 := fun x y H Q => ∃ a b xs ys, x = .ref a ∧ y = .ref b ∧ H a = some (.tup xs) ∧ H b = some (.tup ys) ∧ xs.length + ys.length ≤ sizeLine ∧
  ∀ p H', Same H H' → H' p = some (.tup (xs ++ ys)) → Q (.ref p) H'
theorem op_cat3 {X : Cx} : OpR X (binaryOp .Add) rCat3 := by
  intro pins s σ H x y v u Q I rx ry h
  obtain ⟨a, b, xs, ys, rfl, rfl, ha, hb, hz, q⟩ := h
  cases rx
  cases ry
  obtain ⟨its, r1, p1, _⟩ := I.tuple (SqT.of (K := X.K) ha)
  obtain ⟨its2, r2, p2, _⟩ := I.tuple (SqT.of (K := X.K) hb)
  by_cases he : its = []
  · have hx : xs = [] := r1.nil_iff.mp he
    subst he hx
    obtain ⟨⟨cls, dd, data, sl⟩, ho, hc, n, hd⟩ := id p1
    obtain ⟨⟨cls2, dd2, data2, sl2⟩, ho2, hc2, n2, hd2⟩ := id p2
    simp only at hc hd hc2 hd2
    subst hc hd hc2 hd2
    exact concat_meets ⟨_, ho, rfl⟩ ⟨_, ho2, rfl⟩ noFill_tuple_add seq_tuple_add PySem.F.slot_tuple_add PySem.F.entry_tuple_add (PySem.F.args_tuple_add_2 _ _)
      (tuple_addW0 a b [].toArray its2.toArray n n2 dd dd2 sl sl2 (by simp)) ⟨ho, ho2, ⟨.ref b, H, I, rfl, q b H (Same.refl H) hb⟩⟩
  · refine HT.cat_tup p1 p2 he (fun z => ⟨.ref a, H, I, rfl, ?_⟩) (fun z => ?_) (by rw [← r1.length, ← r2.length]; exact hz)
    · have hy : ys = [] := r2.nil_iff.mp z
      subst hy
      exact q a H (Same.refl H) (by rw [List.append_nil]; exact ha)
    · have hf := I.hok.fresh (Nat.le_refl s.heap.objs.size)
      refine ⟨.ref s.heap.objs.size, _, I.laid (t' := s.toks) (o := .tup (xs ++ ys)) (fun b ob q => Heap.get?_push_of_some _ q) (Nat.le_refl _) ?_, rfl, q _ _ ((Same.refl H).upd hf) upd_same⟩
      exact ⟨by rw [List.length_append]; exact hz, _, r1.append r2, IsTup.new _ _⟩
/-! ### range(a, b, d) -/
def Itd (lo d : Int) (n : Nat) : It := ⟨fun i _ => i < n, fun i H x H' => H' = H ∧ x = .int (lo + (i : Int) * d), fun i _ => n ≤ i⟩
theorem turn_rangeD {P : Program} {w : World} {K : PySem.W.Frag} {tg : Expr} (it : Addr) (lo d : Int) (n : Nat) : Turn P w K tg (Itd lo d n) [it] it (fun i h => IsRangeIter h it (lo + (i : Nat) * d) ((n : Int) - (i : Nat)) d) where
  mem := by simp
  obj := fun i h st b hb => by
    have e : b = it := by simpa using hb
    subst e
    exact ⟨_, st, fun v z => by
      have z' : Data.fields _ = Data.cell v := z
      cases z'⟩
  keep := fun i h h' st k => k it (by simp) _ st
  item := by
    intro X hP hw hK hc i pins s σ H E I hf st hg
    subst hP hw hK
    obtain ⟨f0, f1, f2, f3, f4, f5⟩ := hf it (by simp)
    have W := Walks.range (prog := X.prog) (w := X.w) (I.ok.hd hc) it lo d n
    refine W.item i s _ _ hg st fun v h' tk hv st' kk => ?_
    obtain ⟨t, rfl⟩ := hv
    have I1 : Inv X pins σ H { s with heap := h', toks := tk } := I.turned (fun b o hb e => kk b o (by simpa using hb) e) f0 f1 f3 f4 f5
    exact ⟨_, rfl, go_of (s := { s with heap := h', toks := tk }) (n := "range_iterator") st' rfl rfl (by decide) ⟨.int (lo + (i : Int) * d), H, I1, ⟨t, rfl⟩, ⟨rfl, rfl⟩, st', fun b hb => (hf b hb).1⟩⟩
  done := by
    intro X hP hw hK hc i pins s σ H E I hf st hg
    subst hP hw hK
    obtain ⟨f0, f1, f2, f3, f4, f5⟩ := hf it (by simp)
    exact wpAny_pyNext_range_end (I.ok.hd hc) st (by have : n ≤ i := hg; omega) fun h' eb => ⟨rfl, I.turned (t' := s.toks) (fun b o hb e => eb b o hb e) f0 f1 f3 f4 f5⟩
  self := fun _ _ _ _ _ st h => wpAny_pyIter_rangeiter st h
/-- how many turns -/
def turnsD (lo hi d : Int) : Nat := if lo < hi then ((hi - lo - 1) / d + 1).toNat else 0
theorem sizeD {lo hi d : Int} (hd : 1 ≤ d) : Builtin.Range.rangeSize lo hi d = (turnsD lo hi d : Int) := by
  unfold Builtin.Range.rangeSize turnsD
  rw [if_pos (by omega)]
  split
  · have : 0 ≤ (hi - lo - 1) / d := Int.ediv_nonneg (by omega) (by omega)
    omega
  · rfl
theorem turnsD_le {lo hi d : Int} (hd : 1 ≤ d) : (turnsD lo hi d : Int) ≤ (if lo < hi then hi - lo else 0) := by
  unfold turnsD
  split
  · have h1 : 0 ≤ (hi - lo - 1) / d := Int.ediv_nonneg (by omega) (by omega)
    have h2 : (hi - lo - 1) / d ≤ hi - lo - 1 := Int.ediv_le_self _ (by omega)
    omega
  · exact Int.le_refl 0
theorem smallD {a b c : Int} (hc1 : 1 ≤ c) (hc2 : c < 1000000) (ha : -(2 ^ 40) ≤ a) (ha' : a < 2 ^ 40) (hb : -(2 ^ 40) ≤ b) (hb' : b < 2 ^ 40) : Builtin.Range.small a b c = true := by
  have h := turnsD_le (lo := a) (hi := b) hc1
  have hs := sizeD (lo := a) (hi := b) hc1
  unfold Builtin.Range.small
  have h2 : (turnsD a b c : Int) ≤ 2 ^ 42 := by split at h <;> omega
  have h3 : (turnsD a b c : Int) * c ≤ 2 ^ 42 * 1000000 := Int.mul_le_mul h2 (by omega) (by omega) (by omega)
  have h4 : 0 ≤ (turnsD a b c : Int) * c := Int.mul_nonneg (by omega) (by omega)
  have h5 : 0 ≤ c * (turnsD a b c : Int) := Int.mul_nonneg (by omega) (by omega)
  have h6 : c * (turnsD a b c : Int) ≤ 2 ^ 42 * 1000000 := by rw [Int.mul_comm]; exact h3
  rw [hs]
  simp only [Builtin.Range.rangeFitsLong, Bool.and_eq_true, Bool.or_eq_true, decide_eq_true_eq, beq_iff_eq, show c > 0 by omega, if_true]
  generalize (turnsD a b c : Int) * c = A at *
  generalize c * (turnsD a b c : Int) = B at *
  refine ⟨?_, ?_⟩ <;> omega
section
variable {X : Cx} {tg : Expr}
theorem range_itD {pins : List (Addr × Obj)} {σ : St} {H : Hp} {s : Shared} {R : It → Hp → Prop} {E : Value → Shared → Prop} {lo hi d : Int} {t u v : Tok} {tk : Nat} (I : Inv X pins σ H s) (d1 : 1 ≤ d) (d2 : d < 1000000) (h1 : -(2 ^ 40) ≤ lo) (h2 : lo < 2 ^ 40) (h3 : -(2 ^ 40) ≤ hi) (h4 : hi < 2 ^ 40)
    (q : R (Itd lo d (turnsD lo hi d)) H) : wpAny (model X.prog X.w) X.A (pyIter (.ref s.heap.objs.size)) (PIE X pins σ tg R) E { s with heap := s.heap.push { cls := .type "range", data := .fields #[.int lo t, .int hi u, .int d v] }, toks := tk } := by
  refine wpAny_pyIter_range (IsRange.new ..) (smallD d1 d2 h1 h2 h3 h4) ?_
  have I1 : Inv X pins σ H { s with heap := s.heap.push { cls := .type "range", data := .fields #[.int lo t, .int hi u, .int d v] }, toks := tk } := I.kept fun b o e => Heap.get?_push_of_some _ e
  refine ⟨(s.heap.push { cls := .type "range", data := .fields #[.int lo t, .int hi u, .int d v] }).objs.size, [(s.heap.push { cls := .type "range", data := .fields #[.int lo t, .int hi u, .int d v] }).objs.size], _, _, H, rfl,
    I1.kept (t' := tk) fun b o e => Heap.get?_push_of_some _ e, turn_rangeD _ lo d (turnsD lo hi d), ?_, fun b hb => ?_, q⟩
  · have e1 : lo + ((0 : Nat) : Int) * d = lo := by simp
    have e2 : ((turnsD lo hi d : Nat) : Int) - ((0 : Nat) : Int) = Builtin.Range.rangeSize lo hi d := by rw [sizeD d1]; omega
    show IsRangeIter _ _ (lo + ((0 : Nat) : Int) * d) (((turnsD lo hi d : Nat) : Int) - ((0 : Nat) : Int)) d
    rw [e1, e2]
    exact Heap.get?_push_size _ rfl
  · have e : b = (s.heap.push { cls := .type "range", data := .fields #[.int lo t, .int hi u, .int d v] }).objs.size := by simpa using hb
    subst e
    exact I1.fpOk (Nat.le_refl _) (I1.hok.fresh (Nat.le_refl _))
def iRng3 (ta : TA) : TI := fun σ H R => ta σ H fun vs H1 => ∃ i j d : Int, vs = [.int i, .int j, .int d] ∧ (1 ≤ d ∧ d < 1000000 ∧ -(2 ^ 40) ≤ i ∧ i < 2 ^ 40 ∧ -(2 ^ 40) ≤ j ∧ j < 2 ^ 40) ∧ R (Itd i d (turnsD i j d)) H1
theorem pi_range3 {a b c : Expr} {ta : TA} {p pos : Pos} (hg : Gl X "range") (hm : X.mg "range" = none) (ha : PA X [a, b, c] ta) (hs : starEach [a, b, c] X.env = [(false, eval a X.env), (false, eval b X.env), (false, eval c X.env)] := by rfl) (hs2 : starEach [b, c] X.env = [(false, eval b X.env), (false, eval c X.env)] := by rfl) :
    PI X tg (.Call (.Name "range" p) [a, b, c] [] pos) (iRng3 ta) := by
  intro pins s σ H R I h
  refine Call_ (ld_blt I hg hm boot_range (PyProof.Rows.callWith_type1 (thn (ha pos pins s σ H _ I h) fun us s1 ⟨vs, H1, I1, r1, q1⟩ => ?_) (by rw [hs, hs2]) (by rw [hs2]; rfl)))
  obtain ⟨i, j, d, e, ⟨d1, d2, q1, q2, q3, q4⟩, q⟩ := q1
  subst e
  cases r1 with
  | cons r rr =>
    cases rr with
    | cons r' rr =>
      cases rr with
      | cons r2 rr =>
        cases rr
        obtain ⟨t, rfl⟩ := r
        obtain ⟨t', rfl⟩ := r'
        obtain ⟨t2, rfl⟩ := r2
        exact call_range_3 (by omega) (range_itD I1 d1 d2 q1 q2 q3 q4 q) (.inl (PyProof.noPylong_small (by omega)))
end
theorem for_rangeD {lo d : Int} {n : Nat} {g : TG} {tb : TS} {D : Ends} {σ : St} {H : Hp} (Pv : Nat → St → Hp → Prop) (h0 : Pv 0 σ H)
    (hs : ∀ i σ H, i < n → Pv i σ H → g (.int (lo + (i : Int) * d)) σ H fun σ2 H2 => tb { D with nx := Pv (i + 1), ct := Pv (i + 1), bk := D.nx } σ2 H2) (hd : ∀ σ H, Pv n σ H → D.nx σ H) :
    ∃ W : Nat → Nat → St → Hp → Prop, (∃ m, W 0 m σ H) ∧ ∀ i m σ H, W i m σ H →
      ((Itd lo d n).stop i H ∧ D.nx σ H) ∨ ((Itd lo d n).go i H ∧ ∃ N : St → Hp → Prop, (∀ σ' H', N σ' H' → ∃ m', m' < m ∧ W (i + 1) m' σ' H') ∧ ∀ x H', (Itd lo d n).yld i H x H' → g x σ H' fun σ2 H2 => tb { D with nx := N, ct := N, bk := D.nx } σ2 H2) := by
  refine ⟨fun i m σ H => m = n - i ∧ i ≤ n ∧ Pv i σ H, ⟨n, by simp, Nat.zero_le _, h0⟩, ?_⟩
  rintro i m σ H ⟨rfl, hi, p⟩
  by_cases hlt : i < n
  · refine .inr ⟨hlt, Pv (i + 1), fun σ' H' p' => ⟨n - (i + 1), by omega, rfl, hlt, p'⟩, fun x H' y => ?_⟩
    obtain ⟨e, y⟩ := y
    subst e y
    exact hs i σ _ hlt p
  · have e : i = n := by omega
    subst e
    exact .inl ⟨Nat.le_refl _, hd σ H p⟩
section
variable {X : Cx}
theorem op_isB : OpR X (compareOp .Is) (fun x y H Q => ∃ a b, x = .bl a ∧ y = .bl b ∧ Q (.bl (a == b)) H) := by
  intro pins s σ H x y v u Q I rx ry h
  obtain ⟨a, b, rfl, rfl, q⟩ := h
  cases rx
  cases ry
  exact is_bool ⟨.bl _, H, I, rfl, q⟩
theorem op_notB : OpR X (compareOp .IsNot) (fun x y H Q => ∃ a b, x = .bl a ∧ y = .bl b ∧ Q (.bl (a != b)) H) := by
  intro pins s σ H x y v u Q I rx ry h
  obtain ⟨a, b, rfl, rfl, q⟩ := h
  cases rx
  cases ry
  exact isnot_bool ⟨.bl _, H, I, rfl, q⟩
end
end L2
namespace L2
open PySem PySem.Spec PyProof.Rows
section
variable {X : Cx}
/-- y = [.. for .. in ..] on one row: the name is stored while the block's names still stand -/
theorem ps_compU {tg iter elt : Expr} {ifs : List Expr} {scope : Scope} {wi : TI} {g : TG} {tt : TT} {te : TE} {own : List Str} {fr : List (Str × Nat)} {pos spos py : Pos} {iy : Nat} {y : Str}
    (hN : X.N.Nodup) (hiy : X.N[iy]? = some y) (hxy : Loc X.env.scope y) (hfy : X.fn y = true ∨ X.env.scope.names.lookup y = some .local)
    (hc : X.calm = true) (hi : PI X tg iter wi)
    (hk : scope.kind = .function) (hcell : ∀ y ∈ scope.names, y.2 ≠ .cell) (hnames : ∀ y ∈ scope.names, y.2 = .local → scope.names.lookup y.1 = some .local)
    (hfree : ∀ y ∈ scope.names, y.2 = .free → X.env.kindOf y.1 = some .cell ∨ X.env.kindOf y.1 = some .free) (hfr : FrOk X scope fr)
    (hg : ∀ C s H ex, PG (cxComp X scope (own ++ fr.map (·.1)) C s H ex) tg g)
    (ht : ∀ C s H ex, PTs (cxComp X scope (own ++ fr.map (·.1)) C s H ex) ifs tt)
    (he : ∀ C s H ex, PE (cxComp X scope (own ++ fr.map (·.1)) C s H ex) elt te)
    (hsw : swapsWith (.ListComp elt [⟨tg, iter, ifs, 0⟩] scope pos) (some (.Name y py)) spos.line X.env = pure true)
    (hs : ∀ x, foldedSetIterable iter X.env x = pure x := by intro _; rfl) :
    PS X (.Assign [.Name y py] (.ListComp elt [⟨tg, iter, ifs, 0⟩] scope pos) spos) (tAsg (tComp own.length (fr.map (·.2)) wi g tt te) (gName iy)) := by
  intro pins s σ H D0 I h
  let Q : VK := fun v H1 => D0.nx (σ.set iy (some v)) H1
  have h : tComp own.length (fr.map (·.2)) wi g tt te σ H Q := h
  rw [exec_Assign_Name_used _ _ _ _ hsw]
  refine wpAny_bind (wpAny_standAt (wpAny_bind ?_))
  show wpAny _ X.A (do let _ ← comprehension (.ListComp elt [⟨tg, iter, ifs, 0⟩] scope pos) scope X.env _ (newList []) false (eval iter X.env) (some (assign (.Name y py) X.env))) _ _ s
  have hcl : ∀ y c, (closOf X.env scope.names).lookup y = some c → X.env.cells.lookup y = some c := fun y c e => by
    rcases clos_some scope.names [] e with q | ⟨q, z⟩
    · simp at q
    · obtain ⟨c', e'⟩ := I.ok.has y (hfree _ q rfl)
      rw [e'] at z
      rw [e', ← z]
      rfl
  have hclos : closureFor scope X.env = pure (closOf X.env scope.names) := closureFor_of fun y hy e => I.ok.has y.1 (hfree y hy e)
  refine wpAny_bind (wpAny_mono (wpAny_comprehension_free (use := some (assign (.Name y py) X.env)) (cl := closOf X.env scope.names) (Q := fun _ s' => SP X pins D0 .next s') rfl hs hclos hk hnames ?_) (fun _ s' hq => wpAny_pure (wpAny_pure hq)) fun _ _ e => e)
  refine thn (hi pins s σ H _ I h) fun v s1 h1 => thn h1 fun itv s2 h2 => ?_
  obtain ⟨it, fp, tn, J, H2, e, I2, T, st2, f2, W, ⟨m0, w0⟩, turn⟩ := h2
  subst e
  refine wpAny_newObj_type (wpAny_newFunctionEnv hcell (by intro y hy; simp at hy) (fun h₁ hns₁ hsb₁ => ?_) hk)
  dsimp only at hns₁ hsb₁ ⊢
  generalize hH2 : s2.heap.push { cls := .type "list", dict := none, data := .seq ([] : List Value).toArray } = HL at hns₁ hsb₁ ⊢
  have hC : HL.objs.size = s2.heap.objs.size + 1 := by rw [← hH2, Heap.size_push]
  generalize hCC : HL.objs.size = C at hns₁ hsb₁ hC ⊢
  have hDC : s2.heap.objs.size ≠ C := by rw [hC]; exact Nat.ne_of_lt (Nat.lt_succ_self _)
  have below : ∀ b, b < s2.heap.objs.size → b ≠ C ∧ b ≠ s2.heap.objs.size := fun b hb => ⟨by rw [hC]; exact Nat.ne_of_lt (Nat.lt_succ_of_lt hb), Nat.ne_of_lt hb⟩
  have old : ∀ b o, s2.heap.get? b = some o → h₁.get? b = some o := fun b o e => hsb₁.extBut b o (below b (Heap.lt_size e)).1 (Heap.get?_push_of_some _ (hH2 ▸ Heap.get?_push_of_some _ e))
  have eD0 : h₁.get? s2.heap.objs.size = some { cls := .type "list", data := .seq ([] : List Value).toArray } := hsb₁.extBut _ _ hDC (Heap.get?_push_of_some _ (hH2 ▸ Heap.get?_push_size _ rfl))
  have fpLt : ∀ b ∈ fp, b < s2.heap.objs.size := fun b hb => by
    obtain ⟨o, e, _⟩ := T.obj _ _ st2 b hb
    exact Heap.lt_size e
  generalize hD : s2.heap.objs.size = D at hDC below eD0 fpLt hC
  have hDfp : D ∉ fp := fun z => Nat.lt_irrefl _ (fpLt D z)
  -- the block's context is in order
  have okY : (cxComp X scope (own ++ fr.map (·.1)) C s2 H2 fp).Ok := by
    refine ⟨I2.ok.mod, hk, I2.ok.glob, I2.ok.blt, by show s2.heap.objs.size ≤ C; omega, fun x y c e1 e2 => I2.ok.inj x y c (hcl x c e1) (hcl y c e2), fun y hy => ?_, fun x c z _ => (by cases z), I2.ok.hd, I2.ok.frames, .inl rfl, fun b hb => ⟨(below b (fpLt b hb)).1, fun y c e => ?_⟩, I2.bs,
      Nat.le_trans I2.ok.bsz I2.sz, fun b o e hb => ?_, fun b hb z => ?_, I2.stack, I2.stkFree⟩
    · exact clos_has scope.names [] (.inl (relabel_cell (env := X.env) hcell hy))
    · exact (f2 b hb).2.2.2.2.1 y c (hcl y c e)
    · rcases (f2 b hb).2.2.2.1 with z | z
      · exact I2.ok.noex b o e z
      · exact absurd (Nat.lt_of_lt_of_le (Heap.lt_size e) (Nat.le_trans I2.ok.bsz z)) (Nat.lt_irrefl _)
    · rcases List.mem_cons.mp (I2.stkSub b z) with q | q
      · exact (f2 b hb).2.1 q
      · exact (f2 b hb).2.2.1 q
  have cellLt : ∀ y c, X.env.cells.lookup y = some c → c < D := fun y c e => by
    obtain ⟨v, z⟩ := I2.cell y c e
    exact Nat.lt_of_lt_of_le z.lt (Nat.le_of_eq hD)
  have stkLt : ∀ b ∈ frs X.stack, b < D := fun b hb => by
    rcases List.mem_cons.mp (I2.stkSub b hb) with q | q
    · rw [q]; exact Nat.lt_of_lt_of_le I2.lt (Nat.le_of_eq hD)
    · obtain ⟨_, o, ho, _⟩ := I2.ok.funs.mem q
      exact Nat.lt_of_lt_of_le (Heap.lt_size ho) (Nat.le_trans I2.sz (Nat.le_of_eq hD))
  have fresh : ∀ a, D ≤ a → H2 a = none := fun a ha => I2.hok.fresh (Nat.le_trans (Nat.le_of_eq hD) ha)
  have IY : Inv (cxComp X scope (own ++ fr.map (·.1)) C s2 H2 fp) [] (List.replicate own.length none ++ (fr.map (·.2)).map (pick σ)) H2 { s2 with heap := h₁, toks := s2.toks + ([] : List (Str × Value)).length } := by
    refine ⟨okY, rfl, I2.bare, Un.kept old, ⟨_, hns₁, fun i y v e1 e2 e3 => ?_⟩, fun y c e => ?_, fresh C (by omega), fun y c e => I2.freeC y c (hcl y c e), fun p hp => absurd (show p ∈ ([] : List (Addr × Obj)) from hp) (by simp), I2.hok.kept old, ?_⟩
    · have e1 : (own ++ fr.map (·.1))[i]? = some y := e1
      have hi' : own.length ≤ i := by
        by_cases hlt : i < own.length
        · rw [List.getElem?_append_left (by simpa using hlt), List.getElem?_replicate, if_pos hlt] at e2
          cases e2
        · omega
      rw [List.getElem?_append_right hi', List.getElem?_map] at e1
      rw [List.getElem?_append_right (by simpa using hi'), List.getElem?_map, List.getElem?_map, List.length_replicate] at e2
      cases hp : fr[i - own.length]? with
      | none => rw [hp] at e1; cases e1
      | some p =>
        rw [hp] at e1 e2
        have ey : p.1 = y := Option.some.inj e1
        have ev : pick σ p.2 = some v := Option.some.inj e2
        obtain ⟨a1, a3⟩ := hfr.all p (List.mem_of_getElem? hp)
        have es : σ[p.2]? = some (some v) := by
          unfold pick at ev
          cases q : σ[p.2]? with
          | none => rw [q] at ev; cases ev
          | some z => rw [q] at ev; exact congrArg some ev
        have hfk : X.env.kindOf p.1 = some .cell ∨ X.env.kindOf p.1 = some .free := hfree (p.1, .free) (PySem.mem_of_lookup a3) rfl
        obtain ⟨m, hn, hl⟩ := I2.loc
        obtain ⟨u, r, l⟩ := hl p.2 p.1 v a1 es (hfk.elim (fun z => .inr (.inl z)) fun z => .inr (.inr z))
        refine ⟨u, r, .inr ?_⟩
        rcases l with ⟨z, _⟩ | ⟨_, c, ec, zc⟩
        · rcases hfk with q | q <;> rw [z] at q <;> cases q
        · obtain ⟨c', ec'⟩ := clos_has (env := X.env) (y := p.1) scope.names [] (.inl (PySem.mem_of_lookup a3))
          have : c' = c := Option.some.inj ((hcl _ _ ec').symm.trans ec)
          subst this
          rw [← ey]
          obtain ⟨o, ho, hdd⟩ := zc
          exact ⟨lookup_relabel_free (env := X.env) a3, c', ec', o, old _ o ho, hdd⟩
    · obtain ⟨v, z⟩ := I2.cell y c (hcl y c e)
      obtain ⟨o, ho, hdd⟩ := z
      exact ⟨v, o, old _ o ho, hdd⟩
    · show (List.replicate own.length (none : Option V) ++ (fr.map (fun p => p.2)).map (pick σ)).length = (own ++ fr.map (fun p => p.1)).length
      simp
  have fpY : ∀ {H3 : Hp} {ob : Obj}, (∀ b ∈ fp, H3 b = none) → ∀ b ∈ fp, FpOk (cxComp X scope (own ++ fr.map (·.1)) C s2 H2 fp) [(D, ob)] H3 b := fun {H3 ob} hn b hb =>
    ⟨hn b hb, (below b (fpLt b hb)).1, fun z => okY.exfs b hb z, .inl hb, fun y c e => (okY.exf b hb).2 y c e, fun p hp => by
      have e : p = (D, ob) := by simpa [cxComp] using hp
      rw [e]
      show D ≠ b
      exact fun z => hDfp (z ▸ hb)⟩
  have noC : ∀ (xs : Array Value) (k : Nat) (v : Option Value), ({ cls := .type "list", data := .seq xs k } : Obj).data ≠ .cell v := fun xs k v z => by cases z
  have loop : ∀ s₃ : Shared, s₃ = { s2 with heap := h₁, toks := s2.toks + ([] : List (Str × Value)).length } →
      codeAny (model X.prog X.w) X.A (.compLoop (.ListComp elt [⟨tg, iter, ifs, 0⟩] scope pos) 0 (.ref it) (.ref D) (compEnvC scope (closOf X.env scope.names) C X.env))
        (compPost (model X.prog X.w) X.A X.xe (some (assign (.Name y py) X.env)) (fun _ s' => SP X pins D0 .next s') (.ref D) C) s₃ := by
    rintro s₃ rfl
    refine compLoop_gen (fun n s' => ∃ (i : Nat) (τ : St) (acc : List V) (H' : Hp) (its : List Value) (k : Nat), Inv (cxComp X scope (own ++ fr.map (·.1)) C s2 H2 fp) [] τ H' s' ∧ tn i s'.heap ∧ (∀ b ∈ fp, H' b = none) ∧ H' D = none ∧ Vals acc its ∧
      s'.heap.get? D = some { cls := .type "list", data := .seq its.toArray k } ∧ acc.length ≤ sizeLine ∧ W i n τ acc H') ?_ m0
      ⟨0, _, [], H2, [], 0, IY, T.keep _ _ _ st2 fun b _ o e => old b o e, fun b hb => (f2 b hb).1, fresh D (Nat.le_refl _), .nil, eD0, Nat.zero_le _, w0⟩
    rintro n s3 ⟨i, τ, acc, H3, its, k, I3, st3, fr3, fD, rv, eD, hz, w3⟩
    have I3' : Inv (cxComp X scope (own ++ fr.map (·.1)) C s2 H2 fp) [(D, { cls := .type "list", data := .seq its.toArray k })] τ H3 s3 := I3.pins_of fun p hp => by
      have e : p = (D, { cls := .type "list", data := .seq its.toArray k }) := by simpa using hp
      subst e
      exact ⟨eD, fD, hDC, fun z => Nat.lt_irrefl _ (stkLt D z), noC _ _⟩
    rcases turn i n τ acc H3 w3 with ⟨stop, qn⟩ | ⟨go, hlt, step⟩
    · refine thn (T.done (cxComp X scope (own ++ fr.map (·.1)) C s2 H2 fp) rfl rfl rfl hc i _ s3 τ H3 (fun _ _ => False) I3' (fpY fr3) st3 stop) fun r s4 ⟨hr, I4⟩ => ?_
      subst hr
      obtain ⟨m, hn4, _⟩ := I4.loc
      obtain ⟨eD4, fD4, _⟩ := I4.pin (D, { cls := .type "list", data := .seq its.toArray k }) (List.mem_append_right _ (List.mem_singleton.mpr rfl))
      have b4 : Un (frs X.stack) fp H2 H3 s2.heap s4.heap := I4.base
      have lt2 : ∀ b o, s2.heap.get? b = some o → b ≠ C ∧ b ≠ D := fun b o e => below b (Nat.lt_of_lt_of_le (Heap.lt_size e) (Nat.le_of_eq hD))
      have tr2 : ∀ b o, H2 b = some o → b ≠ D := fun b o e z => by
        have := fresh D (Nat.le_refl _)
        rw [z, this] at e
        cases e
      have un : Un (frs X.stack) fp H2 (upd H3 D (.lst acc)) s2.heap s4.heap := by
        refine ⟨fun b o e n hb hx => b4.keep b o e n hb hx, fun b o e n hb hx => ?_, fun b o e n hx => ?_, fun b o e hx => ?_, fun b xs e => ?_, fun b o u e => ?_, fun b ps e => ?_⟩
        · obtain ⟨sl, q⟩ := b4.slot b o e n hb hx
          exact ⟨sl, q⟩
        · rw [upd_ne (lt2 b o e).2]; exact b4.free b o e n hx
        · obtain ⟨o', q⟩ := b4.there b o e hx
          exact ⟨o', q⟩
        · rw [upd_ne (tr2 _ _ e)]; exact b4.tups b xs e
        · rw [upd_ne (tr2 _ _ e)]; exact b4.frzs b o u e
        · rw [upd_ne (tr2 _ _ e)]; exact b4.tbls b ps e
      have hok' : HOk X.prog X.w (upd H3 D (.lst acc)) s4.heap := I4.hok.track fD4 ⟨hz, its, k, rv, eD4⟩
      have IX : Inv X pins σ (upd H3 D (.lst acc)) s4 := I2.call' (s' := s4) (ch := fp) I4.os un hok' I4.bare fun b hb => ⟨(f2 b hb).2.2.2.1, (f2 b hb).2.1, (f2 b hb).2.2.2.2.1, (f2 b hb).2.2.2.2.2⟩
      have hHC : H3 C = none := I4.free
      have noCD : ∀ b : Addr, b < D → C ≠ b := fun b hb z => by
        rw [← z, hC] at hb
        exact Nat.lt_irrefl D (Nat.lt_of_succ_lt hb)
      have hCL : C ≠ X.env.locals := noCD _ (Nat.lt_of_lt_of_le I2.lt (Nat.le_of_eq hD))
      show wpAny (model X.prog X.w) X.A (assign (.Name y py) X.env (.ref D)) _ X.xe s4
      refine wpAny_assign_Name (store_ok2 IX hN hiy hxy (v := .ref D) rfl (fun s5 I5 ⟨a, sb5, ha⟩ => ?_) hfy)
      have hCa : C ≠ a := by
        rcases ha with z | z
        · rw [z]; exact hCL
        · exact noCD _ (cellLt _ _ z)
      refine ⟨m, Heap.Ns.sameBut hn4 sb5 hCa, fun h' sb => ⟨_, _, I5.turned (it := C) (t' := s5.toks) (fun b o hb e => (sb.2 b hb).trans e) (by rw [upd_ne hDC.symm]; exact hHC) hCL (.inr ?_) (fun z c e q => ?_) (fun p hp q => ?_), qn D fD4⟩⟩
      · exact Nat.le_trans I2.sz (by omega)
      · exact noCD _ (cellLt z c e) q.symm
      · exact noCD _ (Nat.lt_of_lt_of_le (Heap.lt_size (I2.pin p hp).1) (Nat.le_of_eq hD)) q.symm
    · refine thn (T.item (cxComp X scope (own ++ fr.map (·.1)) C s2 H2 fp) rfl rfl rfl hc i _ s3 τ H3 (fun _ _ => False) I3' (fpY fr3) st3 go) fun r s4 ⟨u, hr, h4⟩ => ?_
      subst hr
      refine thn h4 fun _ s5 ⟨x, H5, I5, r5, y5, st5, fr5⟩ => ?_
      have I5' := I5.pinned (fpY fr5) (T.obj _ _ st5)
      refine thn (hg _ _ _ _ _ s5 τ H5 x u _ I5' r5 (step x H5 y5)) fun _ s6 ⟨τ6, H6, I6, q6⟩ => ?_
      refine thn (ht _ _ _ _ _ s6 τ6 H6 _ I6 q6) fun b s7 ⟨H7, I7, q7⟩ => ?_
      have facts : ∀ {s8 : Shared} {H8 : Hp} {τ8 : St}, Inv (cxComp X scope (own ++ fr.map (·.1)) C s2 H2 fp) ([(D, { cls := .type "list", data := .seq its.toArray k })] ++ pinsAt fp s5.heap) τ8 H8 s8 →
          tn (i + 1) s8.heap ∧ (∀ b ∈ fp, H8 b = none) ∧ H8 D = none ∧ s8.heap.get? D = some { cls := .type "list", data := .seq its.toArray k } := fun {s8 H8 τ8} I8 => by
        have hp : ∀ b ∈ fp, ∀ o, s5.heap.get? b = some o → s8.heap.get? b = some o ∧ H8 b = none := fun b hb o e => by
          have q := I8.pin (b, o) (List.mem_append_right _ (List.mem_append_right _ (mem_pinsAt hb e)))
          exact ⟨q.1, q.2.1⟩
        have qD := I8.pin (D, { cls := .type "list", data := .seq its.toArray k }) (List.mem_append_right _ (List.mem_append_left _ (List.mem_singleton.mpr rfl)))
        refine ⟨T.keep _ _ _ st5 fun b hb o e => (hp b hb o e).1, fun b hb => ?_, qD.2.1, qD.1⟩
        obtain ⟨o, e, _⟩ := T.obj _ _ st5 b hb
        exact (hp b hb o e).2
      cases b with
      | false =>
        have q7 : ∃ m', m' < n ∧ W (i + 1) m' τ6 acc H7 := q7
        obtain ⟨m', hm, w7⟩ := q7
        obtain ⟨z1, z2, z3, z4⟩ := facts I7
        exact ⟨m', hm, i + 1, τ6, acc, H7, its, k, I7.pins_of fun p hp => absurd hp (by simp), z1, z2, z3, rv, z4, hz, w7⟩
      | true =>
        refine thn (he _ _ _ _ _ s7 τ6 H7 _ I7 q7) fun u8 s8 ⟨y, H8, I8, r8, m', hm, w8⟩ => ?_
        obtain ⟨z1, z2, z3, z4⟩ := facts I8
        have hl := rv.length
        refine call_meets F.slot_list_append ⟨_, z4, rfl⟩ F.entry_list_append (F.args_list_append_2 _ _) (PySem.list_append D its.toArray k u8 (by rw [List.size_toArray]; omega)) ⟨z4, ?_⟩
        have z5 := PySem.IsL.update z4 (·.push u8)
        have z6 : its.toArray.push u8 = (its ++ [u8]).toArray := by simp
        rw [z6] at z5
        have kk : ∀ b o, b ≠ D → s8.heap.get? b = some o → (s8.heap.update D (Obj.mapSeq (·.push u8))).get? b = some o := fun b o hb e => (Heap.get?_update_other s8.heap (Obj.mapSeq (·.push u8)) (Ne.symm hb)).trans e
        have I8' : Inv (cxComp X scope (own ++ fr.map (·.1)) C s2 H2 fp) [] τ6 H8 s8 := I8.pins_of fun p hp => absurd hp (by simp)
        refine ⟨m', hm, i + 1, τ6, acc ++ [y], H8, its ++ [u8], _, I8'.turned (it := D) kk z3 hDC (.inr (by show s2.heap.objs.size ≤ D; omega)) (fun y c e => Nat.ne_of_lt (cellLt y c (hcl y c e))) (fun p hp => absurd (show p ∈ ([] : List (Addr × Obj)) from hp) (by simp)), ?_, z2, z3,
          rv.append (.cons r8 .nil), z5, ?_, w8⟩
        · exact T.keep _ _ _ z1 fun b hb o e => kk b o (fun z => hDfp (z ▸ hb)) e
        · rw [List.length_append, List.length_singleton]; omega
  exact codeAny_compStart_list (loop _ rfl) (T.self X.A 0 _ _ _ (T.keep _ _ _ st2 fun b _ o e => old b o e) (loop _ rfl))
theorem ps_setC {i : Nat} {y : Str} {iter elt : Expr} {ifs : List Expr} {scope osc : Scope} {wi : TI} {tt : TT} {te : TE} {x : Str} {px py pos spos : Pos} (fr : List (Str × Nat))
    (hN : X.N.Nodup) (hiy : X.N[i]? = some y) (hxy : Loc X.env.scope y)
    (hc : X.calm = true) (hi : PI X (.Name x px) iter wi) (ho : X.env.scope = osc)
    (hk : scope.kind = .function) (hcell : ∀ y ∈ scope.names, y.2 ≠ .cell) (hnames : ∀ y ∈ scope.names, y.2 = .local → scope.names.lookup y.1 = some .local)
    (hfree : ∀ y ∈ scope.names, y.2 = .free → osc.names.lookup y.1 = some .cell ∨ osc.names.lookup y.1 = some .free) (hfr : FrOk X scope fr)
    (hx : scope.names.lookup x = some .local) (hnd : (x :: fr.map (·.1)).Nodup)
    (ht : ∀ C s H ex, PTs (cxComp X scope (x :: fr.map (·.1)) C s H ex) ifs tt)
    (he : ∀ C s H ex, PE (cxComp X scope (x :: fr.map (·.1)) C s H ex) elt te)
    (hsw : swapsWith (.ListComp elt [⟨.Name x px, iter, ifs, 0⟩] scope pos) (some (.Name y py)) spos.line X.env = pure true := by rfl)
    (hf : X.fn y = true ∨ X.env.scope.names.lookup y = some .local := by first | exact .inl rfl | exact .inr rfl | assumption)
    (hs : ∀ x, foldedSetIterable iter X.env x = pure x := by intro _; rfl) :
    PS X (.Assign [.Name y py] (.ListComp elt [⟨.Name x px, iter, ifs, 0⟩] scope pos) spos) (tAsg (tComp 1 (fr.map (·.2)) wi (gName 0) tt te) (gName i)) :=
  ps_compU (own := [x]) hN hiy hxy hf hc hi hk hcell hnames (fun y hy e => by show X.env.scope.names.lookup y.1 = _ ∨ X.env.scope.names.lookup y.1 = _; rw [ho]; exact hfree y hy e) hfr
    (fun C s H ex => pg_name (i := 0) hnd rfl (.inl (lookup_relabel_local hx)) (.inr (lookup_relabel_local hx))) ht he hsw hs
end
end L2
/-! MY OWN RULES, fourth part: an exception that leaves a def. -/
namespace L2
open PySem PySem.Spec PyProof.Rows
/-- how an exception lies behind a call: B holds all that is no frame and not the exception's own -/
def CXF (P : Program) (w : World) : CXT := fun outer H s E e' s' => ∃ (e : Addr) (C a0 : Value) (H' : Hp) (B : Heap),
  e' = .ref e ∧ s'.os = s.os ∧ AllBare s'.gens ∧ HOk P w H' B ∧ Heap.FlyingW B outer e C a0 s'.heap ∧ Un (frs outer) [] H H' s.heap s'.heap ∧
  (∀ b o, s.heap.get? b = some o → b ∉ frs outer → ∃ o', B.get? b = some o' ∧ (H b = none → o' = o)) ∧ E C none H'
theorem Un.upto {fs ex : List Addr} {H H' : Hp} {h h1 h2 : Heap} (u : Un fs ex H H' h h1) (up : h1.UpToSlots h2) (frm : ∀ b o, h1.get? b = some o → b ∈ fs → ∀ vs, o.data ≠ .fields vs)
    (cov : ∀ b o, h.get? b = some o → b ∉ fs → ∃ o', h2.get? b = some o' ∧ (H b = none → o' = o)) : Un fs ex H H' h h2 where
  keep := fun b o e n hb hx => by
    obtain ⟨o', e', q⟩ := cov b o e hb
    rw [e', q n]
  slot := fun b o e n hb hx => by
    obtain ⟨sl, e1⟩ := u.slot b o e n hb hx
    obtain ⟨sl2, e2⟩ := up b _ e1 (frm b _ e1 hb)
    exact ⟨sl2, e2⟩
  free := u.free
  there := fun b o e hx => by
    by_cases hb : b ∈ fs
    · obtain ⟨o1, e1⟩ := u.there b o e hx
      obtain ⟨sl2, e2⟩ := up b _ e1 (frm b _ e1 hb)
      exact ⟨_, e2⟩
    · obtain ⟨o', e', _⟩ := cov b o e hb
      exact ⟨o', e'⟩
  tups := u.tups
  frzs := u.frzs
  tbls := u.tbls
section
variable {P : Program} {w : World} {K : PySem.W.Frag} {mg : Str → Option Value} {base : Heap} {N : List Str} {qual : Str} {scope : Scope} {f : Addr} {cd : Value} {A : Around} {outer : List Env} {s₀ : Shared} {H₀ : Hp} {E E' : XK}
/-- an exception of a callee goes on through a def -/
theorem passF (hE : ∀ C H', E C none H' → E' C none H') : Passes (CXF P w) (cxOf (CXF P w) P w K mg base N qual scope f cd A outer s₀ H₀ E') E := by
  rintro pins σ H s e' s' I ⟨e, C, a0, H', B, rfl, os, bare, hokB, fly, un, cov, q⟩
  have I' := I.call' (s' := s') (ch := []) os un (hokB.kept fly.1) bare fun b hb => absurd hb (by simp)
  have hfr := I.ok.frames
  show wpAny (model P w) _ (leaving _ (.ref e)) _ _ s'
  refine wpAny_leaves_onW hfr rfl fly fun h' fly' up => ⟨e, C, a0, H', B, rfl, os.trans I.os, bare, hokB, fly', ?_, ?_, hE C H' q⟩
  · have lt0 : ∀ b o, s₀.heap.get? b = some o → b ∉ frs outer → b ∉ frs (envOfC qual scope s₀.heap.objs.size f cd :: outer) := fun b o e1 hb hm => by
      unfold frs at hm
      rw [List.filterMap_cons] at hm
      rcases List.mem_cons.mp hm with z | z
      · rw [z] at e1
        exact Nat.lt_irrefl _ (Heap.lt_size e1)
      · exact hb z
    refine Un.upto I'.base up (fun b o e1 hb => ?_) fun b o e1 hb => ?_
    · have := (fly.2.2.1.mem (b := b) (show b ∈ s₀.heap.objs.size :: frs outer from List.mem_cons_of_mem _ hb)).2
      obtain ⟨o1, e2, h2⟩ := this
      rw [e1] at e2
      cases e2
      exact h2
    · by_cases n : H₀ b = none
      · have e2 := I.base.keep b o e1 n hb (by simp [cxOf])
        have n2 := I.base.free b o e1 n (by simp [cxOf])
        obtain ⟨o', e3, q3⟩ := cov b o e2 (lt0 b o e1 hb)
        exact ⟨o', fly'.1 _ _ e3, fun _ => q3 n2⟩
      · obtain ⟨o2, e2⟩ := I.base.there b o e1 (by simp [cxOf])
        obtain ⟨o', e3, _⟩ := cov b o2 e2 (lt0 b o e1 hb)
        exact ⟨o', fly'.1 _ _ e3, fun z => absurd z n⟩
  · intro b o e1 hb
    have hb2 : b ∉ frs (envOfC qual scope s₀.heap.objs.size f cd :: outer) := fun hm => by
      unfold frs at hm
      rw [List.filterMap_cons] at hm
      rcases List.mem_cons.mp hm with z | z
      · rw [z] at e1
        exact Nat.lt_irrefl _ (Heap.lt_size e1)
      · exact hb z
    by_cases n : H₀ b = none
    · have e2 := I.base.keep b o e1 n hb (by simp [cxOf])
      have n2 := I.base.free b o e1 n (by simp [cxOf])
      obtain ⟨o', e3, q3⟩ := cov b o e2 hb2
      exact ⟨o', e3, fun _ => q3 n2⟩
    · obtain ⟨o2, e2⟩ := I.base.there b o e1 (by simp [cxOf])
      obtain ⟨o', e3, _⟩ := cov b o2 e2 hb2
      exact ⟨o', e3, fun z => absurd z n⟩
/-- an own class of exceptions, none of whose own __init__ stands in the way -/
structure ExC (K : PySem.W.Frag) (C : Addr) (bm : List Value) : Prop where
  obj : ∃ (nm q : Str) (NS : Addr) (bs : List Value) (hdct : Bool) (sn : List Str) (sub : List Value) (ab : Bool) (col : Option Bool) (dd : Option Addr) (k0 k1 k2 k3 k5 : Option Value) (mN : Str → Option Value),
    K.lookup C = some (excClassObj nm q C NS bs bm hdct sn sub ab col dd k0 k1 k2 k3 k5 "ValueError.__new__") ∧ mN "__init__" = none ∧ ∀ h : Heap, K.In h → h.Ns NS mN ∧ OwnTail h [.type "ValueError", .type "Exception", .type "BaseException", .type "object"] bm
  base : bm.contains (.type "BaseException") = true
/-- an exception that was just made leaves the def -/
theorem leaveF {pins : List (Addr × Obj)} {σ : St} {H : Hp} {s : Shared} {h' : Heap} {e : Addr} {C : Value} {args : List Value} (I : Inv (cxOf (CXF P w) P w K mg base N qual scope f cd A outer s₀ H₀ E') pins σ H s) (hx : Heap.MadeExcOf s.heap h' e C args) (q : E' C none H) :
    (cxOf (CXF P w) P w K mg base N qual scope f cd A outer s₀ H₀ E').xe (.ref e) { s with heap := h' } := by
  have hfr := I.ok.frames
  have FF := I.stack
  let B := PySem.W.hideAll s.heap (frs (envOfC qual scope s₀.heap.objs.size f cd :: outer))
  have hB : B.StaysIn s.heap := fun b o z => PySem.W.of_hideAll _ z
  have inB : ∀ b o, s.heap.get? b = some o → b ∉ frs (envOfC qual scope s₀.heap.objs.size f cd :: outer) → B.get? b = some o := fun b o z n => PySem.W.hideAll_get _ z n
  have FB : s.heap.FunFrames B (envOfC qual scope s₀.heap.objs.size f cd :: outer) := PySem.W.funFrames_hide FF fun env he a ha => List.mem_filterMap.mpr ⟨env, he, ha⟩
  have cov : ∀ b o, s₀.heap.get? b = some o → b ∉ frs outer → ∃ o', B.get? b = some o' ∧ (H₀ b = none → o' = o) := fun b o e1 hb => by
    have hb2 : b ∉ frs (envOfC qual scope s₀.heap.objs.size f cd :: outer) := fun hm => by
      unfold frs at hm
      rw [List.filterMap_cons] at hm
      rcases List.mem_cons.mp hm with z | z
      · rw [z] at e1
        exact Nat.lt_irrefl _ (Heap.lt_size e1)
      · exact hb z
    by_cases n : H₀ b = none
    · have e2 := I.base.keep b o e1 n hb (by simp [cxOf])
      exact ⟨o, inB b o e2 hb2, fun _ => rfl⟩
    · obtain ⟨o2, e2⟩ := I.base.there b o e1 (by simp [cxOf])
      exact ⟨o2, inB b o2 e2 hb2, fun z => absurd z n⟩
  have hokB : HOk P w H B := fun a o z => (I.hok a o z).stay (fun b u hb z2 => inB b u z2 fun hm => ?_) (fun _ z => z) fun _ _ z => z
  · show wpAny (model P w) _ (leaving _ (.ref e)) _ _ _
    refine wpAny_leaves_madeW (base := B) (h := s.heap) hfr rfl hB FB hx fun h2 t fly tup hn up => ⟨e, C, _, H, B, rfl, I.os, I.bare, hokB, fly, ?_, ?_, q⟩
    · refine Un.upto (I.kept (t' := s.toks) hx.keeps).base up (fun b o e1 hb => ?_) fun b o e1 hb => ?_
      · obtain ⟨_, o1, e2, h2'⟩ := FF.mem (b := b) (show b ∈ s₀.heap.objs.size :: frs outer from List.mem_cons_of_mem _ hb)
        have e3 := hx.keeps _ _ e2
        have e1 : h'.get? b = some o := e1
        rw [e1] at e3
        cases e3
        exact h2'
      · obtain ⟨o', e2, q2⟩ := cov b o e1 hb
        exact ⟨o', fly.1 _ _ e2, q2⟩
    · exact cov
  · have n := I.stkFree b hm
    rcases hb with z3 | z3
    · rw [z3, z] at n; cases n
    · rw [z3] at n; cases n
/-- raise C(e) -/
theorem ps_raise {x : Str} {np cpos pos : Pos} {e : Expr} {te : TE} {C : Addr} {bm : List Value} (EC : ExC K C bm) (hm : PE (cxOf (CXF P w) P w K mg base N qual scope f cd A outer s₀ H₀ E') (.Name x np) (tC (.ref C)))
    (he : PE (cxOf (CXF P w) P w K mg base N qual scope f cd A outer s₀ H₀ E') e te)
    (hts : backTo cpos (starEach [e] (envOfC qual scope s₀.heap.objs.size f cd)) = [(false, eval e (envOfC qual scope s₀.heap.objs.size f cd))] := by rfl) :
    PS (cxOf (CXF P w) P w K mg base N qual scope f cd A outer s₀ H₀ E') (.Raise (some (.Call (.Name x np) [e] [] cpos)) none pos) (fun D σ H => te σ H fun v H1 => E' (.ref C) none H1) := by
  intro pins s σ H D I h
  obtain ⟨nm, q, NS, bs, hdct, sn, sub, ab, col, dd, k0, k1, k2, k3, k5, mN, lk, hni, more⟩ := EC.obj
  have ev : ∀ (Q : VK), Q (.ref C) H → wpAny (model P w) _ (eval (.Name x np) _) (EP (cxOf (CXF P w) P w K mg base N qual scope f cd A outer s₀ H₀ E') pins σ Q) _ s := fun Q hq => hm pins s σ H Q I hq
  have hd : (cxOf (CXF P w) P w K mg base N qual scope f cd A outer s₀ H₀ E').A.handled = none := I.ok.hd rfl
  refine wpAny_Raise_call_subU (C := C) (nm := nm) (q := q) (N := NS) (bs := bs) (bm := bm) (hdct := hdct) (sn := sn) (sub := sub) (ab := ab) (col := col) (dd := dd) (k0 := k0) (k1 := k1) (k2 := k2) (k3 := k3) (k5 := k5) PySem.F.excBase_ValueError (by decide) PySem.F.excBase_ValueError (mN := mN) EC.base hd (by show ((backTo cpos (starEach [e] (envOfC qual scope s₀.heap.objs.size f cd))).any (·.1)) = false; rw [hts]; rfl) hni ?_
  refine thn (ev (fun v H1 => v = .ref C ∧ H1 = H) ⟨rfl, rfl⟩) fun u s1 ⟨v, H1, I1, r1, e1, e2⟩ => ?_
  subst e1 e2
  refine ⟨r1, ?_⟩
  show wpAny _ _ (evalArgs (.ref C) true (backTo cpos (starEach [e] (envOfC qual scope s₀.heap.objs.size f cd))) []) _ _ s1
  rw [hts]
  refine Calls.evalArgs_plain (Calls.spliced_cons (thn (he pins s1 σ _ _ I1 h) fun u2 s2 ⟨y, H2, I2, ry, q2⟩ => Calls.spliced_nil ?_))
  obtain ⟨hN2, tl⟩ := more s2.heap I2.kIn
  exact ⟨rfl, by show 1 ≤ sizeLine; decide, I2.kIn C _ lk, hN2, tl, fun h' e' hx => leaveF I2 hx q2⟩
end
end L2
namespace L2
open PySem PySem.Spec PyProof.Rows
section
variable {X : Cx} {pins : List (Addr × Obj)} {σ : St} {H H' : Hp} {s s' : Shared} {B h' : Heap}
/-- the frames' slots changed, all else stands as it did ahead of the call -/
theorem Inv.upto (I : Inv X pins σ H s) (I' : Inv X pins σ H' s') (hnc : X.env.cells = []) (hex : X.ex = []) (hst : X.stack = X.env :: X.outer) (hfl : X.env.frame = some X.env.locals)
    (cov : ∀ b o, s.heap.get? b = some o → b ∉ frs X.stack → ∃ o', B.get? b = some o' ∧ (H b = none → o' = o)) (hokB : HOk X.prog X.w H' B) (stay : B.StaysIn h') (up : s'.heap.UpToSlots h')
    (FF : s'.heap.FunFrames B X.stack) : Inv X pins σ H' { s' with heap := h' } := by
  have inS : ∀ b, b ∈ frs X.stack ↔ b = X.env.locals ∨ b ∈ X.fs := fun b => by
    rw [hst]
    unfold frs
    rw [List.filterMap_cons, hfl]
    exact List.mem_cons
  have nofl : ∀ b o, s'.heap.get? b = some o → b ∈ frs X.stack → ∀ vs, o.data ≠ .fields vs := fun b o e hb => by
    obtain ⟨_, o1, e1, q⟩ := FF.mem (b := b) hb
    rw [e] at e1; cases e1
    exact q
  refine ⟨I'.ok, I'.os, I'.bare, ?_, ?_, fun x c z => ?_, I'.free, I'.freeC, fun p hp => ?_, hokB.kept stay, I'.len⟩
  · refine Un.upto I'.base up (fun b o e hb => nofl b o e ((inS b).mpr (.inr hb))) fun b o e hb => ?_
    have hb2 : b ∉ frs X.stack := fun z => by
      rcases (inS b).mp z with q | q
      · rw [q] at e
        exact absurd (Nat.lt_of_lt_of_le (Heap.lt_size e) I.ok.above) (Nat.lt_irrefl _)
      · exact hb q
    by_cases n : X.H₀ b = none
    · by_cases hx : b ∈ X.ex
      · rw [hex] at hx; cases hx
      · have e2 := I.base.keep b o e n hb hx
        have n2 := I.base.free b o e n hx
        obtain ⟨o', e3, q3⟩ := cov b o e2 hb2
        exact ⟨o', stay _ _ e3, fun _ => q3 n2⟩
    · by_cases hx : b ∈ X.ex
      · rw [hex] at hx; cases hx
      · obtain ⟨o2, e2⟩ := I.base.there b o e hx
        obtain ⟨o', e3, _⟩ := cov b o2 e2 hb2
        exact ⟨o', stay _ _ e3, fun z => absurd z n⟩
  · obtain ⟨m, hn, hl⟩ := I'.loc
    refine ⟨m, up.ns hn, fun i x v e1 e2 e3 => ?_⟩
    obtain ⟨u, r, l⟩ := hl i x v e1 e2 e3
    refine ⟨u, r, ?_⟩
    rcases l with l | ⟨_, c, ec, _⟩
    · exact .inl l
    · rw [hnc] at ec; cases ec
  · rw [hnc] at z; cases z
  · obtain ⟨a1, a2, a3, a4, a5⟩ := I'.pin p hp
    obtain ⟨b1, b2, b3, b4, b5⟩ := I.pin p hp
    obtain ⟨o', e3, q3⟩ := cov p.1 p.2 b1 fun z => ((inS p.1).mp z).elim a3 a4
    have := stay _ _ e3
    rw [q3 b2] at this
    exact ⟨this, a2, a3, a4, a5⟩
end
end L2
namespace L2
open PySem PySem.Spec PyProof.Rows
section
variable {X : Cx} {pins : List (Addr × Obj)} {σ : St} {H : Hp} {s : Shared}
/-- the name of a caught exception goes -/
theorem name_goes {M : Model} {A : Around} {E : Value → Shared → Prop} {i : Nat} {x : Str} {pos : Pos} {Q : Unit → Shared → Prop} (I : Inv X pins σ H s) (hN : X.N.Nodup) (hi : X.N[i]? = some x) (hk : X.env.kindOf x = some .local)
    (h : ∀ s', Inv X pins (σ.set i none) H s' → Q () s') : wpAny M A (do bindName X.env x .none; unbindBehindTheSuite X.env x pos) Q E s := by
  obtain ⟨m, hn, hl⟩ := id I.loc
  have hcls : (X.env.scope.kind == .class || (X.env.scope.kind == .module && X.env.locals != X.env.globals)) = false := by rw [I.ok.kind]; rfl
  have hiσ : i < σ.length := by rw [I.len]; exact (List.getElem?_eq_some_iff.mp hi).1
  have cne := I.cne
  refine wpAny_nameGoes_keeps hk hn hcls fun h' v hn' hs => h _ ?_
  obtain ⟨oL, _, _, hoL, _⟩ := id hn
  have hok' : HOk X.prog X.w H h' := fun b ob e => by
    refine (I.hok b ob e).stay (fun c w' hc q => (hs.2 c ?_).trans q) (fun _ q => q) fun _ _ q => q
    rintro rfl
    rcases hc with rfl | hc
    · rw [I.free] at e; cases e
    · rw [I.free] at hc; cases hc
  refine ⟨I.ok, I.os, I.bare, ⟨fun b o e n hb hx => ?_, fun b o e n hb hx => ?_, I.base.free, fun b o e hx => ?_, I.base.tups, I.base.frzs, I.base.tbls⟩, ⟨_, hn', fun j y v' e1 e2 e3 => ?_⟩, fun y c e => ?_, I.free, I.freeC, fun p hp => ?_, hok', by simpa using I.len⟩
  · exact (hs.2 b (Nat.ne_of_lt (Nat.lt_of_lt_of_le (Heap.lt_size e) I.ok.above))).trans (I.base.keep b o e n hb hx)
  · obtain ⟨sl, e1⟩ := I.base.slot b o e n hb hx
    exact ⟨sl, (hs.2 b (Nat.ne_of_lt (Nat.lt_of_lt_of_le (Heap.lt_size e) I.ok.above))).trans e1⟩
  · obtain ⟨o', e1⟩ := I.base.there b o e hx
    exact ⟨o', (hs.2 b (Nat.ne_of_lt (Nat.lt_of_lt_of_le (Heap.lt_size e) I.ok.above))).trans e1⟩
  · by_cases hj : j = i
    · subst hj
      rw [List.getElem?_set_self hiσ] at e2
      cases e2
    · rw [List.getElem?_set_ne (Ne.symm hj)] at e2
      obtain ⟨u', r', q⟩ := hl j y v' e1 e2 e3
      refine ⟨u', r', ?_⟩
      rcases q with ⟨k, e⟩ | ⟨k, c, e, z⟩
      · refine .inl ⟨k, ?_⟩
        have : y ≠ x := fun e => hj (nodup_ix hN e1 (e ▸ hi))
        simp [this, e]
      · exact .inr ⟨k, c, e, z.sameBut hs (cne y c e)⟩
  · obtain ⟨w', z⟩ := I.cell y c e
    exact ⟨w', z.sameBut hs (cne y c e)⟩
  · obtain ⟨e, n, ne, nf, d⟩ := I.pin p hp
    exact ⟨(hs.2 p.1 ne).trans e, n, ne, nf, d⟩
/-- the context of a handler's suite -/
def Cx.caught (X : Cx) (e : Addr) : Cx := { X with A := X.A.mark (some (.ref e)), calm := false, xe := fun _ _ => False }
theorem Inv.caught (I : Inv X pins σ H s) (e : Addr) : Inv (X.caught e) pins σ H s :=
  ⟨⟨I.ok.mod, I.ok.kind, I.ok.glob, I.ok.blt, I.ok.above, I.ok.inj, I.ok.has, I.ok.cab, (fun z => by cases z), I.ok.frames, I.ok.stk, I.ok.exf, I.ok.bs, I.ok.bsz, I.ok.noex, I.ok.exfs, I.ok.funs, I.ok.frf⟩, I.os, I.bare, I.base, I.loc, I.cell, I.free, I.freeC, I.pin, I.hok, I.len⟩
theorem Inv.uncaught {e : Addr} (I : Inv (X.caught e) pins σ H s) (hc : X.calm = true → X.A.handled = none) : Inv X pins σ H s :=
  ⟨⟨I.ok.mod, I.ok.kind, I.ok.glob, I.ok.blt, I.ok.above, I.ok.inj, I.ok.has, I.ok.cab, hc, I.ok.frames, I.ok.stk, I.ok.exf, I.ok.bs, I.ok.bsz, I.ok.noex, I.ok.exfs, I.ok.funs, I.ok.frf⟩, I.os, I.bare, I.base, I.loc, I.cell, I.free, I.freeC, I.pin, I.hok, I.len⟩
/-- a caught exception -/
def ExcO (e : Addr) (C : Value) : HO := .ext fun h => ∃ o, h.get? e = some o ∧ o.cls = C
theorem Inv.excTrack {e : Addr} {C : Value} (I : Inv X pins σ H s) (he : ∃ o, s.heap.get? e = some o ∧ o.cls = C) (hn : H e = none) (h0 : ∀ o, X.s₀.heap.get? e ≠ some o) (hL : e ≠ X.env.locals) (hc : ∀ x c, X.env.cells.lookup x = some c → c ≠ e) (hp : ∀ p ∈ X.pn ++ pins, p.1 ≠ e) :
    Inv X pins σ (upd H e (ExcO e C)) s := by
  have ne : ∀ b o, H b = some o → b ≠ e := fun b o z q => by rw [q, hn] at z; cases z
  refine ⟨I.ok, I.os, I.bare, ⟨I.base.keep, I.base.slot, fun b o e1 n hx => ?_, I.base.there, fun b xs z => ?_, fun b o u z => ?_, fun b ps z => ?_⟩, I.loc, I.cell, ?_, fun x c z => ?_, fun p q => ?_, ?_, I.len⟩
  · have q : b ≠ e := fun q => h0 o (by rw [← q]; exact e1)
    rw [upd_ne q]; exact I.base.free b o e1 n hx
  · have := I.base.tups b xs z; rw [upd_ne (ne _ _ this)]; exact this
  · have := I.base.frzs b o u z; rw [upd_ne (ne _ _ this)]; exact this
  · obtain ⟨more, q⟩ := I.base.tbls b ps z; exact ⟨more, by rw [upd_ne (ne _ _ q)]; exact q⟩
  · rw [upd_ne hL.symm]; exact I.free
  · rw [upd_ne (hc x c z)]; exact I.freeC x c z
  · obtain ⟨a1, a2, a3, a4, a5⟩ := I.pin p q
    exact ⟨a1, by rw [upd_ne (hp p q)]; exact a2, a3, a4, a5⟩
  · obtain ⟨o, ho, hcls⟩ := he
    exact I.hok.track hn ⟨⟨o, ho, hcls⟩, ⟨o, ho⟩, fun h1 h2 ⟨o, e1, r1⟩ k => ⟨o, k o e1, r1⟩⟩
end
end L2
namespace L2
open PySem PySem.Spec PyProof.Rows
theorem ObjOk.got {P : Program} {w : World} {H : Hp} {h : Heap} {a : Addr} {o : HO} (x : ObjOk P w H h a o) : ∃ ob, h.get? a = some ob := by
  cases o with
  | lst xs => obtain ⟨_, _, _, _, e⟩ := x; exact ⟨_, e⟩
  | tup xs => obtain ⟨_, _, _, ob, e, _⟩ := x; exact ⟨_, e⟩
  | dK kvs => obtain ⟨_, _, _, _, o, _, _, e, _⟩ := x; exact ⟨_, e⟩
  | dT kvs => obtain ⟨_, _, _, _, o, _, _, e, _⟩ := x; exact ⟨_, e⟩
  | set S n => obtain ⟨o, _, _, _, e, _⟩ := x; exact ⟨_, e⟩
  | ins C dx fs => obtain ⟨_, _, _, e, _⟩ := x; exact ⟨_, e⟩
  | own y => obtain ⟨_, e⟩ := x; exact ⟨_, e⟩
  | xd fs => obtain ⟨_, ⟨_, _, _, e, _⟩, _⟩ := x; exact ⟨_, e⟩
  | rng lo hi => obtain ⟨_, _, _, e⟩ := x; exact ⟨_, e⟩
  | frz ob u => obtain ⟨e, _⟩ := x; exact ⟨_, e⟩
  | tbl ps => exact ⟨_, (show h.get? a = some _ from x)⟩
  | met f y => exact ⟨_, (show h.get? a = some _ from x)⟩
  | ext φ => obtain ⟨_, ⟨_, e⟩, _⟩ := x; exact ⟨_, e⟩
section
variable {X : Cx} {k : Nat} {f : Addr} {fd : FuncData} {ps : List Str} {sp : Sp} {gn cn n : Str} {gp cpos rpos np hpos pos : Pos} {e0 : Expr} {es : List Expr} {t : TA} {CF : Addr} {b₀ : Stmt} {suite : List Stmt} {th : Addr → TS} {i : Nat}
/-- try: return g(..) except C as n: ..  (n's slot is i; the suite raises nothing) -/
def tTryRet (K : PySem.W.Frag) (sp : Sp) (t : TA) (CF : Addr) (i : Nat) (th : Addr → TS) : TS := fun D σ H => t σ H fun vs H1 => sp vs H1 D.rt fun C _ H' => PySem.W.exmOne K C (.ref CF) = some true ∧
  ∀ e, H' e = none → th e { nx := fun σ' H'' => D.nx (σ'.set i none) H'', rt := D.rt } (σ.set i (some (.ref e))) (upd H' e (ExcO e C))
theorem ps_tryRet (hnc : X.env.cells = []) (hex : X.ex = []) (hst : X.stack = X.env :: X.outer) (hfl : X.env.frame = some X.env.locals) (hcalm : X.calm = true)
    (F : FnOk X.prog X.w X.K X.mg X.base (CXF X.prog X.w) k f fd ps sp) (hr : Room k X.A) (hg : Gl X gn) (hm : X.mg gn = some (.ref f)) (hk : PySem.W.keepIn X.K (.ref f) = true) (hb : Binds X.K fd ps [])
    (ha : PA X.nox (e0 :: es) t) (hgc : Gl X cn) (hmc : X.mg cn = some (.ref CF)) (hN : X.N.Nodup) (hi : X.N[i]? = some n) (hln : X.env.kindOf n = some .local) (hfn : X.fn n = true ∨ X.env.scope.names.lookup n = some .local)
    (hs : ∀ e, PSs (X.caught e) (b₀ :: suite) (th e))
    (hdb : (gn == ("__debug__" : Str)) = false := by decide) (hdc : (cn == ("__debug__" : Str)) = false := by decide)
    (he : starEach (e0 :: es) X.env = (false, eval e0 X.env) :: starEach es X.env := by rfl) (hpl : (backTo cpos (starEach es X.env)).any (·.1) = false := by rfl) :
    PS X (.Try [.Return (some (.Call (.Name gn gp) (e0 :: es) [] cpos)) rpos] [.ExceptHandler (some (.Name cn np)) (some n) (b₀ :: suite) hpos] [] [] pos) (tTryRet X.K sp t CF i th) := by
  intro pins s σ H D I h
  refine wpAny_Try_except (wpAny_execs_cons (wpAny_Return_some ?_))
  refine wpAny_Call_Name_kw (ld_glob I hg hm ?_ hdb)
  refine PySem.W.callWith_K (h₀ := X.base) I.ok.mod.kin hk (wpAny_mono (ha cpos pins s σ H _ (I.wish _) h) (fun us s1 ⟨vs, H1, I1w, r, q⟩ => ⟨I1w.kIn, ?_⟩) fun _ _ z => False.elim z) he hpl
  have I1 := I1w.unwish
  have hl : us.length = ps.length := by rw [← r.length]; exact F.len _ _ _ _ q
  refine wpAny_call (codeAny_mono (F.run X.A X.stack s1 H1 ⟨us, []⟩ us vs D.rt _ hr I1.env0 (by have := hb s1 us I1.kIn (by simpa using hl); simpa using this) r q) fun rr s' hq => ?_)
  cases rr with
  | ok fl =>
    cases fl with
    | ret u =>
      obtain ⟨v, H', I', rv, qv⟩ := I1.after hq
      exact ⟨v, σ, H', I', rv, qv⟩
    | next => exact False.elim hq
    | brk => exact False.elim hq
    | cont => exact False.elim hq
  | error ev =>
    obtain ⟨e, C, a0, H', B, rfl, os, bare, hokB, fly, un, cov, hmat, hh⟩ := hq
    have I2 := I1.call' (s' := s') (ch := []) os un (hokB.kept fly.1) bare fun b hb => absurd hb (by simp)
    have hfr : X.A.frames = some (X.env :: X.outer) := by rw [← hst]; exact I.ok.frames
    have fly' : Heap.FlyingW B (X.env :: X.outer) e C a0 s'.heap := by rw [← hst]; exact fly
    refine wpAny_looks_onW hfr hfl fly' fun h3 held up3 => ?_
    refine wpAny_landsW held fun h4 fly4 up4 => ?_
    have I4 : Inv X pins σ H' { s' with heap := h4 } := Inv.upto I1 I2 hnc hex hst hfl cov hokB fly4.1 (up3.trans up4) fly.2.2.1
    obtain ⟨oe, hoe, hoec⟩ := fly.there
    have eB : B.get? e = none := fly.2.1
    have efl : ∃ vs, oe.data = .fields vs := by
      obtain ⟨_, _, _, oe', vs, T, oT, ts, a1, a2, a3, _⟩ := fly
      rw [hoe] at a1; cases a1
      exact ⟨_, a3⟩
    have nfr : e ∉ frs X.stack := fun z => by
      obtain ⟨_, o1, e1, q1⟩ := fly.2.2.1.mem (b := e) z
      rw [hoe] at e1; cases e1
      obtain ⟨vs, q2⟩ := efl
      exact q1 vs q2
    have inS : X.env.locals ∈ frs X.stack := by
      rw [hst]; unfold frs; rw [List.filterMap_cons, hfl]; exact List.mem_cons_self
    have ns1 : ∀ o, s1.heap.get? e ≠ some o := fun o z => by
      obtain ⟨o', q1, _⟩ := cov e o z nfr
      rw [eB] at q1; cases q1
    have hn0 : H' e = none := by
      cases z : H' e with
      | none => rfl
      | some u =>
        obtain ⟨o', q1⟩ := (hokB e u z).got
        rw [eB] at q1; cases q1
    refine wpAny_handleBy_cons (codeAny_handlers_test (ld_glob (X := X.caught e) (I4.caught e) hgc hmc ?_ hdc)) (by intro q; cases q)
    obtain ⟨o4, ho4, hc4⟩ := fly4.there
    have LT : PySem.W.Looks (model X.prog X.w) h4 (typeOf (.ref e)) C := by
      rw [← hc4]
      exact (PySem.W.Looks.ld ho4).andThen .now
    refine PySem.W.exm_one (M := model X.prog X.w) I4.kIn LT hmat _ _ _ _ (fun b o z => z) ?_
    show codeAny _ _ _ _ _
    refine codeAny_handlers_suite_as (lands_againW fly4 fun h5 fly5 up5 => ?_)
    have I5 : Inv X pins σ H' { s' with heap := h5 } := Inv.upto I1 I2 hnc hex hst hfl cov hokB fly5.1 ((up3.trans up4).trans up5) fly.2.2.1
    have I6 := I5.excTrack (e := e) (C := C) fly5.there hn0 (fun o z => ?_) (fun z => nfr (z ▸ inS)) (fun x c z => by rw [hnc] at z; cases z) (fun p hp z => ?_)
    · refine store_ok (X := X.caught e) (I6.caught e) hN hi (.inl hln) (v := .ref e) rfl (fun s7 I7 => ?_) hfn
      refine wpAny_mono (hs e pins s7 _ _ _ I7 (hh e hn0)) (fun fl s8 q8 => ?_) fun _ _ z => False.elim z
      cases fl with
      | next =>
        obtain ⟨σ8, H8, I8, q8⟩ := q8
        exact name_goes (I8.uncaught fun z => I.ok.hd z) hN hi hln fun s9 I9 => ⟨_, _, I9, q8⟩
      | ret u =>
        obtain ⟨v, σ8, H8, I8, rv, q8⟩ := q8
        exact name_goes (I8.uncaught fun z => I.ok.hd z) hN hi hln fun s9 I9 => ⟨v, _, _, I9, rv, q8⟩
      | brk => obtain ⟨_, _, _, z⟩ := q8; exact False.elim z
      | cont => obtain ⟨_, _, _, z⟩ := q8; exact False.elim z
    · obtain ⟨o', q1⟩ := I1.base.there e o z (by rw [hex]; simp)
      exact ns1 o' q1
    · have b1 := (I1.pin p hp).1
      rw [z] at b1
      exact ns1 _ b1
end
end L2
namespace L2
open PySem PySem.Spec PyProof.Rows
/-- THE RULE for a def that may raise -/
theorem Fun.okX {P : Program} {w : World} {K : PySem.W.Frag} {mg : Str → Option Value} {base : Heap} {x qual : Str} {st : Stmt} {f : Addr} {fd : FuncData} {N ps : List Str} {k : Nat} {sp : Sp} (F : Fun K x qual st f fd) (S : FnScope N ps (defScope st)) (len : ∀ vs H Q E, sp vs H Q E → vs.length = ps.length)
    (hbody : ∀ (cdv : Value) (A : Around) (outer : List Env) (s : Shared) (H : Hp) (vs : List V) (Q : VK) (E : XK), Room k (A.deeper (envOfC qual (defScope st) s.heap.objs.size f cdv)) → sp vs H Q E →
      ∃ t, PSs (cxOf (CXF P w) P w K mg base N qual (defScope st) f cdv A outer s H E) (defBody st) t ∧ t { nx := fun _ H' => Q .non H', rt := Q } (start N vs) H) : FnOk P w K mg base (CXF P w) (k + 1) f fd ps sp := by
  obtain ⟨oc, od, kV, doc, pm, an, cdv, ct, osl, rfl, lk, hcd⟩ := F.ex
  refine fn_of lk hcd S len fun A outer s H vs Q E hr hsp => ?_
  obtain ⟨t, h, q⟩ := hbody cdv A outer s H vs Q E hr hsp
  exact ⟨t, h, q⟩
end L2
/-! MY OWN RULES, fifth part: list(range(a, b, d)), sum, min and max of a list, .index of a tuple of texts. -/
namespace L2
open PySem PySem.Spec PyProof.Rows

theorem smallE {a b c : Int} (hc1 : 1 ≤ c) (hc2 : c ≤ 2000000) (ha : -(2 ^ 40) ≤ a) (ha' : a < 2 ^ 40) (hb : -(2 ^ 40) ≤ b) (hb' : b < 2 ^ 40) : Builtin.Range.small a b c = true := by
  have h := turnsD_le (lo := a) (hi := b) hc1
  have hs := sizeD (lo := a) (hi := b) hc1
  unfold Builtin.Range.small
  have h2 : (turnsD a b c : Int) ≤ 2 ^ 42 := by split at h <;> omega
  have h3 : (turnsD a b c : Int) * c ≤ 2 ^ 42 * 2000000 := Int.mul_le_mul h2 (by omega) (by omega) (by omega)
  have h4 : 0 ≤ (turnsD a b c : Int) * c := Int.mul_nonneg (by omega) (by omega)
  have h5 : 0 ≤ c * (turnsD a b c : Int) := Int.mul_nonneg (by omega) (by omega)
  have h6 : c * (turnsD a b c : Int) ≤ 2 ^ 42 * 2000000 := by rw [Int.mul_comm]; exact h3
  rw [hs]
  simp only [Builtin.Range.rangeFitsLong, Bool.and_eq_true, Bool.or_eq_true, decide_eq_true_eq, beq_iff_eq, show c > 0 by omega, if_true]
  generalize (turnsD a b c : Int) * c = A at *
  generalize c * (turnsD a b c : Int) = B at *
  refine ⟨?_, ?_⟩ <;> omega
theorem paired_of_get {α β : Type} {F : α → β → Prop} : ∀ {l₁ : List α} {l₂ : List β}, l₁.length = l₂.length → (∀ (i : Nat) a b, l₁[i]? = some a → l₂[i]? = some b → F a b) → Paired F l₁ l₂
  | [], [], _, _ => .nil
  | a :: l₁, b :: l₂, hl, h => .cons (h 0 a b rfl rfl) (paired_of_get (by simpa using hl) fun i x y hx hy => h (i + 1) x y (by simpa using hx) (by simpa using hy))

/-- the items of range(i, j, d) -/
def rngI (i j d : Int) : List Int := (List.range (turnsD i j d)).map fun k : Nat => i + (k : Int) * d
theorem rngI_length (i j d : Int) : (rngI i j d).length = turnsD i j d := by unfold rngI; rw [List.length_map, List.length_range]
theorem rngI_get {i j d : Int} {k : Nat} (h : k < turnsD i j d) : (rngI i j d)[k]? = some (i + (k : Int) * d) := by
  unfold rngI
  rw [List.getElem?_map, List.getElem?_range h]
  rfl
def tListRng3 (ta : TA) : TE := fun σ H Q => ta σ H fun vs H1 => ∃ i j d : Int, vs = [.int i, .int j, .int d] ∧ (1 ≤ d ∧ d ≤ 2000000 ∧ -(2 ^ 40) ≤ i ∧ i < 2 ^ 40 ∧ -(2 ^ 40) ≤ j ∧ j < 2 ^ 40 ∧ turnsD i j d ≤ 16777216) ∧
  ∀ l, H1 l = none → Q (.ref l) (upd H1 l (.lst ((rngI i j d).map V.int)))
section
variable {X : Cx}
theorem pe_listRng3 {a b c : Expr} {ta : TA} {p p2 pos pos2 : Pos} (hc : X.calm = true) (hgl : Gl X "list") (hml : X.mg "list" = none) (hg : Gl X "range") (hm : X.mg "range" = none) (ha : PA X [a, b, c] ta)
    (hs : starEach [a, b, c] X.env = [(false, eval a X.env), (false, eval b X.env), (false, eval c X.env)] := by rfl) (hs2 : starEach [b, c] X.env = [(false, eval b X.env), (false, eval c X.env)] := by rfl)
    (hs0 : starEach [.Call (.Name "range" p2) [a, b, c] [] pos2] X.env = [(false, eval (.Call (.Name "range" p2) [a, b, c] [] pos2) X.env)] := by rfl) :
    PE X (.Call (.Name "list" p) [.Call (.Name "range" p2) [a, b, c] [] pos2] [] pos) (tListRng3 ta) := by
  intro pins s σ H Q I h
  refine wpAny_Call_Name_kw (ld_blt I hgl hml boot_list ?_)
  refine PyProof.Rows.callWith_type1 ?_ (by rw [hs0]; rfl) rfl
  rw [hs0]
  refine Calls.spliced_cons ?_
  refine Call_ (ld_blt I hg hm boot_range (PyProof.Rows.callWith_type1 (thn (ha pos2 pins s σ H _ I h) fun us s1 ⟨vs, H1, I1, r1, q1⟩ => ?_) (by rw [hs, hs2]) (by rw [hs2]; rfl)))
  obtain ⟨i, j, d, e, ⟨d1, d2, q1, q2, q3, q4, q5⟩, q⟩ := q1
  subst e
  cases r1 with
  | cons r rr =>
    cases rr with
    | cons r' rr =>
      cases rr with
      | cons r2 rr =>
        cases rr
        obtain ⟨t, rfl⟩ := r
        obtain ⟨t', rfl⟩ := r'
        obtain ⟨t2, rfl⟩ := r2
        refine call_range_3 (by omega) ?_ (.inl (PyProof.noPylong_small (by omega)))
        refine Calls.spliced_nil ?_
        have I2 : Inv X pins σ H1 { s1 with heap := s1.heap.push { cls := .type "range", data := .fields #[.int i t, .int j t', .int d t2] }, toks := s1.toks } := I1.kept fun b o e => Heap.get?_push_of_some _ e
        refine PySem.call_list_range (I1.ok.hd hc) (IsRange.new ..) (smallE d1 d2 q1 q2 q3 q4) (sizeD d1) q5 fun h' tk acc c' hk hS hacc => ?_
        refine ⟨.ref _, _, I2.laid (t' := tk) hk (Nat.le_refl _) (show ObjOk X.prog X.w _ h' _ (.lst ((rngI i j d).map V.int)) from ⟨?_, acc.toList, c', ?_, by simpa using hS⟩), rfl, q _ (I2.hok.fresh (Nat.le_refl _))⟩
        · rw [List.length_map, rngI_length]
          exact q5
        · refine paired_of_get (by rw [List.length_map, rngI_length, Array.length_toList, hacc.1]) fun k x u hx hu => ?_
          have hk' : k < turnsD i j d := by
            have := (List.getElem?_eq_some_iff.mp hx).1
            rw [List.length_map, rngI_length] at this
            exact this
          rw [List.getElem?_map, rngI_get hk'] at hx
          obtain ⟨tk', e⟩ := hacc.2 k u (by simpa using hu)
          rw [← Option.some.inj hx, e]
          exact ⟨_, rfl⟩
theorem call_sumL {K : PySem.W.Frag} (hc : X.calm = true) (hK : X.K = K := by rfl) : CallR X (.builtin "sum") (fun xs H Q => ∃ (p : Addr) (ns : List Int), xs = [.ref p] ∧ SqL K H p (ns.map V.int) ∧ Q (.int ns.sum) H) := by
  subst hK
  intro pins s σ H xs us Q I r h
  obtain ⟨p, ns, rfl, hq, q⟩ := h
  obtain ⟨u, rfl, ru⟩ := vals1 r
  cases ru
  obtain ⟨its, rv, pl, hz⟩ := I.list hq
  have hi := intsAre_of rv
  obtain ⟨zs, hx⟩ := hi.allInts.items
  have hl' : s.heap.IsList p (intItems zs) := hx ▸ pl.isList
  refine sum_intListG (I.ok.hd hc) hl' fun h' tk t' hk => ?_
  have e1 : ns = zs.toList.map (·.1) := by
    rw [← nums_intItems, ← hx]
    exact (show numsOf its.toArray.toList = ns from hi.numsOf).symm
  have e2 : preSum (numAt zs) zs.size = ns.sum := by
    rw [preSum_eq, List.take_of_length_le (by simp), e1]
  rw [e2]
  exact ⟨.int _, H, I.kept (t' := tk) hk, ⟨_, rfl⟩, q⟩
theorem call_minL {K : PySem.W.Frag} (hc : X.calm = true) (hK : X.K = K := by rfl) : CallR X (.builtin "min") (fun xs H Q => ∃ (p : Addr) (ns : List Int), xs = [.ref p] ∧ SqL K H p (ns.map V.int) ∧ 0 < ns.length ∧ ∀ M, M ∈ ns → (∀ a, a ∈ ns → M ≤ a) → Q (.int M) H) := by
  subst hK
  intro pins s σ H xs us Q I r h
  obtain ⟨p, ns, rfl, hq, hne, q⟩ := h
  obtain ⟨u, rfl, ru⟩ := vals1 r
  cases ru
  obtain ⟨its, rv, pl, hz⟩ := I.list hq
  have hi := intsAre_of rv
  obtain ⟨zs, e⟩ := hi.allInts.items
  have hns : ns = zs.toList.map (·.1) := by
    rw [← nums_intItems, ← e]
    exact (show numsOf its.toArray.toList = ns from hi.numsOf).symm
  have hsz : 0 < zs.size := by
    have h3 := hne; rw [hns, List.length_map, Array.length_toList] at h3; exact h3
  have hl : s.heap.IsList p (intItems zs) := e ▸ pl.isList
  refine min_intList (I.ok.hd hc) hl hsz fun v h' tk hv hk => ?_
  obtain ⟨t, rfl⟩ := intItems_at hv
  obtain ⟨h1, h2⟩ := argBest_lt (numAt zs) (zs.size - 1)
  refine ⟨.int _, H, I.kept (t' := tk) hk, ⟨_, rfl⟩, q _ ?_ fun a ha => ?_⟩
  · rw [hns, numAt_eq]; exact getD_mem (by rw [List.length_map, Array.length_toList]; omega)
  · rw [hns] at ha
    obtain ⟨j, hj, rfl⟩ := mem_getD ha
    rw [List.length_map, Array.length_toList] at hj
    rw [← numAt_eq]; exact h2 j (by omega)
theorem call_maxL {K : PySem.W.Frag} (hc : X.calm = true) (hK : X.K = K := by rfl) : CallR X (.builtin "max") (fun xs H Q => ∃ (p : Addr) (ns : List Int), xs = [.ref p] ∧ SqL K H p (ns.map V.int) ∧ 0 < ns.length ∧ ∀ M, M ∈ ns → (∀ a, a ∈ ns → a ≤ M) → Q (.int M) H) := by
  subst hK
  intro pins s σ H xs us Q I r h
  obtain ⟨p, ns, rfl, hq, hne, q⟩ := h
  obtain ⟨u, rfl, ru⟩ := vals1 r
  cases ru
  obtain ⟨its, rv, pl, hz⟩ := I.list hq
  have hi := intsAre_of rv
  obtain ⟨zs, e⟩ := hi.allInts.items
  have hns : ns = zs.toList.map (·.1) := by
    rw [← nums_intItems, ← e]
    exact (show numsOf its.toArray.toList = ns from hi.numsOf).symm
  have hsz : 0 < zs.size := by
    have h3 := hne; rw [hns, List.length_map, Array.length_toList] at h3; exact h3
  have hl : s.heap.IsList p (intItems zs) := e ▸ pl.isList
  refine max_intList (I.ok.hd hc) hl hsz fun v h' tk hv hk => ?_
  obtain ⟨t, rfl⟩ := intItems_at hv
  obtain ⟨h1, h2⟩ := argBest_gt (numAt zs) (zs.size - 1)
  refine ⟨.int _, H, I.kept (t' := tk) hk, ⟨_, rfl⟩, q _ ?_ fun a ha => ?_⟩
  · rw [hns, numAt_eq]; exact getD_mem (by rw [List.length_map, Array.length_toList]; omega)
  · rw [hns] at ha
    obtain ⟨j, hj, rfl⟩ := mem_getD ha
    rw [List.length_map, Array.length_toList] at hj
    rw [← numAt_eq]; exact h2 j (by omega)
end
theorem eqv_ints : ∀ ys zs : List Int, PyData.eqvAll (ys.map PyData.int) (zs.map PyData.int) = decide (ys = zs)
  | [], [] => rfl
  | [], _ :: _ => rfl
  | _ :: _, [] => rfl
  | y :: ys, z :: zs => by
    show (PyData.eqv (.int y) (.int z) && PyData.eqvAll (ys.map PyData.int) (zs.map PyData.int)) = _
    rw [eqv_ints ys zs]
    show ((y == z) && decide (ys = zs)) = _
    by_cases h1 : y = z
    · subst h1
      simp
    · simp [h1]
theorem lay_ints : ∀ ys : List Int, PyData.canLayAll0 (ys.map PyData.int) = true ∧ PyData.depthAll (ys.map PyData.int) = 0
  | [] => ⟨rfl, rfl⟩
  | y :: r => by
    obtain ⟨a, b⟩ := lay_ints r
    simp [PyData.canLayAll0, PyData.canLay0, PyData.depthAll, PyData.depth, a, b]
theorem shaped_ints (ys : List Int) : SeqAt.shaped (.list (ys.map PyData.int)) = true := by
  obtain ⟨a, b⟩ := lay_ints ys
  simp [SeqAt.shaped, PyData.canLay0, PyData.depth, a, b]
/-- == of two things that write the same -/
theorem eqD_same {K : PySem.W.Frag} {H : Hp} {x y : V} {d : PyData} {Q : VK} (h1 : Dv K H x d) (h2 : Dv K H y d) (hs : SeqAt.shaped d = true) (q : Q (.bl true) H) : rEqD K x y H Q :=
  ⟨d, d, h1, h2, hs, hs, by rw [PySem.SeqAt.eqv_refl d (SeqAt.canLay_of_shaped hs)]; exact q⟩
theorem neD_same {K : PySem.W.Frag} {H : Hp} {x y : V} {d : PyData} {Q : VK} (h1 : Dv K H x d) (h2 : Dv K H y d) (hs : SeqAt.shaped d = true) (q : Q (.bl false) H) : rNeD K x y H Q :=
  ⟨d, d, h1, h2, hs, hs, by rw [PySem.SeqAt.eqv_refl d (SeqAt.canLay_of_shaped hs)]; exact q⟩
theorem mem_cutV {xs : List V} {lo hi : Option Int} {y : V} (h : y ∈ cutV xs lo hi) : y ∈ xs := List.mem_of_mem_drop (List.mem_of_mem_take h)
end L2
/-! MY OWN RULES, sixth part: enumerate in loops and comprehensions, .index of tuples and lists of texts. -/
namespace L2
open PySem PySem.Spec PyProof.Rows

theorem HOk.others {P : Program} {w : World} {H : Hp} {h h' : Heap} (l : List Addr) (x : HOk P w H h) (hn : ∀ a ∈ l, H a = none) (k : ∀ b u, b ∉ l → h.get? b = some u → h'.get? b = some u) : HOk P w H h' := by
  intro b u e
  refine (x b u e).stay (fun c v hc q => k c v ?_ q) (fun _ q => q) fun _ _ q => q
  intro hm
  rcases hc with z | z
  · rw [z] at hm; rw [hn _ hm] at e; cases e
  · rw [hn _ hm] at z; cases z
/-- the list at a, each item in a new pair behind its place -/
def Ite (K : PySem.W.Frag) (a : Addr) : It :=
  ⟨fun i H => ∃ xs x, SqL K H a xs ∧ xs[i]? = some x, fun i H x H' => ∃ p y, x = .ref p ∧ H p = none ∧ H' = upd H p (.tup [.int (i : Int), y]) ∧ ∀ xs, SqL K H a xs → xs[i]? = some y, fun i H => ∃ xs, SqL K H a xs ∧ xs.length ≤ i⟩
theorem turn_enum {P : Program} {w : World} {K : PySem.W.Frag} {elts : List Expr} {x1} {tpos : Pos} (a e it : Addr) (hne : e ≠ it) :
    Turn P w K (.Tuple elts x1 tpos) (Ite K a) [e, it] e (fun i h => (∃ old, IsEnum h e it i old) ∧ h.IsListIter it a i) where
  mem := by simp
  obj := fun i h st b hb => by
    obtain ⟨⟨old, he⟩, o, e2, c, d⟩ := st
    rcases List.mem_cons.mp hb with z | z
    · subst z
      exact ⟨_, he, fun v z => by
        have z' : Data.fields _ = Data.cell v := z
        cases z'⟩
    · have z : b = it := by simpa using z
      subst z
      exact ⟨o, e2, fun v z => by rw [d] at z; cases z⟩
  keep := fun i h h' st k => by
    obtain ⟨⟨old, he⟩, st⟩ := st
    exact ⟨⟨old, k e (by simp) _ he⟩, st.at fun o q => k it (by simp) o q⟩
  item := by
    intro X hP hw hK hc i pins s σ H E I hf st hg
    subst hP hw hK
    obtain ⟨xs, x, hq, hx⟩ := hg
    obtain ⟨its, rv, p, hz⟩ := I.list hq
    obtain ⟨u, hu, ru⟩ := rv.get hx
    obtain ⟨⟨old, he⟩, hit⟩ := st
    obtain ⟨f0, f1, f2, f3, f4, f5⟩ := hf e (by simp)
    obtain ⟨g0, g1, g2, g3, g4, g5⟩ := hf it (by simp)
    have elt : e < s.heap.objs.size := Heap.lt_size he
    have ilt : it < s.heap.objs.size := by obtain ⟨o, q, _⟩ := id hit; exact Heap.lt_size q
    refine wpAny_pyNext_enum_item he hit p.isList (x := u) (by simpa using hu) hne fun h' eo hit' ht hsz kk => ⟨_, rfl, wpAny_letOwnedTupleGo_enum eo fun h2 he2 sb => ?_⟩
    have hp : H s.heap.objs.size = none := I.hok.fresh (Nat.le_refl _)
    have pe : s.heap.objs.size ≠ e := Nat.ne_of_gt elt
    have pit : s.heap.objs.size ≠ it := Nat.ne_of_gt ilt
    have kk2 : ∀ b o, b ∉ [e, it] → s.heap.get? b = some o → h2.get? b = some o := fun b o hb q => by
      have b1 : b ≠ e := fun z => hb (by simp [z])
      have b2 : b ≠ it := fun z => hb (by simp [z])
      exact (sb.2 b b1).trans (kk b o b1 b2 q)
    have hit2 : h2.IsListIter it a (i + 1) := by
      obtain ⟨o, q, c, d⟩ := id hit'
      exact ⟨o, (sb.2 it (fun z => hne z.symm)).trans q, c, d⟩
    have ht2 : h2.get? s.heap.objs.size = some { cls := .type "tuple", data := .seq #[.int i s.toks, u] } := (sb.2 _ pe).trans ht
    have hok : HOk X.prog X.w (upd H s.heap.objs.size (.tup [.int (i : Int), x])) h2 := by
      refine (I.hok.others [e, it] (fun b hb => (hf b hb).1) kk2).track hp ?_
      exact ⟨show 2 ≤ sizeLine by decide, [.int i s.toks, u], .cons ⟨_, rfl⟩ (.cons ru .nil), ⟨_, ht2, rfl, _, rfl⟩⟩
    have un : Un (frs X.stack) [e, it] H (upd H s.heap.objs.size (.tup [.int (i : Int), x])) s.heap h2 := by
      refine ⟨fun b o q n hb hx => kk2 b o hx q, fun b o q n hb hx => ⟨o.slots, kk2 b o hx q⟩, fun b o q n hx => ?_, fun b o q hx => ⟨o, kk2 b o hx q⟩, fun b ys q => ?_, fun b o u q => ?_, fun b ps q => ?_⟩
      · rw [upd_ne (Nat.ne_of_lt (Heap.lt_size q))]; exact n
      · rw [upd_ne (ne_of_none q hp)]; exact q
      · rw [upd_ne (ne_of_none q hp)]; exact q
      · exact ⟨#[], by rw [upd_ne (ne_of_none q hp), Array.append_empty]; exact q⟩
    have I2 : Inv X pins σ (upd H s.heap.objs.size (.tup [.int (i : Int), x])) { s with heap := h2, toks := s.toks + 1 } :=
      I.call' (s' := { s with heap := h2, toks := s.toks + 1 }) (ch := [e, it]) rfl un hok I.bare fun b hb => by
        obtain ⟨q0, q1, q2, q3, q4, q5⟩ := hf b hb
        exact ⟨q3, q1, q4, q5⟩
    refine ⟨.ref s.heap.objs.size, _, I2, rfl, ⟨_, x, rfl, hp, rfl, fun ys hy => by rw [I.list_inj hy hq]; exact hx⟩, ⟨⟨u, ?_⟩, hit2⟩, fun b hb => ?_⟩
    · have : ((i + 1 : Nat) : Int) = (i : Int) + 1 := by omega
      rw [this]
      exact he2
    · have hb' : b ≠ s.heap.objs.size := fun z => by
        rcases List.mem_cons.mp hb with q | q
        · exact pe (z.symm.trans q)
        · exact pit (z.symm.trans (by simpa using q))
      rw [upd_ne hb']
      exact (hf b hb).1
  done := by
    intro X hP hw hK hc i pins s σ H E I hf st hg
    subst hP hw hK
    obtain ⟨xs, hq, hx⟩ := hg
    obtain ⟨its, rv, p, hz⟩ := I.list hq
    obtain ⟨⟨old, he⟩, hit⟩ := st
    obtain ⟨f0, f1, f2, f3, f4, f5⟩ := hf it (by simp)
    have hl := rv.length
    exact wpAny_pyNext_enum_end (I.ok.hd hc) he hit p.isList (by simp; omega) fun h' eb => ⟨rfl, I.turned (t' := s.toks) (fun b o hb e => eb b o hb e) f0 f1 f3 f4 f5⟩
  self := fun _ _ _ _ _ st h => by
    obtain ⟨⟨old, he⟩, _⟩ := st
    exact wpAny_pyIter_enum he h
section
variable {X : Cx}
def iEnum (K : PySem.W.Frag) (tl : TE) : TI := fun σ H R => tl σ H fun x H1 => ∃ a, x = .ref a ∧ (∃ xs, SqL K H1 a xs) ∧ R (Ite K a) H1
theorem pi_enum {K : PySem.W.Frag} {l : Expr} {tl : TE} {elts : List Expr} {x1} {tpos p pos : Pos} (hg : Gl X "enumerate") (hm : X.mg "enumerate" = none) (hl : PE X l tl) (hK : X.K = K := by rfl)
    (hs : starEach [l] X.env = [(false, eval l X.env)] := by rfl) : PI X (.Tuple elts x1 tpos) (.Call (.Name "enumerate" p) [l] [] pos) (iEnum K tl) := by
  subst hK
  intro pins s σ H R I h
  refine Call_ (ld_blt I hg hm boot_enumerate (PyProof.Rows.callWith_type1 ?_ hs rfl))
  rw [hs]
  refine Calls.spliced_cons (thn (hl pins s σ H _ I h) fun v s1 ⟨x, H1, I1, r1, q1⟩ => ?_)
  refine Calls.spliced_nil ?_
  obtain ⟨a, e, ⟨xs, hq⟩, q⟩ := q1
  subst e
  cases r1
  obtain ⟨its, rv, p, hz⟩ := I1.list hq
  refine call_enumerate_list p.isList fun h' he hit hsz kk => ?_
  have I2 : Inv X pins σ H1 { s1 with heap := h' } := I1.kept (t' := s1.toks) kk
  refine wpAny_pyIter_enum he ?_
  refine ⟨s1.heap.objs.size + 1, [s1.heap.objs.size + 1, s1.heap.objs.size], _, _, H1, rfl, I2, turn_enum a _ _ (Nat.succ_ne_self _), ⟨⟨_, he⟩, hit⟩, fun b hb => ?_, q⟩
  rcases List.mem_cons.mp hb with z | z
  · subst z
    exact I1.fpOk (Nat.le_succ _) (I1.hok.fresh (Nat.le_succ _))
  · have z : b = s1.heap.objs.size := by simpa using z
    subst z
    exact I1.fpOk (Nat.le_refl _) (I1.hok.fresh (Nat.le_refl _))
end
section
variable {X : Cx}
theorem pe_comp2 {iter elt : Expr} {ifs : List Expr} {scope osc : Scope} {wi : TI} {tt : TT} {te : TE} {x y : Str} {px py tpos : Pos} {kk} {pos : Pos} (fr : List (Str × Nat))
    (hc : X.calm = true) (hi : PI X (.Tuple [.Name x px, .Name y py] kk tpos) iter wi) (ho : X.env.scope = osc)
    (hk : scope.kind = .function) (hcell : ∀ y ∈ scope.names, y.2 ≠ .cell) (hnames : ∀ y ∈ scope.names, y.2 = .local → scope.names.lookup y.1 = some .local)
    (hfree : ∀ y ∈ scope.names, y.2 = .free → osc.names.lookup y.1 = some .cell ∨ osc.names.lookup y.1 = some .free) (hfr : FrOk X scope fr)
    (hx : scope.names.lookup x = some .local) (hy : scope.names.lookup y = some .local) (hnd : (x :: y :: fr.map (·.1)).Nodup)
    (ht : ∀ C s H ex, PTs (cxComp X scope (x :: y :: fr.map (·.1)) C s H ex) ifs tt)
    (he : ∀ C s H ex, PE (cxComp X scope (x :: y :: fr.map (·.1)) C s H ex) elt te)
    (hs : ∀ x, foldedSetIterable iter X.env x = pure x := by intro _; rfl) :
    PE X (.ListComp elt [⟨.Tuple [.Name x px, .Name y py] kk tpos, iter, ifs, 0⟩] scope pos) (tComp 2 (fr.map (·.2)) wi (gTup X.K 2 (gCons (gName 0) (gCons (gName 1) gNil))) tt te) :=
  pe_comp (own := [x, y]) hc hi hk hcell hnames (fun y hy e => by show X.env.scope.names.lookup y.1 = _ ∨ X.env.scope.names.lookup y.1 = _; rw [ho]; exact hfree y hy e) hfr
    (fun C s H ex => pg_tup (show (cxComp X scope (x :: y :: fr.map (fun p : Str × Nat => p.1)) C s H ex).calm = true from hc) (pgs_cons (pg_name (i := 0) hnd rfl (.inl (lookup_relabel_local hx)) (.inr (lookup_relabel_local hx))) (pgs_cons (pg_name (i := 1) hnd rfl (.inl (lookup_relabel_local hy)) (.inr (lookup_relabel_local hy))) pgs_nil))) ht he hs
end
theorem for_enum {K : PySem.W.Frag} {a : Addr} {xs : List V} {g : TG} {tb : TS} {D : Ends} {σ : St} {H : Hp} (Pv : Nat → St → Hp → Prop) (h0 : Pv 0 σ H) (hl : ∀ i σ H, i ≤ xs.length → Pv i σ H → SqL K H a xs)
    (hs : ∀ (i : Nat) x σ H p, xs[i]? = some x → Pv i σ H → H p = none → g (.ref p) σ (upd H p (.tup [.int (i : Int), x])) fun σ2 H2 => tb { D with nx := Pv (i + 1), ct := Pv (i + 1), bk := D.nx } σ2 H2) (hd : ∀ σ H, Pv xs.length σ H → D.nx σ H) :
    ∃ W : Nat → Nat → St → Hp → Prop, (∃ m, W 0 m σ H) ∧ ∀ i m σ H, W i m σ H →
      ((Ite K a).stop i H ∧ D.nx σ H) ∨ ((Ite K a).go i H ∧ ∃ N : St → Hp → Prop, (∀ σ' H', N σ' H' → ∃ m', m' < m ∧ W (i + 1) m' σ' H') ∧ ∀ x H', (Ite K a).yld i H x H' → g x σ H' fun σ2 H2 => tb { D with nx := N, ct := N, bk := D.nx } σ2 H2) := by
  refine ⟨fun i m σ H => m = xs.length - i ∧ i ≤ xs.length ∧ Pv i σ H, ⟨xs.length, by simp, Nat.zero_le _, h0⟩, ?_⟩
  rintro i m σ H ⟨rfl, hi, p⟩
  have q := hl i σ H hi p
  by_cases hlt : i < xs.length
  · refine .inr ⟨⟨xs, xs[i], q, by simp [hlt]⟩, Pv (i + 1), fun σ' H' p' => ⟨xs.length - (i + 1), by omega, rfl, hlt, p'⟩, fun x H' y => ?_⟩
    obtain ⟨r, z, rfl, hr, rfl, hy⟩ := y
    exact hs i z σ H r (hy xs q) p hr
  · have e : i = xs.length := by omega
    subst e
    exact .inl ⟨⟨xs, q, Nat.le_refl _⟩, hd σ H p⟩
/-- [.. for i, x in enumerate(list) if ..]: tests and items that may lay new things; pk: whether an item is taken, f: what it gives -/
theorem comp_enum {K : PySem.W.Frag} {a : Addr} {fr : List Nat} {tt : TT} {te : TE} {σ : St} {H : Hp} {Q : VK} {xs : List V} {g : TG} (pk : Nat → V → Bool) (f : Nat → V → V) (hn : xs.length ≤ sizeLine) (hq : ∀ H1, Same H H1 → SqL K H1 a xs)
    (hg : ∀ (i : Nat) x p o1 o2 H1 (R : St → Hp → Prop), xs[i]? = some x → Same H H1 → H1 p = some (.tup [.int (i : Int), x]) → R (some (.int (i : Int)) :: some x :: fr.map (pick σ)) H1 → g (.ref p) (o1 :: o2 :: fr.map (pick σ)) H1 R)
    (htt : ∀ (i : Nat) x H1 (R : Bool → Hp → Prop), xs[i]? = some x → Same H H1 → (∀ H2, Same H1 H2 → R (pk i x) H2) → tt (some (.int (i : Int)) :: some x :: fr.map (pick σ)) H1 R)
    (hte : ∀ (i : Nat) x H1 (R : VK), xs[i]? = some x → pk i x = true → Same H H1 → (∀ H2, Same H1 H2 → R (f i x) H2) → te (some (.int (i : Int)) :: some x :: fr.map (pick σ)) H1 R)
    (hd : ∀ H1, Same H H1 → ∀ D, H1 D = none → Q (.ref D) (upd H1 D (.lst (((List.zip (List.range xs.length) xs).filter fun q => pk q.1 q.2).map fun q => f q.1 q.2)))) :
    CompG 2 fr g tt te σ Q (Ite K a) H := by
  refine ⟨fun i m τ acc H' => m = xs.length - i ∧ i ≤ xs.length ∧ Same H H' ∧ (∃ o1 o2, τ = o1 :: o2 :: fr.map (pick σ)) ∧ acc = ((((List.zip (List.range xs.length) xs).take i).filter fun q => pk q.1 q.2).map fun q => f q.1 q.2),
    ⟨xs.length, by simp, Nat.zero_le _, Same.refl H, ⟨none, none, rfl⟩, rfl⟩, ?_⟩
  rintro i m τ acc H' ⟨rfl, hi, s1, ⟨o1, o2, rfl⟩, hacc⟩
  have hzl : (List.zip (List.range xs.length) xs).length = xs.length := by simp
  by_cases hlt : i < xs.length
  · have hxi : xs[i]? = some xs[i] := List.getElem?_eq_getElem hlt
    have tk : (List.zip (List.range xs.length) xs).take (i + 1) = (List.zip (List.range xs.length) xs).take i ++ [(i, xs[i])] := by
      rw [List.take_add_one]
      have : (List.zip (List.range xs.length) xs)[i]? = some (i, xs[i]) := by
        rw [List.getElem?_zip_eq_some]
        exact ⟨by simp [hlt], hxi⟩
      rw [this]
      rfl
    refine .inr ⟨⟨xs, xs[i], hq _ s1, hxi⟩, ?_, fun x H1 y => ?_⟩
    · have : acc.length ≤ i := by
        rw [hacc, List.length_map]
        refine Nat.le_trans (List.length_filter_le _ _) ?_
        rw [List.length_take]
        exact Nat.min_le_left _ _
      omega
    · obtain ⟨p, z, rfl, hp, rfl, hz⟩ := y
      have ez : z = xs[i] := Option.some.inj ((hz xs (hq _ s1)).symm.trans hxi)
      subst ez
      have s2 := s1.upd (o := .tup [.int (i : Int), xs[i]]) hp
      refine hg i xs[i] p o1 o2 _ _ hxi s2 upd_same ?_
      refine htt i xs[i] _ _ hxi s2 fun H2 s3 => ?_
      cases hpk : pk i xs[i] with
      | true =>
        rw [if_pos rfl]
        refine hte i xs[i] _ _ hxi hpk (s2.trans s3) fun H3 s4 => ⟨xs.length - (i + 1), by omega, rfl, hlt, (s2.trans s3).trans s4, ⟨_, _, rfl⟩, ?_⟩
        rw [tk, List.filter_append, List.map_append, ← hacc]
        simp [hpk]
      | false =>
        rw [if_neg Bool.false_ne_true]
        refine ⟨xs.length - (i + 1), by omega, rfl, hlt, s2.trans s3, ⟨_, _, rfl⟩, ?_⟩
        rw [tk, List.filter_append, List.map_append, ← hacc]
        simp [hpk]
  · have e : i = xs.length := by omega
    subst e
    rw [List.take_of_length_le (by rw [hzl]; exact Nat.le_refl _)] at hacc
    exact .inl ⟨⟨xs, hq _ s1, Nat.le_refl _⟩, fun D hD => by rw [hacc]; exact hd H' s1 D hD⟩
/-- the same with a state of one's own: what is wanted behind each turn is told by R -/
theorem comp_enumI {K : PySem.W.Frag} {a : Addr} {fr : List Nat} {tt : TT} {te : TE} {σ : St} {H : Hp} {Q : VK} {xs : List V} {g : TG} (Pv : Nat → List V → Hp → Prop) (hn : xs.length ≤ sizeLine) (h0 : Pv 0 [] H)
    (hq : ∀ i acc H1, Pv i acc H1 → SqL K H1 a xs)
    (hs : ∀ (i : Nat) x p o1 o2 acc H1 (R : St → List V → Hp → Prop), xs[i]? = some x → Pv i acc H1 → H1 p = none → (∀ o1 o2 acc' H2, acc'.length ≤ acc.length + 1 → Pv (i + 1) acc' H2 → R (o1 :: o2 :: fr.map (pick σ)) acc' H2) →
      g (.ref p) (o1 :: o2 :: fr.map (pick σ)) (upd H1 p (.tup [.int (i : Int), x])) fun τ1 H2 => tt τ1 H2 fun b H3 => if b = true then te τ1 H3 fun y H4 => R τ1 (acc ++ [y]) H4 else R τ1 acc H3)
    (hd : ∀ acc H1, Pv xs.length acc H1 → ∀ D, H1 D = none → Q (.ref D) (upd H1 D (.lst acc))) :
    CompG 2 fr g tt te σ Q (Ite K a) H := by
  refine ⟨fun i m τ acc H' => m = xs.length - i ∧ i ≤ xs.length ∧ acc.length ≤ i ∧ (∃ o1 o2, τ = o1 :: o2 :: fr.map (pick σ)) ∧ Pv i acc H', ⟨xs.length, by simp, Nat.zero_le _, Nat.zero_le _, ⟨none, none, rfl⟩, h0⟩, ?_⟩
  rintro i m τ acc H' ⟨rfl, hi, hl, ⟨o1, o2, rfl⟩, p⟩
  have q := hq i acc H' p
  by_cases hlt : i < xs.length
  · refine .inr ⟨⟨xs, xs[i], q, by simp [hlt]⟩, by omega, fun x H1 y => ?_⟩
    obtain ⟨r, z, rfl, hr, rfl, hy⟩ := y
    refine hs i z r o1 o2 acc H' (fun τ1 acc' H2 => ∃ m', m' < xs.length - i ∧ (m' = xs.length - (i + 1) ∧ i + 1 ≤ xs.length ∧ acc'.length ≤ i + 1 ∧ (∃ o1 o2, τ1 = o1 :: o2 :: fr.map (pick σ)) ∧ Pv (i + 1) acc' H2)) (hy xs q) p hr fun u1 u2 acc' H2 h2 p' => ⟨xs.length - (i + 1), by omega, rfl, hlt, by omega, ⟨u1, u2, rfl⟩, p'⟩
  · have e : i = xs.length := by omega
    subst e
    exact .inl ⟨⟨xs, q, Nat.le_refl _⟩, hd acc H' p⟩
end L2
/-! MY OWN RULES, seventh part: try around any expression that may raise (a call, a class made), isinstance of a caught exception, raise of own classes by what K shows. -/
namespace L2
open PySem PySem.Spec PyProof.Rows
/-- an expression's reading where it may raise: what is wanted of its value, and of its exception -/
abbrev TX := St → Hp → VK → XK → Prop
def PEX (X : Cx) (e : Expr) (t : TX) : Prop :=
  ∀ (pins : List (Addr × Obj)) (s : Shared) (σ : St) (H : Hp) (Q : VK) (E : XK), Inv X pins σ H s → t σ H Q E →
    wpAny (model X.prog X.w) X.A (eval e X.env) (EP X pins σ Q) (fun e' s' => ∃ H1 s1, Inv X pins σ H1 s1 ∧ CXF X.prog X.w X.stack H1 s1 E e' s') s
section
variable {X : Cx} {k : Nat} {f C : Addr} {fd : FuncData} {ps : List Str} {sp : Sp} {x : Str} {p pos : Pos} {e : Expr} {es : List Expr} {t : TA} {te : TE}
theorem pex_of (h : PE X.nox e te) : PEX X e (fun σ H Q _ => te σ H Q) := by
  intro pins s σ H Q E I hq
  exact wpAny_mono (h pins s σ H Q (I.wish _) hq) (fun v s1 ⟨y, H1, I1, r1, q1⟩ => ⟨y, H1, I1.unwish, r1, q1⟩) fun _ _ z => False.elim z
def tXCall (sp : Sp) (t : TA) : TX := fun σ H Q E => t σ H fun vs H1 => sp vs H1 Q E
theorem pex_call (F : FnOk X.prog X.w X.K X.mg X.base (CXF X.prog X.w) k f fd ps sp) (hr : Room k X.A) (hg : Gl X x) (hm : X.mg x = some (.ref f)) (hk : PySem.W.keepIn X.K (.ref f) = true) (hb : Binds X.K fd ps [])
    (ha : PA X.nox (e :: es) t) (hdb : (x == ("__debug__" : Str)) = false := by decide) (he : starEach (e :: es) X.env = (false, eval e X.env) :: starEach es X.env := by rfl) (hpl : (backTo pos (starEach es X.env)).any (·.1) = false := by rfl) :
    PEX X (.Call (.Name x p) (e :: es) [] pos) (tXCall sp t) := by
  intro pins s σ H Q E I h
  refine wpAny_Call_Name_kw (ld_glob I hg hm ?_ hdb)
  refine PySem.W.callWith_K (h₀ := X.base) I.ok.mod.kin hk (wpAny_mono (ha pos pins s σ H _ (I.wish _) h) (fun us s1 ⟨vs, H1, I1w, r, q⟩ => ⟨I1w.kIn, ?_⟩) fun _ _ z => False.elim z) he hpl
  have I1 := I1w.unwish
  have hl : us.length = ps.length := by rw [← r.length]; exact F.len _ _ _ _ q
  refine wpAny_call (codeAny_mono (F.run X.A X.stack s1 H1 ⟨us, []⟩ us vs Q _ hr I1.env0 (by have := hb s1 us I1.kIn (by simpa using hl); simpa using this) r q) fun rr s' hq => ?_)
  cases rr with
  | ok fl =>
    cases fl with
    | ret u =>
      obtain ⟨v, H', I', rv, qv⟩ := I1.after hq
      exact ⟨v, H', I', rv, qv⟩
    | next => exact False.elim hq
    | brk => exact False.elim hq
    | cont => exact False.elim hq
  | error ev => exact ⟨H1, s1, I1, hq⟩
def tXMake (C : Addr) (sp : Sp) (t : TA) : TX := fun σ H Q E => t σ H fun vs H1 => ∀ x dx, H1 x = none → H1 dx = none → dx ≠ x →
  sp (.ref x :: vs) (upd (upd H1 dx (.own x)) x (.ins C dx [])) (fun v H2 => v = .non ∧ Q (.ref x) H2) E
theorem pex_make (M : Mk X.K C f) (F : FnOk X.prog X.w X.K X.mg X.base (CXF X.prog X.w) k f fd ps sp) (hr : Room (k + 1) X.A) (hg : Gl X x) (hm : X.mg x = some (.ref C)) (hb : Binds X.K fd ps [])
    (ha : PA X.nox (e :: es) t) (hdb : (x == ("__debug__" : Str)) = false := by decide) (he : starEach (e :: es) X.env = (false, eval e X.env) :: starEach es X.env := by rfl) (hpl : (backTo pos (starEach es X.env)).any (·.1) = false := by rfl) :
    PEX X (.Call (.Name x p) (e :: es) [] pos) (tXMake C sp t) := by
  intro pins s0 σ H0 Q E I0 h
  refine wpAny_Call_Name_kw (ld_glob I0 hg hm ?_ hdb)
  refine PySem.W.callWith_K (h₀ := X.base) I0.ok.mod.kin M.kp (wpAny_mono (ha pos pins s0 σ H0 _ (I0.wish _) h) (fun us s ⟨vs, H, I1w, r, q⟩ => ⟨I1w.kIn, ?_⟩) fun _ _ z => False.elim z) he hpl
  have I := I1w.unwish
  have hq := q (s.heap.objs.size + 1) s.heap.objs.size (I.hok.fresh (Nat.le_succ _)) (I.hok.fresh (Nat.le_refl _)) (Nat.ne_of_lt (Nat.lt_succ_self _))
  have I2 := Inv.made (C := C) I
  have r2 : Vals (V.ref (s.heap.objs.size + 1) :: vs) (Value.ref (s.heap.objs.size + 1) :: us) := .cons rfl r
  have hl : (Value.ref (s.heap.objs.size + 1) :: us).length = ps.length := by
    have e := r2.length
    rw [F.len _ _ _ _ hq] at e
    exact e.symm
  refine wpAny_call (make_map (f := f) I.kIn M.makes M.init (beq_iff_eq.mp M.fn) (codeAny_mono (F.run _ X.stack _ _ ⟨Value.ref (s.heap.objs.size + 1) :: us, []⟩ (Value.ref (s.heap.objs.size + 1) :: us) _ _ E (hr.make C us [])
    (I2.env0.make C us []) (by have := hb _ (Value.ref (s.heap.objs.size + 1) :: us) I2.kIn (by simpa using hl); simpa using this) r2 hq) fun r s' hq' => ?_))
  cases r with
  | error ev => exact ⟨_, _, I2, hq'⟩
  | ok fl =>
    cases fl with
    | ret u =>
      obtain ⟨v, H', I3, rv, ev, q3⟩ := I2.after hq'
      subst ev
      exact ⟨rv, ⟨V.ref (s.heap.objs.size + 1), H', I3, rfl, q3⟩⟩
    | next => exact False.elim hq'
    | brk => exact False.elim hq'
    | cont => exact False.elim hq'
end
section
variable {X : Cx} {cn n : Str} {rpos np hpos pos : Pos} {e0 : Expr} {tx : TX} {CF : Addr} {b₀ : Stmt} {suite : List Stmt} {th : Addr → TS} {i : Nat}
/-- what the handler is to make of an exception -/
def xHand (K : PySem.W.Frag) (CF : Addr) (i : Nat) (th : Addr → TS) (D : Ends) (σ : St) : XK := fun C _ H' => PySem.W.exmOne K C (.ref CF) = some true ∧
  ∀ e, H' e = none → th e { nx := fun σ' H'' => D.nx (σ'.set i none) H'', rt := D.rt } (σ.set i (some (.ref e))) (upd H' e (ExcO e C))
theorem lands_at {pins : List (Addr × Obj)} {σ : St} {H1 : Hp} {s1 s' : Shared} {D : Ends} {ev : Value} (hnc : X.env.cells = []) (hex : X.ex = []) (hst : X.stack = X.env :: X.outer) (hfl : X.env.frame = some X.env.locals)
    (hgc : Gl X cn) (hmc : X.mg cn = some (.ref CF)) (hN : X.N.Nodup) (hi : X.N[i]? = some n) (hln : X.env.kindOf n = some .local) (hfn : X.fn n = true ∨ X.env.scope.names.lookup n = some .local)
    (hs : ∀ e, PSs (X.caught e) (b₀ :: suite) (th e)) (hdc : (cn == ("__debug__" : Str)) = false) (I1 : Inv X pins σ H1 s1) (hq : CXF X.prog X.w X.stack H1 s1 (xHand X.K CF i th D σ) ev s') :
    wpAny (model X.prog X.w) X.A (noteFrame ev X.env) (fun _ s₂ => wpAny (model X.prog X.w) X.A (setFlight ev none) (fun _ s₃ => wpAny (model X.prog X.w) X.A (handleBy ev X.env [.ExceptHandler (some (.Name cn np)) (some n) (b₀ :: suite) hpos]) (SP X pins D) X.xe s₃) X.xe s₂) X.xe s' := by
  obtain ⟨e, C, a0, H', B, rfl, os, bare, hokB, fly, un, cov, hmat, hh⟩ := hq
  have I2 := I1.call' (s' := s') (ch := []) os un (hokB.kept fly.1) bare fun b hb => absurd hb (by simp)
  have hfr : X.A.frames = some (X.env :: X.outer) := by rw [← hst]; exact I1.ok.frames
  have fly' : Heap.FlyingW B (X.env :: X.outer) e C a0 s'.heap := by rw [← hst]; exact fly
  refine wpAny_looks_onW hfr hfl fly' fun h3 held up3 => ?_
  refine wpAny_landsW held fun h4 fly4 up4 => ?_
  have I4 : Inv X pins σ H' { s' with heap := h4 } := Inv.upto I1 I2 hnc hex hst hfl cov hokB fly4.1 (up3.trans up4) fly.2.2.1
  obtain ⟨oe, hoe, hoec⟩ := fly.there
  have eB : B.get? e = none := fly.2.1
  have efl : ∃ vs, oe.data = .fields vs := by
    obtain ⟨_, _, _, oe', vs, T, oT, ts, a1, a2, a3, _⟩ := fly
    rw [hoe] at a1; cases a1
    exact ⟨_, a3⟩
  have nfr : e ∉ frs X.stack := fun z => by
    obtain ⟨_, o1, e1, q1⟩ := fly.2.2.1.mem (b := e) z
    rw [hoe] at e1; cases e1
    obtain ⟨vs, q2⟩ := efl
    exact q1 vs q2
  have inS : X.env.locals ∈ frs X.stack := by
    rw [hst]; unfold frs; rw [List.filterMap_cons, hfl]; exact List.mem_cons_self
  have ns1 : ∀ o, s1.heap.get? e ≠ some o := fun o z => by
    obtain ⟨o', q1, _⟩ := cov e o z nfr
    rw [eB] at q1; cases q1
  have hn0 : H' e = none := by
    cases z : H' e with
    | none => rfl
    | some u =>
      obtain ⟨o', q1⟩ := (hokB e u z).got
      rw [eB] at q1; cases q1
  refine wpAny_handleBy_cons (codeAny_handlers_test (ld_glob (X := X.caught e) (I4.caught e) hgc hmc ?_ hdc)) (by intro q; cases q)
  obtain ⟨o4, ho4, hc4⟩ := fly4.there
  have LT : PySem.W.Looks (model X.prog X.w) h4 (typeOf (.ref e)) C := by
    rw [← hc4]
    exact (PySem.W.Looks.ld ho4).andThen .now
  refine PySem.W.exm_one (M := model X.prog X.w) I4.kIn LT hmat _ _ _ _ (fun b o z => z) ?_
  show codeAny _ _ _ _ _
  refine codeAny_handlers_suite_as (lands_againW fly4 fun h5 fly5 up5 => ?_)
  have I5 : Inv X pins σ H' { s' with heap := h5 } := Inv.upto I1 I2 hnc hex hst hfl cov hokB fly5.1 ((up3.trans up4).trans up5) fly.2.2.1
  have I6 := I5.excTrack (e := e) (C := C) fly5.there hn0 (fun o z => ?_) (fun z => nfr (z ▸ inS)) (fun x c z => by rw [hnc] at z; cases z) (fun p hp z => ?_)
  · refine store_ok (X := X.caught e) (I6.caught e) hN hi (.inl hln) (v := .ref e) rfl (fun s7 I7 => ?_) hfn
    refine wpAny_mono (hs e pins s7 _ _ _ I7 (hh e hn0)) (fun fl s8 q8 => ?_) fun _ _ z => False.elim z
    cases fl with
    | next =>
      obtain ⟨σ8, H8, I8, q8⟩ := q8
      exact name_goes (I8.uncaught fun z => I1.ok.hd z) hN hi hln fun s9 I9 => ⟨_, _, I9, q8⟩
    | ret u =>
      obtain ⟨v, σ8, H8, I8, rv, q8⟩ := q8
      exact name_goes (I8.uncaught fun z => I1.ok.hd z) hN hi hln fun s9 I9 => ⟨v, _, _, I9, rv, q8⟩
    | brk => obtain ⟨_, _, _, z⟩ := q8; exact False.elim z
    | cont => obtain ⟨_, _, _, z⟩ := q8; exact False.elim z
  · obtain ⟨o', q1⟩ := I1.base.there e o z (by rw [hex]; simp)
    exact ns1 o' q1
  · have b1 := (I1.pin p hp).1
    rw [z] at b1
    exact ns1 _ b1
/-- try: return e0 except C as n: .. -/
theorem ps_tryR (hnc : X.env.cells = []) (hex : X.ex = []) (hst : X.stack = X.env :: X.outer) (hfl : X.env.frame = some X.env.locals) (hx : PEX X e0 tx)
    (hgc : Gl X cn) (hmc : X.mg cn = some (.ref CF)) (hN : X.N.Nodup) (hi : X.N[i]? = some n) (hln : X.env.kindOf n = some .local) (hfn : X.fn n = true ∨ X.env.scope.names.lookup n = some .local)
    (hs : ∀ e, PSs (X.caught e) (b₀ :: suite) (th e)) (hdc : (cn == ("__debug__" : Str)) = false := by decide) :
    PS X (.Try [.Return (some e0) rpos] [.ExceptHandler (some (.Name cn np)) (some n) (b₀ :: suite) hpos] [] [] pos) (fun D σ H => tx σ H D.rt (xHand X.K CF i th D σ)) := by
  intro pins s σ H D I h
  refine wpAny_Try_except (wpAny_execs_cons (wpAny_Return_some ?_))
  exact wpAny_mono (hx pins s σ H _ _ I h) (fun v s1 ⟨y, H1, I1, r1, q1⟩ => ⟨y, σ, H1, I1, r1, q1⟩) fun ev s' ⟨H1, s1, I1, hq⟩ => lands_at hnc hex hst hfl hgc hmc hN hi hln hfn hs hdc I1 hq
/-- try: e0 except C as n: .. -/
theorem ps_tryE (hnc : X.env.cells = []) (hex : X.ex = []) (hst : X.stack = X.env :: X.outer) (hfl : X.env.frame = some X.env.locals) (hx : PEX X e0 tx)
    (hgc : Gl X cn) (hmc : X.mg cn = some (.ref CF)) (hN : X.N.Nodup) (hi : X.N[i]? = some n) (hln : X.env.kindOf n = some .local) (hfn : X.fn n = true ∨ X.env.scope.names.lookup n = some .local)
    (hs : ∀ e, PSs (X.caught e) (b₀ :: suite) (th e)) (hdc : (cn == ("__debug__" : Str)) = false := by decide) (hsw : swapsWith e0 none rpos.line X.env = pure false := by rfl) :
    PS X (.Try [.Expr e0 rpos] [.ExceptHandler (some (.Name cn np)) (some n) (b₀ :: suite) hpos] [] [] pos) (fun D σ H => tx σ H (fun _ H1 => D.nx σ H1) (xHand X.K CF i th D σ)) := by
  intro pins s σ H D I h
  refine wpAny_Try_except (wpAny_execs_cons (wpAny_Expr_any ?_ I.quiet hsw))
  refine wpAny_mono (hx pins s σ H _ _ I h) (fun v s1 ⟨y, H1, I1, r1, q1⟩ => ?_) fun ev s' ⟨H1, s1, I1, hq⟩ => lands_at hnc hex hst hfl hgc hmc hN hi hln hfn hs hdc I1 hq
  exact wpAny_execs_nil (wpAny_execs_nil ⟨σ, H1, I1, q1⟩)
end
theorem passN {X : Cx} : Passes (CXF X.prog X.w) X E0 := by
  rintro pins σ H s e' s' I ⟨_, _, _, _, _, _, _, _, _, _, _, _, h⟩
  exact h.elim
/-- what K shows of an own class of exceptions without an __init__ of its own -/
structure ExD (K : PySem.W.Frag) (C : Addr) (bm : List Value) : Prop where
  obj : ∃ (nm q : Str) (NS : Addr) (bs : List Value) (hdct : Bool) (sn : List Str) (sub : List Value) (ab : Bool) (col : Option Bool) (dd : Option Addr) (k0 k1 k2 k3 k5 : Option Value),
    K.lookup C = some (excClassObj nm q C NS bs bm hdct sn sub ab col dd k0 k1 k2 k3 k5 "ValueError.__new__") ∧
      ∀ h : Heap, K.In h → (∃ mN, h.Ns NS mN ∧ mN "__init__" = none) ∧ OwnTail h [.type "ValueError", .type "Exception", .type "BaseException", .type "object"] bm
theorem exc_of {K : PySem.W.Frag} {C : Addr} (q : PySem.W.excIn K C [.type "ValueError", .type "Exception", .type "BaseException", .type "object"] "ValueError.__new__" = true) : ∃ bm, ExD K C bm := by
  unfold PySem.W.excIn at q
  split at q
  · rename_i dd cd sl ho
    split at q
    · rename_i C2 bm k0 k1 k2 k3 nn k5 hm hs
      simp only [Bool.and_eq_true, beq_iff_eq, Bool.not_eq_true'] at q
      obtain ⟨⟨⟨⟨⟨e1, e2⟩, e3⟩, e4⟩, e5⟩, e6⟩ := q
      have hsl : sl = #[k0, k1, k2, k3, some (.builtin nn), k5] := by rw [← Array.toArray_toList (xs := sl), hs]
      cases cd with
      | mk a1 a2 a3 a4 a5 a6 a7 a8 a9 a10 a11 =>
        have hm : a3 = .ref C2 :: bm := hm
        have e3 : a11 = false := e3
        subst hsl e1 e2 e3 hm
        exact ⟨bm, ⟨a1, a5, a4, a2, a6, a7, a8, a9, a10, dd, k0, k1, k2, k3, k5, ho, fun h X => ⟨⟨_, .of_isNs (PySem.W.isNs_of_in X e5), PySem.W.nsMap_none_of_in X e5 e6⟩, PySem.W.tail_of_in X e4⟩⟩⟩
    · cases q
  · cases q
section
variable {P : Program} {w : World} {K : PySem.W.Frag} {mg : Str → Option Value} {base : Heap} {N : List Str} {qual : Str} {scope : Scope} {f : Addr} {cd : Value} {A : Around} {outer : List Env} {s₀ : Shared} {H₀ : Hp} {E' : XK}
/-- raise C(e) -/
theorem ps_raiseI {x : Str} {np cpos pos : Pos} {e : Expr} {te : TE} {C : Addr} (hx : PySem.W.excIn K C [.type "ValueError", .type "Exception", .type "BaseException", .type "object"] "ValueError.__new__" = true)
    (hm : PE (cxOf (CXF P w) P w K mg base N qual scope f cd A outer s₀ H₀ E') (.Name x np) (tC (.ref C))) (he : PE (cxOf (CXF P w) P w K mg base N qual scope f cd A outer s₀ H₀ E') e te)
    (hts : backTo cpos (starEach [e] (envOfC qual scope s₀.heap.objs.size f cd)) = [(false, eval e (envOfC qual scope s₀.heap.objs.size f cd))] := by rfl) :
    PS (cxOf (CXF P w) P w K mg base N qual scope f cd A outer s₀ H₀ E') (.Raise (some (.Call (.Name x np) [e] [] cpos)) none pos) (fun D σ H => te σ H fun v H1 => E' (.ref C) none H1) := by
  obtain ⟨bm, EC⟩ := exc_of hx
  intro pins s σ H D I h
  obtain ⟨nm, q, NS, bs, hdct, sn, sub, ab, col, dd, k0, k1, k2, k3, k5, lk, more⟩ := EC.obj
  obtain ⟨⟨mN, hN0, hni⟩, tl0⟩ := more base I.ok.mod.kin
  have hb : bm.contains (.type "BaseException") = true := tl0.hasType rfl
  have ev : ∀ (Q : VK), Q (.ref C) H → wpAny (model P w) _ (eval (.Name x np) _) (EP (cxOf (CXF P w) P w K mg base N qual scope f cd A outer s₀ H₀ E') pins σ Q) _ s := fun Q hq => hm pins s σ H Q I hq
  have hd : (cxOf (CXF P w) P w K mg base N qual scope f cd A outer s₀ H₀ E').A.handled = none := I.ok.hd rfl
  refine wpAny_Raise_call_subU (C := C) (nm := nm) (q := q) (N := NS) (bs := bs) (bm := bm) (hdct := hdct) (sn := sn) (sub := sub) (ab := ab) (col := col) (dd := dd) (k0 := k0) (k1 := k1) (k2 := k2) (k3 := k3) (k5 := k5) PySem.F.excBase_ValueError (by decide) PySem.F.excBase_ValueError (mN := mN) hb hd (by show ((backTo cpos (starEach [e] (envOfC qual scope s₀.heap.objs.size f cd))).any (·.1)) = false; rw [hts]; rfl) hni ?_
  refine thn (ev (fun v H1 => v = .ref C ∧ H1 = H) ⟨rfl, rfl⟩) fun u s1 ⟨v, H1, I1, r1, e1, e2⟩ => ?_
  subst e1 e2
  refine ⟨r1, ?_⟩
  show wpAny _ _ (evalArgs (.ref C) true (backTo cpos (starEach [e] (envOfC qual scope s₀.heap.objs.size f cd))) []) _ _ s1
  rw [hts]
  refine Calls.evalArgs_plain (Calls.spliced_cons (thn (he pins s1 σ _ _ I1 h) fun u2 s2 ⟨y, H2, I2, ry, q2⟩ => Calls.spliced_nil ?_))
  exact ⟨rfl, by show 1 ≤ sizeLine; decide, I2.kIn C _ lk, hN0.keeps I2.bk, tl0.keeps I2.bk, fun h' e' hx => leaveF I2 hx q2⟩
end
end L2
/-! MY OWN RULES, eighth part: .index of a tuple of texts. -/
namespace L2
open PySem PySem.Spec PyProof.Rows
open AutoSeq1 (wpAny_loadPart')
open MeetsSeq
theorem tuple_indexM (l : Addr) (items : Array Value) (n : Nat) (dd : Option Addr) (sl : Array (Option Value)) (x : Value) (e : Value → Bool) (he : ∀ y, y ∈ items → EqGives y x (e y)) (j : Nat) (hj : j < items.size)
    (hit : e items[j] = true) (hno : ∀ m (hm : m < items.size), m < j → e items[m] = false) :
    Meets (Builtin.«tuple.index» ⟨[.ref l, x], []⟩) (fun _ R s => s.heap.get? l = some { cls := .type "tuple", dict := dd, data := .seq items n, slots := sl } ∧ R (.ok (.ret (.int j s.toks))) { s with toks := s.toks + 1 }) :=
  .of_wp fun prog w A R s h => by
    obtain ⟨hp, g, d, tk, os⟩ := s; obtain ⟨hl, h⟩ := h
    wp_walk using wpAny_loadPart' hl
    change wpAny (model prog w) A.in1 (forIn [:min items.size items.size] ((none, ()) : Option Fin × Unit) _) _ _ _
    rw [Std.Legacy.Range.forIn_eq_forIn_range']
    simp only [Std.Legacy.Range.size, Nat.sub_zero, Nat.add_sub_cancel, Nat.div_one, Nat.min_self]
    refine wpAny_forIn_list _ (fun rest b s' => ∃ k, rest = List.range' k (items.size - k) 1 ∧ k ≤ j ∧ b.1 = none ∧ s' = (⟨hp, g, d, tk, os⟩ : Shared)) _ ?_ ?_ _ _ ⟨0, rfl, Nat.zero_le _, rfl, rfl⟩
    · rintro i rest b s' ⟨k, hk, hkj, hb, rfl⟩
      have hks : k < items.size := Nat.lt_of_le_of_lt hkj hj
      rw [show items.size - k = (items.size - (k + 1)) + 1 by omega, List.range'_succ] at hk
      injection hk with e1 e2
      subst e1 e2
      have hy : items[i]? = some items[i] := Array.getElem?_eq_getElem hks
      simp only [hy]
      refine wpAny_bind (he _ (Array.getElem_mem hks) prog w _ _ _ _ ?_)
      by_cases hij : i = j
      · subst hij
        rw [hit]
        wp_walk
        exact ⟨_, rfl, h⟩
      · rw [hno i hks (by omega)]
        wp_walk
        exact ⟨i + 1, rfl, by omega, rfl, rfl⟩
    · rintro b s' ⟨k, hk, hkj, _⟩
      have : items.size - k = 0 := by
        cases hn : items.size - k with
        | zero => rfl
        | succ m => rw [hn, List.range'_succ] at hk; cases hk
      omega
section
variable {X : Cx}
theorem strs_eq {ys : List Str} {its : List Value} (r : Vals (ys.map V.str) its) {i : Nat} {z : Str} (h : ys[i]? = some z) : ∃ t, its[i]? = some (.str z t) := by
  obtain ⟨u, hu, t, rfl⟩ := r.get (i := i) (x := .str z) (by rw [List.getElem?_map, h]; rfl)
  exact ⟨t, hu⟩
def strIs (z : Str) : Value → Bool
  | .str y _ => y == z
  | _ => false
theorem mt_tindex {K : PySem.W.Frag} (hK : X.K = K := by rfl) : MtR X "tuple.index" (fun x xs H Q => ∃ (p : Addr) (ys : List Str) (z : Str) (j : Nat), x = .ref p ∧ xs = [.str z] ∧ SqT K H p (ys.map V.str) ∧ ys[j]? = some z ∧ (∀ m, m < j → ys[m]? ≠ some z) ∧ Q (.int (j : Int)) H) := by
  subst hK
  intro pins s σ H x xs v us Q I rx rs h
  obtain ⟨p, ys, z, j, rfl, rfl, hq, hj, hno, q⟩ := h
  cases rx
  obtain ⟨u, rfl, t, rfl⟩ := vals1 rs
  obtain ⟨its, rv, ht, hz⟩ := I.tuple hq
  obtain ⟨⟨c, dd, dt, sl⟩, ho, hc, n, hd⟩ := ht
  have hc : c = .type "tuple" := hc
  have hd : dt = .seq its.toArray n := hd
  subst hc hd
  have hl := rv.length
  rw [List.length_map] at hl
  have hjl : j < ys.length := (List.getElem?_eq_some_iff.mp hj).1
  have he : ∀ y, y ∈ its.toArray → EqGives y (.str z t) (strIs z y) := fun y hy => by
    obtain ⟨i, hi, rfl⟩ := List.mem_iff_getElem.mp (by simpa using hy)
    obtain ⟨t', e'⟩ := strs_eq rv (List.getElem?_eq_getElem (by omega : i < ys.length))
    rw [List.getElem?_eq_getElem hi] at e'
    rw [Option.some.inj e']
    exact PyProof.Rows.eqGives_str _ _ _ _
  have at_ : ∀ m (hm : m < its.toArray.size), ∃ t', its.toArray[m] = .str (ys[m]'(by simp at hm; omega)) t' := fun m hm => by
    have hm' : m < ys.length := by simp at hm; omega
    obtain ⟨t', e'⟩ := strs_eq rv (List.getElem?_eq_getElem hm')
    refine ⟨t', ?_⟩
    have hm2 : m < its.length := by omega
    rw [List.getElem?_eq_getElem hm2] at e'
    simpa using Option.some.inj e'
  refine call_meets F.slot_tuple_index ⟨_, ho, rfl⟩ F.entry_tuple_index (F.args_tuple_index_2 _ _) (tuple_indexM p its.toArray n dd sl (.str z t) (strIs z) he j (by simp; omega) ?_ ?_) ⟨ho, ⟨.int (j : Int), H, I.tok _, ⟨_, rfl⟩, q⟩⟩
  · obtain ⟨t', e'⟩ := at_ j (by simp; omega)
    rw [e']
    rw [List.getElem?_eq_getElem hjl] at hj
    show (ys[j] == z) = true
    rw [Option.some.inj hj]
    exact beq_self_eq_true z
  · intro m hm hmj
    obtain ⟨t', e'⟩ := at_ m hm
    rw [e']
    show (ys[m] == z) = false
    have hne := hno m hmj
    rw [List.getElem?_eq_getElem (by omega : m < ys.length)] at hne
    exact beq_eq_false_iff_ne.mpr fun q => hne (congrArg some q)
end
theorem iteD {c A B : Prop} [Decidable c] (hc : c) (h : A) : if decide c = true then A else B := by rw [decide_eq_true hc]; exact iteT h
theorem iteDn {c A B : Prop} [Decidable c] (hc : ¬ c) (h : B) : if decide c = true then A else B := by rw [decide_eq_false hc]; exact iteF h
theorem iteNSn {c A B : Prop} [Decidable c] (hc : ¬ c) (h : A) : if (!decide c) = true then A else B := by rw [decide_eq_false hc]; exact iteT h
theorem iteE0 {b : Bool} {A B : Prop} (hb : b = false) (h : B) : if b = true then A else B := by rw [hb]; exact iteF h
theorem iteE1 {b : Bool} {A B : Prop} (hb : b = true) (h : A) : if b = true then A else B := by rw [hb]; exact iteT h
end L2
/-! MY OWN RULES, ninth part: isinstance of a caught exception. -/
namespace L2
open PySem PySem.Spec PyProof.Rows
/-- what K shows of an own class of exceptions, for isinstance -/
structure ExI (K : PySem.W.Frag) (C : Addr) : Prop where
  ga : PySem.W.findIn K (.ref C) "__getattribute__" = some (some (.builtin "BaseException.__getattribute__"))
  gt : PySem.W.findIn K (.ref C) "__getattr__" = some none
  ck : PySem.W.findIn K (.ref C) "__class__" = some (some (.builtin "object.__class__"))
  sb : PySem.W.subIn K (.ref C) (.type "BaseException") = some true
  so : PySem.W.subIn K (.ref C) (.type "object") = some true
  cl : (PySem.W.clsIn K C).isSome = true
section
variable {prog : Program} {w : World} {A : Around} {E : Value → Shared → Prop} {K : PySem.W.Frag} {h : Heap} {g : Array GenState} {d : Drawn} {t : Nat} {os : OsState} {a C : Addr} {o : Obj}
theorem exc_looks (hx : h.get? a = some o) (hc : o.cls = .ref C) : PySem.W.Looks (model prog w) h (typeOf (.ref a)) (.ref C) := by
  rw [← hc]
  exact (PySem.W.Looks.ld hx).andThen .now
theorem exc_class_get {R : Result → Shared → Prop} (X : ExI K C) (kin : K.In h) (hx : h.get? a = some o) (hc : o.cls = .ref C) (hq : R (.ok (.ret (.ref C))) ⟨h, g, d, t, os⟩) :
    codeAny (model prog w) A (.call (.builtin "getset_descriptor.__get__") ⟨[.builtin "object.__class__", .ref a, .ref C], []⟩) R ⟨h, g, d, t, os⟩ := by
  have gsT : (⟨h, g, d, t, os⟩ : Shared).TypeIs (.builtin "object.__class__") "getset_descriptor" := F.typeOf_object_class
  have LS : PySem.W.Looks (model prog w) h (isSubtype (.ref C) (.type (".".intercalate ("object.__class__".cutAt '.').dropLast))) true := by
    rw [F.owner_object_class]
    exact PySem.W.looks_subIn kin X.so
  refine codeAny_call_builtin F.slot_gs_get.plain F.entry_gs_get ?_
  refine F.slot_gs_get.check _ _ _ _ _ _ _ _ gsT (F.args_gs_get _ _ _) ?_
  repeat (any_goals (first | assumption | (with_reducible refine wpAny_loadPart_at hx ?_; rw [hc]) | with_reducible refine LS.at ?_ | wp_step))
  refine ⟨Code.quiet_builtin _ (by decide +kernel), codeAny_builtin F.entry_object_class ?_⟩
  repeat (any_goals (first | assumption | (with_reducible refine wpAny_loadPart_at hx ?_; rw [hc]) | wp_step))
theorem exc_class_entry {tk : Tok} {Q : Fin → Shared → Prop} (X : ExI K C) (kin : K.In h) (hx : h.get? a = some o) (hc : o.cls = .ref C) (hq : Q (.done (.ret (.ref C))) ⟨h, g, d, t, os⟩) :
    wpAny (model prog w) A (Builtin.«object.__getattribute__» ⟨[.ref a, .str "__class__" tk], []⟩) Q E ⟨h, g, d, t, os⟩ := by
  have gsT : (⟨h, g, d, t, os⟩ : Shared).TypeIs (.builtin "object.__class__") "getset_descriptor" := F.typeOf_object_class
  have y5 := F.typeOf_object_class
  have y6 := F.slot_gs_get.lookup
  have y7 := F.slot_gs_set.lookup
  have LC := PySem.W.looks_findIn (M := model prog w) kin X.ck
  repeat (any_goals (first | assumption | (with_reducible refine wpAny_loadPart_at hx ?_; rw [hc]) | with_reducible refine LC.at ?_ | wp_step))
  refine exc_class_get X kin hx hc ?_
  repeat (any_goals (first | assumption | wp_step))
theorem exc_check {M : Model} {nameV : Value} {Q : Unit → Shared → Prop} (X : ExI K C) (kin : K.In h) (hx : h.get? a = some o) (hc : o.cls = .ref C) (hq : Q () ⟨h, g, d, t, os⟩) :
    wpAny M A (checkBuiltinCall "BaseException.__getattribute__" ⟨[.ref a, nameV], []⟩) Q E ⟨h, g, d, t, os⟩ := by
  have k1 : builtinKind "BaseException.__getattribute__" = some .slot := by decide +kernel
  have k2 : splitId "BaseException.__getattribute__" = some ("BaseException", "__getattribute__") := by decide +kernel
  have LB : PySem.W.Looks M h (isSubtype (.ref C) (.type "BaseException")) true := PySem.W.looks_subIn kin X.sb
  have k3 := F.args_bexc_ga (.ref a) nameV
  simp only [checkBuiltinCall, k1, k2]
  refine wpAny_bind ?_
  unfold isInstance
  repeat (first | (with_reducible refine wpAny_loadPart_at hx ?_; rw [hc]) | with_reducible refine LB.at ?_ | wp_step)
  exact hq
theorem exc_class_by {tk : Tok} {Q : Value → Shared → Prop} (X : ExI K C) (kin : K.In h) (hx : h.get? a = some o) (hc : o.cls = .ref C) (hq : Q (.ref C) ⟨h, g, d, t, os⟩) :
    wpAny (model prog w) A (getAttrBy (.ref a) (.str "__class__" tk) false) Q E ⟨h, g, d, t, os⟩ := by
  have L0 : PySem.W.Looks (model prog w) h (typeOf (.ref a)) (.ref C) := exc_looks hx hc
  have L1 := PySem.W.looks_findIn (M := model prog w) kin X.ga
  have LH : PySem.W.Looks (model prog w) h (hookBefore (.ref C)) none := PySem.W.looks_hook kin (by rw [if_pos (show onTheHeap (Value.ref C) = true from rfl)]; exact X.gt)
  have f3 := F.attrBase_ValueError.ga.bind (.ref a)
  unfold getAttrBy
  refine wpAny_holding (wpAny_bind (L0.at (wpAny_bind (L1.at ?_))))
  show wpAny _ _ (getAttrByItsOwn (.ref a) (.str "__class__" tk) (.ref C) (.builtin "BaseException.__getattribute__") false false) _ _ _
  unfold getAttrByItsOwn
  refine wpAny_bind (LH.at (wpAny_bind (wpAny_attempt (wpAny_holding ?_))))
  show wpAny _ _ (boundAndCalled (.builtin "BaseException.__getattribute__") (.ref a) (.str "__class__" tk)) _ _ _
  unfold boundAndCalled
  rw [f3]
  refine wpAny_bind (wpAny_pure (wpAny_call ?_))
  refine codeAny_call_builtin F.attrBase_ValueError.ga.plain F.entry_bexc_ga (exc_check X kin hx hc (exc_class_entry X kin hx hc ?_))
  exact wpAny_pure hq
theorem kitx_exc (X : ExI K C) : PySem.W.KitX K (.ref a) (.ref C) (fun h => ∃ o, h.get? a = some o ∧ o.cls = .ref C) where
  ty := fun _ _ _ ⟨o, hx, hc⟩ => by
    rw [← hc]
    exact (PySem.W.Looks.ld hx).andThen .now
  it := fun M h kin _ => by
    obtain ⟨cd, hcd⟩ := Option.isSome_iff_exists.mp X.cl
    unfold PySem.W.clsIn at hcd
    split at hcd
    · rename_i ho
      intro A' Q' E' s' k q
      unfold isType loadHead
      exact wpAny_bind (wpAny_loadPart (k _ _ (kin _ _ ho)) (wpAny_pure q))
    · cases hcd
  ne := fun h tp dd its n sl kin htp => by
    obtain ⟨cd, hcd⟩ := Option.isSome_iff_exists.mp X.cl
    refine Bool.eq_false_iff.mpr fun q => ?_
    have e : C = tp := Value.ref.inj (beq_iff_eq.mp q)
    subst e
    unfold PySem.W.clsIn at hcd
    split at hcd
    · rename_i ho
      have z := (kin _ _ ho).symm.trans htp
      cases z
    · cases hcd
  ca := fun {prog w A E Q s} kin ⟨o, hx, hc⟩ k => by
    obtain ⟨h, g, d, t, os⟩ := s
    unfold getAttr? getAttrBy?
    repeat (any_goals (first | assumption | with_reducible apply exc_class_by X kin hx hc | wp_step))
end
section
variable {X : Cx}
/-- a class as a value -/
def clsOf : V → Option Value
  | .ref p => some (.ref p)
  | .ty n => some (.type n)
  | _ => none
theorem call_isExc {K : PySem.W.Frag} (hK : X.K = K := by rfl) : CallR X (.builtin "isinstance") (fun xs H Q => ∃ (e Ca : Addr) (c : V) (cv : Value) (b : Bool), xs = [.ref e, c] ∧ clsOf c = some cv ∧ H e = some (ExcO e (.ref Ca)) ∧ ExI K Ca ∧ PySem.W.kitOne K (.ref Ca) cv = some b ∧ Q (.bl b) H) := by
  subst hK
  intro pins s σ H xs us Q I r h
  obtain ⟨e, Ca, c, cv, b, rfl, rc, he, ex, hk, q⟩ := h
  obtain ⟨u, u2, rfl, ru, ru2⟩ := vals2 r
  cases ru
  have hcv : u2 = cv := by
    cases c with
    | ref p => exact (show u2 = Value.ref p from ru2).trans (Option.some.inj rc)
    | ty n => exact (show u2 = Value.type n from ru2).trans (Option.some.inj rc)
    | _ => cases rc
  subst hcv
  have hobj : ∃ o, s.heap.get? e = some o ∧ o.cls = .ref Ca := (I.hok e _ he).1
  exact PySem.W.kia_one (kitx_exc ex) I.kIn hobj hk (by intro z; cases z) fun tk => ⟨.bl b, H, I.tok tk, rfl, q⟩
end
theorem Same.updN {H H' : Hp} {b : Addr} {o : HO} (e : Same H H') (h : H b = none) : Same H (L2.upd H' b o) := fun c u q => by
  rw [upd_ne (ne_of_none q h)]
  exact e c u q
end L2
/-! MY OWN RULES, tenth part: try around statements that may raise, methods that may raise, isinstance of a caught exception and a tuple of classes. -/
namespace L2
open PySem PySem.Spec PyProof.Rows
section
variable {X : Cx} {k : Nat} {f C : Addr} {fd : FuncData} {ps : List Str} {sp : Sp} {m : Str} {apos pos : Pos} {e o : Expr} {es : List Expr} {t : TA} {ta te : TE}
/-- o.m(e, ..), which may raise -/
def tXMeth (C : Addr) (m : Str) (sp : Sp) (ta : TE) (t : TA) : TX := fun σ H Q E => ta σ H fun x H1 => ∃ a dx fs, x = .ref a ∧ H1 a = some (.ins C dx fs) ∧ fs.lookup m = none ∧ t σ H1 fun vs H2 => sp (x :: vs) H2 Q E
theorem pex_meth {pl : Sem Bool} (he : PE X.nox o ta) (c : Cls X.K C) (hm : Meth X.K C m f) (F : FnOk X.prog X.w X.K X.mg X.base (CXF X.prog X.w) k f fd ps sp) (hr : Room k X.A) (hb : Binds X.K fd ps []) (ha : PA X.nox (e :: es) t)
    (hst : starEach (e :: es) X.env = (false, eval e X.env) :: starEach es X.env := by rfl) (hpl : (backTo pos (starEach es X.env)).any (·.1) = false := by rfl)
    (ht : eval (.Call (.Attribute o m apos) (e :: es) [] pos) X.env = (do
      let ov ← eval o X.env
      standAt apos.atName
      let (f, first) ← holding [ov] (getMethod ov m pl)
      callWith pos f first (backTo pos (starEach (e :: es) X.env)) (backToKw pos (keywordEach [] X.env))) := by rfl) :
    PEX X (.Call (.Attribute o m apos) (e :: es) [] pos) (tXMeth C m sp ta t) := by
  intro pins s σ H Q E I h
  refine PySem.W.methodCall_KW (pl := pl) (wpAny_mono (he pins s σ H _ (I.wish _) h) (fun u s1 ⟨x, H1, I1w, rx, a, dx, fs, ex, ea, l, q⟩ => ?_) fun _ _ z => False.elim z) ht
  have I1 := I1w.unwish
  subst ex
  obtain rfl : u = Value.ref a := rx
  refine getmeth_ok I1 ea c hm l ?_
  refine PySem.W.callWith_K (first := [.ref a]) (h₀ := X.base) I.ok.mod.kin hm.kp (wpAny_mono (ha pos pins s1 σ H1 _ (I1.wish _) q) (fun us s2 ⟨vs, H2, I2w, r, q2⟩ => ⟨I2w.kIn, ?_⟩) fun _ _ z => False.elim z) hst hpl
  have I2 := I2w.unwish
  have r2 : Vals (V.ref a :: vs) (Value.ref a :: us) := .cons rfl r
  have hl : (Value.ref a :: us).length = ps.length := by rw [← r2.length]; exact F.len _ _ _ _ q2
  refine wpAny_call (codeAny_mono (F.run X.A X.stack s2 H2 ⟨Value.ref a :: us, []⟩ (Value.ref a :: us) (V.ref a :: vs) Q _ hr I2.env0 (by have := hb s2 (Value.ref a :: us) I2.kIn (by simpa using hl); simpa using this) r2 q2) fun rr s' hq => ?_)
  cases rr with
  | ok fl =>
    cases fl with
    | ret u => exact I2.after hq
    | next => exact False.elim hq
    | brk => exact False.elim hq
    | cont => exact False.elim hq
  | error ev => exact ⟨H2, s2, I2, hq⟩
/-! ### statements that may raise -/
abbrev TSX := Ends → (St → XK) → St → Hp → Prop
def PSX (X : Cx) (st : Stmt) (t : TSX) : Prop :=
  ∀ (pins : List (Addr × Obj)) (s : Shared) (σ : St) (H : Hp) (D : Ends) (E : St → XK), Inv X pins σ H s → t D E σ H →
    wpAny (model X.prog X.w) X.A (exec st X.env) (SP X pins D) (fun e' s' => ∃ σ1 H1 s1, Inv X pins σ1 H1 s1 ∧ CXF X.prog X.w X.stack H1 s1 (E σ1) e' s') s
def PSXs (X : Cx) (sts : List Stmt) (t : TSX) : Prop :=
  ∀ (pins : List (Addr × Obj)) (s : Shared) (σ : St) (H : Hp) (D : Ends) (E : St → XK), Inv X pins σ H s → t D E σ H →
    wpAny (model X.prog X.w) X.A (execs sts X.env) (SP X pins D) (fun e' s' => ∃ σ1 H1 s1, Inv X pins σ1 H1 s1 ∧ CXF X.prog X.w X.stack H1 s1 (E σ1) e' s') s
variable {st : Stmt} {sts a b : List Stmt} {c0 : Expr} {tx : TX} {u v : TSX} {tc : TT} {x : Str} {px : Pos} {i : Nat}
theorem psx_ret (h : PEX X e tx) : PSX X (.Return (some e) pos) (fun D E σ H => tx σ H D.rt (E σ)) := by
  intro pins s σ H D E I hq
  exact wpAny_Return_some (wpAny_mono (h pins s σ H _ _ I hq) (fun v s1 ⟨y, H1, I1, r1, q1⟩ => ⟨y, σ, H1, I1, r1, q1⟩) fun ev s' ⟨H1, s1, I1, z⟩ => ⟨σ, H1, s1, I1, z⟩)
theorem psx_expr (h : PEX X e tx) (hsw : swapsWith e none pos.line X.env = pure false := by rfl) : PSX X (.Expr e pos) (fun D E σ H => tx σ H (fun _ H1 => D.nx σ H1) (E σ)) := by
  intro pins s σ H D E I hq
  exact wpAny_Expr_any (wpAny_mono (h pins s σ H _ _ I hq) (fun v s1 ⟨y, H1, I1, r1, q1⟩ => ⟨σ, H1, I1, q1⟩) fun ev s' ⟨H1, s1, I1, z⟩ => ⟨σ, H1, s1, I1, z⟩) I.quiet hsw
theorem psx_set (hN : X.N.Nodup) (hi : X.N[i]? = some x) (hx : Loc X.env.scope x) (h : PEX X e tx) (hs : swapsWith e (some (.Name x px)) pos.line X.env = pure false := by rfl) (hf : X.fn x = true ∨ X.env.scope.names.lookup x = some .local := by first | exact .inl rfl | exact .inr rfl | assumption) :
    PSX X (.Assign [.Name x px] e pos) (fun D E σ H => tx σ H (fun v H1 => D.nx (σ.set i (some v)) H1) (E σ)) := by
  intro pins s σ H D E I hq
  refine wpAny_Assign_Name (wpAny_mono (h pins s σ H _ _ I hq) (fun v s1 ⟨y, H1, I1, r1, q1⟩ => ?_) fun ev s' ⟨H1, s1, I1, z⟩ => ⟨σ, H1, s1, I1, z⟩) hs
  exact store_ok I1 hN hi hx r1 (fun s2 I2 => ⟨_, H1, I2, q1⟩) hf
theorem psx_if (hc : PT X.nox c0 tc) (ha : PSXs X a u) (hb : PSXs X b v) : PSX X (.If c0 a b pos) (fun D E σ H => tc σ H fun d H1 => if d = true then u D E σ H1 else v D E σ H1) := by
  intro pins s σ H D E I h
  refine wpAny_If (wpAny_mono (hc pins s σ H _ (I.wish _) h) (fun d s1 ⟨H1, I1, q1⟩ => ?_) fun _ _ z => False.elim z)
  cases d with
  | true => exact ha pins s1 σ H1 D E I1.unwish q1
  | false => exact hb pins s1 σ H1 D E I1.unwish q1
theorem psxs_nil : PSXs X [] (fun D _ σ H => D.nx σ H) := fun _ _ σ H _ _ I h => wpAny_execs_nil ⟨σ, H, I, h⟩
theorem psxs_cons (h1 : PSX X st u) (h2 : PSXs X sts v) : PSXs X (st :: sts) (fun D E σ H => u { D with nx := v D E } E σ H) := by
  intro pins s σ H D E I h
  refine wpAny_execs_cons (thn (h1 pins s σ H { D with nx := v D E } E I h) fun f s1 q => ?_)
  cases f with
  | next =>
    obtain ⟨σ', H', I', q⟩ := q
    exact h2 pins s1 σ' H' D E I' q
  | ret v => exact q
  | brk => exact q
  | cont => exact q
variable {cn n : Str} {np hpos : Pos} {CF : Addr} {b₀ : Stmt} {suite : List Stmt} {th : Addr → TS}
/-- try: .. except C as n: .. -/
theorem ps_tryS (hnc : X.env.cells = []) (hex : X.ex = []) (hst : X.stack = X.env :: X.outer) (hfl : X.env.frame = some X.env.locals) (hx : PSXs X sts u)
    (hgc : Gl X cn) (hmc : X.mg cn = some (.ref CF)) (hN : X.N.Nodup) (hi : X.N[i]? = some n) (hln : X.env.kindOf n = some .local) (hfn : X.fn n = true ∨ X.env.scope.names.lookup n = some .local)
    (hs : ∀ e, PSs (X.caught e) (b₀ :: suite) (th e)) (hdc : (cn == ("__debug__" : Str)) = false := by decide) :
    PS X (.Try sts [.ExceptHandler (some (.Name cn np)) (some n) (b₀ :: suite) hpos] [] [] pos) (fun D σ H => u D (fun σ1 => xHand X.K CF i th D σ1) σ H) := by
  intro pins s σ H D I h
  refine wpAny_Try_except (wpAny_mono (hx pins s σ H D _ I h) (fun f s1 q => ?_) fun ev s' ⟨σ1, H1, s1, I1, hq⟩ => lands_at hnc hex hst hfl hgc hmc hN hi hln hfn hs hdc I1 hq)
  cases f with
  | next => exact wpAny_execs_nil q
  | ret v => exact q
  | brk => exact q
  | cont => exact q
end
section
variable {X : Cx}
theorem mt_never {id : String} : MtR X id (fun _ _ _ _ => False) := fun _ _ _ _ _ _ _ _ _ _ _ _ h => h.elim
/-- isinstance(e, (C, D, ..)) -/
theorem call_isExcT {K : PySem.W.Frag} (hK : X.K = K := by rfl) : CallR X (.builtin "isinstance") (fun xs H Q => ∃ (e Ca p : Addr) (cs : List V) (cvs : List Value) (b : Bool), xs = [.ref e, .ref p] ∧ H p = some (.tup cs) ∧ cs.mapM clsOf = some cvs ∧ H e = some (ExcO e (.ref Ca)) ∧ ExI K Ca ∧ PySem.W.kitAny K (.ref Ca) cvs = some b ∧ Q (.bl b) H) := by
  subst hK
  intro pins s σ H xs us Q I r h
  obtain ⟨e, Ca, p, cs, cvs, b, rfl, ep, hcs, he, ex, hk, q⟩ := h
  obtain ⟨u, u2, rfl, ru, ru2⟩ := vals2 r
  cases ru
  cases ru2
  have hobj : ∃ o, s.heap.get? e = some o ∧ o.cls = .ref Ca := (I.hok e _ he).1
  obtain ⟨its, rv, ht, hz⟩ := I.tuple (SqT.of ep)
  obtain ⟨⟨c, dd, dt, sl⟩, ho, hc, n, hd⟩ := ht
  have hc : c = .type "tuple" := hc
  have hd : dt = .seq its.toArray n := hd
  subst hc hd
  have hall : ∀ {cs : List V} {cvs its : List Value}, cs.mapM clsOf = some cvs → Vals cs its → its = cvs := by
    intro cs
    induction cs with
    | nil => intro cvs its h1 h2; cases h2; simpa using h1.symm
    | cons c r ih =>
      intro cvs its h1 h2
      cases h2 with
      | cons ha hb =>
        rename_i y ys
        rw [List.mapM_cons] at h1
        cases hcl : clsOf c with
        | none => rw [hcl] at h1; cases h1
        | some z =>
          rw [hcl] at h1
          cases hr : r.mapM clsOf with
          | none => rw [hr] at h1; cases h1
          | some zs =>
            rw [hr] at h1
            have h1 : z :: zs = cvs := Option.some.inj h1
            rw [← h1, ih hr hb]
            congr 1
            cases c with
            | ref p => exact (show y = Value.ref p from ha).trans (Option.some.inj hcl)
            | ty n => exact (show y = Value.type n from ha).trans (Option.some.inj hcl)
            | _ => cases hcl
  have e2 := hall hcs rv
  subst e2
  exact PySem.W.kia_tup (kitx_exc ex) I.kIn hobj ho hk (by intro z; cases z) fun tk => ⟨.bl b, H, I.tok tk, rfl, q⟩
end
end L2
/-! MY OWN RULES, eleventh: text.split(sep), str(text), join and split by one sign -/
namespace L2
open PySem Builtin Builtin.Str
section
variable {X : Cx}
theorem strs_vals : ∀ (l : List (Str × Tok)), Vals ((l.map (·.1)).map V.str) (strValues l)
  | [] => .nil
  | (z, t) :: r => .cons ⟨t, rfl⟩ (strs_vals r)
/-! ### text.split(sep) -/
theorem mt_split {K : PySem.W.Frag} (hK : X.K = K := by rfl) : MtR X "str.split" (fun x xs H Q => ∃ z y : Str, x = .str z ∧ xs = [.str y] ∧ 0 < y.length ∧ z.length + 2 ≤ sizeLine ∧ ∀ l, H l = none → Q (.ref l) (upd H l (.lst ((Txt.split z y).map V.str)))) := by
  subst hK
  intro pins s σ H x xs v us Q I rx rs h
  obtain ⟨z, y, rfl, rfl, hy, hz, q⟩ := h
  obtain ⟨t, rfl⟩ := rx
  obtain ⟨u, rfl, t2, rfl⟩ := vals1 rs
  have hy' : (y.length == 0) = false := beq_eq_false_iff_ne.mpr (by omega)
  have fin : ∀ (l : List (Str × Tok)) (k : Nat), l.map (·.1) = Txt.split z y → l.length ≤ sizeLine → EP X pins σ Q (.ref s.heap.objs.size) { s with heap := s.heap.push { cls := .type "list", data := .seq (strValues l).toArray }, toks := k } := fun l k e hl =>
    ⟨.ref s.heap.objs.size, _, I.laid (t' := k) (fun b o' hb => Heap.get?_push_of_some _ hb) (Nat.le_refl _) (show ObjOk X.prog X.w _ _ _ (.lst ((Txt.split z y).map V.str)) from ⟨by rw [← e]; simpa using hl, strValues l, 0, by rw [← e]; exact strs_vals l, Heap.get?_push_size _ rfl⟩), rfl, q _ (I.hok.fresh (Nat.le_refl _))⟩
  cases h1 : (decide (z.length < y.length) || decide (strKind z < strKind y))
  · cases hf : (occurrences z y 0 z.length (z.length + 1)).isEmpty
    · have es : Txt.split z y = partsBetween z (occurrences z y 0 z.length (z.length + 1)) y.length := (if_neg (ne_true_of_eq_false h1)).trans (if_neg (ne_true_of_eq_false hf))
      have hn : (partsBetween z (occurrences z y 0 z.length (z.length + 1)) y.length).length ≤ sizeLine := by rw [← es]; exact Nat.le_trans (PyProof.Rows.split_le z y) hz
      refine call_meets F.slot_str_split (typeIs_str _ _ _) F.entry_str_split (F.args_str_split_2 _ _) (meets_str_split_sep z y t t2 h1 hy' hf (by omega) hn) ?_
      show wants _ _ _ { s with toks := _, heap := s.heap.push { cls := .type "list", data := .seq (strsFrom s.toks (partsBetween z (occurrences z y 0 z.length (z.length + 1)) y.length)).toArray } }
      rw [strsFrom_eq]
      exact fin (numbered s.toks _) _ ((numbered_texts _ _).trans ((if_neg (ne_true_of_eq_false h1)).trans (if_neg (ne_true_of_eq_false hf))).symm) (by have := congrArg List.length (numbered_texts s.toks (partsBetween z (occurrences z y 0 z.length (z.length + 1)) y.length)); rw [List.length_map] at this; omega)
    · exact call_meets F.slot_str_split (typeIs_str _ _ _) F.entry_str_split (F.args_str_split_2 _ _) (meets_str_split_not_found z y t t2 h1 hy' hf)
        (fin [(z, t)] s.toks ((if_neg (ne_true_of_eq_false h1)).trans (if_pos hf)).symm (show 1 ≤ sizeLine by decide))
  · exact call_meets F.slot_str_split (typeIs_str _ _ _) F.entry_str_split (F.args_str_split_2 _ _) (meets_str_split_cannot_occur z y t t2 h1)
      (fin [(z, t)] s.toks (if_pos h1).symm (show 1 ≤ sizeLine by decide))
/-! ### str(a text) -/
theorem call_str_str : CallR X (.type "str") (fun xs H Q => ∃ z, xs = [.str z] ∧ Q (.str z) H) := by
  intro pins s σ H xs us Q I r h
  obtain ⟨z, rfl, q⟩ := h
  obtain ⟨u, rfl, t, rfl⟩ := vals1 r
  exact PySem.P.str_of_str ⟨.str _, H, I, ⟨_, rfl⟩, q⟩
theorem call_str_any : CallR X (.type "str") (fun xs H Q => (∃ i, xs = [.int i] ∧ i.natAbs.log2 < 1920 ∧ Q (.str (toString i)) H) ∨ (∃ z, xs = [.str z] ∧ Q (.str z) H)) := by
  intro pins s σ H xs us Q I r h
  rcases h with h | h
  · exact call_str_int pins s σ H xs us Q I r h
  · exact call_str_str pins s σ H xs us Q I r h
end
/-! ### join and split by one sign -/
theorem jn_cons (c : Nat) (a b : Str) (r : List Str) : (Str.join ⟨#[c]⟩ (a :: b :: r)).cps.toList = a.cps.toList ++ c :: (Str.join ⟨#[c]⟩ (b :: r)).cps.toList := by
  show (a ++ ⟨#[c]⟩ ++ Str.join ⟨#[c]⟩ (b :: r)).cps.toList = _
  show ((a.cps ++ #[c]) ++ (Str.join ⟨#[c]⟩ (b :: r)).cps).toList = _
  simp
theorem cut_once {c : Nat} : ∀ {a b x y : List Nat}, c ∉ a → c ∉ b → a ++ c :: x = b ++ c :: y → a = b ∧ x = y
  | [], [], x, y, _, _, e => ⟨rfl, (List.cons.inj e).2⟩
  | [], b0 :: b, x, y, _, hb, e => absurd ((List.cons.inj e).1 ▸ List.mem_cons_self) hb
  | a0 :: a, [], x, y, ha, _, e => absurd ((List.cons.inj e).1.symm ▸ List.mem_cons_self) ha
  | a0 :: a, b0 :: b, x, y, ha, hb, e => by
    obtain ⟨e1, e2⟩ := List.cons.inj e
    obtain ⟨r1, r2⟩ := cut_once (fun h => ha (List.mem_cons_of_mem _ h)) (fun h => hb (List.mem_cons_of_mem _ h)) e2
    exact ⟨by rw [e1, r1], r2⟩
theorem str_ext {a b : Str} (h : a.cps.toList = b.cps.toList) : a = b := by
  cases a; cases b
  congr 1
  exact Array.toList_inj.mp h
theorem join_inj {c : Nat} : ∀ {as bs : List Str}, as ≠ [] → bs ≠ [] → (∀ p ∈ as, c ∉ p.cps.toList) → (∀ p ∈ bs, c ∉ p.cps.toList) → Str.join ⟨#[c]⟩ as = Str.join ⟨#[c]⟩ bs → as = bs
  | [], _, h, _, _, _, _ => absurd rfl h
  | _ :: _, [], _, h, _, _, _ => absurd rfl h
  | [a], [b], _, _, _, _, e => by
    have e : a = b := e
    rw [e]
  | [a], b :: b2 :: r, _, _, ha, _, e => by
    have e : a = Str.join ⟨#[c]⟩ (b :: b2 :: r) := e
    refine absurd ?_ (ha a List.mem_cons_self)
    rw [e, jn_cons]
    exact List.mem_append_right _ List.mem_cons_self
  | a :: a2 :: r, [b], _, _, _, hb, e => by
    have e : Str.join ⟨#[c]⟩ (a :: a2 :: r) = b := e
    refine absurd ?_ (hb b List.mem_cons_self)
    rw [← e, jn_cons]
    exact List.mem_append_right _ List.mem_cons_self
  | a :: a2 :: r, b :: b2 :: r', _, _, ha, hb, e => by
    have e := congrArg (fun z : Str => z.cps.toList) e
    simp only [jn_cons] at e
    obtain ⟨e1, e2⟩ := cut_once (ha a List.mem_cons_self) (hb b List.mem_cons_self) e
    have e3 := join_inj (as := a2 :: r) (bs := b2 :: r') (by simp) (by simp) (fun p hp => ha p (List.mem_cons_of_mem _ hp)) (fun p hp => hb p (List.mem_cons_of_mem _ hp)) (str_ext e2)
    rw [str_ext e1, e3]
theorem split_ne (x : Str) (c : Nat) : Txt.split x ⟨#[c]⟩ ≠ [] := fun e => by
  have h := StrLaws.join_split x ⟨#[c]⟩
  rw [e] at h
  have h : (⟨#[]⟩ : Str) = x := h
  rw [← h] at e
  have e2 : Txt.split ⟨#[]⟩ ⟨#[c]⟩ = [⟨#[]⟩] := if_pos (by rw [Bool.or_eq_true]; exact .inl rfl)
  rw [e2] at e
  cases e
theorem split_join {c : Nat} {zs : List Str} (hn : zs ≠ []) (h : ∀ p ∈ zs, c ∉ p.cps.toList) : Txt.split (Txt.join ⟨#[c]⟩ zs) ⟨#[c]⟩ = zs := by
  refine join_inj (split_ne _ _) hn (StrLaws.split_free _ _) h ?_
  rw [StrLaws.join_split]
  exact eq_of_beq (PyProof.Rows.join_plain_closes _ _)
end L2
/-! MY OWN RULES, twelfth part: list(a dict), .index of a list of texts. -/
namespace L2
open PySem PySem.Spec PyProof.Rows
open MeetsSeq
section
variable {X : Cx}
theorem pair_get {α β : Type} {F : α → β → Prop} : ∀ {l₁ : List α} {l₂ : List β}, Paired F l₁ l₂ → ∀ {i : Nat} {a : α} {b : β}, l₁[i]? = some a → l₂[i]? = some b → F a b
  | _, _, .nil, i, a, b, h, _ => by simp at h
  | _, _, .cons h _, 0, a, b, h1, h2 => by
    have e1 := Option.some.inj h1
    have e2 := Option.some.inj h2
    subst e1 e2
    exact h
  | _, _, .cons _ r, i + 1, a, b, h1, h2 => pair_get r (i := i) (by simpa using h1) (by simpa using h2)
theorem key_val {k : Key} {v : Value} (h : keyIs k v = true) : RelV (kV k) v := by
  rcases keyIs_shape h with ⟨i, t, rfl, rfl⟩ | ⟨x, t, rfl, rfl⟩
  · exact ⟨t, rfl⟩
  · exact ⟨t, rfl⟩
theorem keys_vals {kvs : List (Key × V)} {vs : List (Key × Value)} {acc : List Value} (rel : KV kvs vs) (hl : acc.length = vs.length) (h : ∀ (j : Nat) (v : Value), acc[j]? = some v → ∃ (k : Key) (x : Value), vs[j]? = some (k, x) ∧ keyIs k v = true) : Vals (kvs.map fun p => kV p.1) acc := by
  refine paired_of_get ?_ ?_
  · rw [List.length_map, hl]; exact Paired.length rel
  · intro i a b ha hb
    obtain ⟨k, x, hv, hk⟩ := h i b hb
    rw [List.getElem?_map] at ha
    obtain ⟨p, hp, rfl⟩ := Option.map_eq_some_iff.mp ha
    have q := pair_get rel hp hv
    rw [q.1]
    exact key_val hk
theorem call_listD {K : PySem.W.Frag} (hc : X.calm = true) : CallR X (.type "list") (fun xs H Q => ∃ (a : Addr) (kvs : List (Key × V)), xs = [.ref a] ∧ H a = some (.dK kvs) ∧ ∀ l, H l = none → Q (.ref l) (upd H l (.lst (kvs.map fun p => kV p.1)))) := by
  intro pins s σ H xs us Q I r h
  obtain ⟨a, kvs, rfl, e, q⟩ := h
  obtain ⟨u, rfl, rx⟩ := vals1 r
  cases rx
  obtain ⟨z, lo, vs, rel, dd⟩ := dk_of I.hok e
  obtain ⟨ep, hat⟩ := dd.dictAt
  have hlen : kvs.length = vs.length := Paired.length rel
  refine PySem.W.kdl_call (PySem.W.kdl_dict (knd := mixKind X.prog X.w) (kvs := vs) (ep := ep) lo) (I.ok.hd hc) hat (by omega) fun h' tk acc c' kp e' it => ?_
  refine ⟨.ref s.heap.objs.size, _, I.laid (t' := tk) kp (Nat.le_refl _) (show ObjOk X.prog X.w _ h' _ (.lst (kvs.map fun p => kV p.1)) from ⟨by rw [List.length_map]; exact z, acc.toList, c', ?_, by simpa using e'⟩), rfl, q _ (I.hok.fresh (Nat.le_refl _))⟩
  exact keys_vals rel (by rw [Array.length_toList]; exact it.1) fun j v hv => it.2 j v (by rw [← Array.getElem?_toList]; exact hv)
theorem mt_lindex {K : PySem.W.Frag} (hK : X.K = K := by rfl) : MtR X "list.index" (fun x xs H Q => ∃ (p : Addr) (ys : List Str) (z : Str) (j : Nat), x = .ref p ∧ xs = [.str z] ∧ SqL K H p (ys.map V.str) ∧ ys[j]? = some z ∧ (∀ m, m < j → ys[m]? ≠ some z) ∧ Q (.int (j : Int)) H) := by
  subst hK
  intro pins s σ H x xs v us Q I rx rs h
  obtain ⟨p, ys, z, j, rfl, rfl, hq, hj, hno, q⟩ := h
  cases rx
  obtain ⟨u, rfl, t, rfl⟩ := vals1 rs
  obtain ⟨its, rv, pl, hz⟩ := I.list hq
  obtain ⟨⟨c, dd, dt, sl⟩, ho, hc, n, hd⟩ := pl.isList
  have hc : c = .type "list" := hc
  have hd : dt = .seq its.toArray n := hd
  subst hc hd
  have hl := rv.length
  rw [List.length_map] at hl
  have hjl : j < ys.length := (List.getElem?_eq_some_iff.mp hj).1
  have he : ∀ y, y ∈ its.toArray → EqGives y (.str z t) (strIs z y) := fun y hy => by
    obtain ⟨i, hi, rfl⟩ := List.mem_iff_getElem.mp (by simpa using hy)
    obtain ⟨t', e'⟩ := strs_eq rv (List.getElem?_eq_getElem (by omega : i < ys.length))
    rw [List.getElem?_eq_getElem hi] at e'
    rw [Option.some.inj e']
    exact PyProof.Rows.eqGives_str _ _ _ _
  have at_ : ∀ m (hm : m < its.toArray.size), ∃ t', its.toArray[m] = .str (ys[m]'(by simp at hm; omega)) t' := fun m hm => by
    have hm' : m < ys.length := by simp at hm; omega
    obtain ⟨t', e'⟩ := strs_eq rv (List.getElem?_eq_getElem hm')
    refine ⟨t', ?_⟩
    have hm2 : m < its.length := by omega
    rw [List.getElem?_eq_getElem hm2] at e'
    simpa using Option.some.inj e'
  have sz : sizeLine = 16777216 := sizeLine_eq
  refine call_meets F.slot_list_index ⟨_, ho, rfl⟩ F.entry_list_index (F.args_list_index_2 _ _) (SeqAt.list_indexAt p its.toArray n dd sl (.str z t) (strIs z) j (by simp; omega) (by rw [List.length_map] at hz; omega) ?_ ?_) ?_
  · obtain ⟨t', e'⟩ := at_ j (by simp; omega)
    rw [e']
    rw [List.getElem?_eq_getElem hjl] at hj
    show (ys[j] == z) = true
    rw [Option.some.inj hj]
    exact beq_self_eq_true z
  · intro m hm hmj
    obtain ⟨t', e'⟩ := at_ m hm
    rw [e']
    show (ys[m] == z) = false
    have hne := hno m hmj
    rw [List.getElem?_eq_getElem (by omega : m < ys.length)] at hne
    exact beq_eq_false_iff_ne.mpr fun q => hne (congrArg some q)
  · exact ⟨ho, fun y hy => (he y hy).at _ _, ⟨.int (j : Int), H, I.tok _, ⟨_, rfl⟩, q⟩⟩
/-- y = [.. for a, b in ..] on one row -/
theorem ps_setC2 {i : Nat} {y : Str} {iter elt : Expr} {ifs : List Expr} {scope osc : Scope} {wi : TI} {tt : TT} {te : TE} {x x2 : Str} {px px2 tpos py pos spos : Pos} {kk} (fr : List (Str × Nat))
    (hN : X.N.Nodup) (hiy : X.N[i]? = some y) (hxy : Loc X.env.scope y)
    (hc : X.calm = true) (hi : PI X (.Tuple [.Name x px, .Name x2 px2] kk tpos) iter wi) (ho : X.env.scope = osc)
    (hk : scope.kind = .function) (hcell : ∀ y ∈ scope.names, y.2 ≠ .cell) (hnames : ∀ y ∈ scope.names, y.2 = .local → scope.names.lookup y.1 = some .local)
    (hfree : ∀ y ∈ scope.names, y.2 = .free → osc.names.lookup y.1 = some .cell ∨ osc.names.lookup y.1 = some .free) (hfr : FrOk X scope fr)
    (hx : scope.names.lookup x = some .local) (hx2 : scope.names.lookup x2 = some .local) (hnd : (x :: x2 :: fr.map (·.1)).Nodup)
    (ht : ∀ C s H ex, PTs (cxComp X scope (x :: x2 :: fr.map (·.1)) C s H ex) ifs tt)
    (he : ∀ C s H ex, PE (cxComp X scope (x :: x2 :: fr.map (·.1)) C s H ex) elt te)
    (hsw : swapsWith (.ListComp elt [⟨.Tuple [.Name x px, .Name x2 px2] kk tpos, iter, ifs, 0⟩] scope pos) (some (.Name y py)) spos.line X.env = pure true := by rfl)
    (hf : X.fn y = true ∨ X.env.scope.names.lookup y = some .local := by first | exact .inl rfl | exact .inr rfl | assumption)
    (hs : ∀ x, foldedSetIterable iter X.env x = pure x := by intro _; rfl) :
    PS X (.Assign [.Name y py] (.ListComp elt [⟨.Tuple [.Name x px, .Name x2 px2] kk tpos, iter, ifs, 0⟩] scope pos) spos) (tAsg (tComp 2 (fr.map (·.2)) wi (gTup X.K 2 (gCons (gName 0) (gCons (gName 1) gNil))) tt te) (gName i)) :=
  ps_compU (own := [x, x2]) hN hiy hxy hf hc hi hk hcell hnames (fun y hy e => by show X.env.scope.names.lookup y.1 = _ ∨ X.env.scope.names.lookup y.1 = _; rw [ho]; exact hfree y hy e) hfr
    (fun C s H ex => pg_tup (show (cxComp X scope (x :: x2 :: fr.map (fun p : Str × Nat => p.1)) C s H ex).calm = true from hc) (pgs_cons (pg_name (i := 0) hnd rfl (.inl (lookup_relabel_local hx)) (.inr (lookup_relabel_local hx))) (pgs_cons (pg_name (i := 1) hnd rfl (.inl (lookup_relabel_local hx2)) (.inr (lookup_relabel_local hx2))) pgs_nil))) ht he hsw hs
end
end L2
/-! MY OWN RULES, thirteenth part: l[i] = v of a list, .index of a list of ints. -/
namespace L2
open PySem
section
variable {prog : Program} {w : World} {A : Around} {E : Value → Shared → Prop} {s : Shared}
set_option maxRecDepth 512 in
theorem set_at {b : Addr} {its : Array Value} {n : Nat} {i : Int} {tk : Tok} {y : Value} {Q : Unit → Shared → Prop} (e : s.heap.get? b = some { cls := .type "list", data := .seq its n }) (i0 : 0 ≤ i) (i1 : i < 2 ^ 63) (i2 : i < its.size)
    (q : Q () { s with heap := s.heap.update b (Obj.mapSeq (·.setIfInBounds i.toNat y)) }) : wpAny (model prog w) A (setItem (.ref b) (.int i tk) y) Q E s := by
  have il : s.heap.IsList b its := ⟨_, e, rfl, n, rfl⟩
  unfold setItem; try (with_reducible refine wpAny_holding ?_); first | (refine wpAny_bind (wpAny_pure ?_)) | skip
  refine wpAny_bind (wpAny_sequenceKey il.typeIs (by decide) ?_); refine wpAny_bind (wpAny_callSpecial?_slot (name := Str.ofString "__setitem__") il.typeIs slot_list_setitem (wpAny_call_entry slot_list_setitem il.typeIs entry_list_setitem ?_ (args_list_setitem _ _ _)))
  show wpAny _ _ (Builtin.List.listSubscript? (.int i tk) >>= _) _ _ s; refine wpAny_bind (wpAny_listSubscript_int (fitsIndex_of i0 i1) ?_)
  clear i1
  obtain ⟨m, rfl⟩ := Int.eq_ofNat_of_zero_le i0
  have hm : m < its.size := by omega
  have hit : its[m]? = some its[m] := Array.getElem?_eq_getElem hm
  show wpAny _ _ ((seqItemAt b m >>= fun r => pure (r.map (m, ·))) >>= _) _ _ s; refine wpAny_bind (wpAny_bind (wpAny_seqItemAt e rfl (wpAny_pure ?_)))
  rw [hit]
  show wpAny _ _ (setSeqItemAt b m y >>= _) _ _ s; refine wpAny_bind (wpAny_setSeqItemAt e rfl ?_)
  first | (exact wpAny_bind (wpAny_pure (wpAny_pure ⟨.none, rfl, wpAny_pure q⟩))) | (exact wpAny_pure ⟨.none, rfl, wpAny_pure q⟩)
end
end L2
set_option maxRecDepth 100000
namespace L2
open PySem PySem.Spec PyProof.Rows
open MeetsSeq
section
variable {X : Cx} {o i value : Expr} {pos pos' : Pos} {td ty tv : TE}
/-- o[i] = v, o a list -/
def sLPut (td ty tv : TE) : TS := fun D σ H => tv σ H fun v H1 => td σ H1 fun x H2 => ty σ H2 fun y H3 => ∃ (l : Addr) (xs : List V) (j : Nat), x = .ref l ∧ y = .int (j : Int) ∧ H3 l = some (.lst xs) ∧ j < xs.length ∧ D.nx σ (upd H3 l (.lst (xs.set j v)))
theorem vals_set {x : V} {u : Value} (r : RelV x u) : ∀ {xs : List V} {us : List Value}, Vals xs us → ∀ j, Vals (xs.set j x) (us.set j u)
  | _, _, .nil, _ => .nil
  | _, _, .cons a b, 0 => .cons r b
  | _, _, .cons a b, j + 1 => .cons a (vals_set r b j)
theorem ps_lput (ho : PE X o td) (hi : PE X i ty) (hv : PE X value tv) (hs : swapsWith value (some (.Subscript o i pos')) pos.line X.env = pure false) :
    PS X (.Assign [.Subscript o i pos'] value pos) (sLPut td ty tv) := by
  intro pins s σ H D I h
  refine wpAny_Assign_Subscript (thn (hv pins s σ H _ I h) fun r s1 ⟨v, H1, I1, rv, q1⟩ => thn (ho pins s1 σ H1 _ I1 q1) fun u s2 ⟨x, H2, I2, rx, q2⟩ => thn (hi pins s2 σ H2 _ I2 q2) fun iv s3 ⟨y, H3, I3, ry, l, xs, j, ex, ey, e, hj, q3⟩ => ?_) hs
  subst ex ey
  obtain rfl : u = Value.ref l := rx
  obtain ⟨t, rfl⟩ := ry
  obtain ⟨z, its, n, rs, hl, e'⟩ := I3.lstM e
  have len := rs.length
  have sz : sizeLine = 16777216 := sizeLine_eq
  refine set_at e' (by omega) (by omega) (by rw [List.size_toArray]; omega) ?_
  exact ⟨σ, _, I3.lset (its' := its.set j r) (t' := s3.toks) e e' (by simp) (vals_set rv rs j) (by rw [List.length_set]; omega), q3⟩
theorem ints_eq {ys : List Int} {its : List Value} (r : Vals (ys.map V.int) its) {i : Nat} {z : Int} (h : ys[i]? = some z) : ∃ t, its[i]? = some (.int z t) := by
  have hi := (List.getElem?_eq_some_iff.mp h).1
  have hl := r.length
  rw [List.length_map] at hl
  have q := pair_get r (i := i) (a := V.int z) (b := its[i]) (by rw [List.getElem?_map, h]; rfl) (List.getElem?_eq_getElem (by omega))
  obtain ⟨t, e⟩ := q
  exact ⟨t, by rw [List.getElem?_eq_getElem (by omega), e]⟩
def intIs (z : Int) : Value → Bool
  | .int y _ => y == z
  | _ => false
theorem mt_lindexI {K : PySem.W.Frag} (hK : X.K = K := by rfl) : MtR X "list.index" (fun x xs H Q => ∃ (p : Addr) (ys : List Int) (z : Int) (j : Nat), x = .ref p ∧ xs = [.int z] ∧ SqL K H p (ys.map V.int) ∧ ys[j]? = some z ∧ (∀ m, m < j → ys[m]? ≠ some z) ∧ Q (.int (j : Int)) H) := by
  subst hK
  intro pins s σ H x xs v us Q I rx rs h
  obtain ⟨p, ys, z, j, rfl, rfl, hq, hj, hno, q⟩ := h
  cases rx
  obtain ⟨u, rfl, t, rfl⟩ := vals1 rs
  obtain ⟨its, rv, pl, hz⟩ := I.list hq
  obtain ⟨⟨c, dd, dt, sl⟩, ho, hc, n, hd⟩ := pl.isList
  have hc : c = .type "list" := hc
  have hd : dt = .seq its.toArray n := hd
  subst hc hd
  have hl := rv.length
  rw [List.length_map] at hl
  have hjl : j < ys.length := (List.getElem?_eq_some_iff.mp hj).1
  have at_ : ∀ m (hm : m < its.toArray.size), ∃ t', its.toArray[m] = .int (ys[m]'(by simp at hm; omega)) t' := fun m hm => by
    have hm' : m < ys.length := by simp at hm; omega
    obtain ⟨t', e'⟩ := ints_eq rv (List.getElem?_eq_getElem hm')
    refine ⟨t', ?_⟩
    have hm2 : m < its.length := by omega
    rw [List.getElem?_eq_getElem hm2] at e'
    simpa using Option.some.inj e'
  have he : ∀ y, y ∈ its.toArray → EqGives y (.int z t) (intIs z y) := fun y hy => by
    obtain ⟨i, hi, rfl⟩ := List.mem_iff_getElem.mp (by simpa using hy)
    obtain ⟨t', e'⟩ := at_ i (by simpa using hi)
    have e' : its[i] = .int (ys[i]'(by omega)) t' := by simpa using e'
    rw [e']
    exact EqGives.int _ _ _ _
  have sz : sizeLine = 16777216 := sizeLine_eq
  refine call_meets F.slot_list_index ⟨_, ho, rfl⟩ F.entry_list_index (F.args_list_index_2 _ _) (SeqAt.list_indexAt p its.toArray n dd sl (.int z t) (intIs z) j (by simp; omega) (by rw [List.length_map] at hz; omega) ?_ ?_) ?_
  · obtain ⟨t', e'⟩ := at_ j (by simp; omega)
    rw [e']
    rw [List.getElem?_eq_getElem hjl] at hj
    show (ys[j] == z) = true
    rw [Option.some.inj hj]
    exact beq_self_eq_true z
  · intro m hm hmj
    obtain ⟨t', e'⟩ := at_ m hm
    rw [e']
    show (ys[m] == z) = false
    have hne := hno m hmj
    rw [List.getElem?_eq_getElem (by omega : m < ys.length)] at hne
    exact beq_eq_false_iff_ne.mpr fun q => hne (congrArg some q)
  · exact ⟨ho, fun y hy => (he y hy).at _ _, ⟨.int (j : Int), H, I.tok _, ⟨_, rfl⟩, q⟩⟩
end
end L2
set_option maxHeartbeats 4000000
namespace K24
open PySem L2
seal PE PT PW PA PS PSs PG PGs PI PTs PC PO OpR UnR CallR TruR IxR SlR
def top (i : Nat) : Stmt := PySem.Challenge.pw_brooktally_k24_the_shelf.main.body.getD i (.Pass ⟨0, 0, 0, 0⟩)
abbrev s_u_wall : Stmt := top 0
abbrev s_is_whole : Stmt := top 8
abbrev s_is_among : Stmt := top 9
abbrev s_is_time : Stmt := top 10
abbrev s_is_made_of : Stmt := top 11
abbrev s_figures_of : Stmt := top 12
abbrev s_number_text : Stmt := top 13
abbrev s_line_of : Stmt := top 14
abbrev s_number_of : Stmt := top 15
abbrev s_end_line : Stmt := top 17
abbrev s_has_end : Stmt := top 18
abbrev s_numbers_of : Stmt := top 20
abbrev s_are_whole : Stmt := top 21
abbrev s_clock_of : Stmt := top 22
abbrev s_kept_count : Stmt := top 24
abbrev s_Shelf___init__ : Stmt := inClass (top 25) 0
abbrev s_Shelf_write : Stmt := inClass (top 25) 1
abbrev s_Shelf_torn : Stmt := inClass (top 25) 2
abbrev s_Shelf_last : Stmt := inClass (top 25) 3
abbrev s_Shelf_tell : Stmt := inClass (top 25) 4
abbrev s_Shelf_name_late : Stmt := inClass (top 25) 5
abbrev s_u_law_keep : Stmt := top 28
abbrev s_u_law_broken : Stmt := top 29
abbrev s_u_law_due : Stmt := top 30
abbrev s_u_law_same : Stmt := top 31
abbrev s_u_law_right : Stmt := top 32
abbrev s_law : Stmt := top 33
-- _wall: 0 k
theorem sc_u_wall : FnScope ["k"] ["k"] (defScope s_u_wall) := ⟨rfl, rfl, rfl, by decide +kernel, rfl, by decide +kernel, by decide +kernel⟩
-- is_whole: 0 thing
theorem sc_is_whole : FnScope ["thing"] ["thing"] (defScope s_is_whole) := ⟨rfl, rfl, rfl, by decide +kernel, rfl, by decide +kernel, by decide +kernel⟩
-- is_among: 0 thing, 1 least, 2 most
theorem sc_is_among : FnScope ["thing", "least", "most"] ["thing", "least", "most"] (defScope s_is_among) := ⟨rfl, rfl, rfl, by decide +kernel, rfl, by decide +kernel, by decide +kernel⟩
-- is_time: 0 thing
theorem sc_is_time : FnScope ["thing"] ["thing"] (defScope s_is_time) := ⟨rfl, rfl, rfl, by decide +kernel, rfl, by decide +kernel, by decide +kernel⟩
-- is_made_of: 0 text, 1 signs
theorem sc_is_made_of : FnScope ["text", "signs"] ["text", "signs"] (defScope s_is_made_of) := ⟨rfl, rfl, rfl, by decide +kernel, rfl, by decide +kernel, by decide +kernel⟩
-- figures_of: 0 number, 1 great, 2 pieces
theorem sc_figures_of : FnScope ["number", "great", "pieces"] ["number"] (defScope s_figures_of) := ⟨rfl, rfl, rfl, by decide +kernel, rfl, by decide +kernel, by decide +kernel⟩
-- number_text: 0 number
theorem sc_number_text : FnScope ["number"] ["number"] (defScope s_number_text) := ⟨rfl, rfl, rfl, by decide +kernel, rfl, by decide +kernel, by decide +kernel⟩
-- line_of: 0 parts
theorem sc_line_of : FnScope ["parts"] ["parts"] (defScope s_line_of) := ⟨rfl, rfl, rfl, by decide +kernel, rfl, by decide +kernel, by decide +kernel⟩
-- number_of: 0 word, 1 figures
theorem sc_number_of : FnScope ["word", "figures"] ["word"] (defScope s_number_of) := ⟨rfl, rfl, rfl, by decide +kernel, rfl, by decide +kernel, by decide +kernel⟩
-- end_line: 0 many
theorem sc_end_line : FnScope ["many"] ["many"] (defScope s_end_line) := ⟨rfl, rfl, rfl, by decide +kernel, rfl, by decide +kernel, by decide +kernel⟩
-- has_end: 0 lines
theorem sc_has_end : FnScope ["lines"] ["lines"] (defScope s_has_end) := ⟨rfl, rfl, rfl, by decide +kernel, rfl, by decide +kernel, by decide +kernel⟩
-- numbers_of: 0 words
theorem sc_numbers_of : FnScope ["words"] ["words"] (defScope s_numbers_of) := ⟨rfl, rfl, rfl, by decide +kernel, rfl, by decide +kernel, by decide +kernel⟩
-- are_whole: 0 numbers
theorem sc_are_whole : FnScope ["numbers"] ["numbers"] (defScope s_are_whole) := ⟨rfl, rfl, rfl, by decide +kernel, rfl, by decide +kernel, by decide +kernel⟩
-- clock_of: 0 line, 1 words, 2 numbers
theorem sc_clock_of : FnScope ["line", "words", "numbers"] ["line"] (defScope s_clock_of) := ⟨rfl, rfl, rfl, by decide +kernel, rfl, by decide +kernel, by decide +kernel⟩
-- kept_count: 0 lines, 1 first
theorem sc_kept_count : FnScope ["lines", "first"] ["lines"] (defScope s_kept_count) := ⟨rfl, rfl, rfl, by decide +kernel, rfl, by decide +kernel, by decide +kernel⟩
-- Shelf.__init__: 0 self
theorem sc_Shelf___init__ : FnScope ["self"] ["self"] (defScope s_Shelf___init__) := ⟨rfl, rfl, rfl, by decide +kernel, rfl, by decide +kernel, by decide +kernel⟩
-- Shelf.write: 0 self, 1 slot, 2 lines
theorem sc_Shelf_write : FnScope ["self", "slot", "lines"] ["self", "slot", "lines"] (defScope s_Shelf_write) := ⟨rfl, rfl, rfl, by decide +kernel, rfl, by decide +kernel, by decide +kernel⟩
-- Shelf.torn: 0 self, 1 slot, 2 lines, 3 many
theorem sc_Shelf_torn : FnScope ["self", "slot", "lines", "many"] ["self", "slot", "lines", "many"] (defScope s_Shelf_torn) := ⟨rfl, rfl, rfl, by decide +kernel, rfl, by decide +kernel, by decide +kernel⟩
-- Shelf.last: 0 self, 1 counts
theorem sc_Shelf_last : FnScope ["self", "counts"] ["self"] (defScope s_Shelf_last) := ⟨rfl, rfl, rfl, by decide +kernel, rfl, by decide +kernel, by decide +kernel⟩
-- Shelf.tell: 0 self, 1 number, 2 row
theorem sc_Shelf_tell : FnScope ["self", "number", "row"] ["self", "number", "row"] (defScope s_Shelf_tell) := ⟨rfl, rfl, rfl, by decide +kernel, rfl, by decide +kernel, by decide +kernel⟩
-- Shelf.name_late: 0 self, 1 place
theorem sc_Shelf_name_late : FnScope ["self", "place"] ["self", "place"] (defScope s_Shelf_name_late) := ⟨rfl, rfl, rfl, by decide +kernel, rfl, by decide +kernel, by decide +kernel⟩
-- _law_keep: 0 _law_cell, 1 _law_count, 2 _law_lines, 3 _law_k
theorem sc_u_law_keep : FnScope ["_law_cell", "_law_count", "_law_lines", "_law_k"] ["_law_cell"] (defScope s_u_law_keep) := ⟨rfl, rfl, rfl, by decide +kernel, rfl, by decide +kernel, by decide +kernel⟩
-- _law_broken: 0 _law_lines, 1 _law_cell
theorem sc_u_law_broken : FnScope ["_law_lines", "_law_cell"] ["_law_lines", "_law_cell"] (defScope s_u_law_broken) := ⟨rfl, rfl, rfl, by decide +kernel, rfl, by decide +kernel, by decide +kernel⟩
-- _law_due: 0 _law_slots, 1 _law_best, 2 _law_slot
theorem sc_u_law_due : FnScope ["_law_slots", "_law_best", "_law_slot"] ["_law_slots"] (defScope s_u_law_due) := ⟨rfl, rfl, rfl, by decide +kernel, rfl, by decide +kernel, by decide +kernel⟩
-- _law_same: 0 _law_found, 1 _law_due_here, 2 _law_k
theorem sc_u_law_same : FnScope ["_law_found", "_law_due_here", "_law_k"] ["_law_found", "_law_due_here"] (defScope s_u_law_same) := ⟨rfl, rfl, rfl, by decide +kernel, rfl, by decide +kernel, by decide +kernel⟩
-- _law_right: 0 _law_shelf, 1 _law_slots, 2 _law_held, 3 _law_k, 4 _law_found, 5 _law_due_here, 6 _law_again
theorem sc_u_law_right : FnScope ["_law_shelf", "_law_slots", "_law_held", "_law_k", "_law_found", "_law_due_here", "_law_again"] ["_law_shelf", "_law_slots", "_law_held"] (defScope s_u_law_right) := ⟨rfl, rfl, rfl, by decide +kernel, rfl, by decide +kernel, by decide +kernel⟩
-- law: 0 _law_script, 1 _law_shelf, 2 _law_slots, 3 _law_held, 4 _law_cell, 5 _law_slot, 6 _law_pair, 7 _law_handed, 8 _law_many, 9 _law_broken_here, 10 _law_kept
theorem sc_law : FnScope ["_law_script", "_law_shelf", "_law_slots", "_law_held", "_law_cell", "_law_slot", "_law_pair", "_law_handed", "_law_many", "_law_broken_here", "_law_kept"] ["_law_script"] (defScope s_law) := ⟨rfl, rfl, rfl, by decide +kernel, rfl, by decide +kernel, by decide +kernel⟩
structure Ad where
  a_u_wall : Addr
  d_u_wall : FuncData
  a_is_whole : Addr
  d_is_whole : FuncData
  a_is_among : Addr
  d_is_among : FuncData
  a_is_time : Addr
  d_is_time : FuncData
  a_is_made_of : Addr
  d_is_made_of : FuncData
  a_figures_of : Addr
  d_figures_of : FuncData
  a_number_text : Addr
  d_number_text : FuncData
  a_line_of : Addr
  d_line_of : FuncData
  a_number_of : Addr
  d_number_of : FuncData
  a_end_line : Addr
  d_end_line : FuncData
  a_has_end : Addr
  d_has_end : FuncData
  a_numbers_of : Addr
  d_numbers_of : FuncData
  a_are_whole : Addr
  d_are_whole : FuncData
  a_clock_of : Addr
  d_clock_of : FuncData
  a_kept_count : Addr
  d_kept_count : FuncData
  a_Shelf___init__ : Addr
  d_Shelf___init__ : FuncData
  a_Shelf_write : Addr
  d_Shelf_write : FuncData
  a_Shelf_torn : Addr
  d_Shelf_torn : FuncData
  a_Shelf_last : Addr
  d_Shelf_last : FuncData
  a_Shelf_tell : Addr
  d_Shelf_tell : FuncData
  a_Shelf_name_late : Addr
  d_Shelf_name_late : FuncData
  a_u_law_keep : Addr
  d_u_law_keep : FuncData
  a_u_law_broken : Addr
  d_u_law_broken : FuncData
  a_u_law_due : Addr
  d_u_law_due : FuncData
  a_u_law_same : Addr
  d_u_law_same : FuncData
  a_u_law_right : Addr
  d_u_law_right : FuncData
  a_law : Addr
  d_law : FuncData
  c_FlowError : Addr
  c_Broken : Addr
  c_Shelf : Addr
structure Tx (K : PySem.W.Frag) (mg : Str → Option Value) (ad : Ad) : Prop where
  F_u_wall : Fun K "_wall" "_wall" s_u_wall ad.a_u_wall ad.d_u_wall
  b_u_wall : Binds K ad.d_u_wall ["k"] []
  m_u_wall : mg "_wall" = some (.ref ad.a_u_wall)
  F_is_whole : Fun K "is_whole" "is_whole" s_is_whole ad.a_is_whole ad.d_is_whole
  b_is_whole : Binds K ad.d_is_whole ["thing"] []
  m_is_whole : mg "is_whole" = some (.ref ad.a_is_whole)
  F_is_among : Fun K "is_among" "is_among" s_is_among ad.a_is_among ad.d_is_among
  b_is_among : Binds K ad.d_is_among ["thing", "least", "most"] []
  m_is_among : mg "is_among" = some (.ref ad.a_is_among)
  F_is_time : Fun K "is_time" "is_time" s_is_time ad.a_is_time ad.d_is_time
  b_is_time : Binds K ad.d_is_time ["thing"] []
  m_is_time : mg "is_time" = some (.ref ad.a_is_time)
  F_is_made_of : Fun K "is_made_of" "is_made_of" s_is_made_of ad.a_is_made_of ad.d_is_made_of
  b_is_made_of : Binds K ad.d_is_made_of ["text", "signs"] []
  m_is_made_of : mg "is_made_of" = some (.ref ad.a_is_made_of)
  F_figures_of : Fun K "figures_of" "figures_of" s_figures_of ad.a_figures_of ad.d_figures_of
  b_figures_of : Binds K ad.d_figures_of ["number"] []
  m_figures_of : mg "figures_of" = some (.ref ad.a_figures_of)
  F_number_text : Fun K "number_text" "number_text" s_number_text ad.a_number_text ad.d_number_text
  b_number_text : Binds K ad.d_number_text ["number"] []
  m_number_text : mg "number_text" = some (.ref ad.a_number_text)
  F_line_of : Fun K "line_of" "line_of" s_line_of ad.a_line_of ad.d_line_of
  b_line_of : Binds K ad.d_line_of ["parts"] []
  m_line_of : mg "line_of" = some (.ref ad.a_line_of)
  F_number_of : Fun K "number_of" "number_of" s_number_of ad.a_number_of ad.d_number_of
  b_number_of : Binds K ad.d_number_of ["word"] []
  m_number_of : mg "number_of" = some (.ref ad.a_number_of)
  F_end_line : Fun K "end_line" "end_line" s_end_line ad.a_end_line ad.d_end_line
  b_end_line : Binds K ad.d_end_line ["many"] []
  m_end_line : mg "end_line" = some (.ref ad.a_end_line)
  F_has_end : Fun K "has_end" "has_end" s_has_end ad.a_has_end ad.d_has_end
  b_has_end : Binds K ad.d_has_end ["lines"] []
  m_has_end : mg "has_end" = some (.ref ad.a_has_end)
  F_numbers_of : Fun K "numbers_of" "numbers_of" s_numbers_of ad.a_numbers_of ad.d_numbers_of
  b_numbers_of : Binds K ad.d_numbers_of ["words"] []
  m_numbers_of : mg "numbers_of" = some (.ref ad.a_numbers_of)
  F_are_whole : Fun K "are_whole" "are_whole" s_are_whole ad.a_are_whole ad.d_are_whole
  b_are_whole : Binds K ad.d_are_whole ["numbers"] []
  m_are_whole : mg "are_whole" = some (.ref ad.a_are_whole)
  F_clock_of : Fun K "clock_of" "clock_of" s_clock_of ad.a_clock_of ad.d_clock_of
  b_clock_of : Binds K ad.d_clock_of ["line"] []
  m_clock_of : mg "clock_of" = some (.ref ad.a_clock_of)
  F_kept_count : Fun K "kept_count" "kept_count" s_kept_count ad.a_kept_count ad.d_kept_count
  b_kept_count : Binds K ad.d_kept_count ["lines"] []
  m_kept_count : mg "kept_count" = some (.ref ad.a_kept_count)
  F_Shelf___init__ : Fun K "__init__" "Shelf.__init__" s_Shelf___init__ ad.a_Shelf___init__ ad.d_Shelf___init__
  b_Shelf___init__ : Binds K ad.d_Shelf___init__ ["self"] []
  F_Shelf_write : Fun K "write" "Shelf.write" s_Shelf_write ad.a_Shelf_write ad.d_Shelf_write
  b_Shelf_write : Binds K ad.d_Shelf_write ["self", "slot", "lines"] []
  F_Shelf_torn : Fun K "torn" "Shelf.torn" s_Shelf_torn ad.a_Shelf_torn ad.d_Shelf_torn
  b_Shelf_torn : Binds K ad.d_Shelf_torn ["self", "slot", "lines", "many"] []
  F_Shelf_last : Fun K "last" "Shelf.last" s_Shelf_last ad.a_Shelf_last ad.d_Shelf_last
  b_Shelf_last : Binds K ad.d_Shelf_last ["self"] []
  F_Shelf_tell : Fun K "tell" "Shelf.tell" s_Shelf_tell ad.a_Shelf_tell ad.d_Shelf_tell
  b_Shelf_tell : Binds K ad.d_Shelf_tell ["self", "number", "row"] []
  F_Shelf_name_late : Fun K "name_late" "Shelf.name_late" s_Shelf_name_late ad.a_Shelf_name_late ad.d_Shelf_name_late
  b_Shelf_name_late : Binds K ad.d_Shelf_name_late ["self", "place"] []
  F_u_law_keep : Fun K "_law_keep" "_law_keep" s_u_law_keep ad.a_u_law_keep ad.d_u_law_keep
  b_u_law_keep : Binds K ad.d_u_law_keep ["_law_cell"] []
  m_u_law_keep : mg "_law_keep" = some (.ref ad.a_u_law_keep)
  F_u_law_broken : Fun K "_law_broken" "_law_broken" s_u_law_broken ad.a_u_law_broken ad.d_u_law_broken
  b_u_law_broken : Binds K ad.d_u_law_broken ["_law_lines", "_law_cell"] []
  m_u_law_broken : mg "_law_broken" = some (.ref ad.a_u_law_broken)
  F_u_law_due : Fun K "_law_due" "_law_due" s_u_law_due ad.a_u_law_due ad.d_u_law_due
  b_u_law_due : Binds K ad.d_u_law_due ["_law_slots"] []
  m_u_law_due : mg "_law_due" = some (.ref ad.a_u_law_due)
  F_u_law_same : Fun K "_law_same" "_law_same" s_u_law_same ad.a_u_law_same ad.d_u_law_same
  b_u_law_same : Binds K ad.d_u_law_same ["_law_found", "_law_due_here"] []
  m_u_law_same : mg "_law_same" = some (.ref ad.a_u_law_same)
  F_u_law_right : Fun K "_law_right" "_law_right" s_u_law_right ad.a_u_law_right ad.d_u_law_right
  b_u_law_right : Binds K ad.d_u_law_right ["_law_shelf", "_law_slots", "_law_held"] []
  m_u_law_right : mg "_law_right" = some (.ref ad.a_u_law_right)
  F_law : Fun K "law" "law" s_law ad.a_law ad.d_law
  b_law : Binds K ad.d_law ["_law_script"] []
  m_law : mg "law" = some (.ref ad.a_law)
  mc_FlowError : mg "FlowError" = some (.ref ad.c_FlowError)
  x_FlowError : PySem.W.excIn K ad.c_FlowError [.type "ValueError", .type "Exception", .type "BaseException", .type "object"] "ValueError.__new__" = true
  mc_Broken : mg "Broken" = some (.ref ad.c_Broken)
  x_Broken : PySem.W.excIn K ad.c_Broken [.type "ValueError", .type "Exception", .type "BaseException", .type "object"] "ValueError.__new__" = true
  mc_Shelf : mg "Shelf" = some (.ref ad.c_Shelf)
  cl_Shelf : Cls K ad.c_Shelf
  n_Shelf_slots : NoAttr K ad.c_Shelf "slots"
  n_Shelf_rows : NoAttr K ad.c_Shelf "rows"
  n_Shelf_late : NoAttr K ad.c_Shelf "late"
  me_Shelf___init__ : Meth K ad.c_Shelf "__init__" ad.a_Shelf___init__
  me_Shelf_write : Meth K ad.c_Shelf "write" ad.a_Shelf_write
  me_Shelf_torn : Meth K ad.c_Shelf "torn" ad.a_Shelf_torn
  me_Shelf_last : Meth K ad.c_Shelf "last" ad.a_Shelf_last
  me_Shelf_tell : Meth K ad.c_Shelf "tell" ad.a_Shelf_tell
  me_Shelf_name_late : Meth K ad.c_Shelf "name_late" ad.a_Shelf_name_late
  mk_Shelf : Mk K ad.c_Shelf ad.a_Shelf___init__
  g_FIGURES : ∃ t, mg "FIGURES" = some (.str "0123456789" t)
  g_MOST_SIGNS : ∃ t, mg "MOST_SIGNS" = some (.int 60 t)
  g_MOST_TIME : ∃ t, mg "MOST_TIME" = some (.int 1000000000 t)
  z_ValueError : mg "ValueError" = none
  z_all : mg "all" = none
  z_bool : mg "bool" = none
  z_int : mg "int" = none
  z_isinstance : mg "isinstance" = none
  z_len : mg "len" = none
  z_list : mg "list" = none
  z_max : mg "max" = none
  z_min : mg "min" = none
  z_range : mg "range" = none
  z_reversed : mg "reversed" = none
  z_str : mg "str" = none
  z_tuple : mg "tuple" = none
theorem tx_mk {K : PySem.W.Frag} {h : Heap} {mg : Str → Option Value} (X : K.In h) (G : h.Ns mainGlobals mg)
    {f_u_wall : Addr} {od_u_wall an_u_wall : Option Addr} {sl_u_wall : Array (Option Value)} {oc_u_wall kV_u_wall dc_u_wall pm_u_wall cd_u_wall ct_u_wall : Value}
    {f_is_whole : Addr} {od_is_whole an_is_whole : Option Addr} {sl_is_whole : Array (Option Value)} {oc_is_whole kV_is_whole dc_is_whole pm_is_whole cd_is_whole ct_is_whole : Value}
    {f_is_among : Addr} {od_is_among an_is_among : Option Addr} {sl_is_among : Array (Option Value)} {oc_is_among kV_is_among dc_is_among pm_is_among cd_is_among ct_is_among : Value}
    {f_is_time : Addr} {od_is_time an_is_time : Option Addr} {sl_is_time : Array (Option Value)} {oc_is_time kV_is_time dc_is_time pm_is_time cd_is_time ct_is_time : Value}
    {f_is_made_of : Addr} {od_is_made_of an_is_made_of : Option Addr} {sl_is_made_of : Array (Option Value)} {oc_is_made_of kV_is_made_of dc_is_made_of pm_is_made_of cd_is_made_of ct_is_made_of : Value}
    {f_figures_of : Addr} {od_figures_of an_figures_of : Option Addr} {sl_figures_of : Array (Option Value)} {oc_figures_of kV_figures_of dc_figures_of pm_figures_of cd_figures_of ct_figures_of : Value}
    {f_number_text : Addr} {od_number_text an_number_text : Option Addr} {sl_number_text : Array (Option Value)} {oc_number_text kV_number_text dc_number_text pm_number_text cd_number_text ct_number_text : Value}
    {f_line_of : Addr} {od_line_of an_line_of : Option Addr} {sl_line_of : Array (Option Value)} {oc_line_of kV_line_of dc_line_of pm_line_of cd_line_of ct_line_of : Value}
    {f_number_of : Addr} {od_number_of an_number_of : Option Addr} {sl_number_of : Array (Option Value)} {oc_number_of kV_number_of dc_number_of pm_number_of cd_number_of ct_number_of : Value}
    {f_end_line : Addr} {od_end_line an_end_line : Option Addr} {sl_end_line : Array (Option Value)} {oc_end_line kV_end_line dc_end_line pm_end_line cd_end_line ct_end_line : Value}
    {f_has_end : Addr} {od_has_end an_has_end : Option Addr} {sl_has_end : Array (Option Value)} {oc_has_end kV_has_end dc_has_end pm_has_end cd_has_end ct_has_end : Value}
    {f_numbers_of : Addr} {od_numbers_of an_numbers_of : Option Addr} {sl_numbers_of : Array (Option Value)} {oc_numbers_of kV_numbers_of dc_numbers_of pm_numbers_of cd_numbers_of ct_numbers_of : Value}
    {f_are_whole : Addr} {od_are_whole an_are_whole : Option Addr} {sl_are_whole : Array (Option Value)} {oc_are_whole kV_are_whole dc_are_whole pm_are_whole cd_are_whole ct_are_whole : Value}
    {f_clock_of : Addr} {od_clock_of an_clock_of : Option Addr} {sl_clock_of : Array (Option Value)} {oc_clock_of kV_clock_of dc_clock_of pm_clock_of cd_clock_of ct_clock_of : Value}
    {f_kept_count : Addr} {od_kept_count an_kept_count : Option Addr} {sl_kept_count : Array (Option Value)} {oc_kept_count kV_kept_count dc_kept_count pm_kept_count cd_kept_count ct_kept_count : Value}
    {c_Shelf : Addr}
    {f_Shelf___init__ : Addr} {od_Shelf___init__ an_Shelf___init__ : Option Addr} {sl_Shelf___init__ : Array (Option Value)} {oc_Shelf___init__ kV_Shelf___init__ dc_Shelf___init__ pm_Shelf___init__ cd_Shelf___init__ ct_Shelf___init__ : Value}
    {f_Shelf_write : Addr} {od_Shelf_write an_Shelf_write : Option Addr} {sl_Shelf_write : Array (Option Value)} {oc_Shelf_write kV_Shelf_write dc_Shelf_write pm_Shelf_write cd_Shelf_write ct_Shelf_write : Value}
    {f_Shelf_torn : Addr} {od_Shelf_torn an_Shelf_torn : Option Addr} {sl_Shelf_torn : Array (Option Value)} {oc_Shelf_torn kV_Shelf_torn dc_Shelf_torn pm_Shelf_torn cd_Shelf_torn ct_Shelf_torn : Value}
    {f_Shelf_last : Addr} {od_Shelf_last an_Shelf_last : Option Addr} {sl_Shelf_last : Array (Option Value)} {oc_Shelf_last kV_Shelf_last dc_Shelf_last pm_Shelf_last cd_Shelf_last ct_Shelf_last : Value}
    {f_Shelf_tell : Addr} {od_Shelf_tell an_Shelf_tell : Option Addr} {sl_Shelf_tell : Array (Option Value)} {oc_Shelf_tell kV_Shelf_tell dc_Shelf_tell pm_Shelf_tell cd_Shelf_tell ct_Shelf_tell : Value}
    {f_Shelf_name_late : Addr} {od_Shelf_name_late an_Shelf_name_late : Option Addr} {sl_Shelf_name_late : Array (Option Value)} {oc_Shelf_name_late kV_Shelf_name_late dc_Shelf_name_late pm_Shelf_name_late cd_Shelf_name_late ct_Shelf_name_late : Value}
    {f_u_law_keep : Addr} {od_u_law_keep an_u_law_keep : Option Addr} {sl_u_law_keep : Array (Option Value)} {oc_u_law_keep kV_u_law_keep dc_u_law_keep pm_u_law_keep cd_u_law_keep ct_u_law_keep : Value}
    {f_u_law_broken : Addr} {od_u_law_broken an_u_law_broken : Option Addr} {sl_u_law_broken : Array (Option Value)} {oc_u_law_broken kV_u_law_broken dc_u_law_broken pm_u_law_broken cd_u_law_broken ct_u_law_broken : Value}
    {f_u_law_due : Addr} {od_u_law_due an_u_law_due : Option Addr} {sl_u_law_due : Array (Option Value)} {oc_u_law_due kV_u_law_due dc_u_law_due pm_u_law_due cd_u_law_due ct_u_law_due : Value}
    {f_u_law_same : Addr} {od_u_law_same an_u_law_same : Option Addr} {sl_u_law_same : Array (Option Value)} {oc_u_law_same kV_u_law_same dc_u_law_same pm_u_law_same cd_u_law_same ct_u_law_same : Value}
    {f_u_law_right : Addr} {od_u_law_right an_u_law_right : Option Addr} {sl_u_law_right : Array (Option Value)} {oc_u_law_right kV_u_law_right dc_u_law_right pm_u_law_right cd_u_law_right ct_u_law_right : Value}
    {f_law : Addr} {od_law an_law : Option Addr} {sl_law : Array (Option Value)} {oc_law kV_law dc_law pm_law cd_law ct_law : Value}
    {c_FlowError : Addr}
    {c_Broken : Addr}
    {t_FIGURES : Tok}
    {t_MOST_SIGNS : Tok}
    {t_MOST_TIME : Tok}
    (a_u_wall : PySem.W.nsIn K mainGlobals "_wall" = some (some (.ref f_u_wall)))
    (l_u_wall : K.lookup f_u_wall = some ⟨oc_u_wall, od_u_wall, .func (PySem.W.fnOf "_wall" "_wall" (defArgs s_u_wall) (defBody s_u_wall) (defScope s_u_wall) .none kV_u_wall dc_u_wall pm_u_wall an_u_wall cd_u_wall ct_u_wall), sl_u_wall⟩)
    (c_u_wall : PySem.W.codeIn K cd_u_wall "_wall" = true)
    (k_u_wall : PySem.W.keepIn K (.ref f_u_wall) = true)
    (a_is_whole : PySem.W.nsIn K mainGlobals "is_whole" = some (some (.ref f_is_whole)))
    (l_is_whole : K.lookup f_is_whole = some ⟨oc_is_whole, od_is_whole, .func (PySem.W.fnOf "is_whole" "is_whole" (defArgs s_is_whole) (defBody s_is_whole) (defScope s_is_whole) .none kV_is_whole dc_is_whole pm_is_whole an_is_whole cd_is_whole ct_is_whole), sl_is_whole⟩)
    (c_is_whole : PySem.W.codeIn K cd_is_whole "is_whole" = true)
    (k_is_whole : PySem.W.keepIn K (.ref f_is_whole) = true)
    (a_is_among : PySem.W.nsIn K mainGlobals "is_among" = some (some (.ref f_is_among)))
    (l_is_among : K.lookup f_is_among = some ⟨oc_is_among, od_is_among, .func (PySem.W.fnOf "is_among" "is_among" (defArgs s_is_among) (defBody s_is_among) (defScope s_is_among) .none kV_is_among dc_is_among pm_is_among an_is_among cd_is_among ct_is_among), sl_is_among⟩)
    (c_is_among : PySem.W.codeIn K cd_is_among "is_among" = true)
    (k_is_among : PySem.W.keepIn K (.ref f_is_among) = true)
    (a_is_time : PySem.W.nsIn K mainGlobals "is_time" = some (some (.ref f_is_time)))
    (l_is_time : K.lookup f_is_time = some ⟨oc_is_time, od_is_time, .func (PySem.W.fnOf "is_time" "is_time" (defArgs s_is_time) (defBody s_is_time) (defScope s_is_time) .none kV_is_time dc_is_time pm_is_time an_is_time cd_is_time ct_is_time), sl_is_time⟩)
    (c_is_time : PySem.W.codeIn K cd_is_time "is_time" = true)
    (k_is_time : PySem.W.keepIn K (.ref f_is_time) = true)
    (a_is_made_of : PySem.W.nsIn K mainGlobals "is_made_of" = some (some (.ref f_is_made_of)))
    (l_is_made_of : K.lookup f_is_made_of = some ⟨oc_is_made_of, od_is_made_of, .func (PySem.W.fnOf "is_made_of" "is_made_of" (defArgs s_is_made_of) (defBody s_is_made_of) (defScope s_is_made_of) .none kV_is_made_of dc_is_made_of pm_is_made_of an_is_made_of cd_is_made_of ct_is_made_of), sl_is_made_of⟩)
    (c_is_made_of : PySem.W.codeIn K cd_is_made_of "is_made_of" = true)
    (k_is_made_of : PySem.W.keepIn K (.ref f_is_made_of) = true)
    (a_figures_of : PySem.W.nsIn K mainGlobals "figures_of" = some (some (.ref f_figures_of)))
    (l_figures_of : K.lookup f_figures_of = some ⟨oc_figures_of, od_figures_of, .func (PySem.W.fnOf "figures_of" "figures_of" (defArgs s_figures_of) (defBody s_figures_of) (defScope s_figures_of) .none kV_figures_of dc_figures_of pm_figures_of an_figures_of cd_figures_of ct_figures_of), sl_figures_of⟩)
    (c_figures_of : PySem.W.codeIn K cd_figures_of "figures_of" = true)
    (k_figures_of : PySem.W.keepIn K (.ref f_figures_of) = true)
    (a_number_text : PySem.W.nsIn K mainGlobals "number_text" = some (some (.ref f_number_text)))
    (l_number_text : K.lookup f_number_text = some ⟨oc_number_text, od_number_text, .func (PySem.W.fnOf "number_text" "number_text" (defArgs s_number_text) (defBody s_number_text) (defScope s_number_text) .none kV_number_text dc_number_text pm_number_text an_number_text cd_number_text ct_number_text), sl_number_text⟩)
    (c_number_text : PySem.W.codeIn K cd_number_text "number_text" = true)
    (k_number_text : PySem.W.keepIn K (.ref f_number_text) = true)
    (a_line_of : PySem.W.nsIn K mainGlobals "line_of" = some (some (.ref f_line_of)))
    (l_line_of : K.lookup f_line_of = some ⟨oc_line_of, od_line_of, .func (PySem.W.fnOf "line_of" "line_of" (defArgs s_line_of) (defBody s_line_of) (defScope s_line_of) .none kV_line_of dc_line_of pm_line_of an_line_of cd_line_of ct_line_of), sl_line_of⟩)
    (c_line_of : PySem.W.codeIn K cd_line_of "line_of" = true)
    (k_line_of : PySem.W.keepIn K (.ref f_line_of) = true)
    (a_number_of : PySem.W.nsIn K mainGlobals "number_of" = some (some (.ref f_number_of)))
    (l_number_of : K.lookup f_number_of = some ⟨oc_number_of, od_number_of, .func (PySem.W.fnOf "number_of" "number_of" (defArgs s_number_of) (defBody s_number_of) (defScope s_number_of) .none kV_number_of dc_number_of pm_number_of an_number_of cd_number_of ct_number_of), sl_number_of⟩)
    (c_number_of : PySem.W.codeIn K cd_number_of "number_of" = true)
    (k_number_of : PySem.W.keepIn K (.ref f_number_of) = true)
    (a_end_line : PySem.W.nsIn K mainGlobals "end_line" = some (some (.ref f_end_line)))
    (l_end_line : K.lookup f_end_line = some ⟨oc_end_line, od_end_line, .func (PySem.W.fnOf "end_line" "end_line" (defArgs s_end_line) (defBody s_end_line) (defScope s_end_line) .none kV_end_line dc_end_line pm_end_line an_end_line cd_end_line ct_end_line), sl_end_line⟩)
    (c_end_line : PySem.W.codeIn K cd_end_line "end_line" = true)
    (k_end_line : PySem.W.keepIn K (.ref f_end_line) = true)
    (a_has_end : PySem.W.nsIn K mainGlobals "has_end" = some (some (.ref f_has_end)))
    (l_has_end : K.lookup f_has_end = some ⟨oc_has_end, od_has_end, .func (PySem.W.fnOf "has_end" "has_end" (defArgs s_has_end) (defBody s_has_end) (defScope s_has_end) .none kV_has_end dc_has_end pm_has_end an_has_end cd_has_end ct_has_end), sl_has_end⟩)
    (c_has_end : PySem.W.codeIn K cd_has_end "has_end" = true)
    (k_has_end : PySem.W.keepIn K (.ref f_has_end) = true)
    (a_numbers_of : PySem.W.nsIn K mainGlobals "numbers_of" = some (some (.ref f_numbers_of)))
    (l_numbers_of : K.lookup f_numbers_of = some ⟨oc_numbers_of, od_numbers_of, .func (PySem.W.fnOf "numbers_of" "numbers_of" (defArgs s_numbers_of) (defBody s_numbers_of) (defScope s_numbers_of) .none kV_numbers_of dc_numbers_of pm_numbers_of an_numbers_of cd_numbers_of ct_numbers_of), sl_numbers_of⟩)
    (c_numbers_of : PySem.W.codeIn K cd_numbers_of "numbers_of" = true)
    (k_numbers_of : PySem.W.keepIn K (.ref f_numbers_of) = true)
    (a_are_whole : PySem.W.nsIn K mainGlobals "are_whole" = some (some (.ref f_are_whole)))
    (l_are_whole : K.lookup f_are_whole = some ⟨oc_are_whole, od_are_whole, .func (PySem.W.fnOf "are_whole" "are_whole" (defArgs s_are_whole) (defBody s_are_whole) (defScope s_are_whole) .none kV_are_whole dc_are_whole pm_are_whole an_are_whole cd_are_whole ct_are_whole), sl_are_whole⟩)
    (c_are_whole : PySem.W.codeIn K cd_are_whole "are_whole" = true)
    (k_are_whole : PySem.W.keepIn K (.ref f_are_whole) = true)
    (a_clock_of : PySem.W.nsIn K mainGlobals "clock_of" = some (some (.ref f_clock_of)))
    (l_clock_of : K.lookup f_clock_of = some ⟨oc_clock_of, od_clock_of, .func (PySem.W.fnOf "clock_of" "clock_of" (defArgs s_clock_of) (defBody s_clock_of) (defScope s_clock_of) .none kV_clock_of dc_clock_of pm_clock_of an_clock_of cd_clock_of ct_clock_of), sl_clock_of⟩)
    (c_clock_of : PySem.W.codeIn K cd_clock_of "clock_of" = true)
    (k_clock_of : PySem.W.keepIn K (.ref f_clock_of) = true)
    (a_kept_count : PySem.W.nsIn K mainGlobals "kept_count" = some (some (.ref f_kept_count)))
    (l_kept_count : K.lookup f_kept_count = some ⟨oc_kept_count, od_kept_count, .func (PySem.W.fnOf "kept_count" "kept_count" (defArgs s_kept_count) (defBody s_kept_count) (defScope s_kept_count) .none kV_kept_count dc_kept_count pm_kept_count an_kept_count cd_kept_count ct_kept_count), sl_kept_count⟩)
    (c_kept_count : PySem.W.codeIn K cd_kept_count "kept_count" = true)
    (k_kept_count : PySem.W.keepIn K (.ref f_kept_count) = true)
    (a_Shelf : PySem.W.nsIn K mainGlobals "Shelf" = some (some (.ref c_Shelf)))
    (a_Shelf___init__ : PySem.W.findIn K (.ref c_Shelf) "__init__" = some (some (.ref f_Shelf___init__)))
    (l_Shelf___init__ : K.lookup f_Shelf___init__ = some ⟨oc_Shelf___init__, od_Shelf___init__, .func (PySem.W.fnOf "__init__" "Shelf.__init__" (defArgs s_Shelf___init__) (defBody s_Shelf___init__) (defScope s_Shelf___init__) .none kV_Shelf___init__ dc_Shelf___init__ pm_Shelf___init__ an_Shelf___init__ cd_Shelf___init__ ct_Shelf___init__), sl_Shelf___init__⟩)
    (c_Shelf___init__ : PySem.W.codeIn K cd_Shelf___init__ "Shelf.__init__" = true)
    (k_Shelf___init__ : PySem.W.keepIn K (.ref f_Shelf___init__) = true)
    (a_Shelf_write : PySem.W.findIn K (.ref c_Shelf) "write" = some (some (.ref f_Shelf_write)))
    (l_Shelf_write : K.lookup f_Shelf_write = some ⟨oc_Shelf_write, od_Shelf_write, .func (PySem.W.fnOf "write" "Shelf.write" (defArgs s_Shelf_write) (defBody s_Shelf_write) (defScope s_Shelf_write) .none kV_Shelf_write dc_Shelf_write pm_Shelf_write an_Shelf_write cd_Shelf_write ct_Shelf_write), sl_Shelf_write⟩)
    (c_Shelf_write : PySem.W.codeIn K cd_Shelf_write "Shelf.write" = true)
    (k_Shelf_write : PySem.W.keepIn K (.ref f_Shelf_write) = true)
    (a_Shelf_torn : PySem.W.findIn K (.ref c_Shelf) "torn" = some (some (.ref f_Shelf_torn)))
    (l_Shelf_torn : K.lookup f_Shelf_torn = some ⟨oc_Shelf_torn, od_Shelf_torn, .func (PySem.W.fnOf "torn" "Shelf.torn" (defArgs s_Shelf_torn) (defBody s_Shelf_torn) (defScope s_Shelf_torn) .none kV_Shelf_torn dc_Shelf_torn pm_Shelf_torn an_Shelf_torn cd_Shelf_torn ct_Shelf_torn), sl_Shelf_torn⟩)
    (c_Shelf_torn : PySem.W.codeIn K cd_Shelf_torn "Shelf.torn" = true)
    (k_Shelf_torn : PySem.W.keepIn K (.ref f_Shelf_torn) = true)
    (a_Shelf_last : PySem.W.findIn K (.ref c_Shelf) "last" = some (some (.ref f_Shelf_last)))
    (l_Shelf_last : K.lookup f_Shelf_last = some ⟨oc_Shelf_last, od_Shelf_last, .func (PySem.W.fnOf "last" "Shelf.last" (defArgs s_Shelf_last) (defBody s_Shelf_last) (defScope s_Shelf_last) .none kV_Shelf_last dc_Shelf_last pm_Shelf_last an_Shelf_last cd_Shelf_last ct_Shelf_last), sl_Shelf_last⟩)
    (c_Shelf_last : PySem.W.codeIn K cd_Shelf_last "Shelf.last" = true)
    (k_Shelf_last : PySem.W.keepIn K (.ref f_Shelf_last) = true)
    (a_Shelf_tell : PySem.W.findIn K (.ref c_Shelf) "tell" = some (some (.ref f_Shelf_tell)))
    (l_Shelf_tell : K.lookup f_Shelf_tell = some ⟨oc_Shelf_tell, od_Shelf_tell, .func (PySem.W.fnOf "tell" "Shelf.tell" (defArgs s_Shelf_tell) (defBody s_Shelf_tell) (defScope s_Shelf_tell) .none kV_Shelf_tell dc_Shelf_tell pm_Shelf_tell an_Shelf_tell cd_Shelf_tell ct_Shelf_tell), sl_Shelf_tell⟩)
    (c_Shelf_tell : PySem.W.codeIn K cd_Shelf_tell "Shelf.tell" = true)
    (k_Shelf_tell : PySem.W.keepIn K (.ref f_Shelf_tell) = true)
    (a_Shelf_name_late : PySem.W.findIn K (.ref c_Shelf) "name_late" = some (some (.ref f_Shelf_name_late)))
    (l_Shelf_name_late : K.lookup f_Shelf_name_late = some ⟨oc_Shelf_name_late, od_Shelf_name_late, .func (PySem.W.fnOf "name_late" "Shelf.name_late" (defArgs s_Shelf_name_late) (defBody s_Shelf_name_late) (defScope s_Shelf_name_late) .none kV_Shelf_name_late dc_Shelf_name_late pm_Shelf_name_late an_Shelf_name_late cd_Shelf_name_late ct_Shelf_name_late), sl_Shelf_name_late⟩)
    (c_Shelf_name_late : PySem.W.codeIn K cd_Shelf_name_late "Shelf.name_late" = true)
    (k_Shelf_name_late : PySem.W.keepIn K (.ref f_Shelf_name_late) = true)
    (a_u_law_keep : PySem.W.nsIn K mainGlobals "_law_keep" = some (some (.ref f_u_law_keep)))
    (l_u_law_keep : K.lookup f_u_law_keep = some ⟨oc_u_law_keep, od_u_law_keep, .func (PySem.W.fnOf "_law_keep" "_law_keep" (defArgs s_u_law_keep) (defBody s_u_law_keep) (defScope s_u_law_keep) .none kV_u_law_keep dc_u_law_keep pm_u_law_keep an_u_law_keep cd_u_law_keep ct_u_law_keep), sl_u_law_keep⟩)
    (c_u_law_keep : PySem.W.codeIn K cd_u_law_keep "_law_keep" = true)
    (k_u_law_keep : PySem.W.keepIn K (.ref f_u_law_keep) = true)
    (a_u_law_broken : PySem.W.nsIn K mainGlobals "_law_broken" = some (some (.ref f_u_law_broken)))
    (l_u_law_broken : K.lookup f_u_law_broken = some ⟨oc_u_law_broken, od_u_law_broken, .func (PySem.W.fnOf "_law_broken" "_law_broken" (defArgs s_u_law_broken) (defBody s_u_law_broken) (defScope s_u_law_broken) .none kV_u_law_broken dc_u_law_broken pm_u_law_broken an_u_law_broken cd_u_law_broken ct_u_law_broken), sl_u_law_broken⟩)
    (c_u_law_broken : PySem.W.codeIn K cd_u_law_broken "_law_broken" = true)
    (k_u_law_broken : PySem.W.keepIn K (.ref f_u_law_broken) = true)
    (a_u_law_due : PySem.W.nsIn K mainGlobals "_law_due" = some (some (.ref f_u_law_due)))
    (l_u_law_due : K.lookup f_u_law_due = some ⟨oc_u_law_due, od_u_law_due, .func (PySem.W.fnOf "_law_due" "_law_due" (defArgs s_u_law_due) (defBody s_u_law_due) (defScope s_u_law_due) .none kV_u_law_due dc_u_law_due pm_u_law_due an_u_law_due cd_u_law_due ct_u_law_due), sl_u_law_due⟩)
    (c_u_law_due : PySem.W.codeIn K cd_u_law_due "_law_due" = true)
    (k_u_law_due : PySem.W.keepIn K (.ref f_u_law_due) = true)
    (a_u_law_same : PySem.W.nsIn K mainGlobals "_law_same" = some (some (.ref f_u_law_same)))
    (l_u_law_same : K.lookup f_u_law_same = some ⟨oc_u_law_same, od_u_law_same, .func (PySem.W.fnOf "_law_same" "_law_same" (defArgs s_u_law_same) (defBody s_u_law_same) (defScope s_u_law_same) .none kV_u_law_same dc_u_law_same pm_u_law_same an_u_law_same cd_u_law_same ct_u_law_same), sl_u_law_same⟩)
    (c_u_law_same : PySem.W.codeIn K cd_u_law_same "_law_same" = true)
    (k_u_law_same : PySem.W.keepIn K (.ref f_u_law_same) = true)
    (a_u_law_right : PySem.W.nsIn K mainGlobals "_law_right" = some (some (.ref f_u_law_right)))
    (l_u_law_right : K.lookup f_u_law_right = some ⟨oc_u_law_right, od_u_law_right, .func (PySem.W.fnOf "_law_right" "_law_right" (defArgs s_u_law_right) (defBody s_u_law_right) (defScope s_u_law_right) .none kV_u_law_right dc_u_law_right pm_u_law_right an_u_law_right cd_u_law_right ct_u_law_right), sl_u_law_right⟩)
    (c_u_law_right : PySem.W.codeIn K cd_u_law_right "_law_right" = true)
    (k_u_law_right : PySem.W.keepIn K (.ref f_u_law_right) = true)
    (a_law : PySem.W.nsIn K mainGlobals "law" = some (some (.ref f_law)))
    (l_law : K.lookup f_law = some ⟨oc_law, od_law, .func (PySem.W.fnOf "law" "law" (defArgs s_law) (defBody s_law) (defScope s_law) .none kV_law dc_law pm_law an_law cd_law ct_law), sl_law⟩)
    (c_law : PySem.W.codeIn K cd_law "law" = true)
    (k_law : PySem.W.keepIn K (.ref f_law) = true)
    (a_FlowError : PySem.W.nsIn K mainGlobals "FlowError" = some (some (.ref c_FlowError)))
    (x_FlowError : PySem.W.excIn K c_FlowError [.type "ValueError", .type "Exception", .type "BaseException", .type "object"] "ValueError.__new__" = true)
    (a_Broken : PySem.W.nsIn K mainGlobals "Broken" = some (some (.ref c_Broken)))
    (x_Broken : PySem.W.excIn K c_Broken [.type "ValueError", .type "Exception", .type "BaseException", .type "object"] "ValueError.__new__" = true)
    (pg_Shelf : PySem.W.plainGet K c_Shelf Str.empty = true)
    (hd_Shelf : PySem.W.hasDictIn K c_Shelf = true)
    (po_Shelf : PySem.W.plainOver K c_Shelf = true)
    (sa_Shelf : PySem.W.findIn K (.ref c_Shelf) "__setattr__" = some (some (.builtin "object.__setattr__")))
    (n_Shelf_slots : PySem.W.findIn K (.ref c_Shelf) "slots" = some none)
    (n_Shelf_rows : PySem.W.findIn K (.ref c_Shelf) "rows" = some none)
    (n_Shelf_late : PySem.W.findIn K (.ref c_Shelf) "late" = some none)
    (fn_Shelf___init__ : PySem.W.isFn K (.ref f_Shelf___init__) = true)
    (fn_Shelf_write : PySem.W.isFn K (.ref f_Shelf_write) = true)
    (fn_Shelf_torn : PySem.W.isFn K (.ref f_Shelf_torn) = true)
    (fn_Shelf_last : PySem.W.isFn K (.ref f_Shelf_last) = true)
    (fn_Shelf_tell : PySem.W.isFn K (.ref f_Shelf_tell) = true)
    (fn_Shelf_name_late : PySem.W.isFn K (.ref f_Shelf_name_late) = true)
    (mks_Shelf : PySem.W.makesIn K c_Shelf = true)
    (kp_Shelf : PySem.W.keepIn K (.ref c_Shelf) = true)
    (g_FIGURES : PySem.W.nsIn K mainGlobals "FIGURES" = some (some (.str "0123456789" t_FIGURES)))
    (g_MOST_SIGNS : PySem.W.nsIn K mainGlobals "MOST_SIGNS" = some (some (.int 60 t_MOST_SIGNS)))
    (g_MOST_TIME : PySem.W.nsIn K mainGlobals "MOST_TIME" = some (some (.int 1000000000 t_MOST_TIME)))
    (z_ValueError : PySem.W.nsIn K mainGlobals "ValueError" = some none)
    (z_all : PySem.W.nsIn K mainGlobals "all" = some none)
    (z_bool : PySem.W.nsIn K mainGlobals "bool" = some none)
    (z_int : PySem.W.nsIn K mainGlobals "int" = some none)
    (z_isinstance : PySem.W.nsIn K mainGlobals "isinstance" = some none)
    (z_len : PySem.W.nsIn K mainGlobals "len" = some none)
    (z_list : PySem.W.nsIn K mainGlobals "list" = some none)
    (z_max : PySem.W.nsIn K mainGlobals "max" = some none)
    (z_min : PySem.W.nsIn K mainGlobals "min" = some none)
    (z_range : PySem.W.nsIn K mainGlobals "range" = some none)
    (z_reversed : PySem.W.nsIn K mainGlobals "reversed" = some none)
    (z_str : PySem.W.nsIn K mainGlobals "str" = some none)
    (z_tuple : PySem.W.nsIn K mainGlobals "tuple" = some none)
    : Tx K mg (⟨f_u_wall, PySem.W.fnOf "_wall" "_wall" (defArgs s_u_wall) (defBody s_u_wall) (defScope s_u_wall) .none kV_u_wall dc_u_wall pm_u_wall an_u_wall cd_u_wall ct_u_wall, f_is_whole, PySem.W.fnOf "is_whole" "is_whole" (defArgs s_is_whole) (defBody s_is_whole) (defScope s_is_whole) .none kV_is_whole dc_is_whole pm_is_whole an_is_whole cd_is_whole ct_is_whole, f_is_among, PySem.W.fnOf "is_among" "is_among" (defArgs s_is_among) (defBody s_is_among) (defScope s_is_among) .none kV_is_among dc_is_among pm_is_among an_is_among cd_is_among ct_is_among, f_is_time, PySem.W.fnOf "is_time" "is_time" (defArgs s_is_time) (defBody s_is_time) (defScope s_is_time) .none kV_is_time dc_is_time pm_is_time an_is_time cd_is_time ct_is_time, f_is_made_of, PySem.W.fnOf "is_made_of" "is_made_of" (defArgs s_is_made_of) (defBody s_is_made_of) (defScope s_is_made_of) .none kV_is_made_of dc_is_made_of pm_is_made_of an_is_made_of cd_is_made_of ct_is_made_of, f_figures_of, PySem.W.fnOf "figures_of" "figures_of" (defArgs s_figures_of) (defBody s_figures_of) (defScope s_figures_of) .none kV_figures_of dc_figures_of pm_figures_of an_figures_of cd_figures_of ct_figures_of, f_number_text, PySem.W.fnOf "number_text" "number_text" (defArgs s_number_text) (defBody s_number_text) (defScope s_number_text) .none kV_number_text dc_number_text pm_number_text an_number_text cd_number_text ct_number_text, f_line_of, PySem.W.fnOf "line_of" "line_of" (defArgs s_line_of) (defBody s_line_of) (defScope s_line_of) .none kV_line_of dc_line_of pm_line_of an_line_of cd_line_of ct_line_of, f_number_of, PySem.W.fnOf "number_of" "number_of" (defArgs s_number_of) (defBody s_number_of) (defScope s_number_of) .none kV_number_of dc_number_of pm_number_of an_number_of cd_number_of ct_number_of, f_end_line, PySem.W.fnOf "end_line" "end_line" (defArgs s_end_line) (defBody s_end_line) (defScope s_end_line) .none kV_end_line dc_end_line pm_end_line an_end_line cd_end_line ct_end_line, f_has_end, PySem.W.fnOf "has_end" "has_end" (defArgs s_has_end) (defBody s_has_end) (defScope s_has_end) .none kV_has_end dc_has_end pm_has_end an_has_end cd_has_end ct_has_end, f_numbers_of, PySem.W.fnOf "numbers_of" "numbers_of" (defArgs s_numbers_of) (defBody s_numbers_of) (defScope s_numbers_of) .none kV_numbers_of dc_numbers_of pm_numbers_of an_numbers_of cd_numbers_of ct_numbers_of, f_are_whole, PySem.W.fnOf "are_whole" "are_whole" (defArgs s_are_whole) (defBody s_are_whole) (defScope s_are_whole) .none kV_are_whole dc_are_whole pm_are_whole an_are_whole cd_are_whole ct_are_whole, f_clock_of, PySem.W.fnOf "clock_of" "clock_of" (defArgs s_clock_of) (defBody s_clock_of) (defScope s_clock_of) .none kV_clock_of dc_clock_of pm_clock_of an_clock_of cd_clock_of ct_clock_of, f_kept_count, PySem.W.fnOf "kept_count" "kept_count" (defArgs s_kept_count) (defBody s_kept_count) (defScope s_kept_count) .none kV_kept_count dc_kept_count pm_kept_count an_kept_count cd_kept_count ct_kept_count, f_Shelf___init__, PySem.W.fnOf "__init__" "Shelf.__init__" (defArgs s_Shelf___init__) (defBody s_Shelf___init__) (defScope s_Shelf___init__) .none kV_Shelf___init__ dc_Shelf___init__ pm_Shelf___init__ an_Shelf___init__ cd_Shelf___init__ ct_Shelf___init__, f_Shelf_write, PySem.W.fnOf "write" "Shelf.write" (defArgs s_Shelf_write) (defBody s_Shelf_write) (defScope s_Shelf_write) .none kV_Shelf_write dc_Shelf_write pm_Shelf_write an_Shelf_write cd_Shelf_write ct_Shelf_write, f_Shelf_torn, PySem.W.fnOf "torn" "Shelf.torn" (defArgs s_Shelf_torn) (defBody s_Shelf_torn) (defScope s_Shelf_torn) .none kV_Shelf_torn dc_Shelf_torn pm_Shelf_torn an_Shelf_torn cd_Shelf_torn ct_Shelf_torn, f_Shelf_last, PySem.W.fnOf "last" "Shelf.last" (defArgs s_Shelf_last) (defBody s_Shelf_last) (defScope s_Shelf_last) .none kV_Shelf_last dc_Shelf_last pm_Shelf_last an_Shelf_last cd_Shelf_last ct_Shelf_last, f_Shelf_tell, PySem.W.fnOf "tell" "Shelf.tell" (defArgs s_Shelf_tell) (defBody s_Shelf_tell) (defScope s_Shelf_tell) .none kV_Shelf_tell dc_Shelf_tell pm_Shelf_tell an_Shelf_tell cd_Shelf_tell ct_Shelf_tell, f_Shelf_name_late, PySem.W.fnOf "name_late" "Shelf.name_late" (defArgs s_Shelf_name_late) (defBody s_Shelf_name_late) (defScope s_Shelf_name_late) .none kV_Shelf_name_late dc_Shelf_name_late pm_Shelf_name_late an_Shelf_name_late cd_Shelf_name_late ct_Shelf_name_late, f_u_law_keep, PySem.W.fnOf "_law_keep" "_law_keep" (defArgs s_u_law_keep) (defBody s_u_law_keep) (defScope s_u_law_keep) .none kV_u_law_keep dc_u_law_keep pm_u_law_keep an_u_law_keep cd_u_law_keep ct_u_law_keep, f_u_law_broken, PySem.W.fnOf "_law_broken" "_law_broken" (defArgs s_u_law_broken) (defBody s_u_law_broken) (defScope s_u_law_broken) .none kV_u_law_broken dc_u_law_broken pm_u_law_broken an_u_law_broken cd_u_law_broken ct_u_law_broken, f_u_law_due, PySem.W.fnOf "_law_due" "_law_due" (defArgs s_u_law_due) (defBody s_u_law_due) (defScope s_u_law_due) .none kV_u_law_due dc_u_law_due pm_u_law_due an_u_law_due cd_u_law_due ct_u_law_due, f_u_law_same, PySem.W.fnOf "_law_same" "_law_same" (defArgs s_u_law_same) (defBody s_u_law_same) (defScope s_u_law_same) .none kV_u_law_same dc_u_law_same pm_u_law_same an_u_law_same cd_u_law_same ct_u_law_same, f_u_law_right, PySem.W.fnOf "_law_right" "_law_right" (defArgs s_u_law_right) (defBody s_u_law_right) (defScope s_u_law_right) .none kV_u_law_right dc_u_law_right pm_u_law_right an_u_law_right cd_u_law_right ct_u_law_right, f_law, PySem.W.fnOf "law" "law" (defArgs s_law) (defBody s_law) (defScope s_law) .none kV_law dc_law pm_law an_law cd_law ct_law, c_FlowError, c_Broken, c_Shelf⟩ : Ad) :=
  ⟨fun_mk l_u_wall c_u_wall k_u_wall,
    (fun_mk (st := s_u_wall) l_u_wall c_u_wall k_u_wall).binds (ps := ["k"]) fun _ _ _ _ _ _ us hl => match us, hl with | [_], _ => rfl,
    PySem.W.mg_of X G a_u_wall,
    fun_mk l_is_whole c_is_whole k_is_whole,
    (fun_mk (st := s_is_whole) l_is_whole c_is_whole k_is_whole).binds (ps := ["thing"]) fun _ _ _ _ _ _ us hl => match us, hl with | [_], _ => rfl,
    PySem.W.mg_of X G a_is_whole,
    fun_mk l_is_among c_is_among k_is_among,
    (fun_mk (st := s_is_among) l_is_among c_is_among k_is_among).binds (ps := ["thing", "least", "most"]) fun _ _ _ _ _ _ us hl => match us, hl with | [_, _, _], _ => rfl,
    PySem.W.mg_of X G a_is_among,
    fun_mk l_is_time c_is_time k_is_time,
    (fun_mk (st := s_is_time) l_is_time c_is_time k_is_time).binds (ps := ["thing"]) fun _ _ _ _ _ _ us hl => match us, hl with | [_], _ => rfl,
    PySem.W.mg_of X G a_is_time,
    fun_mk l_is_made_of c_is_made_of k_is_made_of,
    (fun_mk (st := s_is_made_of) l_is_made_of c_is_made_of k_is_made_of).binds (ps := ["text", "signs"]) fun _ _ _ _ _ _ us hl => match us, hl with | [_, _], _ => rfl,
    PySem.W.mg_of X G a_is_made_of,
    fun_mk l_figures_of c_figures_of k_figures_of,
    (fun_mk (st := s_figures_of) l_figures_of c_figures_of k_figures_of).binds (ps := ["number"]) fun _ _ _ _ _ _ us hl => match us, hl with | [_], _ => rfl,
    PySem.W.mg_of X G a_figures_of,
    fun_mk l_number_text c_number_text k_number_text,
    (fun_mk (st := s_number_text) l_number_text c_number_text k_number_text).binds (ps := ["number"]) fun _ _ _ _ _ _ us hl => match us, hl with | [_], _ => rfl,
    PySem.W.mg_of X G a_number_text,
    fun_mk l_line_of c_line_of k_line_of,
    (fun_mk (st := s_line_of) l_line_of c_line_of k_line_of).binds (ps := ["parts"]) fun _ _ _ _ _ _ us hl => match us, hl with | [_], _ => rfl,
    PySem.W.mg_of X G a_line_of,
    fun_mk l_number_of c_number_of k_number_of,
    (fun_mk (st := s_number_of) l_number_of c_number_of k_number_of).binds (ps := ["word"]) fun _ _ _ _ _ _ us hl => match us, hl with | [_], _ => rfl,
    PySem.W.mg_of X G a_number_of,
    fun_mk l_end_line c_end_line k_end_line,
    (fun_mk (st := s_end_line) l_end_line c_end_line k_end_line).binds (ps := ["many"]) fun _ _ _ _ _ _ us hl => match us, hl with | [_], _ => rfl,
    PySem.W.mg_of X G a_end_line,
    fun_mk l_has_end c_has_end k_has_end,
    (fun_mk (st := s_has_end) l_has_end c_has_end k_has_end).binds (ps := ["lines"]) fun _ _ _ _ _ _ us hl => match us, hl with | [_], _ => rfl,
    PySem.W.mg_of X G a_has_end,
    fun_mk l_numbers_of c_numbers_of k_numbers_of,
    (fun_mk (st := s_numbers_of) l_numbers_of c_numbers_of k_numbers_of).binds (ps := ["words"]) fun _ _ _ _ _ _ us hl => match us, hl with | [_], _ => rfl,
    PySem.W.mg_of X G a_numbers_of,
    fun_mk l_are_whole c_are_whole k_are_whole,
    (fun_mk (st := s_are_whole) l_are_whole c_are_whole k_are_whole).binds (ps := ["numbers"]) fun _ _ _ _ _ _ us hl => match us, hl with | [_], _ => rfl,
    PySem.W.mg_of X G a_are_whole,
    fun_mk l_clock_of c_clock_of k_clock_of,
    (fun_mk (st := s_clock_of) l_clock_of c_clock_of k_clock_of).binds (ps := ["line"]) fun _ _ _ _ _ _ us hl => match us, hl with | [_], _ => rfl,
    PySem.W.mg_of X G a_clock_of,
    fun_mk l_kept_count c_kept_count k_kept_count,
    (fun_mk (st := s_kept_count) l_kept_count c_kept_count k_kept_count).binds (ps := ["lines"]) fun _ _ _ _ _ _ us hl => match us, hl with | [_], _ => rfl,
    PySem.W.mg_of X G a_kept_count,
    fun_mk l_Shelf___init__ c_Shelf___init__ k_Shelf___init__,
    (fun_mk (st := s_Shelf___init__) l_Shelf___init__ c_Shelf___init__ k_Shelf___init__).binds (ps := ["self"]) fun _ _ _ _ _ _ us hl => match us, hl with | [_], _ => rfl,
    fun_mk l_Shelf_write c_Shelf_write k_Shelf_write,
    (fun_mk (st := s_Shelf_write) l_Shelf_write c_Shelf_write k_Shelf_write).binds (ps := ["self", "slot", "lines"]) fun _ _ _ _ _ _ us hl => match us, hl with | [_, _, _], _ => rfl,
    fun_mk l_Shelf_torn c_Shelf_torn k_Shelf_torn,
    (fun_mk (st := s_Shelf_torn) l_Shelf_torn c_Shelf_torn k_Shelf_torn).binds (ps := ["self", "slot", "lines", "many"]) fun _ _ _ _ _ _ us hl => match us, hl with | [_, _, _, _], _ => rfl,
    fun_mk l_Shelf_last c_Shelf_last k_Shelf_last,
    (fun_mk (st := s_Shelf_last) l_Shelf_last c_Shelf_last k_Shelf_last).binds (ps := ["self"]) fun _ _ _ _ _ _ us hl => match us, hl with | [_], _ => rfl,
    fun_mk l_Shelf_tell c_Shelf_tell k_Shelf_tell,
    (fun_mk (st := s_Shelf_tell) l_Shelf_tell c_Shelf_tell k_Shelf_tell).binds (ps := ["self", "number", "row"]) fun _ _ _ _ _ _ us hl => match us, hl with | [_, _, _], _ => rfl,
    fun_mk l_Shelf_name_late c_Shelf_name_late k_Shelf_name_late,
    (fun_mk (st := s_Shelf_name_late) l_Shelf_name_late c_Shelf_name_late k_Shelf_name_late).binds (ps := ["self", "place"]) fun _ _ _ _ _ _ us hl => match us, hl with | [_, _], _ => rfl,
    fun_mk l_u_law_keep c_u_law_keep k_u_law_keep,
    (fun_mk (st := s_u_law_keep) l_u_law_keep c_u_law_keep k_u_law_keep).binds (ps := ["_law_cell"]) fun _ _ _ _ _ _ us hl => match us, hl with | [_], _ => rfl,
    PySem.W.mg_of X G a_u_law_keep,
    fun_mk l_u_law_broken c_u_law_broken k_u_law_broken,
    (fun_mk (st := s_u_law_broken) l_u_law_broken c_u_law_broken k_u_law_broken).binds (ps := ["_law_lines", "_law_cell"]) fun _ _ _ _ _ _ us hl => match us, hl with | [_, _], _ => rfl,
    PySem.W.mg_of X G a_u_law_broken,
    fun_mk l_u_law_due c_u_law_due k_u_law_due,
    (fun_mk (st := s_u_law_due) l_u_law_due c_u_law_due k_u_law_due).binds (ps := ["_law_slots"]) fun _ _ _ _ _ _ us hl => match us, hl with | [_], _ => rfl,
    PySem.W.mg_of X G a_u_law_due,
    fun_mk l_u_law_same c_u_law_same k_u_law_same,
    (fun_mk (st := s_u_law_same) l_u_law_same c_u_law_same k_u_law_same).binds (ps := ["_law_found", "_law_due_here"]) fun _ _ _ _ _ _ us hl => match us, hl with | [_, _], _ => rfl,
    PySem.W.mg_of X G a_u_law_same,
    fun_mk l_u_law_right c_u_law_right k_u_law_right,
    (fun_mk (st := s_u_law_right) l_u_law_right c_u_law_right k_u_law_right).binds (ps := ["_law_shelf", "_law_slots", "_law_held"]) fun _ _ _ _ _ _ us hl => match us, hl with | [_, _, _], _ => rfl,
    PySem.W.mg_of X G a_u_law_right,
    fun_mk l_law c_law k_law,
    (fun_mk (st := s_law) l_law c_law k_law).binds (ps := ["_law_script"]) fun _ _ _ _ _ _ us hl => match us, hl with | [_], _ => rfl,
    PySem.W.mg_of X G a_law,
    PySem.W.mg_of X G a_FlowError,
    x_FlowError,
    PySem.W.mg_of X G a_Broken,
    x_Broken,
    PySem.W.mg_of X G a_Shelf,
    ⟨pg_Shelf, hd_Shelf, po_Shelf, sa_Shelf⟩,
    n_Shelf_slots,
    n_Shelf_rows,
    n_Shelf_late,
    ⟨a_Shelf___init__, fn_Shelf___init__, k_Shelf___init__⟩,
    ⟨a_Shelf_write, fn_Shelf_write, k_Shelf_write⟩,
    ⟨a_Shelf_torn, fn_Shelf_torn, k_Shelf_torn⟩,
    ⟨a_Shelf_last, fn_Shelf_last, k_Shelf_last⟩,
    ⟨a_Shelf_tell, fn_Shelf_tell, k_Shelf_tell⟩,
    ⟨a_Shelf_name_late, fn_Shelf_name_late, k_Shelf_name_late⟩,
    ⟨mks_Shelf, a_Shelf___init__, fn_Shelf___init__, kp_Shelf⟩,
    ⟨_, PySem.W.mg_of X G g_FIGURES⟩,
    ⟨_, PySem.W.mg_of X G g_MOST_SIGNS⟩,
    ⟨_, PySem.W.mg_of X G g_MOST_TIME⟩,
    PySem.W.mg_none_of X G z_ValueError,
    PySem.W.mg_none_of X G z_all,
    PySem.W.mg_none_of X G z_bool,
    PySem.W.mg_none_of X G z_int,
    PySem.W.mg_none_of X G z_isinstance,
    PySem.W.mg_none_of X G z_len,
    PySem.W.mg_none_of X G z_list,
    PySem.W.mg_none_of X G z_max,
    PySem.W.mg_none_of X G z_min,
    PySem.W.mg_none_of X G z_range,
    PySem.W.mg_none_of X G z_reversed,
    PySem.W.mg_none_of X G z_str,
    PySem.W.mg_none_of X G z_tuple⟩
variable {P : Program} {w : World} {K : PySem.W.Frag} {mg : Str → Option Value} {base : Heap} {ad : Ad}
inductive Tg where
  | non | bl | int | str | lst | tup | dct
def nm : Tg → String
  | .non => "NoneType" | .bl => "bool" | .int => "int" | .str => "str" | .lst => "list" | .tup => "tuple" | .dct => "dict"
def Fl (y : V) : Prop := (∃ i, y = .int i) ∨ ∃ z : Str, y = .str z ∧ z.length ≤ 60000
inductive Th (H : Hp) : V → Tg → Prop where
  | non : Th H .non .non
  | bl (b : Bool) : Th H (.bl b) .bl
  | int (i : Int) : Th H (.int i) .int
  | str (z : Str) (hz : z.length ≤ 60000) : Th H (.str z) .str
  | lst {a : Addr} {xs : List V} (e : H a = some (.lst xs)) : Th H (.ref a) .lst
  | tup {a : Addr} {xs : List V} (e : H a = some (.tup xs)) (hx : ∀ y ∈ xs, Fl y) : Th H (.ref a) .tup
  | dct {a : Addr} {kvs : List (Key × V)} (e : H a = some (.dK kvs)) : Th H (.ref a) .dct
theorem Th.ty {K : PySem.W.Frag} {H : Hp} {x : V} {g : Tg} (h : Th H x g) : TyOf K H x (.type (nm g)) := by
  cases h with
  | non => exact .non
  | bl b => exact .bl b
  | int i => exact .int i
  | str z _ => exact .str z
  | lst e => exact .lst e
  | tup e _ => exact .tup e
  | dct e => exact .dK e
theorem Th.mono {H H' : Hp} {x : V} {g : Tg} (h : Th H x g) (s : Same H H') : Th H' x g := by
  cases h with
  | non => exact .non
  | bl b => exact .bl b
  | int i => exact .int i
  | str z hz => exact .str z hz
  | lst e => exact .lst (s _ _ e)
  | tup e hx => exact .tup (s _ _ e) hx
  | dct e => exact .dct (s _ _ e)
def isI : Tg → Bool
  | .int => true | .bl => true | _ => false
def isB : Tg → Bool
  | .bl => true | _ => false
def isS : Tg → Bool
  | .str => true | _ => false
theorem kit_int (K : PySem.W.Frag) (g : Tg) : PySem.W.kitOne K (.type (nm g)) (.type "int") = some (isI g) := by cases g <;> rfl
theorem kit_bool (K : PySem.W.Frag) (g : Tg) : PySem.W.kitOne K (.type (nm g)) (.type "bool") = some (isB g) := by cases g <;> rfl
theorem kit_str (K : PySem.W.Frag) (g : Tg) : PySem.W.kitOne K (.type (nm g)) (.type "str") = some (isS g) := by cases g <;> rfl
def wholeV : V → Bool
  | .int _ => true | _ => false
def amongV (a b : Int) : V → Bool
  | .int i => decide (a ≤ i) && decide (i ≤ b) | _ => false
def sp1 (f : V → Bool) : Sp := fun vs H Q _ => ∃ x g, vs = [x] ∧ Th H x g ∧ ∀ H', Same H H' → Q (.bl (f x)) H'
def sp3 : Sp := fun vs H Q _ => ∃ x g a b, vs = [x, .int a, .int b] ∧ Th H x g ∧ ∀ H', Same H H' → Q (.bl (amongV a b x)) H'
def spMade : Sp := fun vs H Q _ => ∃ z y, vs = [.str z, .str y] ∧ z.length ≤ 60000 ∧ ∀ H', Same H H' → Q (.bl ((signsV z).all fun x => match x with | .str c => !(Builtin.Str.occurrences y c 0 y.length 1).isEmpty | _ => false)) H'
def sp_law (K : PySem.W.Frag) : Sp := fun vs H Q _ => ∃ (a : Addr) (ns : List Int), vs = [.ref a] ∧ SqL K H a (ns.map V.int) ∧ ns.length ≤ 63 ∧ ∀ H', Q (.bl true) H'
theorem law_sp (K : PySem.W.Frag) (H : Hp) (a : Addr) (ns : List Int) (hl : ns.length ≤ 63) (_ : Only H) (hS : SqL K H a (ns.map V.int)) : sp_law K [.ref a] H (fun v _ => v = .bl true) fun _ _ _ => False := ⟨a, ns, rfl, hS, hl, fun _ => rfl⟩
theorem ok_is_whole (T : Tx K mg ad) : FnOk P w K mg base CX0 1 ad.a_is_whole ad.d_is_whole ["thing"] (sp1 wholeV) := by
  refine T.F_is_whole.ok sc_is_whole (fun vs H Q E h => ?_) (fun cdv A outer s H vs Q E hr h => ?_)
  · obtain ⟨x, g, rfl, _⟩ := h
    rfl
  · obtain ⟨x, g, rfl, hx, k⟩ := h
    refine ⟨_, pss_one (ps_ret (pe_and (pe_callB (call_isinst (K := K)) (by rfl) T.z_isinstance PyProof.Rows.boot_isinstance (pa_cons (pv 0) (pa_cons (pe_bltn (v := .ty "int") (by rfl) T.z_int PyProof.Rows.boot_int rfl) pa_nil)))
      (pe_one (pe_not (pe_callB (call_isinst (K := K)) (by rfl) T.z_isinstance PyProof.Rows.boot_isinstance (pa_cons (pv 0) (pa_cons (pe_bltn (v := .ty "bool") (by rfl) T.z_bool PyProof.Rows.boot_bool rfl) pa_nil))))))), ?_⟩
    refine ⟨_, rfl, x, "int", _, _, rfl, hx.ty, kit_int _ g, _, rfl, ?_⟩
    have k := k H (Same.refl H)
    cases hx with
    | int i => exact iteT ⟨_, rfl, _, "bool", _, _, rfl, (Th.int i).ty, kit_bool _ .int, _, rfl, k⟩
    | bl b => exact iteT ⟨_, rfl, _, "bool", _, _, rfl, (Th.bl b).ty, kit_bool _ .bl, _, rfl, k⟩
    | _ => exact iteF k
theorem ok_is_among (T : Tx K mg ad) : FnOk P w K mg base CX0 2 ad.a_is_among ad.d_is_among ["thing", "least", "most"] sp3 := by
  have G := ok_is_whole (P := P) (w := w) (base := base) T
  refine T.F_is_among.ok sc_is_among (fun vs H Q E h => ?_) (fun cdv A outer s H vs Q E hr h => ?_)
  · obtain ⟨x, g, a, b, rfl, _⟩ := h
    rfl
  · obtain ⟨x, g, a, b, rfl, hx, k⟩ := h
    refine ⟨_, pss_one (ps_ret (pe_and (pe_call G hr (by rfl) T.m_is_whole T.F_is_whole.kp T.b_is_whole .nil pass0 (pa_cons (pv 0) pa_nil))
      (pe_one (pe_chain op_le op_le (pv 1) (pv 0) (pv 2))))), ?_⟩
    refine ⟨_, rfl, x, g, rfl, hx, fun H1 s1 => ⟨_, rfl, ?_⟩⟩
    have k := k H1 s1
    cases hx with
    | int i =>
      refine iteT ⟨_, rfl, _, rfl, _, _, rfl, rfl, _, rfl, ?_⟩
      have k : Q (.bl (decide (a ≤ i) && decide (i ≤ b))) H1 := k
      refine iteB (fun e => ?_) fun e => ?_
      · rw [e, Bool.true_and] at k
        exact ⟨_, rfl, _, _, rfl, rfl, k⟩
      · rw [e, Bool.false_and] at k
        exact k
    | _ => exact iteF k
theorem ok_is_time (T : Tx K mg ad) : FnOk P w K mg base CX0 3 ad.a_is_time ad.d_is_time ["thing"] (sp1 (amongV 0 1000000000)) := by
  have G := ok_is_among (P := P) (w := w) (base := base) T
  refine T.F_is_time.ok sc_is_time (fun vs H Q E h => ?_) (fun cdv A outer s H vs Q E hr h => ?_)
  · obtain ⟨x, g, rfl, _⟩ := h
    rfl
  · obtain ⟨x, g, rfl, hx, k⟩ := h
    obtain ⟨t, ht⟩ := T.g_MOST_TIME
    refine ⟨_, pss_one (ps_ret (pe_call G hr (by rfl) T.m_is_among T.F_is_among.kp T.b_is_among .nil pass0 (pa_cons (pv 0) (pa_cons pe_int (pa_cons (pe_glob (v := .int 1000000000) (by rfl) ht ⟨t, rfl⟩) pa_nil))))), ?_⟩
    exact ⟨_, rfl, x, g, _, _, rfl, hx, k⟩
theorem ok_is_made_of (T : Tx K mg ad) : FnOk P w K mg base CX0 1 ad.a_is_made_of ad.d_is_made_of ["text", "signs"] spMade := by
  refine T.F_is_made_of.ok sc_is_made_of (fun vs H Q E h => ?_) (fun cdv A outer s H vs Q E hr h => ?_)
  · obtain ⟨z, y, rfl, _⟩ := h
    rfl
  · obtain ⟨z, y, rfl, hz, k⟩ := h
    refine ⟨_, pss_one (ps_ret (pe_callB (call_all_bools (K := K) rfl) (by rfl) T.z_all PyProof.Rows.boot_all (pa_cons
      (pe_comp1 (osc := defScope s_is_made_of) [("signs", 1)] rfl (pi_str (pv 0)) rfl rfl (by decide +kernel) (by decide +kernel) (by decide +kernel) ⟨rfl, rfl, trivial⟩ rfl (by decide +kernel)
        (fun _ _ _ _ => pts_nil) (fun _ _ _ _ => pe_cmpR op_in_str (pv 0) (pv 1) (by with_unfolding_all rfl))) pa_nil))), ?_⟩
    refine ⟨_, rfl, z, rfl, comp_pure_str (fun _ => true) (fun x => .bl (match x with | .str c => !(Builtin.Str.occurrences y c 0 y.length 1).isEmpty | _ => false)) (Nat.le_trans hz (by decide)) (fun x R _ q => q) (fun x R hx _ q => ?_) fun D hD => ?_⟩
    · obtain ⟨c, _, rfl⟩ := List.mem_map.mp hx
      exact ⟨_, rfl, _, rfl, _, _, rfl, rfl, q⟩
    · refine ⟨D, (signsV z).map (fun x => match x with | .str c => !(Builtin.Str.occurrences y c 0 y.length 1).isEmpty | _ => false), rfl, SqL.of ?_, ?_⟩
      · rw [upd_same, List.filter_eq_self.mpr (fun _ _ => rfl), List.map_map]
        rfl
      · have q := k _ ((Same.refl H).upd (o := .lst (List.map (fun x => V.bl (match x with | .str c => !(Builtin.Str.occurrences y c 0 y.length 1).isEmpty | _ => false)) (List.filter (fun _ => true) (signsV z)))) hD)
        rw [List.all_map]
        exact q
abbrev depth : Nat := 9
abbrev FIG : Str := "0123456789"
def pS (y : Str) : V → Bool
  | .str c => !(Builtin.Str.occurrences y c 0 y.length 1).isEmpty | _ => false
abbrev tx (n : Int) : Str := PySem.Str.ofString (toString n)
def numT (n : Int) : Str := if n < 0 then ("-" : Str) ++ tx (-n) else tx n
def bodyS (z : Str) : Str := if Txt.startswith z "-" = true then Txt.slice z (some 1) none else z
def acc (z : Str) : Bool := (!decide ((60 : Int) < (z.length : Int)) && ((!decide (V.str (bodyS z) = V.str "") && (signsV (bodyS z)).all (pS FIG)) && !(Txt.startswith (bodyS z) "0" && !decide (V.str z = V.str "0"))))
def numV (z : Str) : V := if acc z = true then .int ((PySem.intText? z).getD 0) else .non
def spFig : Sp := fun vs H Q _ => ∃ n : Int, vs = [.int n] ∧ 0 ≤ n ∧ n < 10 ^ 60 ∧ ∀ H', Same H H' → Q (.str (tx n)) H'
def spText : Sp := fun vs H Q _ => ∃ n : Int, vs = [.int n] ∧ -(10 ^ 60) < n ∧ n < 10 ^ 60 ∧ ∀ H', Same H H' → Q (.str (numT n)) H'
def spNum : Sp := fun vs H Q _ => ∃ z : Str, vs = [.str z] ∧ z.length ≤ 60000 ∧ ∀ H', Same H H' → Q (numV z) H'
theorem log_small {n : Int} (h0 : 0 ≤ n) (h1 : n < 10 ^ 60) : n.natAbs.log2 < 1920 := by
  by_cases hz : n.natAbs = 0
  · rw [hz]; decide
  · refine (Nat.log2_lt hz).mpr ?_
    have h2 : n.natAbs < 10 ^ 60 := by
      have e : ((10 ^ 60 : Nat) : Int) = (10 : Int) ^ 60 := by decide +kernel
      omega
    exact Nat.lt_trans h2 (by decide +kernel)
theorem tx_dig {n : Int} (h0 : 0 ≤ n) : (tx n).cps.toList = Fig.dig n.toNat := by
  obtain ⟨m, rfl⟩ := Int.eq_ofNat_of_zero_le h0
  exact Fig.str_dig m
theorem len_cps (z : Str) : z.length = z.cps.toList.length := by simp [Str.length]
theorem join_one (z : Str) : Txt.join "" [z] = z := eq_of_beq (PyProof.Rows.join_plain_closes "" [z])
theorem tx_len {n : Int} {k : Nat} (h0 : 0 ≤ n) (h : n.toNat < 10 ^ (k + 1)) : (tx n).length ≤ k + 1 := by
  rw [len_cps, tx_dig h0]
  exact Fig.dig_len k _ h
def spMade2 : Sp := fun vs H Q _ => ∃ z y, vs = [.str z, .str y] ∧ z.length ≤ 60000 ∧ ∀ H', Same H H' → Q (.bl ((signsV z).all (pS y))) H'
theorem ok_made2 (T : Tx K mg ad) : FnOk P w K mg base CX0 1 ad.a_is_made_of ad.d_is_made_of ["text", "signs"] spMade2 := by
  have e : spMade = spMade2 := by
    unfold spMade spMade2
    funext vs H Q E
    refine congrArg Exists (funext fun z => congrArg Exists (funext fun y => ?_))
    have e2 : (fun x : V => match x with | .str c => !(Builtin.Str.occurrences y c 0 y.length 1).isEmpty | _ => false) = pS y := by
      funext x
      cases x <;> rfl
    rw [← e2] <;> rfl
  rw [← e]
  exact ok_is_made_of T
theorem ok_figures (T : Tx K mg ad) : FnOk P w K mg base CX0 1 ad.a_figures_of ad.d_figures_of ["number"] spFig := by
  refine T.F_figures_of.ok sc_figures_of (fun vs H Q E h => ?_) (fun cdv A outer s H vs Q E hr h => ?_)
  · obtain ⟨n, rfl, _⟩ := h
    rfl
  · obtain ⟨n, rfl, h0, h1, k⟩ := h
    have nd := sc_figures_of.nd
    refine ⟨_, (pss_cons (ps_set (i := 1) nd rfl (Or.inl rfl) (pe_op op_pow pe_int pe_int))
        (pss_cons (ps_set (i := 2) nd rfl (Or.inl rfl) (pe_lst pa_nil))
        (pss_cons (ps_while PassesOwn.never (pt_cmpR op_ge (pv 0) (pv 1) (nomark _)) pss_never)
        (pss_cons (ps_expr (pe_bmK (K := K) PySem.F.plainAttrs_list PySem.F.slot_list_append PySem.F.type_list_append mt_append (pv 2) (pa_cons (pe_callTy call_str_int (by rfl) T.z_str PyProof.Rows.boot_str (pa_cons (pv 0) pa_nil)) pa_nil)))
        (pss_one (ps_ret (pe_bmK (K := K) PySem.F.plainAttrs_str PySem.F.slot_str_join PySem.F.type_str_join (mt_joinRev (K := K) rfl) pe_str (pa_cons (pe_callTy (call_reversed (K := K)) (by rfl) T.z_reversed PyProof.Rows.boot_reversed (pa_cons (pv 2) pa_nil)) pa_nil)))))))), ?_⟩
    refine ⟨_, _, rfl, rfl, ⟨by decide, by decide, by decide⟩, ⟨Nat.zero_le _, fun l hl => ?_⟩⟩
    refine ⟨fun m σ' H' => m = 0 ∧ σ' = [some (.int n), some (.int ((10 : Int) ^ Int.toNat 60)), some (.ref l)] ∧ H' = upd H l (.lst []), ⟨0, rfl, rfl, rfl⟩, ?_⟩
    rintro m σ' H' ⟨rfl, rfl, rfl⟩
    refine ⟨_, rfl, _, rfl, _, _, rfl, rfl, _, rfl, ?_⟩
    have hf : decide ((10 : Int) ^ Int.toNat 60 ≤ n) = false := decide_eq_false (by
      have e : (10 : Int) ^ Int.toNat 60 = 10 ^ 60 := rfl
      omega)
    rw [hf]
    refine iteF ?_
    refine ⟨_, rfl, .inl ⟨rfl, _, SqL.of upd_same⟩, _, rfl, n, rfl, log_small h0 h1, l, _, _, rfl, rfl, upd_same, by decide, ?_⟩
    have e1 : upd (upd H l (.lst [])) l (.lst ([] ++ [V.str (tx n)])) l = some (.lst ([tx n].map V.str)) := upd_same
    refine ⟨rfl, _, rfl, l, _, rfl, SqL.of e1, fun r hr => ?_⟩
    have s1 : Same H (upd (upd H l (.lst [])) l (.lst ([] ++ [V.str (tx n)]))) := fun b o e => by
      rw [upd_ne (ne_of_none e hl), upd_ne (ne_of_none e hl)]; exact e
    have hr' : upd (upd H l (.lst [])) l (.lst ([] ++ [V.str (tx n)])) r = none := hr
    have hlr : l ≠ r := ne_of_none e1 hr'
    refine ⟨"", r, l, [tx n], rfl, rfl, upd_same, SqL.of (by rw [upd_ne hlr]; exact e1), ?_, ?_⟩
    · have := tx_len (k := 59) h0 (by
        have e : ((10 ^ 60 : Nat) : Int) = (10 : Int) ^ 60 := by decide +kernel
        omega)
      have e0 : (Str.ofString "").length = 0 := rfl
      simp
      omega
    · show Q (.str (Txt.join "" [tx n])) _
      rw [join_one]
      refine k _ fun b o e => ?_
      rw [upd_ne (ne_of_none (s1 b o e) hr'), upd_ne (ne_of_none (s1 b o e) hr')]
      exact s1 b o e
theorem ok_number_text (T : Tx K mg ad) : FnOk P w K mg base CX0 2 ad.a_number_text ad.d_number_text ["number"] spText := by
  have G_figures_of := ok_figures (P := P) (w := w) (base := base) T
  refine T.F_number_text.ok sc_number_text (fun vs H Q E h => ?_) (fun cdv A outer s H vs Q E hr h => ?_)
  · obtain ⟨n, rfl, _⟩ := h
    rfl
  · obtain ⟨n, rfl, h0, h1, k⟩ := h
    refine ⟨_, (pss_cons (ps_if (pt_cmpR op_lt (pv 0) pe_int (nomark _))
        (pss_one (ps_ret (pe_op op_add_str pe_str (pe_call G_figures_of (hr.mono (by decide)) (by rfl) T.m_figures_of T.F_figures_of.kp T.b_figures_of .nil pass0 (pa_cons (pe_un un_neg (pv 0)) pa_nil)))))
        pss_nil)
        (pss_one (ps_ret (pe_call G_figures_of (hr.mono (by decide)) (by rfl) T.m_figures_of T.F_figures_of.kp T.b_figures_of .nil pass0 (pa_cons (pv 0) pa_nil))))), ?_⟩
    refine ⟨_, rfl, _, _, rfl, rfl, _, rfl, ite2 (fun hn => ?_) fun hn => ?_⟩
    · have hn : n < 0 := of_decide_eq_true hn
      refine ⟨_, rfl, _, rfl, -n, rfl, by omega, by omega, fun H1 s1 => ⟨_, _, rfl, rfl, ?_, ?_⟩⟩
      · have := tx_len (n := -n) (k := 59) (by omega) (by
          have e : ((10 ^ 60 : Nat) : Int) = (10 : Int) ^ 60 := by decide +kernel
          omega)
        have e1 : (("-" : Str)).length = 1 := rfl
        have sz : sizeLine = 16777216 := sizeLine_eq
        omega
      · have q := k H1 s1
        unfold numT at q
        rw [if_pos hn] at q
        exact q
    · have hn : ¬ n < 0 := fun z => hn (decide_eq_true z)
      refine ⟨_, rfl, n, rfl, by omega, by omega, fun H1 s1 => ?_⟩
      have q := k H1 s1
      unfold numT at q
      rw [if_neg hn] at q
      exact q

theorem ext_cps {a b : Str} (h : a.cps.toList = b.cps.toList) : a = b := by
  cases a; cases b
  congr 1
  exact Array.toList_inj.mp h
theorem sub_one (z : Str) (c : Nat) : Txt.startswith z ⟨#[c]⟩ = decide (z.cps.toList[0]? = some c) := by
  unfold Txt.startswith
  rw [Bool.eq_iff_iff, Bool.and_eq_true, decide_eq_true_eq, decide_eq_true_eq]
  exact StrLaws.subAt_one z c 0
theorem drop_one (z : Str) (h : 1 ≤ z.length) : (Txt.slice z (some 1) none).cps.toList = z.cps.toList.drop 1 := by
  have e : Txt.slice z (some 1) none = StrLaws.sliceText z (some 1) none := rfl
  rw [e, StrLaws.sliceText_from ⟨by decide, by rw [len_cps] at h; omega⟩]
  show List.take _ (List.drop 1 _) = _
  rw [List.take_of_length_le]
  rw [List.length_drop]
  omega
theorem pS_dig (c : Nat) : pS FIG (.str ⟨#[c]⟩) = decide (48 ≤ c ∧ c ≤ 57) := by
  show (!(Builtin.Str.occurrences FIG ⟨#[c]⟩ 0 FIG.length 1).isEmpty) = _
  rw [StrLaws.found_one FIG c]
  have e : FIG.cps.toList = [48, 49, 50, 51, 52, 53, 54, 55, 56, 57] := by decide +kernel
  rw [e, Bool.eq_iff_iff, decide_eq_true_eq, decide_eq_true_eq]
  simp only [List.mem_cons, List.not_mem_nil, or_false]
  omega
theorem all_dig (z : Str) : (signsV z).all (pS FIG) = true ↔ NumText.AllDigits z.cps.toList := by
  unfold signsV
  rw [List.all_map, List.all_eq_true]
  constructor
  · intro h c hc
    have q := h c hc
    have q' : pS FIG (.str ⟨#[c]⟩) = true := q
    rw [pS_dig, decide_eq_true_eq] at q'
    exact q'
  · intro h c hc
    show pS FIG (.str ⟨#[c]⟩) = true
    rw [pS_dig]
    exact decide_eq_true (h c hc)
theorem body_len (z : Str) : (bodyS z).length ≤ z.length := by
  unfold bodyS
  split
  · exact Txt.slice_le _ _ _
  · exact Nat.le_refl _
theorem body_cps (z : Str) : (z.cps.toList = 45 :: (bodyS z).cps.toList) ∨ (z.cps.toList[0]? ≠ some 45 ∧ bodyS z = z) := by
  have e : Txt.startswith z "-" = decide (z.cps.toList[0]? = some 45) := sub_one z 45
  unfold bodyS
  rw [e]
  by_cases h : z.cps.toList[0]? = some 45
  · left
    rw [if_pos (decide_eq_true h)]
    cases q : z.cps.toList with
    | nil => rw [q] at h; cases h
    | cons a r =>
      rw [q] at h
      have h' : a = 45 := Option.some.inj h
      rw [drop_one z (by rw [len_cps, q]; exact Nat.succ_le_succ (Nat.zero_le _)), q, h']
      rfl
  · right
    rw [if_neg (by rw [decide_eq_true_eq]; exact h)]
    exact ⟨h, rfl⟩
theorem int_ok (z : Str) (h : acc z = true) : ∃ n, PySem.intText? z = some n := by
  unfold acc at h
  simp only [Bool.and_eq_true, Bool.not_eq_true', decide_eq_false_iff_not] at h
  obtain ⟨h1, ⟨h2, h3⟩, _⟩ := h
  have hd := (all_dig _).mp h3
  have hne : (bodyS z).cps.toList ≠ [] := fun e => h2 (congrArg V.str (ext_cps e))
  rcases body_cps z with e | ⟨_, e⟩
  · exact ⟨_, PySem.intText_neg e hd hne (by omega)⟩
  · rw [e] at hd hne
    exact ⟨_, PySem.intText_digits hd hne (by omega)⟩

theorem numV_no {z : Str} (h : acc z = false) : numV z = .non := by
  unfold numV
  rw [h]
  exact if_neg Bool.false_ne_true
theorem numV_yes {z : Str} (h : acc z = true) : ∃ n, PySem.intText? z = some n ∧ numV z = .int n := by
  obtain ⟨n, e⟩ := int_ok z h
  refine ⟨n, e, ?_⟩
  unfold numV
  rw [if_pos h, e]
  rfl
theorem ok_number_of (T : Tx K mg ad) : FnOk P w K mg base CX0 2 ad.a_number_of ad.d_number_of ["word"] spNum := by
  have G_is_made_of := ok_made2 (P := P) (w := w) (base := base) T
  refine T.F_number_of.ok sc_number_of (fun vs H Q E h => ?_) (fun cdv A outer s H vs Q E hr h => ?_)
  · obtain ⟨z, rfl, _⟩ := h
    rfl
  · obtain ⟨z, rfl, hz, k⟩ := h
    obtain ⟨t_MOST_SIGNS, h_MOST_SIGNS⟩ := T.g_MOST_SIGNS
    obtain ⟨t_FIGURES, h_FIGURES⟩ := T.g_FIGURES
    have nd := sc_number_of.nd
    refine ⟨_, (pss_cons (ps_if (pt_cmpR op_gt (pe_callB call_len_str (by rfl) T.z_len PySem.boot_len (pa_cons (pv 0) pa_nil)) (pe_glob (v := .int 60) (by rfl) h_MOST_SIGNS ⟨t_MOST_SIGNS, rfl⟩) (nomark _))
        (pss_one (ps_ret pe_non))
        pss_nil)
        (pss_cons (ps_set (i := 1) nd rfl (Or.inl rfl) (pe_ifExp (pt_val (pe_bmK (K := K) PySem.F.plainAttrs_str PySem.F.slot_str_startswith PySem.F.type_str_startswith mt_startswith (pv 0) (pa_cons pe_str pa_nil))) (pe_slice sl_str (pv 0) (po_some pe_int) po_none) (pv 0)))
        (pss_cons (ps_if (PW.pt (pw_or (pt_cmpR op_eq (pv 1) pe_str (nomark _)) (pw_or1 (pt_not (pt_val (pe_call G_is_made_of (hr.mono (by decide)) (by rfl) T.m_is_made_of T.F_is_made_of.kp T.b_is_made_of .nil pass0 (pa_cons (pv 1) (pa_cons (pe_glob (v := .str FIG) (by rfl) h_FIGURES ⟨t_FIGURES, rfl⟩) pa_nil))))))))
        (pss_one (ps_ret pe_non))
        pss_nil)
        (pss_cons (ps_if (PW.pt (pw_and (pt_val (pe_bmK (K := K) PySem.F.plainAttrs_str PySem.F.slot_str_startswith PySem.F.type_str_startswith mt_startswith (pv 1) (pa_cons pe_str pa_nil))) (pw_and1 (pt_cmpR op_ne (pv 0) pe_str (nomark _)))))
        (pss_one (ps_ret pe_non))
        pss_nil)
        (pss_one (ps_ret (pe_callTy call_int_str (by rfl) T.z_int PyProof.Rows.boot_int (pa_cons (pv 0) pa_nil)))))))), ?_⟩
    have hz' : z.length ≤ sizeLine := Nat.le_trans hz (by decide)
    have hb := body_len z
    have no : acc z = false → ∀ H', Same H H' → Q .non H' := fun e H' s => by
      have q := k H' s
      rw [numV_no e] at q
      exact q
    refine ⟨_, rfl, z, rfl, hz', _, _, rfl, rfl, _, rfl, iteB (fun e1 => ?_) fun e1 => ?_⟩
    · exact no (by unfold acc; rw [e1]; rfl) H (Same.refl H)
    have key : ∀ R : VK, R (.str (bodyS z)) H → if Txt.startswith z "-" = true then tSl rSlS (tVar 0) (tPart (tC (.int 1))) tNoPart [some (.str z), none] H R else tVar 0 [some (.str z), none] H R := fun R q => by
      unfold bodyS at q
      refine iteB (fun e => ?_) fun e => ?_
      · rw [if_pos e] at q
        exact ⟨_, rfl, _, rfl, z, rfl, hz', q⟩
      · rw [if_neg (by rw [e]; exact Bool.false_ne_true)] at q
        exact ⟨_, rfl, q⟩
    refine ⟨_, rfl, rfl, z, _, rfl, rfl, _, rfl, key _ ?_⟩
    refine ⟨_, rfl, rfl, _, rfl, iteB (fun e2 => ?_) fun e2 => ?_⟩
    · exact iteT (no (by unfold acc; rw [e1, e2]; rfl) H (Same.refl H))
    refine ⟨_, rfl, bodyS z, FIG, rfl, by omega, fun H1 s1 => ⟨_, rfl, iteB (fun e3 => ?_) fun e3 => ?_⟩⟩
    · have e3 : (signsV (bodyS z)).all (pS FIG) = false := by simpa using e3
      exact no (by unfold acc; rw [e1, e2, e3]; rfl) H1 s1
    have e3 : (signsV (bodyS z)).all (pS FIG) = true := by simpa using e3
    have fin : (Txt.startswith (bodyS z) "0" && !decide (V.str z = V.str "0")) = false → acc z = true := fun e => by unfold acc; rw [e1, e2, e3, e]; rfl
    have last : acc z = true → ∃ (z' : Str) (n : Int), [V.str z] = [.str z'] ∧ PySem.intText? z' = some n ∧ z'.length ≤ 640 ∧ Q (.int n) H1 := fun e => by
      obtain ⟨n, e4, e5⟩ := numV_yes e
      have q := k H1 s1
      rw [e5] at q
      have : ¬ (60 : Int) < z.length := of_decide_eq_false e1
      exact ⟨z, n, rfl, e4, by omega, q⟩
    refine ⟨_, rfl, rfl, _, _, rfl, rfl, _, rfl, iteB (fun e4 => ?_) fun e4 => ?_⟩
    · refine ⟨_, rfl, rfl, _, rfl, iteB (fun e5 => ?_) fun e5 => ?_⟩
      · exact no (by unfold acc; rw [e1, e2, e3, e4, e5]; rfl) H1 s1
      · exact ⟨_, rfl, last (fin (by rw [e4, e5]; rfl))⟩
    · exact iteF ⟨_, rfl, last (fin (by rw [e4]; rfl))⟩
theorem cps_app (a b : Str) : (a ++ b).cps.toList = a.cps.toList ++ b.cps.toList := by
  show (a.cps ++ b.cps).toList = _
  simp
theorem numT_cps (n : Int) : (numT n).cps.toList = (if n < 0 then [45] else []) ++ Fig.dig n.natAbs := by
  unfold numT
  by_cases h : n < 0
  · rw [if_pos h, if_pos h, cps_app, tx_dig (by omega)]
    show [45] ++ _ = _
    congr 2
    omega
  · rw [if_neg h, if_neg h, tx_dig (by omega)]
    show _ = [] ++ _
    rw [List.nil_append]
    congr 1
    omega
theorem numT_len {n : Int} (h0 : -(10 ^ 59) < n) (h1 : n < 10 ^ 59) : (numT n).length ≤ 60 := by
  have e : ((10 ^ 59 : Nat) : Int) = (10 : Int) ^ 59 := by decide +kernel
  have q := Fig.dig_len 58 n.natAbs (by omega)
  rw [len_cps, numT_cps, List.length_append]
  by_cases h : n < 0
  · rw [if_pos h]; show 1 + _ ≤ _; omega
  · rw [if_neg h]; show 0 + _ ≤ _; omega
theorem numT_body (n : Int) : (bodyS (numT n)).cps.toList = Fig.dig n.natAbs := by
  have c := numT_cps n
  by_cases h : n < 0
  · rw [if_pos h] at c
    rcases body_cps (numT n) with e | ⟨e, _⟩
    · rw [e] at c
      exact (List.cons.inj c).2
    · rw [c] at e
      exact absurd rfl e
  · rw [if_neg h, List.nil_append] at c
    rcases body_cps (numT n) with e | ⟨_, e⟩
    · rw [c] at e
      have q := Fig.dig_all n.natAbs 45 (by rw [e]; exact List.mem_cons_self)
      omega
    · rw [e, c]
theorem numT_zero : numT 0 = "0" := by decide +kernel
theorem numT_acc {n : Int} (h0 : -(10 ^ 59) < n) (h1 : n < 10 ^ 59) : acc (numT n) = true := by
  have l := numT_len h0 h1
  have b := numT_body n
  have a1 : decide ((60 : Int) < ((numT n).length : Int)) = false := decide_eq_false (by omega)
  have a2 : decide (V.str (bodyS (numT n)) = V.str "") = false := decide_eq_false fun z => by
    rw [V.str.inj z] at b
    exact Fig.dig_ne _ b.symm
  have a3 : (signsV (bodyS (numT n))).all (pS FIG) = true := (all_dig _).mpr (by rw [b]; exact Fig.dig_all _)
  have a4 : (Txt.startswith (bodyS (numT n)) "0" && !decide (V.str (numT n) = V.str "0")) = false := by
    by_cases hn : n = 0
    · rw [hn, numT_zero, decide_eq_true rfl]
      exact Bool.and_false _
    · have e : Txt.startswith (bodyS (numT n)) "0" = false := by
        have s : Txt.startswith (bodyS (numT n)) "0" = decide ((bodyS (numT n)).cps.toList[0]? = some 48) := sub_one _ 48
        rw [s, b]
        obtain ⟨c, r, e, hc⟩ := Fig.dig_head n.natAbs
        rw [e]
        refine decide_eq_false fun z => hc (by omega) (Option.some.inj z)
      rw [e]
      rfl
  unfold acc
  rw [a1, a2, a3, a4]
  rfl
theorem numV_numT {n : Int} (h0 : -(10 ^ 59) < n) (h1 : n < 10 ^ 59) : numV (numT n) = .int n := by
  have l := numT_len h0 h1
  have c := numT_cps n
  unfold numV
  rw [if_pos (numT_acc h0 h1)]
  by_cases h : n < 0
  · rw [if_pos h] at c
    have c : (numT n).cps.toList = 45 :: Fig.dig n.natAbs := c
    rw [PySem.intText_neg c (Fig.dig_all _) (Fig.dig_ne _) (by omega), Fig.dig_val]
    show V.int (-(n.natAbs : Int)) = _
    congr 1
    omega
  · rw [if_neg h, List.nil_append] at c
    rw [PySem.intText_digits (by rw [c]; exact Fig.dig_all _) (by rw [c]; exact Fig.dig_ne _) (by omega), c, Fig.dig_val]
    show V.int (n.natAbs : Int) = _
    congr 1
    omega
theorem numT_free (n : Int) : 32 ∉ (numT n).cps.toList := fun hc => by
  rw [numT_cps] at hc
  rcases List.mem_append.mp hc with h | h
  · by_cases hn : n < 0
    · rw [if_pos hn] at h
      exact absurd (List.mem_singleton.mp h) (by decide)
    · rw [if_neg hn] at h
      cases h
  · have := Fig.dig_all n.natAbs 32 h
    omega
theorem tx_num (n : Int) : tx n = numT n := by
  unfold numT
  by_cases h : n < 0
  · rw [if_pos h]
    obtain ⟨m, rfl⟩ : ∃ m : Nat, n = Int.negSucc m := ⟨(-n - 1).toNat, by omega⟩
    refine ext_cps ?_
    rw [cps_app]
    show (PySem.Str.ofString ("-" ++ (Nat.repr (m + 1)))).cps.toList = [45] ++ (PySem.Str.ofString (Nat.repr (m + 1))).cps.toList
    rw [PySem.Str.ofString_eq_toList, PySem.Str.ofString_eq_toList]
    show (List.map Char.toNat ("-" ++ (Nat.repr (m + 1))).toList) = [45] ++ List.map Char.toNat (Nat.repr (m + 1)).toList
    rw [String.toList_append, List.map_append]
    rfl
  · rw [if_neg h]
theorem numV_kind (z : Str) : (∃ n, numV z = .int n) ∨ numV z = .non := by
  unfold numV
  split
  · exact .inl ⟨_, rfl⟩
  · exact .inr rfl
theorem comp_same_list {K : PySem.W.Frag} {a : Addr} {fr : List Nat} {te : TE} {σ : St} {H : Hp} {Q : VK} {xs : List V} (Pr : V → V → Prop) (e : H a = some (.lst xs)) (hn : xs.length ≤ sizeLine)
    (hte : ∀ x H1 (R : VK), x ∈ xs → Same H H1 → (∀ y H2, Same H1 H2 → Pr x y → R y H2) → te (some x :: fr.map (pick σ)) H1 R)
    (hd : ∀ acc H1, Same H H1 → F2 Pr xs acc → ∀ D, H1 D = none → Q (.ref D) (upd H1 D (.lst acc))) :
    CompG 1 fr (gName 0) tYes te σ Q (Itl K a) H :=
  comp_same xs Pr hn (fun i H1 s hi => ⟨xs, xs[i], SqL.of (s _ _ e), by simp [hi]⟩) (fun H1 s => ⟨xs, SqL.of (s _ _ e), Nat.le_refl _⟩) (fun i x H1 H' s _ y => ⟨y.1, y.2 xs (SqL.of (s _ _ e))⟩) hte hd
theorem same_none {H H' : Hp} (s : Same H H') {r : Addr} (h : H' r = none) : H r = none := by
  cases hh : H r with
  | none => rfl
  | some o => rw [s _ _ hh] at h; cases h
/-! ### lines -/
abbrev endL (n : Int) : Str := Txt.join " " ["end", numT n]
abbrev ckL (a n c : Int) : Str := Txt.join " " ["clock", numT a, numT n, numT c]
def hasE (zs : List Str) : Bool := decide (0 < zs.length) && decide (zs.getLast? = some (endL ((zs.length : Int) - 1)))
def partS : V → V
  | .int n => .str (numT n)
  | x => x
def spLine : Sp := fun vs H Q _ => ∃ l n, vs = [.ref l] ∧ H l = some (.lst [.str "end", .int n]) ∧ 0 ≤ n ∧ n < 100000 ∧ ∀ H', Same H H' → Q (.str (endL n)) H'
theorem ok_line_of (T : Tx K mg ad) : FnOk P w K mg base CX0 3 ad.a_line_of ad.d_line_of ["parts"] spLine := by
  have G_number_text := ok_number_text (P := P) (w := w) (base := base) T
  refine T.F_line_of.ok sc_line_of (fun vs H Q E h => ?_) (fun cdv A outer s H vs Q E hr h => ?_)
  · obtain ⟨l, n, rfl, _⟩ := h
    rfl
  · obtain ⟨l, n, rfl, e, h0, h1, kk⟩ := h
    have nd := sc_line_of.nd
    refine ⟨_, (pss_one (ps_ret (pe_bmK (K := K) PySem.F.plainAttrs_str PySem.F.slot_str_join PySem.F.type_str_join (mt_join (K := K)) pe_str (pa_cons (pe_comp1 (osc := defScope s_line_of) [] rfl (pi_listK (K := K) (pv 0)) rfl rfl (by decide +kernel) (by decide +kernel) (by decide +kernel) trivial rfl (by decide +kernel) (fun _ _ _ _ => pts_nil) (fun _ _ _ _ => (pe_ifExp (pt_val (pe_callB (call_isinst (K := K)) (by rfl) T.z_isinstance PyProof.Rows.boot_isinstance (pa_cons (pv 0) (pa_cons (pe_bltn (v := .ty "str") (by rfl) T.z_str PyProof.Rows.boot_str rfl) pa_nil)))) (pv 0) (pe_call G_number_text (hr.mono (by decide)) (by rfl) T.m_number_text T.F_number_text.kp T.b_number_text .nil pass0 (pa_cons (pv 0) pa_nil))))) pa_nil)))), ?_⟩
-- slots: 0 parts
    refine ⟨rfl, _, rfl, l, rfl, ⟨_, SqL.of e⟩, comp_same_list (fun x z => z = partS x) e (by show 2 ≤ sizeLine; decide) (fun x H1 R hx s1 q => ?_) fun acc H1 s1 f D hD => ?_⟩
    · simp only [List.mem_cons, List.not_mem_nil, or_false] at hx
      rcases hx with rfl | rfl
      · exact ⟨_, rfl, .str "end", "str", .type "str", true, rfl, .str _, rfl, _, rfl, iteT ⟨_, rfl, q _ H1 (Same.refl _) rfl⟩⟩
      · exact ⟨_, rfl, .int n, "str", .type "int", false, rfl, .int n, rfl, _, rfl, iteF ⟨_, rfl, n, rfl, by omega, by omega, fun H2 s2 => q _ H2 s2 rfl⟩⟩
    · have ea := f.map
      subst ea
      have ln := numT_len (n := n) (by omega) (by omega)
      refine ⟨" ", D, ["end", numT n], rfl, rfl, SqL.of upd_same, ?_, kk _ (s1.upd hD)⟩
      have e1 : (" " : Str).length = 1 := rfl
      have e2 : ("end" : Str).length = 3 := rfl
      simp only [List.map_cons, List.map_nil, List.sum_cons, List.sum_nil, List.length_cons, List.length_nil, e1, e2]
      omega
def spEndL : Sp := fun vs H Q _ => ∃ n : Int, vs = [.int n] ∧ 0 ≤ n ∧ n < 100000 ∧ ∀ H', Same H H' → Q (.str (endL n)) H'
theorem ok_end_line (T : Tx K mg ad) : FnOk P w K mg base CX0 4 ad.a_end_line ad.d_end_line ["many"] spEndL := by
  have G_line_of := ok_line_of (P := P) (w := w) (base := base) T
  refine T.F_end_line.ok sc_end_line (fun vs H Q E h => ?_) (fun cdv A outer s H vs Q E hr h => ?_)
  · obtain ⟨n, rfl, _⟩ := h
    rfl
  · obtain ⟨n, rfl, h0, h1, kk⟩ := h
    have nd := sc_end_line.nd
    refine ⟨_, (pss_one (ps_ret (pe_call G_line_of (hr.mono (by decide)) (by rfl) T.m_line_of T.F_line_of.kp T.b_line_of .nil pass0 (pa_cons (pe_lst (pa_cons pe_str (pa_cons (pv 0) pa_nil))) pa_nil)))), ?_⟩
-- slots: 0 many
    exact ⟨_, rfl, by show 2 ≤ sizeLine; decide, fun l hl => ⟨l, n, rfl, upd_same, h0, h1, fun H' s' => kk H' (((Same.refl H).upd hl).trans s')⟩⟩
def spHas : Sp := fun vs H Q _ => ∃ (l : Addr) (zs : List Str), vs = [.ref l] ∧ H l = some (.lst (zs.map V.str)) ∧ zs.length ≤ 1000 ∧ ∀ H', Same H H' → Q (.bl (hasE zs)) H'
theorem at_last {zs : List Str} {z : Str} (h : zs.getLast? = some z) : atI (zs.map V.str) (-1) = some (.str z) := by
  have hne : zs ≠ [] := fun q => by rw [q] at h; cases h
  have hl : 0 < zs.length := List.length_pos_iff.mpr hne
  have e : ixN (zs.map V.str).length (-1) = some (zs.length - 1) := by
    unfold ixN
    rw [List.length_map, if_neg (by decide), if_pos (by omega)]
    congr 1
    omega
  unfold atI
  rw [e]
  show (zs.map V.str)[zs.length - 1]? = _
  rw [List.getElem?_map, ← List.getLast?_eq_getElem?, h]
  rfl
theorem ok_has_end (T : Tx K mg ad) : FnOk P w K mg base CX0 5 ad.a_has_end ad.d_has_end ["lines"] spHas := by
  have G_end_line := ok_end_line (P := P) (w := w) (base := base) T
  refine T.F_has_end.ok sc_has_end (fun vs H Q E h => ?_) (fun cdv A outer s H vs Q E hr h => ?_)
  · obtain ⟨l, zs, rfl, _⟩ := h
    rfl
  · obtain ⟨l, zs, rfl, e, hl, kk⟩ := h
    have nd := sc_has_end.nd
    refine ⟨_, (pss_one (ps_ret (pe_and (pe_cmpR op_gt (pe_callB (call_len_seqK (K := K)) (by rfl) T.z_len PySem.boot_len (pa_cons (pv 0) pa_nil)) pe_int (nomark _)) (pe_one (pe_cmpR op_eq (pe_ix (ix_listK (K := K)) (pv 0) (pe_un un_neg pe_int) (fun _ _ => rfl)) (pe_call G_end_line (hr.mono (by decide)) (by rfl) T.m_end_line T.F_end_line.kp T.b_end_line .nil pass0 (pa_cons (pe_op op_sub (pe_callB (call_len_seqK (K := K)) (by rfl) T.z_len PySem.boot_len (pa_cons (pv 0) pa_nil)) pe_int) pa_nil)) (nomark _)))))), ?_⟩
-- slots: 0 lines
    have hm : ((zs.map V.str).length : Int) = (zs.length : Int) := by rw [List.length_map]
    refine ⟨_, rfl, l, _, rfl, .inl (SqL.of e), _, _, rfl, rfl, _, rfl, ?_⟩
    unfold hasE at kk
    by_cases h0 : 0 < zs.length
    · rw [decide_eq_true h0, Bool.true_and] at kk
      refine iteD (show (0 : Int) < ((zs.map V.str).length : Int) by omega) ?_
      obtain ⟨z, hz⟩ : ∃ z, zs.getLast? = some z := ⟨_, List.getLast?_eq_some_getLast (List.ne_nil_of_length_pos h0)⟩
      refine ⟨_, rfl, _, rfl, l, _, _, _, rfl, rfl, SqL.of e, at_last hz, _, rfl, l, _, rfl, .inl (SqL.of e), _, _, rfl, rfl, (zs.length : Int) - 1, by rw [hm]; rfl, by omega, by omega, fun H' s' => ⟨rfl, ?_⟩⟩
      have ed : decide (V.str z = V.str (endL ((zs.length : Int) - 1))) = decide (zs.getLast? = some (endL ((zs.length : Int) - 1))) := by
        rw [hz, Bool.eq_iff_iff, decide_eq_true_eq, decide_eq_true_eq]
        exact ⟨fun q => congrArg some (V.str.inj q), fun q => congrArg V.str (Option.some.inj q)⟩
      rw [ed]
      exact kk H' s'
    · rw [decide_eq_false h0, Bool.false_and] at kk
      have hd : decide ((0 : Int) < ((zs.map V.str).length : Int)) = false := decide_eq_false (by omega)
      refine iteDn (show ¬ (0 : Int) < ((zs.map V.str).length : Int) by omega) ?_
      exact kk H (Same.refl H)
def spNums : Sp := fun vs H Q _ => ∃ (l : Addr) (ws : List Str), vs = [.ref l] ∧ H l = some (.lst (ws.map V.str)) ∧ ws.length ≤ 1000 ∧ (∀ z ∈ ws, z.length ≤ 60000) ∧ ∀ H' r, Same H H' → H r = none → H' r = some (.lst (ws.map numV)) → Q (.ref r) H'
theorem ok_numbers_of (T : Tx K mg ad) : FnOk P w K mg base CX0 3 ad.a_numbers_of ad.d_numbers_of ["words"] spNums := by
  have G_number_of := ok_number_of (P := P) (w := w) (base := base) T
  refine T.F_numbers_of.ok sc_numbers_of (fun vs H Q E h => ?_) (fun cdv A outer s H vs Q E hr h => ?_)
  · obtain ⟨l, ws, rfl, _⟩ := h
    rfl
  · obtain ⟨l, ws, rfl, e, hl, hw, kk⟩ := h
    have nd := sc_numbers_of.nd
    refine ⟨_, (pss_one (ps_ret (pe_comp1 (osc := defScope s_numbers_of) [] rfl (pi_listK (K := K) (pv 0)) rfl rfl (by decide +kernel) (by decide +kernel) (by decide +kernel) trivial rfl (by decide +kernel) (fun _ _ _ _ => pts_nil) (fun _ _ _ _ => (pe_call G_number_of (hr.mono (by decide)) (by rfl) T.m_number_of T.F_number_of.kp T.b_number_of .nil pass0 (pa_cons (pv 0) pa_nil)))))), ?_⟩
-- slots: 0 words
    have sz : sizeLine = 16777216 := sizeLine_eq
    refine ⟨_, rfl, l, rfl, ⟨_, SqL.of e⟩, comp_same_list (fun x y => ∃ z, x = .str z ∧ y = numV z) e (by rw [List.length_map]; omega) (fun x H1 R hx s1 q => ?_) fun acc H1 s1 f D hD => ?_⟩
    · obtain ⟨z, hz, rfl⟩ := List.mem_map.mp hx
      exact ⟨_, rfl, z, rfl, hw z hz, fun H2 s2 => q _ H2 s2 ⟨z, rfl, rfl⟩⟩
    · have ea : ∀ {ws : List Str} {acc : List V}, F2 (fun x y => ∃ z, x = .str z ∧ y = numV z) (ws.map V.str) acc → acc = ws.map numV := by
        intro ws
        induction ws with
        | nil => intro acc f; cases f; rfl
        | cons z r ih =>
          intro acc f
          rw [List.map_cons] at f
          cases f with
          | cons h f =>
            obtain ⟨z', e1, e2⟩ := h
            cases e1
            rw [e2, ih f]
            rfl
      rw [ea f]
      exact kk _ D (s1.upd hD) (same_none s1 hD) upd_same
def spAre : Sp := fun vs H Q _ => ∃ (l : Addr) (ns : List Int), vs = [.ref l] ∧ H l = some (.lst (ns.map V.int)) ∧ ns.length ≤ 1000 ∧ ∀ H', Same H H' → Q (.bl true) H'
theorem ok_are_whole (T : Tx K mg ad) : FnOk P w K mg base CX0 2 ad.a_are_whole ad.d_are_whole ["numbers"] spAre := by
  have G_is_whole := ok_is_whole (P := P) (w := w) (base := base) T
  refine T.F_are_whole.ok sc_are_whole (fun vs H Q E h => ?_) (fun cdv A outer s H vs Q E hr h => ?_)
  · obtain ⟨l, ns, rfl, _⟩ := h
    rfl
  · obtain ⟨l, ns, rfl, e, hl, kk⟩ := h
    have nd := sc_are_whole.nd
    refine ⟨_, (pss_one (ps_ret (pe_callB (call_all_bools (K := K) rfl) (by rfl) T.z_all PyProof.Rows.boot_all (pa_cons (pe_comp1 (osc := defScope s_are_whole) [] rfl (pi_listK (K := K) (pv 0)) rfl rfl (by decide +kernel) (by decide +kernel) (by decide +kernel) trivial rfl (by decide +kernel) (fun _ _ _ _ => pts_nil) (fun _ _ _ _ => (pe_call G_is_whole (hr.mono (by decide)) (by rfl) T.m_is_whole T.F_is_whole.kp T.b_is_whole .nil pass0 (pa_cons (pv 0) pa_nil)))) pa_nil)))), ?_⟩
-- slots: 0 numbers
    have sz : sizeLine = 16777216 := sizeLine_eq
    refine ⟨_, rfl, l, rfl, ⟨_, SqL.of e⟩, comp_same_list (fun x y => y = .bl true) e (by rw [List.length_map]; omega) (fun x H1 R hx s1 q => ?_) fun acc H1 s1 f D hD => ?_⟩
    · obtain ⟨n, _, rfl⟩ := List.mem_map.mp hx
      exact ⟨_, rfl, .int n, .int, rfl, .int n, fun H2 s2 => q _ H2 s2 rfl⟩
    · have ea : acc = ((ns.map fun _ => true).map V.bl) := by
        have q := F2.map (f := fun _ => V.bl true) f
        rw [q, List.map_map, List.map_map]
        rfl
      subst ea
      refine ⟨D, ns.map fun _ => true, rfl, SqL.of upd_same, ?_⟩
      have et : (ns.map fun _ => true).all id = true := by rw [List.all_map, List.all_eq_true]; exact fun _ _ => rfl
      rw [et]
      exact kk _ (s1.upd hD)
def spClock : Sp := fun vs H Q _ => ∃ a n c : Int, vs = [.str (ckL a n c)] ∧ 0 ≤ a ∧ a ≤ 1000000000 ∧ 0 ≤ n ∧ n < 10 ^ 59 ∧ 0 ≤ c ∧ c < 10 ^ 59 ∧ ∀ H' r, Same H H' → H' r = some (.tup [.int a, .int n, .int c]) → Q (.ref r) H'
theorem ck_len {a n c : Int} (h0 : 0 ≤ a) (h1 : a ≤ 1000000000) (h2 : 0 ≤ n) (h3 : n < 10 ^ 59) (h4 : 0 ≤ c) (h5 : c < 10 ^ 59) : (ckL a n c).length ≤ 1000 := by
  have q := StrLaws.join_length_le " " ["clock", numT a, numT n, numT c]
  have e : ckL a n c = Str.join " " ["clock", numT a, numT n, numT c] := eq_of_beq (PyProof.Rows.join_plain_closes _ _)
  have b1 := numT_len (n := a) (by omega) (by omega)
  have b2 := numT_len (n := n) (by omega) (by omega)
  have b3 := numT_len (n := c) (by omega) (by omega)
  have e1 : (" " : Str).length = 1 := rfl
  have e2 : ("clock" : Str).length = 5 := rfl
  rw [e]
  simp only [List.map_cons, List.map_nil, List.sum_cons, List.sum_nil, List.length_cons, List.length_nil, e1, e2] at q
  omega
theorem ck_split (a n c : Int) : Txt.split (ckL a n c) " " = ([("clock" : Str), numT a, numT n, numT c] : List Str) := by
  refine split_join (c := 32) (by simp) fun p hp => ?_
  simp only [List.mem_cons, List.not_mem_nil, or_false] at hp
  rcases hp with rfl | rfl | rfl | rfl
  · decide +kernel
  · exact numT_free _
  · exact numT_free _
  · exact numT_free _
theorem ok_clock_of (T : Tx K mg ad) : FnOk P w K mg base CX0 4 ad.a_clock_of ad.d_clock_of ["line"] spClock := by
  have G_numbers_of := ok_numbers_of (P := P) (w := w) (base := base) T
  have G_are_whole := ok_are_whole (P := P) (w := w) (base := base) T
  have G_is_time := ok_is_time (P := P) (w := w) (base := base) T
  refine T.F_clock_of.ok sc_clock_of (fun vs H Q E h => ?_) (fun cdv A outer s H vs Q E hr h => ?_)
  · obtain ⟨a, n, c, rfl, _⟩ := h
    rfl
  · obtain ⟨a, n, c, rfl, h0, h1, h2, h3, h4, h5, kk⟩ := h
    have nd := sc_clock_of.nd
    refine ⟨_, (pss_cons (ps_set (i := 1) nd rfl (Or.inl rfl) (pe_bmK (K := K) PySem.F.plainAttrs_str PySem.F.slot_str_split PySem.F.type_str_split mt_split (pv 0) (pa_cons pe_str pa_nil)))
        (pss_cons (ps_set (i := 2) nd rfl (Or.inl rfl) (pe_call G_numbers_of (hr.mono (by decide)) (by rfl) T.m_numbers_of T.F_numbers_of.kp T.b_numbers_of .nil pass0 (pa_cons (pe_slice (sl_listK (K := K)) (pv 1) (po_some pe_int) po_none) pa_nil)))
        (pss_cons (ps_if (PW.pt (pw_or (pt_cmpR op_ne (pe_ix (ix_listK (K := K)) (pv 1) pe_int (fun _ _ => rfl)) pe_str (nomark _)) (pw_or (pt_cmpR op_ne (pe_callB (call_len_seqK (K := K)) (by rfl) T.z_len PySem.boot_len (pa_cons (pv 2) pa_nil)) pe_int (nomark _)) (pw_or1 (pt_not (pt_val (pe_call G_are_whole (hr.mono (by decide)) (by rfl) T.m_are_whole T.F_are_whole.kp T.b_are_whole .nil pass0 (pa_cons (pv 2) pa_nil))))))))
        (pss_one (ps_ret pe_non))
        pss_nil)
        (pss_one (ps_ret (pe_ifExp (PW.pt (pw_and (pt_val (pe_call G_is_time (hr.mono (by decide)) (by rfl) T.m_is_time T.F_is_time.kp T.b_is_time .nil pass0 (pa_cons (pe_ix (ix_listK (K := K)) (pv 2) pe_int (fun _ _ => rfl)) pa_nil))) (pw_and1 (pt_cmpR op_ge (pe_callB (call_minL (K := K) rfl) (by rfl) T.z_min PyProof.Rows.boot_min (pa_cons (pv 2) pa_nil)) pe_int (nomark _))))) (pe_callTy call_tuple_of (by rfl) T.z_tuple PyProof.Rows.boot_tuple (pa_cons (pv 2) pa_nil)) pe_non)))))), ?_⟩
-- slots: 0 line, 1 words, 2 numbers
    have sz : sizeLine = 16777216 := sizeLine_eq
    have cl := ck_len h0 h1 h2 h3 h4 h5
    refine ⟨_, rfl, rfl, _, " ", rfl, rfl, by decide, by omega, fun l hl => ?_⟩
    rw [ck_split]
    have s1 : Same H (upd H l (.lst ([("clock" : Str), numT a, numT n, numT c].map V.str))) := (Same.refl H).upd hl
    have e1 : (upd H l (.lst ([("clock" : Str), numT a, numT n, numT c].map V.str))) l = some (.lst ([("clock" : Str), numT a, numT n, numT c].map V.str)) := upd_same
    generalize upd H l (.lst ([("clock" : Str), numT a, numT n, numT c].map V.str)) = H1 at s1 e1 ⊢
    refine ⟨_, rfl, _, rfl, l, _, rfl, SqL.of e1, fun l2 hl2 => ?_⟩
    have b1 := numT_len (n := a) (by omega) (by omega)
    have b2 := numT_len (n := n) (by omega) (by omega)
    have b3 := numT_len (n := c) (by omega) (by omega)
    refine ⟨l2, [numT a, numT n, numT c], rfl, upd_same, by show 3 ≤ 1000; decide, fun z hz => ?_, fun H2 r s2 nr er => ?_⟩
    · simp only [List.mem_cons, List.not_mem_nil, or_false] at hz
      rcases hz with rfl | rfl | rfl <;> omega
    have en : [numT a, numT n, numT c].map numV = [a, n, c].map V.int := by
      show [numV (numT a), numV (numT n), numV (numT c)] = [.int a, .int n, .int c]
      rw [numV_numT (by omega) (by omega), numV_numT (by omega) (by omega), numV_numT (by omega) (by omega)]
    rw [en] at er
    have s12 : Same H H2 := (s1.upd hl2).trans s2
    have e12 := (((Same.refl H1).upd hl2).trans s2) _ _ e1
    refine ⟨_, rfl, l, _, _, .str "clock", rfl, rfl, SqL.of e12, atI_nat (j := 0) rfl, rfl, _, rfl, iteE0 (by rw [decide_eq_true rfl]; rfl) ?_⟩
    refine ⟨_, rfl, r, _, rfl, .inl (SqL.of er), rfl, _, rfl, iteE0 rfl ?_⟩
    refine ⟨_, rfl, r, _, rfl, er, by show 3 ≤ 1000; decide, fun H3 s3 => ⟨_, rfl, iteF ?_⟩⟩
    have er3 := s3 _ _ er
    refine ⟨_, rfl, r, _, _, .int a, rfl, rfl, SqL.of er3, atI_nat (j := 0) rfl, .int a, .int, rfl, .int a, fun H4 s4 => ⟨_, rfl, ?_⟩⟩
    have ta : amongV 0 1000000000 (.int a) = true := by
      show (decide ((0 : Int) ≤ a) && decide (a ≤ 1000000000)) = true
      rw [decide_eq_true h0, decide_eq_true h1]
      rfl
    rw [ta]
    have er4 := s4 _ _ er3
    refine iteT ⟨_, rfl, r, [a, n, c], rfl, SqL.of er4, by show 0 < 3; decide, fun M hM _ => ⟨_, _, rfl, rfl, _, rfl, ?_⟩⟩
    have hM0 : 0 ≤ M := by
      simp only [List.mem_cons, List.not_mem_nil, or_false] at hM
      rcases hM with rfl | rfl | rfl <;> assumption
    refine iteD (show (0 : Int) ≤ M from hM0) ⟨_, rfl, r, _, rfl, .inl ⟨SqL.of er4, fun p hp => ?_⟩⟩
    exact kk _ p (((s12.trans s3).trans s4).upd hp) upd_same
/-- what a slot's lines are: whole, of so many events, or not -/
def Kp (zs : List Str) (n : Int) : Bool → Prop
  | true => hasE zs = true ∧ ∃ a c r, zs = ckL a n c :: r ∧ 0 ≤ a ∧ a ≤ 1000000000 ∧ 0 ≤ n ∧ n < 10 ^ 59 ∧ 0 ≤ c ∧ c < 10 ^ 59
  | false => hasE zs = false
def cntK (n : Int) (b : Bool) : Int := if b = true then n else -1
def spCount : Sp := fun vs H Q _ => ∃ (l : Addr) (zs : List Str) (n : Int) (b : Bool), vs = [.ref l] ∧ H l = some (.lst (zs.map V.str)) ∧ zs.length ≤ 1000 ∧ Kp zs n b ∧ ∀ H', Same H H' → Q (.int (cntK n b)) H'
theorem ok_kept_count (T : Tx K mg ad) : FnOk P w K mg base CX0 6 ad.a_kept_count ad.d_kept_count ["lines"] spCount := by
  have G_has_end := ok_has_end (P := P) (w := w) (base := base) T
  have G_clock_of := ok_clock_of (P := P) (w := w) (base := base) T
  refine T.F_kept_count.ok sc_kept_count (fun vs H Q E h => ?_) (fun cdv A outer s H vs Q E hr h => ?_)
  · obtain ⟨l, zs, n, b, rfl, _⟩ := h
    rfl
  · obtain ⟨l, zs, n, b, rfl, e, hl, hk, kk⟩ := h
    have nd := sc_kept_count.nd
    refine ⟨_, (pss_cons (ps_set (i := 1) nd rfl (Or.inl rfl) (pe_ifExp (pt_val (pe_call G_has_end (hr.mono (by decide)) (by rfl) T.m_has_end T.F_has_end.kp T.b_has_end .nil pass0 (pa_cons (pv 0) pa_nil))) (pe_call G_clock_of (hr.mono (by decide)) (by rfl) T.m_clock_of T.F_clock_of.kp T.b_clock_of .nil pass0 (pa_cons (pe_ix (ix_listK (K := K)) (pv 0) pe_int (fun _ _ => rfl)) pa_nil)) pe_non))
        (pss_one (ps_ret (pe_ifExp (pt_cmpR op_isN (pv 1) pe_non (nomark _)) (pe_un un_neg pe_int) (pe_ix (ix_tupK (K := K)) (pv 1) pe_int (fun _ _ => rfl)))))), ?_⟩
-- slots: 0 lines, 1 first
    refine ⟨_, rfl, l, zs, rfl, e, hl, fun H1 s1 => ⟨_, rfl, ?_⟩⟩
    cases b with
    | true =>
      obtain ⟨he, a, c, r, rfl, h0, h1, h2, h3, h4, h5⟩ := hk
      rw [he]
      refine iteT ⟨_, rfl, l, _, _, _, rfl, rfl, SqL.of (s1 _ _ e), atI_nat (j := 0) rfl, a, n, c, rfl, h0, h1, h2, h3, h4, h5, fun H2 p s2 ep => ?_⟩
      refine ⟨_, rfl, rfl, _, rfl, iteF ⟨_, rfl, p, _, _, _, rfl, rfl, SqT.of ep, atI_nat (j := 1) rfl, kk H2 (s1.trans s2)⟩⟩
    | false =>
      have hk : hasE zs = false := hk
      rw [hk]
      exact iteF ⟨_, rfl, rfl, _, rfl, iteT ⟨_, rfl, kk H1 s1⟩⟩
/-! ### the shelf -/
abbrev SH (sl r l : Addr) : List (Str × V) := [("slots", .ref sl), ("rows", .ref r), ("late", .ref l)]
structure Sf (ad : Ad) (H : Hp) (x sl t1 t2 : Addr) (z1 z2 : List Str) : Prop where
  obj : ∃ dx r l, H x = some (.ins ad.c_Shelf dx (SH sl r l)) ∧ H r = some (.lst []) ∧ H l = some (.lst []) ∧ r ≠ sl ∧ l ≠ sl
  slots : H sl = some (.lst [.ref t1, .ref t2])
  one : H t1 = some (.lst (z1.map V.str))
  two : H t2 = some (.lst (z2.map V.str))
  ne1 : t1 ≠ sl
  ne2 : t2 ≠ sl
  ne12 : t1 ≠ t2
theorem Sf.same {ad : Ad} {H H' : Hp} {x sl t1 t2 : Addr} {z1 z2 : List Str} (h : Sf ad H x sl t1 t2 z1 z2) (s : Same H H') : Sf ad H' x sl t1 t2 z1 z2 := by
  obtain ⟨dx, r, l, a, b, c, d, e⟩ := h.obj
  exact ⟨⟨dx, r, l, s _ _ a, s _ _ b, s _ _ c, d, e⟩, s _ _ h.slots, s _ _ h.one, s _ _ h.two, h.ne1, h.ne2, h.ne12⟩
def spInit (ad : Ad) : Sp := fun vs H Q _ => ∃ x dx, vs = [.ref x] ∧ H x = some (.ins ad.c_Shelf dx []) ∧ ∀ H' sl t1 t2, (∀ b o, b ≠ x → H b = some o → H' b = some o) → H sl = none → Sf ad H' x sl t1 t2 [] [] → Q .non H'
theorem ok_init (T : Tx K mg ad) : FnOk P w K mg base CX0 1 ad.a_Shelf___init__ ad.d_Shelf___init__ ["self"] (spInit ad) := by
  refine T.F_Shelf___init__.ok sc_Shelf___init__ (fun vs H Q E h => ?_) (fun cdv A outer s H vs Q E hr h => ?_)
  · obtain ⟨x, dx, rfl, _⟩ := h
    rfl
  · obtain ⟨x, dx, rfl, e, k⟩ := h
    have nd := sc_Shelf___init__.nd
    refine ⟨_, (pss_cons (ps_fld (pv 0) (pe_lst (pa_cons (pe_lst pa_nil) (pa_cons (pe_lst pa_nil) pa_nil))) rfl)
        (pss_cons (ps_fld (pv 0) (pe_lst pa_nil) rfl)
        (pss_one (ps_fld (pv 0) (pe_lst pa_nil) rfl)))), ?_⟩
-- slots: 0 self
    refine ⟨by show 0 ≤ sizeLine; decide, fun s1 h1 => ⟨by show 0 ≤ sizeLine; decide, fun s2 h2 => ⟨by show 2 ≤ sizeLine; decide, fun sl hl => ?_⟩⟩⟩
    have n1 : x ≠ s1 := ne_of_none e h1
    have e1 : (upd H s1 (.lst [])) x = some (.ins ad.c_Shelf dx []) := by rw [upd_ne n1]; exact e
    have n2 : x ≠ s2 := ne_of_none e1 h2
    have n12 : s1 ≠ s2 := ne_of_none upd_same h2
    have e2 : (upd (upd H s1 (.lst [])) s2 (.lst [])) x = some (.ins ad.c_Shelf dx []) := by rw [upd_ne n2]; exact e1
    have n3 : x ≠ sl := ne_of_none e2 hl
    have n13 : s1 ≠ sl := ne_of_none (show (upd (upd H s1 (.lst [])) s2 (.lst [])) s1 = some (.lst []) by rw [upd_ne n12]; exact upd_same) hl
    have n23 : s2 ≠ sl := ne_of_none upd_same hl
    have g1 : ∀ b o, H b = some o → (upd (upd (upd H s1 (.lst [])) s2 (.lst [])) sl (.lst [.ref s1, .ref s2])) b = some o := fun b o q => by
      have q1 : (upd H s1 (.lst [])) b = some o := by rw [upd_ne (ne_of_none q h1)]; exact q
      have q2 : (upd (upd H s1 (.lst [])) s2 (.lst [])) b = some o := by rw [upd_ne (ne_of_none q1 h2)]; exact q1
      rw [upd_ne (ne_of_none q2 hl)]
      exact q2
    have a1 : (upd (upd (upd H s1 (.lst [])) s2 (.lst [])) sl (.lst [.ref s1, .ref s2])) s1 = some (.lst []) := by rw [upd_ne n13, upd_ne n12]; exact upd_same
    have a2 : (upd (upd (upd H s1 (.lst [])) s2 (.lst [])) sl (.lst [.ref s1, .ref s2])) s2 = some (.lst []) := by rw [upd_ne n23]; exact upd_same
    have a3 : (upd (upd (upd H s1 (.lst [])) s2 (.lst [])) sl (.lst [.ref s1, .ref s2])) sl = some (.lst [.ref s1, .ref s2]) := upd_same
    generalize upd (upd (upd H s1 (.lst [])) s2 (.lst [])) sl (.lst [.ref s1, .ref s2]) = H1 at g1 a1 a2 a3 ⊢
    have ex := g1 _ _ e
    refine ⟨_, rfl, x, _, dx, _, rfl, ex, T.cl_Shelf, T.n_Shelf_slots, by decide, ?_⟩
    refine ⟨by show 0 ≤ sizeLine; decide, fun r hr1 => ⟨_, rfl, x, _, dx, _, rfl, by rw [upd_ne (ne_of_none upd_same hr1)]; exact upd_same, T.cl_Shelf, T.n_Shelf_rows, by show 1 < 1000; decide, ?_⟩⟩
    have xr : x ≠ r := ne_of_none upd_same hr1
    have hr1' : H1 r = none := by rw [upd_ne xr.symm] at hr1; exact hr1
    refine ⟨by show 0 ≤ sizeLine; decide, fun l hl1 => ⟨_, rfl, x, _, dx, _, rfl, by rw [upd_ne (ne_of_none upd_same hl1)]; exact upd_same, T.cl_Shelf, T.n_Shelf_late, by show 2 < 1000; decide, ?_⟩⟩
    have xl : x ≠ l := ne_of_none upd_same hl1
    have rl : r ≠ l := ne_of_none (show (upd (upd (upd H1 x (.ins ad.c_Shelf dx [("slots", .ref sl)])) r (.lst [])) x (.ins ad.c_Shelf dx [("slots", .ref sl), ("rows", .ref r)])) r = some (.lst []) by rw [upd_ne xr.symm]; exact upd_same) hl1
    have hl1' : H1 l = none := by
      have q : (upd (upd (upd H1 x (.ins ad.c_Shelf dx [("slots", .ref sl)])) r (.lst [])) x (.ins ad.c_Shelf dx [("slots", .ref sl), ("rows", .ref r)])) l = none := hl1
      rw [upd_ne xl.symm, upd_ne rl.symm, upd_ne xl.symm] at q
      exact q
    have free : ∀ b, H1 b = none → H b = none := fun b hb => by
      cases q : H b with
      | none => rfl
      | some o => rw [g1 b o q] at hb; cases hb
    refine k _ sl s1 s2 (fun b o hb q => ?_) ?_ ⟨⟨dx, r, l, upd_same, ?_, ?_, (ne_of_none a3 hr1').symm, (ne_of_none a3 hl1').symm⟩, ?_, ?_, ?_, n13, n23, n12⟩
    · have q1 := g1 b o q
      have br : b ≠ r := ne_of_none q1 hr1'
      have bl : b ≠ l := ne_of_none q1 hl1'
      rw [upd_ne hb, upd_ne bl, upd_ne hb, upd_ne br, upd_ne hb]
      exact q1
    · have q := hl
      rw [upd_ne (ne_of_none upd_same hl).symm, upd_ne n13.symm] at q
      exact q
    · rw [upd_ne xr.symm, upd_ne rl, upd_ne xr.symm]; exact upd_same
    · rw [upd_ne xl.symm]; exact upd_same
    · rw [upd_ne n3.symm, upd_ne (ne_of_none a3 hl1'), upd_ne n3.symm, upd_ne (ne_of_none a3 hr1'), upd_ne n3.symm]; exact a3
    · rw [upd_ne n1.symm, upd_ne (ne_of_none a1 hl1'), upd_ne n1.symm, upd_ne (ne_of_none a1 hr1'), upd_ne n1.symm]; exact a1
    · rw [upd_ne n2.symm, upd_ne (ne_of_none a2 hl1'), upd_ne n2.symm, upd_ne (ne_of_none a2 hr1'), upd_ne n2.symm]; exact a2
abbrev pk0 {α : Type} (j : Nat) (a b : α) : α := if j = 0 then a else b
def spWrite (ad : Ad) : Sp := fun vs H Q _ => ∃ (x sl t1 t2 : Addr) (z1 z2 : List Str) (j : Nat) (lp : Addr) (zs : List Str), vs = [.ref x, .int (j : Int), .ref lp] ∧ Sf ad H x sl t1 t2 z1 z2 ∧ j < 2 ∧ H lp = some (.lst (zs.map V.str)) ∧
  ∀ H' n, (∀ b o, b ≠ sl → H b = some o → H' b = some o) → H n = none → Sf ad H' x sl (pk0 j n t1) (pk0 j t2 n) (pk0 j zs z1) (pk0 j z2 zs) → Q .non H'
theorem ok_write (T : Tx K mg ad) : FnOk P w K mg base CX0 1 ad.a_Shelf_write ad.d_Shelf_write ["self", "slot", "lines"] (spWrite ad) := by
  refine T.F_Shelf_write.ok sc_Shelf_write (fun vs H Q E h => ?_) (fun cdv A outer s H vs Q E hr h => ?_)
  · obtain ⟨x, sl, t1, t2, z1, z2, j, lp, zs, rfl, _⟩ := h
    rfl
  · obtain ⟨x, sl, t1, t2, z1, z2, j, lp, zs, rfl, sf, hj, el, k⟩ := h
    have nd := sc_Shelf_write.nd
    refine ⟨_, (pss_one (ps_lput (pe_fld (pv 0) rfl) (pv 1) (pe_callTy (call_list_ofK (K := K)) (by rfl) T.z_list PyProof.Rows.boot_list (pa_cons (pv 2) pa_nil)) rfl)), ?_⟩
-- slots: 0 self, 1 slot, 2 lines
    refine ⟨_, rfl, lp, _, rfl, .inl (SqL.of el), fun n hn => ?_⟩
    have s1 : Same H (upd H n (.lst (zs.map V.str))) := (Same.refl H).upd hn
    have en : (upd H n (.lst (zs.map V.str))) n = some (.lst (zs.map V.str)) := upd_same
    have sf1 := sf.same s1
    have nsl : n ≠ sl := (ne_of_none sf.slots hn).symm
    generalize upd H n (.lst (zs.map V.str)) = H1 at s1 en sf1 ⊢
    obtain ⟨dx, r, l, a, b, c, d, e⟩ := sf1.obj
    refine ⟨_, rfl, x, _, dx, _, _, rfl, a, T.cl_Shelf, T.n_Shelf_slots, rfl, _, rfl, sl, _, j, rfl, rfl, sf1.slots, hj, ?_⟩
    have xs : x ≠ sl := fun z => by subst z; rw [sf1.slots] at a; cases a
    have kp : ∀ b o, b ≠ sl → H1 b = some o → (upd H1 sl (.lst ([V.ref t1, .ref t2].set j (.ref n)))) b = some o := fun b o hb q => by rw [upd_ne hb]; exact q
    refine k _ n (fun b o hb q => kp b o hb (s1 _ _ q)) hn ?_
    have j01 : j = 0 ∨ j = 1 := by omega
    rcases j01 with rfl | rfl
    · exact ⟨⟨dx, r, l, kp _ _ xs a, kp _ _ d b, kp _ _ e c, d, e⟩, upd_same, kp _ _ nsl en, kp _ _ sf1.ne2 sf1.two, nsl, sf1.ne2, (ne_of_none sf.two hn).symm⟩
    · exact ⟨⟨dx, r, l, kp _ _ xs a, kp _ _ d b, kp _ _ e c, d, e⟩, upd_same, kp _ _ sf1.ne1 sf1.one, kp _ _ nsl en, sf1.ne1, nsl, ne_of_none sf.one hn⟩
theorem cut_take (zs : List Str) (m : Nat) : cutV (zs.map V.str) none (some (m : Int)) = (zs.take m).map V.str := by
  unfold cutV
  rw [HT.sIx_none, HT.sIx_nat, List.drop_zero, List.length_map, List.map_take, Nat.sub_zero]
  by_cases h : m ≤ zs.length
  · rw [Nat.min_eq_left h]
  · rw [Nat.min_eq_right (by omega), List.take_of_length_le (by rw [List.length_map]; omega), List.take_of_length_le (by rw [List.length_map]; omega)]
def spTorn (ad : Ad) : Sp := fun vs H Q _ => ∃ (x sl t1 t2 : Addr) (z1 z2 : List Str) (j : Nat) (lp : Addr) (zs : List Str) (m : Nat), vs = [.ref x, .int (j : Int), .ref lp, .int (m : Int)] ∧ Sf ad H x sl t1 t2 z1 z2 ∧ j < 2 ∧ H lp = some (.lst (zs.map V.str)) ∧
  ∀ H' n, (∀ b o, b ≠ sl → H b = some o → H' b = some o) → H n = none → Sf ad H' x sl (pk0 j n t1) (pk0 j t2 n) (pk0 j (zs.take m) z1) (pk0 j z2 (zs.take m)) → Q .non H'
theorem ok_torn (T : Tx K mg ad) : FnOk P w K mg base CX0 2 ad.a_Shelf_torn ad.d_Shelf_torn ["self", "slot", "lines", "many"] (spTorn ad) := by
  have G_Shelf_write := ok_write (P := P) (w := w) (base := base) T
  refine T.F_Shelf_torn.ok sc_Shelf_torn (fun vs H Q E h => ?_) (fun cdv A outer s H vs Q E hr h => ?_)
  · obtain ⟨x, sl, t1, t2, z1, z2, j, lp, zs, m, rfl, _⟩ := h
    rfl
  · obtain ⟨x, sl, t1, t2, z1, z2, j, lp, zs, m, rfl, sf, hj, el, k⟩ := h
    have nd := sc_Shelf_torn.nd
    refine ⟨_, (pss_one (ps_expr (pe_meth (pv 0) T.cl_Shelf T.me_Shelf_write G_Shelf_write (hr.mono (by decide)) T.b_Shelf_write .nil pass0 (pa_cons (pv 1) (pa_cons (pe_slice (sl_listK (K := K)) (pv 2) po_none (po_some (pv 3))) pa_nil))))), ?_⟩
-- slots: 0 self, 1 slot, 2 lines, 3 many
    obtain ⟨dx, r, l, a, _⟩ := sf.obj
    refine ⟨_, rfl, x, dx, _, rfl, a, by rfl, _, rfl, _, rfl, _, rfl, _, rfl, lp, _, rfl, SqL.of el, fun p hp => ?_⟩
    have s1 : Same H (upd H p (.lst (cutV (zs.map V.str) none (some (m : Int))))) := (Same.refl H).upd hp
    have ep : (upd H p (.lst (cutV (zs.map V.str) none (some (m : Int))))) p = some (.lst ((zs.take m).map V.str)) := by rw [upd_same, cut_take]
    refine ⟨x, sl, t1, t2, z1, z2, j, p, zs.take m, rfl, sf.same s1, hj, ep, fun H' n kp hn sf' => k H' n (fun b o hb q => kp b o hb (s1 _ _ q)) (same_none s1 hn) sf'⟩
def spLast (ad : Ad) : Sp := fun vs H Q _ => ∃ (x sl t1 t2 : Addr) (z1 z2 : List Str) (n1 n2 : Int) (b1 b2 : Bool), vs = [.ref x] ∧ Sf ad H x sl t1 t2 z1 z2 ∧ z1.length ≤ 1000 ∧ z2.length ≤ 1000 ∧ Kp z1 n1 b1 ∧ Kp z2 n2 b2 ∧
  (cntK n1 b1 < 0 → cntK n2 b2 < 0 → ∀ H', Same H H' → Q .non H') ∧
  (¬ (cntK n1 b1 < 0 ∧ cntK n2 b2 < 0) → ∀ H' r, Same H H' → H r = none → H' r = some (.lst ((if cntK n2 b2 ≤ cntK n1 b1 then z1 else z2).map V.str)) → Q (.ref r) H')
theorem ok_last (T : Tx K mg ad) : FnOk P w K mg base CX0 7 ad.a_Shelf_last ad.d_Shelf_last ["self"] (spLast ad) := by
  have G_kept_count := ok_kept_count (P := P) (w := w) (base := base) T
  refine T.F_Shelf_last.ok sc_Shelf_last (fun vs H Q E h => ?_) (fun cdv A outer s H vs Q E hr h => ?_)
  · obtain ⟨x, sl, t1, t2, z1, z2, n1, n2, b1, b2, rfl, _⟩ := h
    rfl
  · obtain ⟨x, sl, t1, t2, z1, z2, n1, n2, b1, b2, rfl, sf, l1, l2, k1, k2, q1, q2⟩ := h
    have nd := sc_Shelf_last.nd
    refine ⟨_, (pss_cons (ps_setC (i := 1) (osc := defScope s_Shelf_last) [] nd rfl (Or.inl rfl) rfl (pi_listK (K := K) (pe_fld (pv 0) rfl)) rfl rfl (by decide +kernel) (by decide +kernel) (by decide +kernel) trivial rfl (by decide +kernel) (fun _ _ _ _ => pts_nil) (fun _ _ _ _ => (pe_call G_kept_count (hr.mono (by decide)) (by rfl) T.m_kept_count T.F_kept_count.kp T.b_kept_count .nil pass0 (pa_cons (pv 0) pa_nil))))
        (pss_cons (ps_if (pt_cmpR op_lt (pe_callB (call_maxL (K := K) rfl) (by rfl) T.z_max PyProof.Rows.boot_max (pa_cons (pv 1) pa_nil)) pe_int (nomark _))
        (pss_one (ps_ret pe_non))
        pss_nil)
        (pss_one (ps_ret (pe_callTy (call_list_ofK (K := K)) (by rfl) T.z_list PyProof.Rows.boot_list (pa_cons (pe_ix (ix_listK (K := K)) (pe_fld (pv 0) rfl) (pe_bmK (K := K) PySem.F.plainAttrs_list PySem.F.slot_list_index PySem.F.type_list_index (mt_lindexI (K := K)) (pv 1) (pa_cons (pe_callB (call_maxL (K := K) rfl) (by rfl) T.z_max PyProof.Rows.boot_max (pa_cons (pv 1) pa_nil)) pa_nil)) (fun _ _ => rfl)) pa_nil)))))), ?_⟩
-- slots: 0 self, 1 counts
    obtain ⟨dx, r, l, a, _⟩ := sf.obj
    refine ⟨_, rfl, x, _, dx, _, _, rfl, a, T.cl_Shelf, T.n_Shelf_slots, rfl, sl, rfl, ⟨_, SqL.of sf.slots⟩, comp_same_list (fun y v => v = (fun y => V.int (if y = .ref t1 then cntK n1 b1 else cntK n2 b2)) y) sf.slots (by show 2 ≤ sizeLine; decide) (fun y H1 R hy s1 q => ?_) fun acc H1 s1 f D hD => ?_⟩
    · simp only [List.mem_cons, List.not_mem_nil, or_false] at hy
      rcases hy with rfl | rfl
      · refine ⟨_, rfl, t1, z1, n1, b1, rfl, s1 _ _ sf.one, l1, k1, fun H2 s2 => q _ H2 s2 ?_⟩
        show V.int _ = V.int _
        rw [if_pos rfl]
      · refine ⟨_, rfl, t2, z2, n2, b2, rfl, s1 _ _ sf.two, l2, k2, fun H2 s2 => q _ H2 s2 ?_⟩
        show V.int _ = V.int _
        rw [if_neg (fun z => sf.ne12 (V.ref.inj z).symm)]
    · have ea : acc = [cntK n1 b1, cntK n2 b2].map V.int := by
        rw [f.map]
        show [V.int _, V.int _] = [V.int _, V.int _]
        rw [if_pos rfl, if_neg (fun z => sf.ne12 (V.ref.inj z).symm)]
      subst ea
      have s2 : Same H (upd H1 D (.lst ([cntK n1 b1, cntK n2 b2].map V.int))) := s1.upd hD
      have eD : (upd H1 D (.lst ([cntK n1 b1, cntK n2 b2].map V.int))) D = some (.lst ([cntK n1 b1, cntK n2 b2].map V.int)) := upd_same
      generalize upd H1 D (.lst ([cntK n1 b1, cntK n2 b2].map V.int)) = H2 at s2 eD ⊢
      generalize cntK n1 b1 = c1 at eD q1 q2 ⊢
      generalize cntK n2 b2 = c2 at eD q1 q2 ⊢
      refine ⟨_, rfl, D, [c1, c2], rfl, SqL.of eD, by show 0 < 2; decide, fun M hM hle => ⟨_, _, rfl, rfl, _, rfl, ?_⟩⟩
      have m1 := hle c1 (by simp)
      have m2 := hle c2 (by simp)
      refine iteB (fun e => ?_) fun e => ?_
      · have e : M < 0 := of_decide_eq_true e
        exact q1 (by omega) (by omega) H2 s2
      · have e : ¬ M < 0 := of_decide_eq_false e
        have q2 := q2 (fun z => by
          simp only [List.mem_cons, List.not_mem_nil, or_false] at hM
          rcases hM with rfl | rfl
          · exact e z.1
          · exact e z.2)
        have sf2 := sf.same s2
        refine ⟨_, rfl, x, _, dx, _, _, rfl, s2 _ _ a, T.cl_Shelf, T.n_Shelf_slots, rfl, _, rfl, .inl ⟨rfl, _, SqL.of eD⟩, _, rfl, D, [c1, c2], rfl, SqL.of eD, by show 0 < 2; decide, fun M2 hM2 hle2 => ?_⟩
        have p1 := hle2 c1 (by simp)
        have p2 := hle2 c2 (by simp)
        simp only [List.mem_cons, List.not_mem_nil, or_false] at hM2
        by_cases hc : c2 ≤ c1
        · have eM : M2 = c1 := by rcases hM2 with rfl | rfl <;> omega
          subst eM
          rw [if_pos hc] at q2
          refine ⟨D, [M2, c2], M2, 0, rfl, rfl, SqL.of eD, rfl, fun m hm => absurd hm (Nat.not_lt_zero m), sl, _, _, .ref t1, rfl, rfl, SqL.of sf2.slots, atI_nat (j := 0) rfl, t1, _, rfl, .inl (SqL.of sf2.one), fun r hr => ?_⟩
          exact q2 _ r (s2.upd hr) (same_none s2 hr) upd_same
        · have eM : M2 = c2 := by rcases hM2 with rfl | rfl <;> omega
          subst eM
          rw [if_neg hc] at q2
          refine ⟨D, [c1, M2], M2, 1, rfl, rfl, SqL.of eD, rfl, fun m hm z => ?_, sl, _, _, .ref t2, rfl, rfl, SqL.of sf2.slots, atI_nat (j := 1) rfl, t2, _, rfl, .inl (SqL.of sf2.two), fun r hr => ?_⟩
          · have : m = 0 := by omega
            subst this
            have z : c1 = M2 := Option.some.inj z
            omega
          · exact q2 _ r (s2.upd hr) (same_none s2 hr) upd_same
theorem endL_eq (n : Int) : endL n = ("end " : Str) ++ numT n := by
  have e : endL n = Str.join " " ["end", numT n] := eq_of_beq (PyProof.Rows.join_plain_closes _ _)
  rw [e]
  show (("end" : Str) ++ " " ++ numT n) = _
  refine ext_cps ?_
  rw [cps_app, cps_app, cps_app]
  rfl
theorem ckL_eq (a n c : Int) : ckL a n c = (((("clock " : Str) ++ numT a) ++ " ") ++ numT n ++ " ") ++ numT c := by
  have e : ckL a n c = Str.join " " ["clock", numT a, numT n, numT c] := eq_of_beq (PyProof.Rows.join_plain_closes _ _)
  rw [e]
  show (("clock" : Str) ++ " " ++ (numT a ++ " " ++ (numT n ++ " " ++ numT c))) = _
  refine ext_cps ?_
  simp only [cps_app, List.append_assoc]
  rfl
theorem endL_inj {n m : Int} (h0 : 0 ≤ n) (h1 : n < 1000) (h2 : 0 ≤ m) (h3 : m < 1000) (h : endL n = endL m) : n = m := by
  have sp : ∀ k : Int, Txt.split (endL k) " " = ([("end" : Str), numT k] : List Str) := fun k => by
    refine split_join (c := 32) (by simp) fun p hp => ?_
    simp only [List.mem_cons, List.not_mem_nil, or_false] at hp
    rcases hp with rfl | rfl
    · decide +kernel
    · exact numT_free _
  have q := sp n
  rw [h, sp m] at q
  injection q with _ q
  injection q with q _
  have e1 := numV_numT (n := n) (by omega) (by omega)
  have e2 := numV_numT (n := m) (by omega) (by omega)
  rw [← q, e2] at e1
  exact (V.int.inj e1).symm
theorem endL_first (n : Int) : (endL n).cps.toList[0]? = some 101 := by
  rw [endL_eq, cps_app]
  rfl
theorem ckL_first (a n c : Int) : (ckL a n c).cps.toList[0]? = some 99 := by
  rw [ckL_eq]
  simp only [cps_app, List.append_assoc]
  rfl
theorem hasE_snoc (l : List Str) (z : Str) : hasE (l ++ [z]) = decide (z = endL (l.length : Int)) := by
  unfold hasE
  rw [List.getLast?_concat, List.length_append, List.length_singleton, decide_eq_true (Nat.succ_pos _), Bool.true_and]
  have e : ((l.length + 1 : Nat) : Int) - 1 = (l.length : Int) := by omega
  rw [e, Bool.eq_iff_iff, decide_eq_true_eq, decide_eq_true_eq]
  exact ⟨fun q => Option.some.inj q, fun q => congrArg some q⟩
theorem hasE_not {l : List Str} {z : Str} (h : z ≠ endL (l.length : Int)) : hasE (l ++ [z]) = false := by rw [hasE_snoc, decide_eq_false h]
/-- the lines of a keep -/
structure KeepL (zs : List Str) (n : Int) : Prop where
  shape : ∃ a c its, zs = (ckL a n c :: its) ++ [endL ((its.length : Int) + 1)] ∧ (0 ≤ a ∧ a ≤ 1000000000 ∧ 0 ≤ n ∧ n < 10 ^ 59 ∧ 0 ≤ c ∧ c < 10 ^ 59) ∧ its.length ≤ 4 ∧ ∀ z ∈ its, z.cps.toList[0]? = some 105
  ok : ∀ z ∈ zs, PyData.strOk z = true
theorem KeepL.whole {zs : List Str} {n : Int} (h : KeepL zs n) : Kp zs n true := by
  obtain ⟨a, c, its, rfl, ⟨h0, h1, h2, h3, h4, h5⟩, hl, _⟩ := h.shape
  refine ⟨?_, a, c, its ++ [endL ((its.length : Int) + 1)], rfl, h0, h1, h2, h3, h4, h5⟩
  rw [hasE_snoc]
  refine decide_eq_true ?_
  rw [List.length_cons]
  rfl
theorem KeepL.len {zs : List Str} {n : Int} (h : KeepL zs n) : 2 ≤ zs.length ∧ zs.length ≤ 6 := by
  obtain ⟨a, c, its, rfl, _, hl, _⟩ := h.shape
  rw [List.length_append, List.length_cons, List.length_singleton]
  omega
theorem KeepL.cut {zs : List Str} {n : Int} (h : KeepL zs n) {m : Nat} (hm : m < zs.length) : Kp (zs.take m) n false := by
  obtain ⟨a, c, its, rfl, _, hl, hi⟩ := h.shape
  have hm' : m ≤ (ckL a n c :: its).length := by
    rw [List.length_append, List.length_singleton] at hm
    omega
  rw [List.take_append_of_le_length hm']
  show hasE _ = false
  rcases List.eq_nil_or_concat ((ckL a n c :: its).take m) with e | ⟨l, z, e⟩
  · rw [e]
    rfl
  · rw [List.concat_eq_append] at e
    rw [e]
    refine hasE_not fun q => ?_
    have hz : z ∈ ckL a n c :: its := List.mem_of_mem_take (by rw [e]; exact List.mem_append_right _ List.mem_cons_self)
    have f := endL_first (l.length : Int)
    rw [← q] at f
    rcases List.mem_cons.mp hz with rfl | hz
    · rw [ckL_first] at f
      exact absurd (Option.some.inj f) (by decide)
    · rw [hi z hz] at f
      exact absurd (Option.some.inj f) (by decide)
theorem ok_app {a b : Str} (ha : PyData.strOk a = true) (hb : PyData.strOk b = true) : PyData.strOk (a ++ b) = true := by
  unfold PyData.strOk at *
  rw [← Array.all_toList] at *
  rw [cps_app, List.all_append, ha, hb]
  rfl
theorem ok_num (n : Int) : PyData.strOk (numT n) = true := by
  unfold PyData.strOk
  rw [← Array.all_toList, List.all_eq_true]
  intro c hc
  rw [numT_cps] at hc
  refine decide_eq_true ?_
  rcases List.mem_append.mp hc with h | h
  · by_cases hn : n < 0
    · rw [if_pos hn] at h
      rw [List.mem_singleton.mp h]
      decide
    · rw [if_neg hn] at h
      cases h
  · have := Fig.dig_all n.natAbs c h
    omega
def itL (k v : Int) : Str := ((("item 2 0 key " : Str) ++ numT k) ++ " ") ++ numT v
theorem itL_first (k v : Int) : (itL k v).cps.toList[0]? = some 105 := by
  unfold itL
  simp only [cps_app, List.append_assoc]
  rfl
def spKeep : Sp := fun vs H Q _ => ∃ c : Int, vs = [.int c] ∧ ∀ H' p lp n zs, Same H H' → H' p = some (.tup [.int n, .ref lp]) → H' lp = some (.lst (zs.map V.str)) → KeepL zs n → Q (.ref p) H'
def tCo : TS := fun D σ H => ∃ (c n : Int) (o2 o3 : Option V), σ = [some (.int c), some (.int n), o2, o3] ∧ 0 ≤ n ∧ n < 21 ∧ ∀ m : Int, 0 ≤ m → m < 10 ^ 30 → D.nx [some (.int c), some (.int m), o2, o3] H
theorem log_ok {n : Int} (h0 : -(10 ^ 59) < n) (h1 : n < 10 ^ 59) : n.natAbs.log2 < 1920 := by
  have q := log_small (n := (n.natAbs : Int)) (by omega) (by omega)
  rwa [Int.natAbs_natCast] at q
theorem ok_keep (T : Tx K mg ad) : FnOk P w K mg base CX0 1 ad.a_u_law_keep ad.d_u_law_keep ["_law_cell"] spKeep := by
  refine T.F_u_law_keep.ok sc_u_law_keep (fun vs H Q E h => ?_) (fun cdv A outer s H vs Q E hr h => ?_)
  · obtain ⟨c, rfl, _⟩ := h
    rfl
  · obtain ⟨c, rfl, k⟩ := h
    have nd := sc_u_law_keep.nd
    refine ⟨_, (pss_cons (ps_set (i := 1) nd rfl (Or.inl rfl) (pe_op op_mod (pv 0) pe_int))
        (pss_cons (ps_weak (t' := tCo) (ps_if (pt_cmpR op_eq (pe_op op_mod (pe_op op_fdiv (pv 0) pe_int) pe_int) pe_int (nomark _))
        (pss_one (ps_set (i := 1) nd rfl (Or.inl rfl) (pe_op op_add (pe_op op_pow pe_int pe_int) (pe_op op_mod (pv 0) pe_int))))
        pss_nil) ?w1)
        (pss_cons (ps_set (i := 2) nd rfl (Or.inl rfl) (pe_lst (pa_cons (pe_op op_add_str (pe_op op_add_str (pe_op op_add_str (pe_op op_add_str (pe_op op_add_str pe_str (pe_callTy call_str_int (by rfl) T.z_str PyProof.Rows.boot_str (pa_cons (pe_op op_mod (pe_op op_fdiv (pv 0) pe_int) pe_int) pa_nil))) pe_str) (pe_callTy call_str_int (by rfl) T.z_str PyProof.Rows.boot_str (pa_cons (pv 1) pa_nil))) pe_str) (pe_callTy call_str_int (by rfl) T.z_str PyProof.Rows.boot_str (pa_cons (pe_op op_mod (pe_op op_fdiv (pv 0) pe_int) pe_int) pa_nil))) pa_nil)))
        (pss_cons (ps_for PassesOwn.never rfl (pi_range1 (by rfl) T.z_range (pa_cons (pe_op op_mod (pe_op op_fdiv (pv 0) pe_int) pe_int) pa_nil)) (pg_name (i := 3) nd rfl (Or.inl rfl))
        (pss_one (ps_expr (pe_bmK (K := K) PySem.F.plainAttrs_list PySem.F.slot_list_append PySem.F.type_list_append mt_append (pv 2) (pa_cons (pe_op op_add_str (pe_op op_add_str (pe_op op_add_str pe_str (pe_callTy call_str_int (by rfl) T.z_str PyProof.Rows.boot_str (pa_cons (pv 3) pa_nil))) pe_str) (pe_callTy call_str_int (by rfl) T.z_str PyProof.Rows.boot_str (pa_cons (pe_op op_sub (pe_op op_mod (pe_op op_fdiv (pv 0) pe_int) pe_int) pe_int) pa_nil))) pa_nil)))))
        (pss_one (ps_ret (pe_tup (pa_cons (pv 1) (pa_cons (pe_op op_cat (pv 2) (pe_lst (pa_cons (pe_op op_add_str pe_str (pe_callTy call_str_int (by rfl) T.z_str PyProof.Rows.boot_str (pa_cons (pe_callB (call_len_seqK (K := K)) (by rfl) T.z_len PySem.boot_len (pa_cons (pv 2) pa_nil)) pa_nil))) pa_nil))) pa_nil))))))))), ?_⟩
-- slots: 0 _law_cell, 1 _law_count, 2 _law_lines, 3 _law_k
    case w1 =>
      rintro D σ H ⟨c, n, o2, o3, rfl, n0, n1, q⟩
      have b3 : 0 ≤ c % 3 ∧ c % 3 < 3 := ⟨Int.emod_nonneg _ (by decide), Int.emod_lt_of_pos _ (by decide)⟩
      refine ⟨_, rfl, _, _, rfl, rfl, ⟨by decide, by decide⟩, _, _, rfl, rfl, (by decide : (0 : Int) < 9), rfl, _, rfl, iteB (fun _ => ?_) fun _ => q n n0 (by omega)⟩
      refine ⟨_, _, rfl, rfl, ⟨by decide, by decide, by decide⟩, _, rfl, _, _, rfl, rfl, (by decide : (0 : Int) < 3), _, _, rfl, rfl, q _ ?_ ?_⟩
      · have : (10 : Int) ^ Int.toNat 29 = 10 ^ 29 := rfl
        omega
      · have : (10 : Int) ^ Int.toNat 29 = 10 ^ 29 := rfl
        omega
    have sz : sizeLine = 16777216 := sizeLine_eq
    have b21 : 0 ≤ c % 21 ∧ c % 21 < 21 := ⟨Int.emod_nonneg _ (by decide), Int.emod_lt_of_pos _ (by decide)⟩
    have b99 : 0 ≤ c / 5 % 99 ∧ c / 5 % 99 < 99 := ⟨Int.emod_nonneg _ (by decide), Int.emod_lt_of_pos _ (by decide)⟩
    have b7 : 0 ≤ c / 3 % 7 ∧ c / 3 % 7 < 7 := ⟨Int.emod_nonneg _ (by decide), Int.emod_lt_of_pos _ (by decide)⟩
    have b5 : 0 ≤ c / 7 % 5 ∧ c / 7 % 5 < 5 := ⟨Int.emod_nonneg _ (by decide), Int.emod_lt_of_pos _ (by decide)⟩
    have b9 : 0 ≤ c / 11 % 9 ∧ c / 11 % 9 < 9 := ⟨Int.emod_nonneg _ (by decide), Int.emod_lt_of_pos _ (by decide)⟩
    have nl : ∀ n : Int, -(10 ^ 59) < n → n < 10 ^ 59 → (PySem.Str.ofString (toString n)).length ≤ 60 := fun n h0 h1 => by
      have e := tx_num n
      unfold tx at e
      rw [e]
      exact numT_len h0 h1
    have ap : ∀ a b : Str, (a ++ b).length = a.length + b.length := fun a b => PySem.Str.length_append a b
    refine ⟨_, rfl, _, _, rfl, rfl, (by decide : (0 : Int) < 21), c, c % 21, _, _, rfl, b21.1, b21.2, fun n n0 n1 => ?_⟩
    have w6 : ("clock " : Str).length = 6 := rfl
    have w1 : (" " : Str).length = 1 := rfl
    have w13 : ("item 2 0 key " : Str).length = 13 := rfl
    have w4 : ("end " : Str).length = 4 := rfl
    have a1 := nl (c / 5 % 99) (by omega) (by omega)
    have a2 := nl n (by omega) (by omega)
    have a3 := nl (c / 3 % 7) (by omega) (by omega)
    have a4 := nl (c / 11 % 9 - 4) (by omega) (by omega)
    refine ⟨_, rfl, _, _, rfl, rfl, ⟨by decide, by decide⟩, _, _, rfl, rfl, (by decide : (0 : Int) < 99), _, rfl, log_ok (by omega) (by omega), _, _, rfl, rfl, by omega, _, _, rfl, rfl, by rw [ap]; omega, ?_⟩
    refine ⟨_, rfl, _, rfl, log_ok (by omega) (by omega), _, _, rfl, rfl, by rw [ap, ap]; omega, _, _, rfl, rfl, by rw [ap, ap, ap]; omega, ?_⟩
    refine ⟨_, rfl, _, _, rfl, rfl, ⟨by decide, by decide⟩, _, _, rfl, rfl, (by decide : (0 : Int) < 7), _, rfl, log_ok (by omega) (by omega), _, _, rfl, rfl, by rw [ap, ap, ap, ap]; omega, by show 1 ≤ sizeLine; decide, fun l hl => ?_⟩
    have eck : (((("clock " : Str) ++ tx (c / 5 % 99)) ++ " ") ++ tx n ++ " ") ++ tx (c / 3 % 7) = ckL (c / 5 % 99) n (c / 3 % 7) := by rw [ckL_eq, tx_num, tx_num, tx_num]
    have s1 : Same H (upd H l (.lst ([ckL (c / 5 % 99) n (c / 3 % 7)].map V.str))) := (Same.refl H).upd hl
    have e1 : (upd H l (.lst [V.str ((((("clock " : Str) ++ tx (c / 5 % 99)) ++ " ") ++ tx n ++ " ") ++ tx (c / 3 % 7))])) = upd H l (.lst ([ckL (c / 5 % 99) n (c / 3 % 7)].map V.str)) := by rw [eck]; rfl
    refine ⟨_, rfl, _, _, rfl, rfl, ⟨by decide, by decide⟩, _, _, rfl, rfl, (by decide : (0 : Int) < 5), _, rfl, by omega, by omega, ?_⟩
    have ok1 : PyData.strOk (ckL (c / 5 % 99) n (c / 3 % 7)) = true := by
      rw [ckL_eq]
      exact ok_app (ok_app (ok_app (ok_app (ok_app (by decide +kernel) (ok_num _)) (by decide +kernel)) (ok_num _)) (by decide +kernel)) (ok_num _)
    refine for_range (fun i σ H' => ∃ (o3 : Option V) (its : List Str), σ = [some (.int c), some (.int n), some (.ref l), o3] ∧ Same H H' ∧ H' l = some (.lst ((ckL (c / 5 % 99) n (c / 3 % 7) :: its).map V.str)) ∧ its.length = i ∧ (∀ z ∈ its, z.cps.toList[0]? = some 105) ∧ ∀ z ∈ its, PyData.strOk z = true)
      ⟨none, [], rfl, ?_, ?_, rfl, fun z hz => (nomatch hz), fun z hz => (nomatch hz)⟩ ?_ ?_
    · exact e1 ▸ s1
    · show (upd H l _) l = _
      rw [upd_same, ← eck]
      rfl
    · rintro i σ H1 hi ⟨o3, its, rfl, sm, el, hlen, hf, hk⟩
      have hi5 : i < 5 := by omega
      have a5 := nl ((0 : Int) + (i : Int)) (by omega) (by omega)
      refine ⟨_, rfl, .inl ⟨rfl, _, SqL.of el⟩, _, rfl, _, rfl, log_ok (by omega) (by omega), _, _, rfl, rfl, by omega, _, _, rfl, rfl, by rw [ap]; omega, ?_⟩
      refine ⟨_, rfl, _, _, rfl, rfl, ⟨by decide, by decide⟩, _, _, rfl, rfl, (by decide : (0 : Int) < 9), _, _, rfl, rfl, _, rfl, log_ok (by omega) (by omega), _, _, rfl, rfl, by rw [ap, ap]; omega, l, _, _, rfl, rfl, el, ?_, ?_⟩
      · rw [List.length_map, List.length_cons]
        omega
      have ei : ((("item 2 0 key " : Str) ++ tx ((0 : Int) + (i : Int))) ++ " ") ++ tx (c / 11 % 9 - 4) = itL ((0 : Int) + (i : Int)) (c / 11 % 9 - 4) := by unfold itL; rw [tx_num, tx_num]
      refine ⟨_, its ++ [itL ((0 : Int) + (i : Int)) (c / 11 % 9 - 4)], rfl, sm.updN hl, ?_, by rw [List.length_append, hlen, List.length_singleton], fun z hz => ?_, fun z hz => ?_⟩
      · rw [upd_same, ← ei]
        show _ = some (HO.lst (List.map V.str ((ckL (c / 5 % 99) n (c / 3 % 7) :: its) ++ [_])))
        rw [List.map_append]
        rfl
      · rcases List.mem_append.mp hz with h | h
        · exact hf z h
        · rw [List.mem_singleton.mp h]
          exact itL_first _ _
      · rcases List.mem_append.mp hz with h | h
        · exact hk z h
        · rw [List.mem_singleton.mp h]
          exact ok_app (ok_app (ok_app (by decide +kernel) (ok_num _)) (by decide +kernel)) (ok_num _)
    · rintro σ H1 ⟨o3, its, rfl, sm, el, hlen, hf, hk⟩
      have ml : (((ckL (c / 5 % 99) n (c / 3 % 7) :: its).map V.str).length : Int) = (its.length : Int) + 1 := by rw [List.length_map, List.length_cons]; omega
      have hi5 : its.length < 5 := by omega
      have a5 := nl ((its.length : Int) + 1) (by omega) (by omega)
      refine ⟨_, rfl, _, rfl, _, rfl, l, _, rfl, .inl (SqL.of el), (its.length : Int) + 1, by rw [ml], log_ok (by omega) (by omega), _, _, rfl, rfl, by show 4 + (PySem.Str.ofString (toString ((its.length : Int) + 1))).length ≤ sizeLine; omega, by show 1 ≤ sizeLine; decide, fun le hle => ?_⟩
      have nle : l ≠ le := ne_of_none el hle
      refine ⟨l, le, _, _, rfl, rfl, by rw [upd_ne nle]; exact el, upd_same, ?_, fun lz hlz => ⟨by show 2 ≤ sizeLine; decide, fun p hp => ?_⟩⟩
      · rw [List.length_map, List.length_cons, List.length_singleton]
        omega
      have ee : ("end " : Str) ++ tx ((its.length : Int) + 1) = endL ((its.length : Int) + 1) := by rw [endL_eq, tx_num]
      refine k _ p lz n ((ckL (c / 5 % 99) n (c / 3 % 7) :: its) ++ [endL ((its.length : Int) + 1)]) (((sm.upd hle).upd hlz).upd hp) upd_same ?_ ⟨⟨_, _, its, rfl, ⟨b99.1, by omega, n0, by omega, b7.1, by omega⟩, by omega, hf⟩, fun z hz => ?_⟩
      · rw [upd_ne (ne_of_none upd_same hp), upd_same, List.map_append, ← ee]
        rfl
      · rcases List.mem_append.mp hz with h | h
        · rcases List.mem_cons.mp h with rfl | h
          · exact ok1
          · exact hk z h
        · rw [List.mem_singleton.mp h, endL_eq]
          exact ok_app (by decide +kernel) (ok_num _)
theorem sIx_neg {n d : Nat} {v : Int} (h : v < 0) : HT.sIx n d (some v) = (v + (n : Int)).toNat := by
  have q := HT.clip_eq v n d
  rw [if_pos h] at q
  omega
theorem cut_drop (zs : List Str) (m : Nat) : cutV (zs.map V.str) (some (m : Int)) none = (zs.drop m).map V.str := by
  unfold cutV
  rw [HT.sIx_none, HT.sIx_nat, List.length_map, List.map_drop]
  by_cases h : m ≤ zs.length
  · rw [Nat.min_eq_left h, List.take_of_length_le]
    rw [List.length_drop, List.length_map]
    exact Nat.le_refl _
  · rw [Nat.min_eq_right (by omega), List.drop_of_length_le (by rw [List.length_map]; exact Nat.le_refl _), List.drop_of_length_le (by rw [List.length_map]; omega), List.take_nil]
theorem cut_init (zs : List Str) : cutV (zs.map V.str) none (some (-1)) = (zs.take (zs.length - 1)).map V.str := by
  unfold cutV
  rw [HT.sIx_none, sIx_neg (by decide), List.drop_zero, List.length_map, List.map_take, Nat.sub_zero]
  congr 1
  omega
def tBk (lp : Addr) (c : Int) (zs : List Str) : TS := fun D σ H => σ = [some (.ref lp), some (.int c)] ∧ H lp = some (.lst (zs.map V.str)) ∧ zs.length ≤ 10 ∧ (∀ H' r, Same H H' → H r = none → H' r = some (.lst ((zs.take 1 ++ zs.drop 2).map V.str)) → 2 < zs.length → D.rt (.ref r) H') ∧ D.nx σ H
def spBroken : Sp := fun vs H Q _ => ∃ (lp : Addr) (c : Int) (zs : List Str) (n : Int), vs = [.ref lp, .int c] ∧ H lp = some (.lst (zs.map V.str)) ∧ KeepL zs n ∧
  ∀ H' r ws, Same H H' → H r = none → H' r = some (.lst (ws.map V.str)) → hasE ws = false → (∀ z ∈ ws, PyData.strOk z = true) → ws.length ≤ 10 → Q (.ref r) H'
theorem ok_broken (T : Tx K mg ad) : FnOk P w K mg base CX0 1 ad.a_u_law_broken ad.d_u_law_broken ["_law_lines", "_law_cell"] spBroken := by
  refine T.F_u_law_broken.ok sc_u_law_broken (fun vs H Q E h => ?_) (fun cdv A outer s H vs Q E hr h => ?_)
  · obtain ⟨lp, c, zs, n, rfl, _⟩ := h
    rfl
  · obtain ⟨lp, c, zs, n, rfl, el, kl, k⟩ := h
    have nd := sc_u_law_broken.nd
    refine ⟨_, (pss_cons (ps_weak (t' := tBk lp c zs) (ps_if (PW.pt (pw_and (pt_cmpR op_eq (pe_op op_mod (pv 1) pe_int) pe_int (nomark _)) (pw_and1 (pt_cmpR op_gt (pe_callB (call_len_seqK (K := K)) (by rfl) T.z_len PySem.boot_len (pa_cons (pv 0) pa_nil)) pe_int (nomark _)))))
        (pss_one (ps_ret (pe_op op_cat (pe_slice (sl_listK (K := K)) (pv 0) po_none (po_some pe_int)) (pe_slice (sl_listK (K := K)) (pv 0) (po_some pe_int) po_none))))
        pss_nil) ?w1)
        (pss_cons (ps_if (pt_cmpR op_eq (pe_op op_mod (pv 1) pe_int) pe_int (nomark _))
        (pss_one (ps_ret (pe_slice (sl_listK (K := K)) (pv 0) (po_some pe_int) po_none)))
        pss_nil)
        (pss_cons (ps_if (pt_cmpR op_eq (pe_op op_mod (pv 1) pe_int) pe_int (nomark _))
        (pss_one (ps_ret (pe_op op_cat (pe_slice (sl_listK (K := K)) (pv 0) po_none (po_some (pe_un un_neg pe_int))) (pe_lst (pa_cons (pe_op op_add_str pe_str (pe_callTy call_str_int (by rfl) T.z_str PyProof.Rows.boot_str (pa_cons (pe_op op_add (pe_callB (call_len_seqK (K := K)) (by rfl) T.z_len PySem.boot_len (pa_cons (pv 0) pa_nil)) (pe_op op_mod (pe_op op_fdiv (pv 1) pe_int) pe_int)) pa_nil))) pa_nil)))))
        pss_nil)
        (pss_one (ps_ret (pe_op op_cat (pe_slice (sl_listK (K := K)) (pv 0) po_none (po_some (pe_un un_neg pe_int))) (pe_lst (pa_cons (pe_ix (ix_listK (K := K)) (pe_lst (pa_cons pe_str (pa_cons pe_str (pa_cons (pe_op op_add_str pe_str (pe_callTy call_str_int (by rfl) T.z_str PyProof.Rows.boot_str (pa_cons (pe_op op_sub (pe_callB (call_len_seqK (K := K)) (by rfl) T.z_len PySem.boot_len (pa_cons (pv 0) pa_nil)) pe_int) pa_nil))) (pa_cons pe_str pa_nil))))) (pe_op op_mod (pe_op op_fdiv (pv 1) pe_int) pe_int) (fun _ _ => rfl)) pa_nil)))))))), ?_⟩
-- slots: 0 _law_lines, 1 _law_cell
    case w1 =>
      rintro D σ H ⟨rfl, el, hl, q1, q2⟩
      have sz : sizeLine = 16777216 := sizeLine_eq
      refine ⟨_, rfl, _, _, rfl, rfl, (by decide : (0 : Int) < 4), rfl, _, rfl, iteB (fun _ => ?_) fun _ => iteF q2⟩
      refine ⟨_, rfl, lp, _, rfl, .inl (SqL.of el), _, _, rfl, rfl, _, rfl, iteB (fun e => ?_) fun _ => q2⟩
      have e : (2 : Int) < ((zs.map V.str).length : Int) := of_decide_eq_true e
      rw [List.length_map] at e
      refine ⟨_, rfl, _, rfl, lp, _, rfl, SqL.of el, fun p1 hp1 => ⟨_, rfl, _, rfl, lp, _, rfl, SqL.of (((Same.refl H).upd hp1) _ _ el), fun p2 hp2 => ?_⟩⟩
      have n12 : p1 ≠ p2 := ne_of_none upd_same hp2
      have e1 := cut_take zs 1
      have e2 := cut_drop zs 2
      refine ⟨p1, p2, (zs.take 1).map V.str, (zs.drop 2).map V.str, rfl, rfl, by rw [upd_ne n12, upd_same, ← e1] <;> rfl, by rw [upd_same, ← e2] <;> rfl, by rw [List.length_map, List.length_map, List.length_take, List.length_drop]; omega, fun r hr' => ?_⟩
      have s2 := ((Same.refl H).upd (o := .lst (cutV (zs.map V.str) none (some 1))) hp1).upd (o := .lst (cutV (zs.map V.str) (some 2) none)) hp2
      exact q1 _ r (s2.upd hr') (same_none s2 hr') (by rw [upd_same, List.map_append]) (by omega)
    have sz : sizeLine = 16777216 := sizeLine_eq
    have s0 := Same.refl H
    have len := kl.len
    have okz := kl.ok
    obtain ⟨a, c', its, ez, bd, hl4, hf⟩ := kl.shape
    have lz : zs.length = its.length + 2 := by rw [ez, List.length_append, List.length_cons, List.length_singleton]
    have ml : ((zs.map V.str).length : Int) = (zs.length : Int) := by rw [List.length_map]
    have nl : ∀ n : Int, -(10 ^ 59) < n → n < 10 ^ 59 → (PySem.Str.ofString (toString n)).length ≤ 60 := fun n h0 h1 => by
      have e := tx_num n
      unfold tx at e
      rw [e]
      exact numT_len h0 h1
    have init : zs.take (zs.length - 1) = ckL a n c' :: its := by
      rw [lz, ez]
      show List.take (its.length + 1) _ = _
      rw [List.take_append_of_le_length (by rw [List.length_cons]; exact Nat.le_refl _), List.take_of_length_le (by rw [List.length_cons]; exact Nat.le_refl _)]
    have ii : ((ckL a n c' :: its).length : Int) = (its.length : Int) + 1 := by rw [List.length_cons]; omega
    have last : ∀ w : Str, w ≠ endL ((its.length : Int) + 1) → PyData.strOk w = true → ∀ H' r, Same H H' → H r = none → H' r = some (.lst ((zs.take (zs.length - 1)).map V.str ++ [.str w])) → Q (.ref r) H' := fun w hw hk H' r s' hr' e => by
      refine k H' r (zs.take (zs.length - 1) ++ [w]) s' hr' (by rw [List.map_append]; exact e) ?_ (fun z hz => ?_) ?_
      · rw [init]
        exact hasE_not (by rw [ii]; exact hw)
      · rcases List.mem_append.mp hz with h | h
        · exact okz z (List.mem_of_mem_take h)
        · rw [List.mem_singleton.mp h]; exact hk
      · rw [List.length_append, List.length_take, List.length_singleton]; omega
    have d4 : (0 : Int) < 4 := by decide
    have cat : ∀ {H1 : Hp} {x y : Addr} {us : List V} {o : HO}, H1 x = some (.lst us) → H1 y = none → (upd H1 y o) x = some (.lst us) := fun e h => by rw [upd_ne (ne_of_none e h)]; exact e
    -- the last two ways
    have tail : ∀ (w : Str), w ≠ endL ((its.length : Int) + 1) → PyData.strOk w = true → ∀ {H1 : Hp} {p1 p2 : Addr}, Same H H1 → H1 p1 = some (.lst ((zs.take (zs.length - 1)).map V.str)) → H1 p2 = some (.lst [.str w]) → rCat (.ref p1) (.ref p2) H1 Q := fun w hw hk H1 p1 p2 s1 e1 e2 =>
      ⟨p1, p2, _, _, rfl, rfl, e1, e2, by rw [List.length_map, List.length_take, List.length_singleton]; omega, fun r hr' => last w hw hk _ r (s1.upd hr') (same_none s1 hr') upd_same⟩
    have wayC : (0 : Int) ≤ c / 4 % 3 ∧ c / 4 % 3 < 3 := ⟨Int.emod_nonneg _ (by decide), Int.emod_lt_of_pos _ (by decide)⟩
    refine ⟨rfl, el, by omega, fun H' r s' hr' e h2 => ?_, ?_⟩
    · obtain ⟨i0, r0, rfl⟩ : ∃ i0 r0, its = i0 :: r0 := by
        cases its with
        | nil => rw [List.length_nil] at lz; omega
        | cons i0 r0 => exact ⟨i0, r0, rfl⟩
      have ew : zs.take 1 ++ zs.drop 2 = (ckL a n c' :: r0) ++ [endL (((i0 :: r0).length : Int) + 1)] := by rw [ez]; rfl
      refine k H' r _ s' hr' e ?_ (fun z hz => ?_) (by rw [List.length_append, List.length_take, List.length_drop]; omega)
      · rw [ew]
        refine hasE_not fun q => ?_
        rw [List.length_cons] at hl4
        have := endL_inj (by omega) (by rw [List.length_cons]; omega) (by omega) (by rw [List.length_cons]; omega) q
        rw [List.length_cons, List.length_cons] at this
        omega
      · rcases List.mem_append.mp hz with h | h
        · exact okz z (List.mem_of_mem_take h)
        · exact okz z (List.mem_of_mem_drop h)
    refine ⟨_, rfl, _, _, rfl, rfl, d4, rfl, _, rfl, iteB (fun _ => ?_) fun _ => ?_⟩
    · refine ⟨_, rfl, _, rfl, lp, _, rfl, SqL.of el, fun p1 hp1 => ?_⟩
      have ew : zs.drop 1 = its ++ [endL ((its.length : Int) + 1)] := by rw [ez]; rfl
      have e1 := cut_drop zs 1
      refine k _ p1 (zs.drop 1) (s0.upd hp1) hp1 (by rw [upd_same, ← e1] <;> rfl) ?_ (fun z hz => okz z (List.mem_of_mem_drop hz)) (by rw [List.length_drop]; omega)
      rw [ew]
      refine hasE_not fun q => ?_
      have := endL_inj (by omega) (by omega) (by omega) (by omega) q
      omega
    refine ⟨_, rfl, _, _, rfl, rfl, d4, rfl, _, rfl, iteB (fun _ => ?_) fun _ => ?_⟩
    · have a5 := nl ((zs.length : Int) + c / 4 % 3) (by omega) (by omega)
      have w4 : ("end " : Str).length = 4 := rfl
      refine ⟨_, rfl, _, rfl, _, rfl, lp, _, rfl, SqL.of el, fun p1 hp1 => ⟨_, rfl, lp, _, rfl, .inl (SqL.of ((s0.upd hp1) _ _ el)), _, rfl, _, _, rfl, rfl, ⟨by decide, by decide⟩, _, _, rfl, rfl, (by decide : (0 : Int) < 3), _, _, rfl, rfl, (zs.length : Int) + c / 4 % 3, by rw [ml], log_ok (by omega) (by omega), _, _, rfl, rfl, by show 4 + (PySem.Str.ofString (toString ((zs.length : Int) + c / 4 % 3))).length ≤ sizeLine; omega, by show 1 ≤ sizeLine; decide, fun p2 hp2 => ?_⟩⟩
      have ee : ("end " : Str) ++ tx ((zs.length : Int) + c / 4 % 3) = endL ((zs.length : Int) + c / 4 % 3) := by rw [endL_eq, tx_num]
      have e1 := cut_init zs
      have n12 : p1 ≠ p2 := ne_of_none upd_same hp2
      refine tail (endL ((zs.length : Int) + c / 4 % 3)) (fun q => ?_) (by rw [endL_eq]; exact ok_app (by decide +kernel) (ok_num _)) ((s0.upd hp1).upd hp2) (by rw [upd_ne n12, upd_same, ← e1] <;> rfl) (by rw [upd_same, ← ee] <;> rfl)
      have := endL_inj (by omega) (by omega) (by omega) (by omega) q
      omega
    · have a5 := nl ((zs.length : Int) - 1) (by omega) (by omega)
      refine ⟨_, rfl, _, rfl, _, rfl, lp, _, rfl, SqL.of el, fun p1 hp1 => ⟨_, rfl, lp, _, rfl, .inl (SqL.of ((s0.upd hp1) _ _ el)), _, _, rfl, rfl, (zs.length : Int) - 1, by rw [ml], log_ok (by omega) (by omega), _, _, rfl, rfl, by show 5 + (PySem.Str.ofString (toString ((zs.length : Int) - 1))).length ≤ sizeLine; omega, by show 4 ≤ sizeLine; decide, fun p2 hp2 => ?_⟩⟩
      obtain ⟨w, hw, hm⟩ := atI_mod [V.str "end", .str "End 1", .str (("end  " : Str) ++ tx ((zs.length : Int) - 1)), .str ""] 4 rfl (by decide) (c / 4)
      refine ⟨_, rfl, _, _, rfl, rfl, ⟨by decide, by decide⟩, _, _, rfl, rfl, d4, p2, _, _, w, rfl, rfl, SqL.of upd_same, hw, by show 1 ≤ sizeLine; decide, fun p3 hp3 => ?_⟩
      have e1 := cut_init zs
      have n12 : p1 ≠ p2 := ne_of_none upd_same hp2
      have g1 : (upd H p1 (.lst (cutV (zs.map V.str) none (some (-1))))) p1 = some (.lst ((zs.take (zs.length - 1)).map V.str)) := by rw [upd_same, e1]
      have s3 := ((s0.upd (o := .lst (cutV (zs.map V.str) none (some (-1)))) hp1).upd (o := .lst [V.str "end", .str "End 1", .str (("end  " : Str) ++ tx ((zs.length : Int) - 1)), .str ""]) hp2)
      have g2 := ((Same.refl _).upd (o := .lst [V.str "end", .str "End 1", .str (("end  " : Str) ++ tx ((zs.length : Int) - 1)), .str ""]) hp2) _ _ g1
      have g3 := ((Same.refl _).upd (o := .lst [w]) hp3) _ _ g2
      have ws : ∃ y : Str, w = .str y ∧ y ≠ endL ((its.length : Int) + 1) ∧ PyData.strOk y = true := by
        have four : ∀ y : Str, y.cps.toList[4]? = some 32 ∨ y.cps.toList[3]? ≠ some 32 → y ≠ endL ((its.length : Int) + 1) := fun y hy q => by
          subst q
          rw [endL_eq, cps_app] at hy
          rcases hy with h | h
          · have q : (numT ((its.length : Int) + 1)).cps.toList[0]? = some 32 := h
            exact numT_free _ (List.mem_of_getElem? q)
          · exact h rfl
        simp only [List.mem_cons, List.not_mem_nil, or_false] at hm
        rcases hm with rfl | rfl | rfl | rfl
        · exact ⟨_, rfl, four _ (.inr (by decide +kernel)), by decide +kernel⟩
        · exact ⟨_, rfl, fun q => by have f := endL_first ((its.length : Int) + 1); rw [← q] at f; exact absurd f (by decide +kernel), by decide +kernel⟩
        · refine ⟨_, rfl, four _ (.inl ?_), ?_⟩
          · rw [cps_app]
            rfl
          · rw [tx_num]
            exact ok_app (by decide +kernel) (ok_num _)
        · exact ⟨_, rfl, four _ (.inr (by decide +kernel)), by decide +kernel⟩
      obtain ⟨y, rfl, hy1, hy2⟩ := ws
      exact tail y hy1 hy2 (s3.upd hp3) g3 upd_same
def dueV (n1 n2 : Int) (v1 v2 : V) (b1 b2 : Bool) : V := if b1 = true then (if b2 = true ∧ n1 < n2 then v2 else v1) else if b2 = true then v2 else .non
def spDue : Sp := fun vs H Q _ => ∃ (ls p1 p2 : Addr) (n1 n2 : Int) (v1 v2 : V) (b1 b2 : Bool), vs = [.ref ls] ∧ H ls = some (.lst [.ref p1, .ref p2]) ∧ H p1 = some (.tup [.int n1, v1, .bl b1]) ∧ H p2 = some (.tup [.int n2, v2, .bl b2]) ∧ v1 ≠ .non ∧ v2 ≠ .non ∧ Q (dueV n1 n2 v1 v2 b1 b2) H
theorem ok_due (T : Tx K mg ad) : FnOk P w K mg base CX0 1 ad.a_u_law_due ad.d_u_law_due ["_law_slots"] spDue := by
  refine T.F_u_law_due.ok sc_u_law_due (fun vs H Q E h => ?_) (fun cdv A outer s H vs Q E hr h => ?_)
  · obtain ⟨ls, p1, p2, n1, n2, v1, v2, b1, b2, rfl, _⟩ := h
    rfl
  · obtain ⟨ls, p1, p2, n1, n2, v1, v2, b1, b2, rfl, el, e1, e2, h1, h2, k⟩ := h
    have nd := sc_u_law_due.nd
    refine ⟨_, (pss_cons (ps_set (i := 1) nd rfl (Or.inl rfl) pe_non)
        (pss_cons (ps_for PassesOwn.never rfl (pi_listK (K := K) (pv 0)) (pg_name (i := 2) nd rfl (Or.inl rfl))
        (pss_one (ps_if (PW.pt (pw_and (pt_val (pe_ix (ix_tupK (K := K)) (pv 2) pe_int (fun _ _ => rfl))) (pw_and1 (PW.pt (pw_or (pt_cmpR op_isN (pv 1) pe_non (nomark _)) (pw_or1 (pt_cmpR op_gt (pe_ix (ix_tupK (K := K)) (pv 2) pe_int (fun _ _ => rfl)) (pe_ix (ix_tupK (K := K)) (pv 1) pe_int (fun _ _ => rfl)) (nomark _))))))))
        (pss_one (ps_set (i := 1) nd rfl (Or.inl rfl) (pv 2)))
        pss_nil)))
        (pss_one (ps_ret (pe_ifExp (pt_cmpR op_isN (pv 1) pe_non (nomark _)) pe_non (pe_ix (ix_tupK (K := K)) (pv 1) pe_int (fun _ _ => rfl))))))), ?_⟩
-- slots: 0 _law_slots, 1 _law_best, 2 _law_slot
    have i20 : ∀ {a b c : V}, atI [a, b, c] 0 = some a := atI_nat (j := 0) rfl
    have i21 : ∀ {a b c : V}, atI [a, b, c] 1 = some b := atI_nat (j := 1) rfl
    have i22 : ∀ {a b c : V}, atI [a, b, c] 2 = some c := atI_nat (j := 2) rfl
    refine ⟨_, rfl, ls, rfl, ⟨_, SqL.of el⟩, for_list (K := K) (fun i σ H' => H' = H ∧ ∃ bv o2, σ = [some (.ref ls), some bv, o2] ∧ (i = 0 → bv = .non) ∧ (i = 1 → bv = if b1 = true then .ref p1 else .non) ∧ (i = 2 → (bv = .non ∧ dueV n1 n2 v1 v2 b1 b2 = .non) ∨ ∃ p n v b, bv = .ref p ∧ H p = some (.tup [.int n, v, .bl b]) ∧ dueV n1 n2 v1 v2 b1 b2 = v))
      ⟨rfl, .non, none, rfl, fun _ => rfl, fun h => (nomatch h), fun h => (nomatch h)⟩ (fun i σ H' _ ⟨e, _⟩ => by rw [e]; exact SqL.of el) ?_ ?_⟩
    · rintro i x σ H' hi ⟨rfl, bv, o2, rfl, q0, q1, _⟩
      have hi2 : i = 0 ∨ i = 1 := by
        have := (List.getElem?_eq_some_iff.mp hi).1
        have : i < 2 := this
        omega
      rcases hi2 with rfl | rfl
      · have hx : V.ref p1 = x := Option.some.inj hi
        subst hx
        have hb := q0 rfl
        subst hb
        refine ⟨_, rfl, p1, _, _, _, rfl, rfl, SqT.of e1, i22, _, rfl, ?_⟩
        cases b1 with
        | true => exact iteT ⟨_, rfl, rfl, _, rfl, iteT ⟨_, rfl, rfl, _, _, rfl, fun h => absurd h (by decide), fun _ => rfl, fun h => absurd h (by decide)⟩⟩
        | false => exact iteF ⟨rfl, _, _, rfl, fun h => absurd h (by decide), fun _ => rfl, fun h => absurd h (by decide)⟩
      · have hx : V.ref p2 = x := Option.some.inj hi
        subst hx
        have hb := q1 rfl
        subst hb
        refine ⟨_, rfl, p2, _, _, _, rfl, rfl, SqT.of e2, i22, _, rfl, ?_⟩
        have n0 : (1 + 1 = 0) → False := by decide
        have n1' : (1 + 1 = 1) → False := by decide
        cases b2 with
        | true =>
          refine iteT ?_
          cases b1 with
          | true =>
            refine ⟨_, rfl, rfl, _, rfl, iteF ⟨_, rfl, p2, _, _, _, rfl, rfl, SqT.of e2, i20, _, rfl, p1, _, _, _, rfl, rfl, SqT.of e1, i20, _, _, rfl, rfl, _, rfl, iteB (fun e => ?_) fun e => ?_⟩⟩
            · have e : n1 < n2 := of_decide_eq_true e
              refine ⟨_, rfl, rfl, _, _, rfl, fun h => (n0 h).elim, fun h => (n1' h).elim, fun _ => .inr ⟨p2, n2, v2, true, rfl, e2, ?_⟩⟩
              unfold dueV
              rw [if_pos rfl, if_pos ⟨rfl, e⟩]
            · have e : ¬ n1 < n2 := of_decide_eq_false e
              refine ⟨rfl, _, _, rfl, fun h => (n0 h).elim, fun h => (n1' h).elim, fun _ => .inr ⟨p1, n1, v1, true, rfl, e1, ?_⟩⟩
              unfold dueV
              rw [if_pos rfl, if_neg (fun h => e h.2)]
          | false => exact ⟨_, rfl, rfl, _, rfl, iteT ⟨_, rfl, rfl, _, _, rfl, fun h => (n0 h).elim, fun h => (n1' h).elim, fun _ => .inr ⟨p2, n2, v2, true, rfl, e2, rfl⟩⟩⟩
        | false =>
          refine iteF ⟨rfl, _, _, rfl, fun h => (n0 h).elim, fun h => (n1' h).elim, fun _ => ?_⟩
          cases b1 with
          | true =>
            refine .inr ⟨p1, n1, v1, true, rfl, e1, ?_⟩
            unfold dueV
            rw [if_pos rfl, if_neg (fun h => absurd h.1 Bool.false_ne_true)]
          | false => exact .inl ⟨rfl, rfl⟩
    · rintro σ H' ⟨rfl, bv, o2, rfl, _, _, q2⟩
      rcases q2 rfl with ⟨rfl, e⟩ | ⟨p, n, v, b, rfl, ep, e⟩
      · rw [e] at k
        exact ⟨_, rfl, rfl, _, rfl, iteT k⟩
      · rw [e] at k
        exact ⟨_, rfl, rfl, _, rfl, iteF ⟨_, rfl, p, _, _, _, rfl, rfl, SqT.of ep, i21, k⟩⟩
def spSame : Sp := fun vs H Q _ => ∃ f d, vs = [f, d] ∧ ((f = .non ∧ d = .non) ∨ ∃ lf ld zs, f = .ref lf ∧ d = .ref ld ∧ H lf = some (.lst ((zs : List Str).map V.str)) ∧ H ld = some (.lst (zs.map V.str)) ∧ zs.length ≤ 1000) ∧ Q (.bl true) H
theorem ok_same (T : Tx K mg ad) : FnOk P w K mg base CX0 1 ad.a_u_law_same ad.d_u_law_same ["_law_found", "_law_due_here"] spSame := by
  refine T.F_u_law_same.ok sc_u_law_same (fun vs H Q E h => ?_) (fun cdv A outer s H vs Q E hr h => ?_)
  · obtain ⟨f, d, rfl, _⟩ := h
    rfl
  · obtain ⟨f, d, rfl, h, k⟩ := h
    have nd := sc_u_law_same.nd
    refine ⟨_, (pss_cons (ps_if (pt_cmpR op_isN (pv 1) pe_non (nomark _))
        (pss_one (ps_ret (pe_cmpR op_isN (pv 0) pe_non (nomark _))))
        pss_nil)
        (pss_cons (ps_if (PW.pt (pw_or (pt_not (pt_val (pe_callB (call_isinst (K := K)) (by rfl) T.z_isinstance PyProof.Rows.boot_isinstance (pa_cons (pv 0) (pa_cons (pe_bltn (v := .ty "list") (by rfl) T.z_list PyProof.Rows.boot_list rfl) pa_nil))))) (pw_or1 (pt_cmpR op_ne (pe_callB (call_len_seqK (K := K)) (by rfl) T.z_len PySem.boot_len (pa_cons (pv 0) pa_nil)) (pe_callB (call_len_seqK (K := K)) (by rfl) T.z_len PySem.boot_len (pa_cons (pv 1) pa_nil)) (nomark _)))))
        (pss_one (ps_ret pe_bl))
        pss_nil)
        (pss_cons (ps_for PassesOwn.never rfl (pi_range1 (by rfl) T.z_range (pa_cons (pe_callB (call_len_seqK (K := K)) (by rfl) T.z_len PySem.boot_len (pa_cons (pv 1) pa_nil)) pa_nil)) (pg_name (i := 2) nd rfl (Or.inl rfl))
        (pss_one (ps_if (PW.pt (pw_or (pt_not (pt_val (pe_callB (call_isinst (K := K)) (by rfl) T.z_isinstance PyProof.Rows.boot_isinstance (pa_cons (pe_ix (ix_listK (K := K)) (pv 0) (pv 2) (fun _ _ => rfl)) (pa_cons (pe_bltn (v := .ty "str") (by rfl) T.z_str PyProof.Rows.boot_str rfl) pa_nil))))) (pw_or1 (pt_cmpR op_ne (pe_ix (ix_listK (K := K)) (pv 0) (pv 2) (fun _ _ => rfl)) (pe_ix (ix_listK (K := K)) (pv 1) (pv 2) (fun _ _ => rfl)) (nomark _)))))
        (pss_one (ps_ret pe_bl))
        pss_nil)))
        (pss_one (ps_ret pe_bl))))), ?_⟩
-- slots: 0 _law_found, 1 _law_due_here, 2 _law_k
    rcases h with ⟨rfl, rfl⟩ | ⟨lf, ld, zs, rfl, rfl, ef, ed, hl⟩
    · exact ⟨_, rfl, rfl, _, rfl, iteT ⟨_, rfl, rfl, k⟩⟩
    · have ml : (zs.map V.str).length = zs.length := List.length_map _
      refine ⟨_, rfl, rfl, _, rfl, iteF ⟨_, rfl, _, "list", _, true, rfl, .lst ef, rfl, _, rfl, iteF ⟨_, rfl, lf, _, rfl, .inl (SqL.of ef), _, rfl, ld, _, rfl, .inl (SqL.of ed), rfl, _, rfl, iteE0 (by rw [decide_eq_true rfl]; rfl) ?_⟩⟩⟩
      refine ⟨_, rfl, ld, _, rfl, .inl (SqL.of ed), _, rfl, by omega, by rw [ml]; omega, for_range (fun i σ H' => H' = H ∧ ∃ o2, σ = [some (.ref lf), some (.ref ld), o2]) ⟨rfl, none, rfl⟩ ?_ ?_⟩
      · rintro i σ H' hi ⟨rfl, o2, rfl⟩
        rw [Int.zero_add]
        have hi' : i < zs.length := by rw [ml] at hi; omega
        have ha : atI (zs.map V.str) (i : Int) = some (.str zs[i]) := atI_nat (by rw [List.getElem?_map, List.getElem?_eq_getElem hi']; rfl)
        exact ⟨_, rfl, _, rfl, lf, _, _, _, rfl, rfl, SqL.of ef, ha, _, "str", _, true, rfl, .str _, rfl, _, rfl, iteF ⟨_, rfl, _, rfl, lf, _, _, _, rfl, rfl, SqL.of ef, ha, _, rfl, _, rfl, ld, _, _, _, rfl, rfl, SqL.of ed, ha, rfl, _, rfl, iteE0 (by rw [decide_eq_true rfl]; rfl) ⟨rfl, _, rfl⟩⟩⟩
      · rintro σ H' ⟨rfl, o2, rfl⟩
        exact k
def Hd (H : Hp) (ex : List Addr) (hs : List V) : Prop := ∀ v ∈ hs, ∃ p u u' zs, v = .ref p ∧ H p = some (.tup [.ref u, .ref u']) ∧ H u = some (.lst ((zs : List Str).map V.str)) ∧ H u' = some (.lst (zs.map V.str)) ∧ (∀ z ∈ zs, PyData.strOk z = true) ∧ u ∉ ex ∧ u' ∉ ex
theorem Hd.keep {H H' : Hp} {ex : List Addr} {hs : List V} (h : Hd H ex hs) (k : ∀ b o, b ∉ ex → H b = some o → H' b = some o) (kt : ∀ b xs, H b = some (.tup xs) → b ∉ ex) : Hd H' ex hs := fun v hv => by
  obtain ⟨p, u, u', zs, e, ep, eu, eu', hk, n1, n2⟩ := h v hv
  exact ⟨p, u, u', zs, e, k _ _ (kt _ _ ep) ep, k _ _ n1 eu, k _ _ n2 eu', hk, n1, n2⟩
structure Ls (H : Hp) (ls : Addr) (ex : List Addr) (z1 z2 : List Str) (n1 n2 : Int) (b1 b2 : Bool) (a1 a2 : Addr) : Prop where
  at_ : ∃ p1 p2, H ls = some (.lst [.ref p1, .ref p2]) ∧ H p1 = some (.tup [.int n1, .ref a1, .bl b1]) ∧ H p2 = some (.tup [.int n2, .ref a2, .bl b2])
  one : H a1 = some (.lst (z1.map V.str))
  two : H a2 = some (.lst (z2.map V.str))
  x1 : a1 ∉ ex
  x2 : a2 ∉ ex
theorem Ls.same {H H' : Hp} {ls : Addr} {ex : List Addr} {z1 z2 : List Str} {n1 n2 : Int} {b1 b2 : Bool} {a1 a2 : Addr} (h : Ls H ls ex z1 z2 n1 n2 b1 b2 a1 a2) (s : Same H H') : Ls H' ls ex z1 z2 n1 n2 b1 b2 a1 a2 := by
  obtain ⟨p1, p2, e, e1, e2⟩ := h.at_
  exact ⟨⟨p1, p2, s _ _ e, s _ _ e1, s _ _ e2⟩, s _ _ h.one, s _ _ h.two, h.x1, h.x2⟩
structure Sl (z : List Str) (n : Int) (b : Bool) : Prop where
  kp : Kp z n b
  len : z.length ≤ 10
  ok : ∀ y ∈ z, PyData.strOk y = true
  n0 : 0 ≤ n
theorem due_non {n1 n2 : Int} {v1 v2 : V} {b1 b2 : Bool} (h1 : 0 ≤ n1) (h2 : 0 ≤ n2) (c1 : cntK n1 b1 < 0) (c2 : cntK n2 b2 < 0) : dueV n1 n2 v1 v2 b1 b2 = .non := by
  unfold cntK at c1 c2
  cases b1 with
  | true => rw [if_pos rfl] at c1; omega
  | false =>
    cases b2 with
    | true => rw [if_pos rfl] at c2; omega
    | false => rfl
theorem due_some {n1 n2 : Int} {v1 v2 : V} {b1 b2 : Bool} (h1 : 0 ≤ n1) (h2 : 0 ≤ n2) (h : ¬ (cntK n1 b1 < 0 ∧ cntK n2 b2 < 0)) : dueV n1 n2 v1 v2 b1 b2 = if cntK n2 b2 ≤ cntK n1 b1 then v1 else v2 := by
  unfold cntK at h ⊢
  unfold dueV
  cases b1 with
  | true =>
    rw [if_pos rfl, if_pos rfl]
    cases b2 with
    | true =>
      rw [if_pos rfl]
      by_cases hh : n1 < n2
      · rw [if_pos ⟨rfl, hh⟩, if_neg (by omega)]
      · rw [if_neg (fun q => hh q.2), if_pos (by omega)]
    | false =>
      rw [if_neg (fun q => absurd q.1 Bool.false_ne_true), if_neg Bool.false_ne_true, if_pos (by omega)]
  | false =>
    cases b2 with
    | true => rw [if_neg Bool.false_ne_true, if_pos rfl, if_pos rfl, if_neg Bool.false_ne_true, if_neg (by omega)]
    | false =>
      rw [if_neg Bool.false_ne_true, if_neg Bool.false_ne_true] at h
      exact absurd ⟨by decide, by decide⟩ h
def spRight (ad : Ad) : Sp := fun vs H Q _ => ∃ (x sl t1 t2 ls lh a1 a2 : Addr) (z1 z2 : List Str) (n1 n2 : Int) (b1 b2 : Bool) (hs : List V), vs = [.ref x, .ref ls, .ref lh] ∧ Sf ad H x sl t1 t2 z1 z2 ∧ Ls H ls [sl, ls, lh] z1 z2 n1 n2 b1 b2 a1 a2 ∧ Sl z1 n1 b1 ∧ Sl z2 n2 b2 ∧
  H lh = some (.lst hs) ∧ hs.length ≤ 200 ∧ Hd H [sl, ls, lh] hs ∧ lh ≠ sl ∧ lh ≠ ls ∧ t1 ≠ lh ∧ t2 ≠ lh ∧ (∃ dx r l, H x = some (.ins ad.c_Shelf dx (SH sl r l)) ∧ r ≠ lh ∧ l ≠ lh) ∧
  ∀ H' hs', (∀ b o, b ≠ lh → H b = some o → H' b = some o) → H' lh = some (.lst hs') → hs'.length ≤ hs.length + 1 → Hd H' [sl, ls, lh] hs' → Q (.bl true) H'
theorem ok_right (T : Tx K mg ad) : FnOk P w K mg base CX0 8 ad.a_u_law_right ad.d_u_law_right ["_law_shelf", "_law_slots", "_law_held"] (spRight ad) := by
  have G_u_law_same := ok_same (P := P) (w := w) (base := base) T
  have G_Shelf_last := ok_last (P := P) (w := w) (base := base) T
  have G_u_law_due := ok_due (P := P) (w := w) (base := base) T
  refine T.F_u_law_right.ok sc_u_law_right (fun vs H Q E h => ?_) (fun cdv A outer s H vs Q E hr h => ?_)
  · obtain ⟨x, sl, t1, t2, ls, lh, a1, a2, z1, z2, n1, n2, b1, b2, hs, rfl, _⟩ := h
    rfl
  · obtain ⟨x, sl, t1, t2, ls, lh, a1, a2, z1, z2, n1, n2, b1, b2, hs, rfl, sf, lo, k1, k2, eh, hl, hd, ne1, ne2, ne3, ne4, ⟨dx', r', l', a', rn, ln⟩, k⟩ := h
    have nd := sc_u_law_right.nd
    refine ⟨_, (pss_cons (ps_if (PW.pt (pw_or (pt_not (pt_val (pe_callB (call_isinst (K := K)) (by rfl) T.z_isinstance PyProof.Rows.boot_isinstance (pa_cons (pe_fld (pv 0) rfl) (pa_cons (pe_bltn (v := .ty "list") (by rfl) T.z_list PyProof.Rows.boot_list rfl) pa_nil))))) (pw_or (pt_cmpR op_ne (pe_callB (call_len_seqK (K := K)) (by rfl) T.z_len PySem.boot_len (pa_cons (pe_fld (pv 0) rfl) pa_nil)) pe_int (nomark _)) (pw_or (pt_cmpR (op_neNil (K := K) hr.units0) (pe_fld (pv 0) rfl) (pe_lst pa_nil) (nomark _)) (pw_or1 (pt_cmpR (op_neNil (K := K) hr.units0) (pe_fld (pv 0) rfl) (pe_lst pa_nil) (nomark _)))))))
        (pss_one (ps_ret pe_bl))
        pss_nil)
        (pss_cons (ps_for PassesOwn.never rfl (pi_range1 (by rfl) T.z_range (pa_cons pe_int pa_nil)) (pg_name (i := 3) nd rfl (Or.inl rfl))
        (pss_one (ps_if (pt_not (pt_val (pe_call G_u_law_same (hr.mono (by decide)) (by rfl) T.m_u_law_same T.F_u_law_same.kp T.b_u_law_same .nil pass0 (pa_cons (pe_ix (ix_listK (K := K)) (pe_fld (pv 0) rfl) (pv 3) (fun _ _ => rfl)) (pa_cons (pe_ix (ix_tupK (K := K)) (pe_ix (ix_listK (K := K)) (pv 1) (pv 3) (fun _ _ => rfl)) pe_int (fun _ _ => rfl)) pa_nil)))))
        (pss_one (ps_ret pe_bl))
        pss_nil)))
        (pss_cons (ps_set (i := 4) nd rfl (Or.inl rfl) (pe_meth0 (pv 0) T.cl_Shelf T.me_Shelf_last G_Shelf_last (hr.mono (by decide)) T.b_Shelf_last .nil pass0))
        (pss_cons (ps_set (i := 5) nd rfl (Or.inl rfl) (pe_call G_u_law_due (hr.mono (by decide)) (by rfl) T.m_u_law_due T.F_u_law_due.kp T.b_u_law_due .nil pass0 (pa_cons (pv 1) pa_nil)))
        (pss_cons (ps_if (pt_not (pt_val (pe_call G_u_law_same (hr.mono (by decide)) (by rfl) T.m_u_law_same T.F_u_law_same.kp T.b_u_law_same .nil pass0 (pa_cons (pv 4) (pa_cons (pv 5) pa_nil)))))
        (pss_one (ps_ret pe_bl))
        pss_nil)
        (pss_cons (ps_if (pt_cmpR op_notN (pv 4) pe_non (nomark _))
        (pss_one (ps_expr (pe_bmK (K := K) PySem.F.plainAttrs_list PySem.F.slot_list_append PySem.F.type_list_append mt_append (pv 4) (pa_cons pe_str pa_nil))))
        pss_nil)
        (pss_cons (ps_set (i := 6) nd rfl (Or.inl rfl) (pe_meth0 (pv 0) T.cl_Shelf T.me_Shelf_last G_Shelf_last (hr.mono (by decide)) T.b_Shelf_last .nil pass0))
        (pss_cons (ps_if (pt_cmpR op_notN (pv 6) pe_non (nomark _))
        (pss_one (ps_expr (pe_bmK (K := K) PySem.F.plainAttrs_list PySem.F.slot_list_append PySem.F.type_list_append mt_append (pv 2) (pa_cons (pe_tup (pa_cons (pv 6) (pa_cons (pe_callTy (call_list_ofK (K := K)) (by rfl) T.z_list PyProof.Rows.boot_list (pa_cons (pv 6) pa_nil)) pa_nil))) pa_nil))))
        pss_nil)
        (pss_one (ps_ret (pe_call G_u_law_same (hr.mono (by decide)) (by rfl) T.m_u_law_same T.F_u_law_same.kp T.b_u_law_same .nil pass0 (pa_cons (pv 6) (pa_cons (pv 5) pa_nil))))))))))))), ?_⟩
-- slots: 0 _law_shelf, 1 _law_slots, 2 _law_held, 3 _law_k, 4 _law_found, 5 _law_due_here, 6 _law_again
    have sz : sizeLine = 16777216 := sizeLine_eq
    obtain ⟨dx, r, l, a, er, el, _, _⟩ := sf.obj
    refine ⟨_, rfl, x, _, dx, _, _, rfl, a, T.cl_Shelf, T.n_Shelf_slots, rfl, _, "list", _, true, rfl, .lst sf.slots, rfl, _, rfl, iteF ⟨_, rfl, x, _, dx, _, _, rfl, a, T.cl_Shelf, T.n_Shelf_slots, rfl, sl, _, rfl, .inl (SqL.of sf.slots), rfl, _, rfl, iteE0 rfl ?_⟩⟩
    refine ⟨_, rfl, x, _, dx, _, _, rfl, a, T.cl_Shelf, T.n_Shelf_rows, rfl, Nat.zero_le _, fun q1 hq1 => ?_⟩
    have s1 : Same H (upd H q1 (.lst [])) := (Same.refl H).upd hq1
    refine ⟨r, q1, [], rfl, rfl, SqL.of (s1 _ _ er), SqL.of upd_same, _, rfl, iteF ?_⟩
    generalize upd H q1 (.lst []) = H1 at s1 ⊢
    refine ⟨_, rfl, x, _, dx, _, _, rfl, s1 _ _ a, T.cl_Shelf, T.n_Shelf_late, rfl, Nat.zero_le _, fun q2 hq2 => ?_⟩
    have s2 : Same H (upd H1 q2 (.lst [])) := s1.upd hq2
    refine ⟨l, q2, [], rfl, rfl, SqL.of (s2 _ _ el), SqL.of upd_same, _, rfl, iteF ?_⟩
    generalize upd H1 q2 (.lst []) = H2 at s2 ⊢
    have sf2 := sf.same s2
    have lo2 := lo.same s2
    obtain ⟨p1, p2, g, g1, g2⟩ := lo2.at_
    have i1 : ∀ {a b c : V}, atI [a, b, c] 1 = some b := atI_nat (j := 1) rfl
    have j0 : ∀ {a b : V}, atI [a, b] 0 = some a := atI_nat (j := 0) rfl
    have j1 : ∀ {a b : V}, atI [a, b] 1 = some b := atI_nat (j := 1) rfl
    have l1 := k1.len
    have l2 := k2.len
    refine ⟨2, rfl, by decide, by decide, for_range (fun i σ H' => H' = H2 ∧ ∃ o3, σ = [some (.ref x), some (.ref ls), some (.ref lh), o3, none, none, none]) ⟨rfl, none, rfl⟩ ?_ ?_⟩
    · rintro i σ H' hi ⟨rfl, o3, rfl⟩
      have hi2 : i = 0 ∨ i = 1 := by
        have : i < 2 := hi
        omega
      rcases hi2 with rfl | rfl
      · exact ⟨_, rfl, x, _, dx, _, _, rfl, s2 _ _ a, T.cl_Shelf, T.n_Shelf_slots, rfl, _, rfl, sl, _, _, _, rfl, rfl, SqL.of sf2.slots, j0, _, rfl, _, rfl, ls, _, _, _, rfl, rfl, SqL.of g, j0, p1, _, _, _, rfl, rfl, SqT.of g1, i1, _, _, rfl, .inr ⟨t1, a1, z1, rfl, rfl, sf2.one, lo2.one, by omega⟩, _, rfl, iteF ⟨rfl, _, rfl⟩⟩
      · exact ⟨_, rfl, x, _, dx, _, _, rfl, s2 _ _ a, T.cl_Shelf, T.n_Shelf_slots, rfl, _, rfl, sl, _, _, _, rfl, rfl, SqL.of sf2.slots, j1, _, rfl, _, rfl, ls, _, _, _, rfl, rfl, SqL.of g, j1, p2, _, _, _, rfl, rfl, SqT.of g2, i1, _, _, rfl, .inr ⟨t2, a2, z2, rfl, rfl, sf2.two, lo2.two, by omega⟩, _, rfl, iteF ⟨rfl, _, rfl⟩⟩
    rintro σ H' ⟨rfl, o3, rfl⟩
    have mth : ∀ {H3 : Hp}, Same H H3 → H3 x = some (.ins ad.c_Shelf dx (SH sl r l)) := fun s3 => s3 _ _ a
    by_cases hc : cntK n1 b1 < 0 ∧ cntK n2 b2 < 0
    · refine ⟨_, rfl, x, dx, _, rfl, mth s2, by rfl, x, sl, t1, t2, z1, z2, n1, n2, b1, b2, rfl, sf2, by omega, by omega, k1.kp, k2.kp, fun _ _ H3 s3 => ?_, fun h => absurd hc h⟩
      have lo3 := lo2.same s3
      obtain ⟨p1, p2, g, g1, g2⟩ := lo3.at_
      refine ⟨_, rfl, ls, p1, p2, n1, n2, _, _, b1, b2, rfl, g, g1, g2, (by intro q; cases q), (by intro q; cases q), ?_⟩
      rw [due_non k1.n0 k2.n0 hc.1 hc.2]
      refine ⟨_, rfl, _, rfl, _, _, rfl, .inl ⟨rfl, rfl⟩, _, rfl, iteF ⟨_, rfl, rfl, _, rfl, iteF ?_⟩⟩
      refine ⟨_, rfl, x, dx, _, rfl, mth (s2.trans s3), by rfl, x, sl, t1, t2, z1, z2, n1, n2, b1, b2, rfl, sf2.same s3, by omega, by omega, k1.kp, k2.kp, fun _ _ H4 s4 => ?_, fun h => absurd hc h⟩
      have s24 := (s2.trans s3).trans s4
      refine ⟨_, rfl, rfl, _, rfl, iteF ⟨_, rfl, _, rfl, _, _, rfl, .inl ⟨rfl, rfl⟩, ?_⟩⟩
      exact k H4 hs (fun b o _ e => s24 _ _ e) (s24 _ _ eh) (by omega) fun v hv => by
        obtain ⟨p, u, u', zs, e, ep, eu, eu', hk, m1, m2⟩ := hd v hv
        exact ⟨p, u, u', zs, e, s24 _ _ ep, s24 _ _ eu, s24 _ _ eu', hk, m1, m2⟩
    · refine ⟨_, rfl, x, dx, _, rfl, mth s2, by rfl, x, sl, t1, t2, z1, z2, n1, n2, b1, b2, rfl, sf2, by omega, by omega, k1.kp, k2.kp, fun q1 q2 => absurd ⟨q1, q2⟩ hc, fun _ H3 rf s3 hrf erf => ?_⟩
      have lo3 := lo2.same s3
      obtain ⟨p1, p2, g, g1, g2⟩ := lo3.at_
      refine ⟨_, rfl, ls, p1, p2, n1, n2, _, _, b1, b2, rfl, g, g1, g2, (by intro q; cases q), (by intro q; cases q), ?_⟩
      rw [due_some k1.n0 k2.n0 hc]
      have bst : ∃ (ab : Addr) (zb : List Str), (if cntK n2 b2 ≤ cntK n1 b1 then V.ref a1 else V.ref a2) = .ref ab ∧ (if cntK n2 b2 ≤ cntK n1 b1 then z1 else z2) = zb ∧ H3 ab = some (.lst (zb.map V.str)) ∧ zb.length ≤ 10 ∧ (∀ y ∈ zb, PyData.strOk y = true) ∧ ∃ o, H' ab = some o := by
        by_cases h : cntK n2 b2 ≤ cntK n1 b1
        · exact ⟨a1, z1, if_pos h, if_pos h, lo3.one, l1, k1.ok, _, lo2.one⟩
        · exact ⟨a2, z2, if_neg h, if_neg h, lo3.two, l2, k2.ok, _, lo2.two⟩
      obtain ⟨ab, zb, ea, ez, eab, lb, okb, oab, hab⟩ := bst
      rw [ea]
      rw [ez] at erf
      have nab : ab ≠ rf := ne_of_none hab hrf
      refine ⟨_, rfl, _, rfl, _, _, rfl, .inr ⟨rf, ab, zb, rfl, rfl, erf, eab, by omega⟩, _, rfl, iteF ⟨_, rfl, rfl, _, rfl, iteT ?_⟩⟩
      refine ⟨_, rfl, .inl ⟨rfl, _, SqL.of erf⟩, rf, _, _, rfl, rfl, erf, by rw [List.length_map]; omega, ?_⟩
      have s4 : Same H' (upd H3 rf (.lst (zb.map V.str ++ [.str "more"]))) := s3.updN hrf
      have eab4 : (upd H3 rf (.lst (zb.map V.str ++ [.str "more"]))) ab = some (.lst (zb.map V.str)) := by rw [upd_ne nab]; exact eab
      generalize upd H3 rf (.lst (zb.map V.str ++ [.str "more"])) = H4 at s4 eab4 ⊢
      refine ⟨_, rfl, x, dx, _, rfl, mth (s2.trans s4), by rfl, x, sl, t1, t2, z1, z2, n1, n2, b1, b2, rfl, sf2.same s4, by omega, by omega, k1.kp, k2.kp, fun q1 q2 => absurd ⟨q1, q2⟩ hc, fun _ H5 ra s5 hra era => ?_⟩
      rw [ez] at era
      have s25 := s2.trans (s4.trans s5)
      have hraH : H ra = none := same_none (s2.trans s4) hra
      refine ⟨_, rfl, rfl, _, rfl, iteT ?_⟩
      have eh5 := s25 _ _ eh
      refine ⟨_, rfl, .inl ⟨rfl, _, SqL.of eh5⟩, _, rfl, _, rfl, ra, _, rfl, .inl (SqL.of era), fun rc hrc => ⟨by show 2 ≤ sizeLine; decide, fun pt hpt => ?_⟩⟩
      have s6 : Same H5 (upd H5 rc (.lst (zb.map V.str))) := (Same.refl H5).upd hrc
      have erc : (upd H5 rc (.lst (zb.map V.str))) rc = some (.lst (zb.map V.str)) := upd_same
      generalize upd H5 rc (.lst (zb.map V.str)) = H6 at s6 erc hpt ⊢
      have s7 : Same H6 (upd H6 pt (.tup [.ref ra, .ref rc])) := (Same.refl H6).upd hpt
      have ept : (upd H6 pt (.tup [.ref ra, .ref rc])) pt = some (.tup [.ref ra, .ref rc]) := upd_same
      generalize upd H6 pt (.tup [.ref ra, .ref rc]) = H7 at s7 ept ⊢
      have s57 := s6.trans s7
      have s27 := s25.trans s57
      have eh7 := s27 _ _ eh
      have exn : ∀ b, H b = none → b ∉ [sl, ls, lh] := fun b hb hm => by
        simp only [List.mem_cons, List.not_mem_nil, or_false] at hm
        obtain ⟨q1, q2, gg, _⟩ := lo.at_
        rcases hm with rfl | rfl | rfl
        · rw [sf.slots] at hb; cases hb
        · rw [gg] at hb; cases hb
        · rw [eh] at hb; cases hb
      have hrcH : H rc = none := same_none s25 hrc
      refine ⟨lh, _, _, rfl, rfl, eh7, by omega, ?_⟩
      have kp : ∀ b o, b ≠ lh → H7 b = some o → (upd H7 lh (.lst (hs ++ [.ref pt]))) b = some o := fun b o hb e => by rw [upd_ne hb]; exact e
      have nra : ra ≠ lh := fun z => exn _ hraH (by rw [z]; simp)
      have nrc : rc ≠ lh := fun z => exn _ hrcH (by rw [z]; simp)
      have npt : pt ≠ lh := fun z => by rw [z, eh7] at ept; cases ept
      have nabl : ab ≠ lh := fun z => by
        have q : ab = a1 ∨ ab = a2 := by
          by_cases h : cntK n2 b2 ≤ cntK n1 b1
          · rw [if_pos h] at ea; exact .inl (V.ref.inj ea).symm
          · rw [if_neg h] at ea; exact .inr (V.ref.inj ea).symm
        rcases q with q | q
        · exact lo.x1 (by rw [← q, z]; simp)
        · exact lo.x2 (by rw [← q, z]; simp)
      refine ⟨_, rfl, _, rfl, _, _, rfl, .inr ⟨ra, ab, zb, rfl, rfl, kp _ _ nra (s57 _ _ era), kp _ _ nabl ((s5.trans s57) _ _ eab4), by omega⟩, ?_⟩
      refine k _ (hs ++ [.ref pt]) (fun b o hb e => kp _ _ hb (s27 _ _ e)) upd_same (by rw [List.length_append, List.length_singleton]; exact Nat.le_refl _) fun v hv => ?_
      rcases List.mem_append.mp hv with h | h
      · obtain ⟨p, u, u', zs, e, ep, eu, eu', hk, m1, m2⟩ := hd v h
        have np : p ≠ lh := fun z => by rw [z, eh] at ep; cases ep
        exact ⟨p, u, u', zs, e, kp _ _ np (s27 _ _ ep), kp _ _ (fun z => m1 (by rw [z]; simp)) (s27 _ _ eu), kp _ _ (fun z => m2 (by rw [z]; simp)) (s27 _ _ eu'), hk, m1, m2⟩
      · rw [List.mem_singleton.mp h]
        exact ⟨pt, ra, rc, zb, rfl, kp _ _ npt ept, kp _ _ nra (s57 _ _ era), kp _ _ nrc (s7 _ _ erc), okb, exn _ hraH, exn _ hrcH⟩
/-! ### what stands between the cells -/
structure J (ad : Ad) (H : Hp) (x sl ls lh : Addr) (hs : List V) : Prop where
  sf : ∃ t1 t2 z1 z2 n1 n2 b1 b2 a1 a2, Sf ad H x sl t1 t2 z1 z2 ∧ Ls H ls [sl, ls, lh] z1 z2 n1 n2 b1 b2 a1 a2 ∧ Sl z1 n1 b1 ∧ Sl z2 n2 b2 ∧ t1 ∉ [ls, lh] ∧ t2 ∉ [ls, lh]
  rl : ∃ dx r l, H x = some (.ins ad.c_Shelf dx (SH sl r l)) ∧ r ∉ [ls, lh] ∧ l ∉ [ls, lh]
  held : H lh = some (.lst hs)
  hd : Hd H [sl, ls, lh] hs
  d1 : sl ≠ ls
  d2 : sl ≠ lh
  d3 : ls ≠ lh
theorem lst_ne {H : Hp} {a b : Addr} {xs ys : List V} (ha : H a = some (.tup xs)) (hb : H b = some (.lst ys)) : a ≠ b := fun z => by
  subst z
  rw [ha] at hb
  cases hb
theorem ins_ne {H : Hp} {a b C d : Addr} {fs : List (Str × V)} {ys : List V} (ha : H a = some (.ins C d fs)) (hb : H b = some (.lst ys)) : a ≠ b := fun z => by
  subst z
  rw [ha] at hb
  cases hb
/-- the shelf and the law's slots stay where only lh changes -/
theorem J.lh {ad : Ad} {H H' : Hp} {x sl ls lh : Addr} {hs hs' : List V} (h : J ad H x sl ls lh hs) (kp : ∀ b o, b ≠ lh → H b = some o → H' b = some o) (e : H' lh = some (.lst hs')) (hd : Hd H' [sl, ls, lh] hs') : J ad H' x sl ls lh hs' := by
  obtain ⟨t1, t2, z1, z2, n1, n2, b1, b2, a1, a2, sf, lo, k1, k2, m1, m2⟩ := h.sf
  obtain ⟨dx, r, l, a, q1, q2⟩ := h.rl
  obtain ⟨dx', r', l', a', er, el, f1, f2⟩ := sf.obj
  have ei : SH sl r l = SH sl r' l' := by
    rw [a] at a'
    injection a' with a'
    injection a'
  have er' : r = r' := by injection ei with _ e; injection e with e _; injection e with _ e; injection e
  have el' : l = l' := by injection ei with _ e; injection e with _ e; injection e with e _; injection e with _ e; injection e
  subst er' el'
  have hx := ins_ne a h.held
  have nn : ∀ {q : Addr}, q ∉ [ls, lh] → q ≠ lh := fun hq z => hq (by rw [z]; simp)
  have nn3 : ∀ {q : Addr}, q ∉ [sl, ls, lh] → q ≠ lh := fun hq z => hq (by rw [z]; simp)
  obtain ⟨p1, p2, g, g1, g2⟩ := lo.at_
  refine ⟨⟨t1, t2, z1, z2, n1, n2, b1, b2, a1, a2, ⟨⟨dx', r, l, kp _ _ hx a', kp _ _ (nn q1) er, kp _ _ (nn q2) el, f1, f2⟩, kp _ _ h.d2 sf.slots, kp _ _ (nn m1) sf.one, kp _ _ (nn m2) sf.two, sf.ne1, sf.ne2, sf.ne12⟩,
    ⟨⟨p1, p2, kp _ _ h.d3 g, kp _ _ (lst_ne g1 h.held) g1, kp _ _ (lst_ne g2 h.held) g2⟩, kp _ _ (nn3 lo.x1) lo.one, kp _ _ (nn3 lo.x2) lo.two, lo.x1, lo.x2⟩, k1, k2, m1, m2⟩, ⟨dx, r, l, kp _ _ hx a, q1, q2⟩, e, hd, h.d1, h.d2, h.d3⟩
theorem J.same {ad : Ad} {H H' : Hp} {x sl ls lh : Addr} {hs : List V} (h : J ad H x sl ls lh hs) (s : Same H H') : J ad H' x sl ls lh hs :=
  h.lh (fun b o _ e => s _ _ e) (s _ _ h.held) fun v hv => by
    obtain ⟨p, u, u', zs, e, ep, eu, eu', hk, m1, m2⟩ := h.hd v hv
    exact ⟨p, u, u', zs, e, s _ _ ep, s _ _ eu, s _ _ eu', hk, m1, m2⟩
theorem J.put {ad : Ad} {H0 H H1 H2 : Hp} {x sl ls lh t1 t2 a1 a2 p1 p2 nt pn an h : Addr} {hs : List V} {z1 z2 zs : List Str} {n1 n2 n : Int} {b1 b2 b : Bool} {j : Nat}
    (sf : Sf ad H0 x sl t1 t2 z1 z2) (g : H0 ls = some (.lst [.ref p1, .ref p2])) (g1 : H0 p1 = some (.tup [.int n1, .ref a1, .bl b1])) (g2 : H0 p2 = some (.tup [.int n2, .ref a2, .bl b2])) (o1 : H0 a1 = some (.lst (z1.map V.str))) (o2 : H0 a2 = some (.lst (z2.map V.str)))
    (x1 : a1 ∉ [sl, ls, lh]) (x2 : a2 ∉ [sl, ls, lh]) (k1 : Sl z1 n1 b1) (k2 : Sl z2 n2 b2) (m1 : t1 ∉ [ls, lh]) (m2 : t2 ∉ [ls, lh]) (rl : ∃ dx r l, H0 x = some (.ins ad.c_Shelf dx (SH sl r l)) ∧ r ∉ [ls, lh] ∧ l ∉ [ls, lh])
    (held : H0 lh = some (.lst hs)) (hd : Hd H0 [sl, ls, lh] hs) (d1 : sl ≠ ls) (d2 : sl ≠ lh) (d3 : ls ≠ lh)
    (hh : H0 h = none) (s0 : Same H0 H) (nh1 : nt ≠ h) (nh2 : an ≠ h) (nh3 : pn ≠ h)
    (kp : ∀ b o, b ≠ sl → H b = some o → H1 b = some o) (hn : H nt = none) (sf1 : Sf ad H1 x sl (pk0 j nt t1) (pk0 j t2 nt) (pk0 j zs z1) (pk0 j z2 zs)) (s12 : Same H1 H2)
    (e : H2 pn = some (.tup [.int n, .ref an, .bl b])) (ea : H2 an = some (.lst (zs.map V.str))) (xa : an ∉ [sl, ls, lh]) (ks : Sl zs n b) (hj : j < 2) :
    H2 ls = some (.lst [.ref p1, .ref p2]) ∧ ∀ o, J ad (upd (upd H2 ls (.lst ([V.ref p1, .ref p2].set j (.ref pn)))) h o) x sl ls lh hs := by
  have k2' : ∀ b o, b ≠ sl → H0 b = some o → H2 b = some o := fun b o hb q => s12 _ _ (kp b o hb (s0 _ _ q))
  have nh : ∀ {b o}, H0 b = some o → b ≠ h := fun q => ne_of_none q hh
  have gl := k2' _ _ d1.symm g
  refine ⟨gl, fun o => ?_⟩
  have sf2 := sf1.same s12
  have k3 : ∀ b o', b ≠ ls → b ≠ h → H2 b = some o' → (upd (upd H2 ls (.lst ([V.ref p1, .ref p2].set j (.ref pn)))) h o) b = some o' := fun b o' hb hb2 q => by rw [upd_ne hb2, upd_ne hb]; exact q
  have nn : ∀ {q : Addr}, q ∉ [ls, lh] → q ≠ ls := fun hq z => hq (by rw [z]; simp)
  have nn3 : ∀ {q : Addr}, q ∉ [sl, ls, lh] → q ≠ ls ∧ q ≠ sl := fun hq => ⟨fun z => hq (by rw [z]; simp), fun z => hq (by rw [z]; simp)⟩
  have nt1 : nt ∉ [ls, lh] := fun hm => by
    simp only [List.mem_cons, List.not_mem_nil, or_false] at hm
    rcases hm with rfl | rfl
    · rw [s0 _ _ g] at hn; cases hn
    · rw [s0 _ _ held] at hn; cases hn
  obtain ⟨dx, r, l, a, q1, q2⟩ := rl
  obtain ⟨dx', r', l', a', er, el, f1, f2⟩ := sf2.obj
  have xs : x ≠ sl := ins_ne a sf.slots
  have a2' := k2' _ _ xs a
  have ei : SH sl r l = SH sl r' l' := by
    rw [a2'] at a'
    injection a' with a'
    injection a'
  have er' : r = r' := by injection ei with _ e; injection e with e _; injection e with _ e; injection e
  have el' : l = l' := by injection ei with _ e; injection e with _ e; injection e with e _; injection e with _ e; injection e
  subst er' el'
  have hx : x ≠ ls := ins_ne a g
  have hpn : pn ≠ ls := lst_ne e gl
  have th1 : pk0 j nt t1 ≠ h := by
    unfold pk0
    split
    · exact nh1
    · exact nh sf.one
  have th2 : pk0 j t2 nt ≠ h := by
    unfold pk0
    split
    · exact nh sf.two
    · exact nh1
  have rh : r ≠ h ∧ l ≠ h := by
    obtain ⟨_, r2, l2, aa, e1, e2, _, _⟩ := sf.obj
    rw [a] at aa
    injection aa with aa
    injection aa with _ _ aa
    have c1 : r = r2 := by injection aa with _ e; injection e with e _; injection e with _ e; injection e
    have c2 : l = l2 := by injection aa with _ e; injection e with _ e; injection e with e _; injection e with _ e; injection e
    exact ⟨by rw [c1]; exact nh e1, by rw [c2]; exact nh e2⟩
  have tt1 : pk0 j nt t1 ∉ [ls, lh] := by
    unfold pk0
    split
    · exact nt1
    · exact m1
  have tt2 : pk0 j t2 nt ∉ [ls, lh] := by
    unfold pk0
    split
    · exact m2
    · exact nt1
  have sfn : Sf ad (upd (upd H2 ls (.lst ([V.ref p1, .ref p2].set j (.ref pn)))) h o) x sl (pk0 j nt t1) (pk0 j t2 nt) (pk0 j zs z1) (pk0 j z2 zs) :=
    ⟨⟨dx', r, l, k3 _ _ hx (nh a) a', k3 _ _ (nn q1) rh.1 er, k3 _ _ (nn q2) rh.2 el, f1, f2⟩, k3 _ _ d1 (nh sf.slots) sf2.slots, k3 _ _ (nn tt1) th1 sf2.one, k3 _ _ (nn tt2) th2 sf2.two, sf2.ne1, sf2.ne2, sf2.ne12⟩
  have hd3 : Hd (upd (upd H2 ls (.lst ([V.ref p1, .ref p2].set j (.ref pn)))) h o) [sl, ls, lh] hs := fun v hv => by
    obtain ⟨p, u, u', zs, e, ep, eu, eu', hk, w1, w2⟩ := hd v hv
    exact ⟨p, u, u', zs, e, k3 _ _ (lst_ne ep g) (nh ep) (k2' _ _ (lst_ne ep sf.slots) ep), k3 _ _ (nn3 w1).1 (nh eu) (k2' _ _ (nn3 w1).2 eu), k3 _ _ (nn3 w2).1 (nh eu') (k2' _ _ (nn3 w2).2 eu'), hk, w1, w2⟩
  have hh : (upd (upd H2 ls (.lst ([V.ref p1, .ref p2].set j (.ref pn)))) h o) lh = some (.lst hs) := k3 _ _ d3.symm (nh held) (k2' _ _ d2.symm held)
  have rl3 : ∃ dx r l, (upd (upd H2 ls (.lst ([V.ref p1, .ref p2].set j (.ref pn)))) h o) x = some (.ins ad.c_Shelf dx (SH sl r l)) ∧ r ∉ [ls, lh] ∧ l ∉ [ls, lh] := ⟨dx, r, l, k3 _ _ hx (nh a) a2', q1, q2⟩
  have j01 : j = 0 ∨ j = 1 := by omega
  rcases j01 with rfl | rfl
  · exact ⟨⟨_, _, _, _, n, n2, b, b2, an, a2, sfn, ⟨⟨pn, p2, by rw [upd_ne (nh g)]; exact upd_same, k3 _ _ hpn nh3 e, k3 _ _ (lst_ne g2 g) (nh g2) (k2' _ _ (lst_ne g2 sf.slots) g2)⟩, k3 _ _ (nn3 xa).1 nh2 ea, k3 _ _ (nn3 x2).1 (nh o2) (k2' _ _ (nn3 x2).2 o2), xa, x2⟩, ks, k2, tt1, tt2⟩, rl3, hh, hd3, d1, d2, d3⟩
  · exact ⟨⟨_, _, _, _, n1, n, b1, b, a1, an, sfn, ⟨⟨p1, pn, by rw [upd_ne (nh g)]; exact upd_same, k3 _ _ (lst_ne g1 g) (nh g1) (k2' _ _ (lst_ne g1 sf.slots) g1), k3 _ _ hpn nh3 e⟩, k3 _ _ (nn3 x1).1 (nh o1) (k2' _ _ (nn3 x1).2 o1), k3 _ _ (nn3 xa).1 nh2 ea, x1, xa⟩, k1, ks, tt1, tt2⟩, rl3, hh, hd3, d1, d2, d3⟩
def tBr : TS := fun D σ H => ∃ (o0 o1 o2 o3 o5 o6 o8 o10 : Option V) (c n : Int) (bk : Bool) (h : Addr) (zs : List Str), σ = [o0, o1, o2, o3, some (.int c), o5, o6, some (.ref h), o8, some (.bl bk), o10] ∧ H h = some (.lst (zs.map V.str)) ∧ KeepL zs n ∧
  ∀ H' h' ws, Same H H' → H' h' = some (.lst (ws.map V.str)) → (h' = h ∨ H h' = none) → Sl ws n (!bk) → D.nx [o0, o1, o2, o3, some (.int c), o5, o6, some (.ref h'), o8, some (.bl bk), o10] H'
theorem KeepL.n0 {zs : List Str} {n : Int} (h : KeepL zs n) : 0 ≤ n := by
  obtain ⟨_, _, _, _, ⟨_, _, q, _⟩, _⟩ := h.shape
  exact q
def tIn (ad : Ad) : TS := fun D σ H => ∃ (x sl ls lh : Addr) (hs : List V) (o0 o8 o9 o10 : Option V) (c n : Int) (pp lz h : Addr) (zs : List Str) (H0 : Hp), σ = [o0, some (.ref x), some (.ref ls), some (.ref lh), some (.int c), some (.int (c % 2)), some (.ref pp), some (.ref h), o8, o9, o10] ∧ J ad H0 x sl ls lh hs ∧ Same H0 H ∧ H0 h = none ∧ H h = some (.lst (zs.map V.str)) ∧ H pp = some (.tup [.int n, .ref lz]) ∧ H lz = some (.lst (zs.map V.str)) ∧ lz ∉ [sl, ls, lh] ∧ KeepL zs n ∧
  ∀ H' h' ws o8 o9 o10, (∀ b o, b ∉ [sl, ls, lh] → H0 b = some o → H' b = some o) → (∀ o, J ad (upd H' h' o) x sl ls lh hs) → H0 h' = none → H' h' = some (.lst ((ws : List Str).map V.str)) → ws.length ≤ 10 → D.nx [o0, some (.ref x), some (.ref ls), some (.ref lh), some (.int c), some (.int (c % 2)), some (.ref pp), some (.ref h'), o8, o9, o10] H'
theorem strs_dv {K : PySem.W.Frag} {H : Hp} {l : Addr} {zs : List Str} (e : H l = some (.lst (zs.map V.str))) : Dv K H (.ref l) (.list (zs.map PyData.str)) := .lst (SqL.of e) (dvs_strs zs)
theorem J.args {ad : Ad} {H : Hp} {x sl ls lh : Addr} {hs : List V} (h : J ad H x sl ls lh hs) : ∃ t1 t2 a1 a2 z1 z2 n1 n2 b1 b2, Sf ad H x sl t1 t2 z1 z2 ∧ Ls H ls [sl, ls, lh] z1 z2 n1 n2 b1 b2 a1 a2 ∧ Sl z1 n1 b1 ∧ Sl z2 n2 b2 ∧ t1 ≠ lh ∧ t2 ≠ lh ∧ ∃ dx r l, H x = some (.ins ad.c_Shelf dx (SH sl r l)) ∧ r ≠ lh ∧ l ≠ lh := by
  obtain ⟨t1, t2, z1, z2, n1, n2, b1, b2, a1, a2, sf, lo, k1, k2, m1, m2⟩ := h.sf
  obtain ⟨dx, r, l, a, q1, q2⟩ := h.rl
  have nn : ∀ {q : Addr}, q ∉ [ls, lh] → q ≠ lh := fun hq z => hq (by rw [z]; simp)
  exact ⟨t1, t2, a1, a2, z1, z2, n1, n2, b1, b2, sf, lo, k1, k2, nn m1, nn m2, dx, r, l, a, nn q1, nn q2⟩
theorem ok_law (T : Tx K mg ad) : FnOk P w K mg base CX0 depth ad.a_law ad.d_law ["_law_script"] (sp_law K) := by
  have G_Shelf___init__ := ok_init (P := P) (w := w) (base := base) T
  have G_Shelf_write := ok_write (P := P) (w := w) (base := base) T
  have G_Shelf_torn := ok_torn (P := P) (w := w) (base := base) T
  have G_u_law_right := ok_right (P := P) (w := w) (base := base) T
  have G_u_law_keep := ok_keep (P := P) (w := w) (base := base) T
  have G_u_law_broken := ok_broken (P := P) (w := w) (base := base) T
  refine T.F_law.ok sc_law (fun vs H Q E h => ?_) (fun cdv A outer s H vs Q E hr h => ?_)
  · obtain ⟨a, ns, rfl, _⟩ := h
    rfl
  · obtain ⟨a, ns, rfl, hS, hlen, k⟩ := h
    have nd := sc_law.nd
    refine ⟨_, (pss_cons (ps_set (i := 1) nd rfl (Or.inl rfl) (pe_make0 T.mk_Shelf G_Shelf___init__ (hr.mono (by decide)) (by rfl) T.mc_Shelf T.b_Shelf___init__ .nil pass0))
        (pss_cons (ps_set (i := 2) nd rfl (Or.inl rfl) (pe_lst (pa_cons (pe_tup (pa_cons pe_int (pa_cons (pe_lst pa_nil) (pa_cons pe_bl pa_nil)))) (pa_cons (pe_tup (pa_cons pe_int (pa_cons (pe_lst pa_nil) (pa_cons pe_bl pa_nil)))) pa_nil))))
        (pss_cons (ps_set (i := 3) nd rfl (Or.inl rfl) (pe_lst pa_nil))
        (pss_cons (ps_if (pt_not (pt_val (pe_call G_u_law_right (hr.mono (by decide)) (by rfl) T.m_u_law_right T.F_u_law_right.kp T.b_u_law_right .nil pass0 (pa_cons (pv 1) (pa_cons (pv 2) (pa_cons (pv 3) pa_nil))))))
        (pss_one (ps_ret pe_bl))
        pss_nil)
        (pss_cons (ps_for PassesOwn.never rfl (pi_listK (K := K) (pe_slice (sl_listK (K := K)) (pv 0) (po_some pe_int) (po_some pe_int))) (pg_name (i := 4) nd rfl (Or.inl rfl))
        (pss_cons (ps_set (i := 5) nd rfl (Or.inl rfl) (pe_op op_mod (pv 4) pe_int))
        (pss_cons (ps_set (i := 6) nd rfl (Or.inl rfl) (pe_call G_u_law_keep (hr.mono (by decide)) (by rfl) T.m_u_law_keep T.F_u_law_keep.kp T.b_u_law_keep .nil pass0 (pa_cons (pe_op op_fdiv (pv 4) pe_int) pa_nil)))
        (pss_cons (ps_set (i := 7) nd rfl (Or.inl rfl) (pe_callTy (call_list_ofK (K := K)) (by rfl) T.z_list PyProof.Rows.boot_list (pa_cons (pe_ix (ix_tupK (K := K)) (pv 6) pe_int (fun _ _ => rfl)) pa_nil)))
        (pss_cons (ps_weak (t' := tIn ad) (ps_if (pt_cmpR op_eq (pe_op op_mod (pe_op op_fdiv (pv 4) pe_int) pe_int) pe_int (nomark _))
        (pss_cons (ps_set (i := 8) nd rfl (Or.inl rfl) (pe_op op_mod (pe_op op_fdiv (pv 4) pe_int) pe_int))
        (pss_cons (ps_if (PW.pt (pw_or (pt_cmpR op_notN (pe_meth (pv 1) T.cl_Shelf T.me_Shelf_torn G_Shelf_torn (hr.mono (by decide)) T.b_Shelf_torn .nil pass0 (pa_cons (pv 5) (pa_cons (pv 7) (pa_cons (pv 8) pa_nil)))) pe_non (nomark _)) (pw_or1 (pt_cmpR (op_neD (K := K) hr.units) (pv 7) (pe_ix (ix_tupK (K := K)) (pv 6) pe_int (fun _ _ => rfl)) (nomark _)))))
        (pss_one (ps_ret pe_bl))
        pss_nil)
        (pss_one (ps_lput (pv 2) (pv 5) (pe_tup (pa_cons (pe_ix (ix_tupK (K := K)) (pv 6) pe_int (fun _ _ => rfl)) (pa_cons (pe_slice (sl_listK (K := K)) (pe_ix (ix_tupK (K := K)) (pv 6) pe_int (fun _ _ => rfl)) po_none (po_some (pv 8))) (pa_cons (pe_cmpR op_ge (pv 8) (pe_callB (call_len_seqK (K := K)) (by rfl) T.z_len PySem.boot_len (pa_cons (pe_ix (ix_tupK (K := K)) (pv 6) pe_int (fun _ _ => rfl)) pa_nil)) (nomark _)) pa_nil)))) rfl))))
        (pss_cons (ps_set (i := 9) nd rfl (Or.inl rfl) (pe_cmpR op_eq (pe_op op_mod (pe_op op_fdiv (pv 4) pe_int) pe_int) pe_int (nomark _)))
        (pss_cons (ps_weak (t' := tBr) (ps_if (pt_val (pv 9))
        (pss_one (ps_set (i := 7) nd rfl (Or.inl rfl) (pe_call G_u_law_broken (hr.mono (by decide)) (by rfl) T.m_u_law_broken T.F_u_law_broken.kp T.b_u_law_broken .nil pass0 (pa_cons (pv 7) (pa_cons (pe_op op_fdiv (pv 4) pe_int) pa_nil)))))
        pss_nil) ?w4)
        (pss_cons (ps_set (i := 10) nd rfl (Or.inl rfl) (pe_callTy (call_list_ofK (K := K)) (by rfl) T.z_list PyProof.Rows.boot_list (pa_cons (pv 7) pa_nil)))
        (pss_cons (ps_if (PW.pt (pw_or (pt_cmpR op_notN (pe_meth (pv 1) T.cl_Shelf T.me_Shelf_write G_Shelf_write (hr.mono (by decide)) T.b_Shelf_write .nil pass0 (pa_cons (pv 5) (pa_cons (pv 7) pa_nil))) pe_non (nomark _)) (pw_or1 (pt_cmpR (op_neD (K := K) hr.units) (pv 7) (pv 10) (nomark _)))))
        (pss_one (ps_ret pe_bl))
        pss_nil)
        (pss_one (ps_lput (pv 2) (pv 5) (pe_tup (pa_cons (pe_ix (ix_tupK (K := K)) (pv 6) pe_int (fun _ _ => rfl)) (pa_cons (pv 10) (pa_cons (pe_not (pv 9)) pa_nil)))) rfl))))))) ?w2)
        (pss_cons (ps_expr (pe_bmK (K := K) PySem.F.plainAttrs_list PySem.F.slot_list_append PySem.F.type_list_append mt_append (pv 7) (pa_cons pe_str pa_nil)))
        (pss_one (ps_if (PW.pt (pw_and (pt_cmpR op_gt (pe_op op_mod (pe_op op_fdiv (pv 4) pe_int) pe_int) pe_int (nomark _)) (pw_and1 (pt_not (pt_val (pe_call G_u_law_right (hr.mono (by decide)) (by rfl) T.m_u_law_right T.F_u_law_right.kp T.b_u_law_right .nil pass0 (pa_cons (pv 1) (pa_cons (pv 2) (pa_cons (pv 3) pa_nil)))))))))
        (pss_one (ps_ret pe_bl))
        pss_nil))))))))
        (pss_cons (ps_if (pt_not (pt_val (pe_call G_u_law_right (hr.mono (by decide)) (by rfl) T.m_u_law_right T.F_u_law_right.kp T.b_u_law_right .nil pass0 (pa_cons (pv 1) (pa_cons (pv 2) (pa_cons (pv 3) pa_nil))))))
        (pss_one (ps_ret pe_bl))
        pss_nil)
        (pss_one (ps_ret (pe_cmpR (op_eqNil (K := K) hr.units0) (pe_comp1 (osc := defScope s_law) [] rfl (pi_listK (K := K) (pv 3)) rfl rfl (by decide +kernel) (by decide +kernel) (by decide +kernel) trivial rfl (by decide +kernel) (fun _ _ _ _ => pts_one (pt_cmpR (op_neD (K := K) hr.units) (pe_ix (ix_tupK (K := K)) (pv 0) pe_int (fun _ _ => rfl)) (pe_ix (ix_tupK (K := K)) (pv 0) pe_int (fun _ _ => rfl)) (nomark _))) (fun _ _ _ _ => (pv 0))) (pe_lst pa_nil) (nomark _)))))))))), ?_⟩
-- slots: 0 _law_script, 1 _law_shelf, 2 _law_slots, 3 _law_held, 4 _law_cell, 5 _law_slot, 6 _law_pair, 7 _law_handed, 8 _law_many, 9 _law_broken_here, 10 _law_kept
    case w4 =>
      rintro D σ H ⟨o0, o1, o2, o3, o5, o6, o8, o10, c, n, bk, h, zs, rfl, eh, kl, q⟩
      refine ⟨_, rfl, _, rfl, ?_⟩
      cases bk with
      | true =>
        refine iteT ⟨_, rfl, _, rfl, _, _, rfl, rfl, ⟨by decide, by decide⟩, h, _, zs, n, rfl, eh, kl, fun H' r ws s' hr' er hE hok hlw => ?_⟩
        exact q H' r ws s' er (.inr hr') ⟨hE, hlw, hok, kl.n0⟩
      | false =>
        have := kl.len
        exact iteF (q H h zs (Same.refl H) eh (.inl rfl) ⟨kl.whole, by omega, kl.ok, kl.n0⟩)
    case w2 =>
      rintro D σ H ⟨x, sl, ls, lh, hs, o0, o8, o9, o10, c, n, pp, lz, h, zs, H0, rfl, jj, s0, hh, eh, ep, ez, xz, kl, q⟩
      obtain ⟨t1, t2, z1, z2, n1, n2, b1, b2, a1, a2, sf, lo, k1, k2, m1, m2⟩ := jj.sf
      obtain ⟨p1, p2, g, g1, g2⟩ := lo.at_
      have sfH := sf.same s0
      obtain ⟨dx, r, l, ax, _⟩ := sfH.obj
      have kll := kl.len
      have bj : 0 ≤ c % 2 ∧ c % 2 < 2 := ⟨Int.emod_nonneg _ (by decide), Int.emod_lt_of_pos _ (by decide)⟩
      have bm : 0 ≤ c / 6 % 8 ∧ c / 6 % 8 < 8 := ⟨Int.emod_nonneg _ (by decide), Int.emod_lt_of_pos _ (by decide)⟩
      have ej : ((c % 2).toNat : Int) = c % 2 := Int.toNat_of_nonneg bj.1
      have em : ((c / 6 % 8).toNat : Int) = c / 6 % 8 := Int.toNat_of_nonneg bm.1
      have hj : (c % 2).toNat < 2 := by omega
      have i0 : ∀ {a b : V}, atI [a, b] 0 = some a := atI_nat (j := 0) rfl
      have i1 : ∀ {a b : V}, atI [a, b] 1 = some b := atI_nat (j := 1) rfl
      have psl : pp ≠ sl := lst_ne ep sfH.slots
      have hsl : h ≠ sl := (ne_of_none sf.slots hh).symm
      have zsl : lz ≠ sl := fun z => xz (by rw [z]; simp)
      have exn : ∀ {b : Addr} {H' : Hp}, Same H0 H' → H' b = none → b ∉ [sl, ls, lh] := fun {b H'} s' hb hm => by
        simp only [List.mem_cons, List.not_mem_nil, or_false] at hm
        rcases hm with rfl | rfl | rfl
        · rw [s' _ _ sf.slots] at hb; cases hb
        · rw [s' _ _ g] at hb; cases hb
        · rw [s' _ _ jj.held] at hb; cases hb
      have sh := shaped_strs zs kl.ok
      refine ⟨_, rfl, _, _, rfl, rfl, ⟨by decide, by decide⟩, _, _, rfl, rfl, (by decide : (0 : Int) < 3), rfl, _, rfl, iteB (fun _ => ?_) fun _ => ?_⟩
      · refine ⟨_, rfl, _, _, rfl, rfl, ⟨by decide, by decide⟩, _, _, rfl, rfl, (by decide : (0 : Int) < 8), ?_⟩
        refine ⟨_, rfl, x, dx, _, rfl, ax, by rfl, _, rfl, _, rfl, _, rfl, x, sl, t1, t2, z1, z2, (c % 2).toNat, h, zs, (c / 6 % 8).toNat, by rw [ej, em]; rfl, sfH, hj, eh, fun H1 nt kp hn sf1 => ?_⟩
        have ep1 := kp _ _ psl ep
        have eh1 := kp _ _ hsl eh
        have ez1 := kp _ _ zsl ez
        refine ⟨rfl, _, rfl, iteF ⟨_, rfl, _, rfl, pp, _, _, _, rfl, rfl, SqT.of ep1, i1, neD_same (strs_dv eh1) (strs_dv ez1) sh ⟨_, rfl, iteF ?_⟩⟩⟩
        refine ⟨_, rfl, pp, _, _, _, rfl, rfl, SqT.of ep1, i0, _, rfl, pp, _, _, _, rfl, rfl, SqT.of ep1, i1, _, rfl, _, rfl, lz, _, rfl, SqL.of ez1, fun an han => ?_⟩
        have s1a : Same H1 (upd H1 an (.lst (cutV (zs.map V.str) none (some (c / 6 % 8))))) := (Same.refl H1).upd han
        have ean : (upd H1 an (.lst (cutV (zs.map V.str) none (some (c / 6 % 8))))) an = some (.lst ((zs.take (c / 6 % 8).toNat).map V.str)) := by rw [upd_same, ← cut_take, em]
        generalize upd H1 an (.lst (cutV (zs.map V.str) none (some (c / 6 % 8)))) = H1a at s1a ean ⊢
        refine ⟨_, rfl, _, rfl, pp, _, _, _, rfl, rfl, SqT.of (s1a _ _ ep1), i1, lz, _, rfl, .inl (SqL.of (s1a _ _ ez1)), _, _, rfl, rfl, by show 3 ≤ sizeLine; decide, fun pn hpn => ?_⟩
        have s1b : Same H1a (upd H1a pn (.tup [.int n, .ref an, .bl (decide (((zs.map V.str).length : Int) ≤ c / 6 % 8))])) := (Same.refl H1a).upd hpn
        have epn : (upd H1a pn (.tup [.int n, .ref an, .bl (decide (((zs.map V.str).length : Int) ≤ c / 6 % 8))])) pn = some (.tup [.int n, .ref an, .bl (decide (((zs.map V.str).length : Int) ≤ c / 6 % 8))]) := upd_same
        generalize upd H1a pn (.tup [.int n, .ref an, .bl (decide (((zs.map V.str).length : Int) ≤ c / 6 % 8))]) = H2 at s1b epn ⊢
        have s12 := s1a.trans s1b
        have k0 : ∀ b o, b ≠ sl → H0 b = some o → H2 b = some o := fun b o hb e => s12 _ _ (kp _ _ hb (s0 _ _ e))
        have xa : an ∉ [sl, ls, lh] := fun hm => by
          simp only [List.mem_cons, List.not_mem_nil, or_false] at hm
          rcases hm with rfl | rfl | rfl
          · rw [sf1.slots] at han; cases han
          · rw [kp _ _ jj.d1.symm (s0 _ _ g)] at han; cases han
          · rw [kp _ _ jj.d2.symm (s0 _ _ jj.held)] at han; cases han
        have ks : Sl (zs.take (c / 6 % 8).toNat) n (decide (((zs.map V.str).length : Int) ≤ c / 6 % 8)) := by
          refine ⟨?_, by rw [List.length_take]; omega, fun y hy => kl.ok y (List.mem_of_mem_take hy), kl.n0⟩
          rw [List.length_map]
          by_cases hm : (zs.length : Int) ≤ c / 6 % 8
          · rw [decide_eq_true hm, List.take_of_length_le (by omega)]
            exact kl.whole
          · rw [decide_eq_false hm]
            exact kl.cut (by omega)
        obtain ⟨gl, jn⟩ := J.put (h := h) sf g g1 g2 lo.one lo.two lo.x1 lo.x2 k1 k2 m1 m2 jj.rl jj.held jj.hd jj.d1 jj.d2 jj.d3 hh s0 (ne_of_none eh hn).symm (ne_of_none eh1 han).symm (ne_of_none (s1a _ _ eh1) hpn).symm kp hn sf1 s12 epn (s1b _ _ ean) xa ks hj
        refine ⟨_, rfl, _, rfl, ls, _, (c % 2).toNat, rfl, by rw [ej], gl, hj, ?_⟩
        have hls : h ≠ ls := (ne_of_none g hh).symm
        exact q _ h zs _ _ _ (fun b o hb e => by
          rw [upd_ne (fun z => hb (by rw [z]; simp))]
          exact k0 b o (fun z => hb (by rw [z]; simp)) e) jn hh (by rw [upd_ne hls]; exact s12 _ _ eh1) (by omega)
      · refine ⟨_, rfl, _, _, rfl, rfl, ⟨by decide, by decide⟩, _, _, rfl, rfl, (by decide : (0 : Int) < 3), rfl, ?_⟩
        refine ⟨_, _, _, _, _, _, _, _, c, n, _, h, zs, rfl, eh, kl, fun H1 h' ws s1 eh' fr ks => ?_⟩
        generalize decide ((fun i j => V.int (i % j)) (c / 30) 3 = V.int 0) = bk at ks ⊢
        obtain ⟨Hb, sb0, sb, hb⟩ : ∃ Hb, Same H0 Hb ∧ Same Hb H1 ∧ Hb h' = none := by
          rcases fr with rfl | fr
          · exact ⟨H0, Same.refl H0, s0.trans s1, hh⟩
          · exact ⟨H, s0, s1, fr⟩
        have jb := jj.same sb0
        have lw := ks.len
        refine ⟨_, rfl, h', _, rfl, .inl (SqL.of eh'), fun an han => ?_⟩
        have s1a : Same H1 (upd H1 an (.lst (ws.map V.str))) := (Same.refl H1).upd han
        have ean : (upd H1 an (.lst (ws.map V.str))) an = some (.lst (ws.map V.str)) := upd_same
        generalize upd H1 an (.lst (ws.map V.str)) = H1a at s1a ean ⊢
        have sba := sb.trans s1a
        have s01a := sb0.trans sba
        have s0a := s1.trans s1a
        have eh'' := s1a _ _ eh'
        have hsl' : h' ≠ sl := (ne_of_none (sb0 _ _ sf.slots) hb).symm
        refine ⟨_, rfl, x, dx, _, rfl, s0a _ _ ax, by rfl, _, rfl, _, rfl, x, sl, t1, t2, z1, z2, (c % 2).toNat, h', ws, by rw [ej]; rfl, sfH.same s0a, hj, eh'', fun H2 nt kp hn sf1 => ?_⟩
        have ansl : an ∉ [sl, ls, lh] := exn (sb0.trans sb) han
        have e7 := kp _ _ hsl' eh''
        have e10 := kp _ _ (fun z => ansl (by rw [z]; simp)) ean
        refine ⟨rfl, _, rfl, iteF ⟨_, rfl, _, rfl, neD_same (strs_dv e7) (strs_dv e10) (shaped_strs ws ks.ok) ⟨_, rfl, iteF ?_⟩⟩⟩
        have ep2 := kp _ _ psl (s0a _ _ ep)
        refine ⟨_, rfl, pp, _, _, _, rfl, rfl, SqT.of ep2, i0, _, rfl, _, rfl, _, rfl, by show 3 ≤ sizeLine; decide, fun pn hpn => ?_⟩
        have s3 : Same H2 (upd H2 pn (.tup [.int n, .ref an, .bl (!bk)])) := (Same.refl H2).upd hpn
        have epn : (upd H2 pn (.tup [.int n, .ref an, .bl (!bk)])) pn = some (.tup [.int n, .ref an, .bl (!bk)]) := upd_same
        generalize upd H2 pn (.tup [.int n, .ref an, .bl (!bk)]) = H3 at s3 epn ⊢
        obtain ⟨gl, jn⟩ := J.put (h := h') (sf.same sb0) (sb0 _ _ g) (sb0 _ _ g1) (sb0 _ _ g2) (sb0 _ _ lo.one) (sb0 _ _ lo.two) lo.x1 lo.x2 k1 k2 m1 m2 jb.rl jb.held jb.hd jj.d1 jj.d2 jj.d3 hb sba (ne_of_none eh'' hn).symm (ne_of_none eh' han).symm (ne_of_none e7 hpn).symm kp hn sf1 s3 epn (s3 _ _ e10) ansl ks hj
        refine ⟨_, rfl, _, rfl, ls, _, (c % 2).toNat, rfl, by rw [ej], gl, hj, ?_⟩
        have hls : h' ≠ ls := (ne_of_none (sb0 _ _ g) hb).symm
        exact q _ h' ws _ _ _ (fun b o hb' e => by
          rw [upd_ne (fun z => hb' (by rw [z]; simp))]
          exact s3 _ _ (kp _ _ (fun z => hb' (by rw [z]; simp)) (s01a _ _ e))) jn (same_none sb0 hb) (by rw [upd_ne hls]; exact s3 _ _ e7) lw
    have sz : sizeLine = 16777216 := sizeLine_eq
    refine fun x dx hx hdx hne => ⟨x, dx, rfl, upd_same, fun H1 sl t1 t2 kp hsl sf => ⟨rfl, ?_⟩⟩
    have s1 : Same H H1 := fun b o e => by
      have bx : b ≠ x := ne_of_none e hx
      refine kp b o bx ?_
      rw [upd_ne bx, upd_ne (ne_of_none e hdx)]
      exact e
    refine ⟨by show 0 ≤ sizeLine; decide, fun a1 ha1 => ⟨by show 3 ≤ sizeLine; decide, fun p1 hp1 => ?_⟩⟩
    have sa : Same H1 (upd H1 a1 (.lst [])) := (Same.refl H1).upd ha1
    have ea : (upd H1 a1 (.lst [])) a1 = some (.lst []) := upd_same
    generalize upd H1 a1 (.lst []) = Ha at sa ea hp1 ⊢
    have sb : Same Ha (upd Ha p1 (.tup [.int 0, .ref a1, .bl false])) := (Same.refl Ha).upd hp1
    have eb : (upd Ha p1 (.tup [.int 0, .ref a1, .bl false])) p1 = some (.tup [.int 0, .ref a1, .bl false]) := upd_same
    generalize upd Ha p1 (.tup [.int 0, .ref a1, .bl false]) = Hb at sb eb ⊢
    refine ⟨by show 0 ≤ sizeLine; decide, fun a2 ha2 => ⟨by show 3 ≤ sizeLine; decide, fun p2 hp2 => ?_⟩⟩
    have sc : Same Hb (upd Hb a2 (.lst [])) := (Same.refl Hb).upd ha2
    have ec : (upd Hb a2 (.lst [])) a2 = some (.lst []) := upd_same
    generalize upd Hb a2 (.lst []) = Hc at sc ec hp2 ⊢
    have sd : Same Hc (upd Hc p2 (.tup [.int 0, .ref a2, .bl false])) := (Same.refl Hc).upd hp2
    have ed : (upd Hc p2 (.tup [.int 0, .ref a2, .bl false])) p2 = some (.tup [.int 0, .ref a2, .bl false]) := upd_same
    generalize upd Hc p2 (.tup [.int 0, .ref a2, .bl false]) = Hd' at sd ed ⊢
    refine ⟨by show 2 ≤ sizeLine; decide, fun ls hls => ⟨by show 0 ≤ sizeLine; decide, fun lh hlh => ?_⟩⟩
    have se : Same Hd' (upd Hd' ls (.lst [.ref p1, .ref p2])) := (Same.refl Hd').upd hls
    have ee : (upd Hd' ls (.lst [.ref p1, .ref p2])) ls = some (.lst [.ref p1, .ref p2]) := upd_same
    generalize upd Hd' ls (.lst [.ref p1, .ref p2]) = He at se ee hlh ⊢
    have sf' : Same He (upd He lh (.lst [])) := (Same.refl He).upd hlh
    have ef : (upd He lh (.lst [])) lh = some (.lst []) := upd_same
    generalize upd He lh (.lst []) = Hf at sf' ef ⊢
    have s1d := (((sa.trans sb).trans sc).trans sd)
    have sdf := se.trans sf'
    have s1f := s1d.trans sdf
    have sHf := s1.trans s1f
    have out : ∀ {q : Addr} {o}, Hd' q = some o → q ∉ [ls, lh] := fun {q o} e hm => by
      simp only [List.mem_cons, List.not_mem_nil, or_false] at hm
      rcases hm with rfl | rfl
      · rw [e] at hls; cases hls
      · rw [se _ _ e] at hlh; cases hlh
    have a1sl : a1 ≠ sl := (ne_of_none sf.slots ha1).symm
    have a2sl : a2 ≠ sl := (ne_of_none ((sa.trans sb) _ _ sf.slots) ha2).symm
    have o3 : ∀ {q : Addr} {o}, Hd' q = some o → q ≠ sl → q ∉ [sl, ls, lh] := fun e hq hm => by
      rcases List.mem_cons.mp hm with z | hm
      · exact hq z
      · exact out e hm
    have ea' := ((sb.trans sc).trans sd) _ _ ea
    have ec' := sd _ _ ec
    have sl0 : Sl [] 0 false := ⟨rfl, by decide, fun y hy => (nomatch hy), by decide⟩
    obtain ⟨dx', r, l, ax, er, el, _, _⟩ := sf.obj
    have j0 : J ad Hf x sl ls lh [] := ⟨⟨t1, t2, [], [], 0, 0, false, false, a1, a2, sf.same s1f, ⟨⟨p1, p2, sf' _ _ ee, sdf _ _ (((sc.trans sd)) _ _ eb), sdf _ _ ed⟩, sdf _ _ ea', sdf _ _ ec', o3 ea' a1sl, o3 ec' a2sl⟩, sl0, sl0, out (s1d _ _ sf.one), out (s1d _ _ sf.two)⟩, ⟨dx', r, l, s1f _ _ ax, out (s1d _ _ er), out (s1d _ _ el)⟩, ef, fun v hv => (nomatch hv), fun z => out (s1d _ _ sf.slots) (by rw [z]; simp), fun z => out (s1d _ _ sf.slots) (by rw [z]; simp), ne_of_none ee hlh⟩
    obtain ⟨T1, T2, A1, A2, Z1, Z2, N1, N2, B1, B2, SF, LO, K1, K2, M1, M2, RL⟩ := j0.args
    refine ⟨_, rfl, _, rfl, _, rfl, x, sl, T1, T2, ls, lh, A1, A2, Z1, Z2, N1, N2, B1, B2, [], rfl, SF, LO, K1, K2, j0.held, by decide, j0.hd, j0.d2.symm, j0.d3.symm, M1, M2, RL, fun H2 hs2 kp2 EE hl2 HH => ⟨_, rfl, iteF ?_⟩⟩
    have j2 := j0.lh kp2 EE HH
    have s2 : Same H H2 := fun b o e => kp2 b o (fun z => by
      have q := s1d _ _ (s1 _ _ e)
      exact out q (by rw [z]; simp)) (sHf _ _ e)
    refine ⟨_, rfl, _, rfl, _, rfl, a, _, rfl, s2.seq hS, fun pc hpc => ?_⟩
    have lc := cutV_length (ns.map V.int) (some 1) (some 41)
    rw [List.length_map] at lc
    have hcut : ∀ y ∈ cutV (ns.map V.int) (some 1) (some 41), ∃ c : Int, y = .int c := fun y hy => by
      obtain ⟨c, _, rfl⟩ := List.mem_map.mp (mem_cutV hy)
      exact ⟨c, rfl⟩
    have s3 : Same H2 (upd H2 pc (.lst (cutV (ns.map V.int) (some 1) (some 41)))) := (Same.refl H2).upd hpc
    have epc : (upd H2 pc (.lst (cutV (ns.map V.int) (some 1) (some 41)))) pc = some (.lst (cutV (ns.map V.int) (some 1) (some 41))) := upd_same
    generalize cutV (ns.map V.int) (some 1) (some 41) = cs at s3 epc lc hcut ⊢
    have xpc : pc ∉ [sl, ls, lh] := fun hm => by
      obtain ⟨_, _, _, _, _, _, _, _, _, _, sfx, lox, _⟩ := j2.sf
      obtain ⟨_, _, gx, _⟩ := lox.at_
      simp only [List.mem_cons, List.not_mem_nil, or_false] at hm
      rcases hm with rfl | rfl | rfl
      · rw [sfx.slots] at hpc; cases hpc
      · rw [gx] at hpc; cases hpc
      · rw [j2.held] at hpc; cases hpc
    generalize upd H2 pc (.lst cs) = H3 at s3 epc ⊢
    refine ⟨pc, rfl, ⟨_, SqL.of epc⟩, for_list (K := K) (fun i σ H' => ∃ o4 o5 o6 o7 o8 o9 o10 hs, σ = [some (.ref a), some (.ref x), some (.ref ls), some (.ref lh), o4, o5, o6, o7, o8, o9, o10] ∧ J ad H' x sl ls lh hs ∧ hs.length ≤ i + 1 ∧ H' pc = some (.lst cs))
      ⟨none, none, none, none, none, none, none, hs2, rfl, j2.same s3, hl2, epc⟩ (fun i σ H' _ ⟨_, _, _, _, _, _, _, _, _, _, _, e⟩ => SqL.of e) ?_ ?_⟩
    · rintro i y σ H4 hi ⟨o4, o5, o6, o7, o8, o9, o10, hs, rfl, j4, hl4, e4⟩
      have hic : i < cs.length := (List.getElem?_eq_some_iff.mp hi).1
      obtain ⟨c, rfl⟩ := hcut y (List.mem_of_getElem? hi)
      refine ⟨_, rfl, _, _, rfl, rfl, (by decide : (0 : Int) < 2), _, rfl, _, _, rfl, rfl, ⟨by decide, by decide⟩, _, rfl, fun H5 pp lz n zs s5 ep ez kl => ?_⟩
      have i1 : ∀ {a b : V}, atI [a, b] 1 = some b := atI_nat (j := 1) rfl
      have j5 := j4.same s5
      have xz : lz ∉ [sl, ls, lh] := fun hm => by
        obtain ⟨_, _, _, _, _, _, _, _, _, _, sfx, lox, _⟩ := j5.sf
        obtain ⟨_, _, gx, _⟩ := lox.at_
        obtain ⟨_, _, its, ezs, _⟩ := kl.shape
        have cl : ∀ {q : Addr} {us : List V}, H5 q = some (.lst us) → (∀ v ∈ us, ∃ p, v = .ref p) → lz ≠ q := fun e hu z => by
          subst z
          rw [ez, ezs] at e
          injection e with e
          injection e with e
          obtain ⟨p, hp⟩ := hu _ (by rw [← e]; exact List.mem_cons_self)
          cases hp
        simp only [List.mem_cons, List.not_mem_nil, or_false] at hm
        rcases hm with z | z | z
        · exact cl sfx.slots (fun v hv => by simp only [List.mem_cons, List.not_mem_nil, or_false] at hv; rcases hv with rfl | rfl <;> exact ⟨_, rfl⟩) z
        · exact cl gx (fun v hv => by simp only [List.mem_cons, List.not_mem_nil, or_false] at hv; rcases hv with rfl | rfl <;> exact ⟨_, rfl⟩) z
        · exact cl j5.held (fun v hv => let ⟨p, _, _, _, e, _⟩ := j5.hd v hv; ⟨p, e⟩) z
      refine ⟨_, rfl, pp, _, _, _, rfl, rfl, SqT.of ep, i1, lz, _, rfl, .inl (SqL.of ez), fun h hh => ?_⟩
      have s6 : Same H5 (upd H5 h (.lst (zs.map V.str))) := (Same.refl H5).upd hh
      refine ⟨x, sl, ls, lh, hs, _, _, _, _, c, n, pp, lz, h, zs, H5, rfl, j5, s6, hh, upd_same, s6 _ _ ep, s6 _ _ ez, xz, kl, fun H7 h7 ws q8 q9 q10 kp7 j7 hh7 eh7 lw => ?_⟩
      have e7 := kp7 _ _ xpc (s5 _ _ e4)
      have pch : pc ≠ h7 := ne_of_none (s5 _ _ e4) hh7
      refine ⟨_, rfl, .inl ⟨rfl, _, SqL.of eh7⟩, h7, _, _, rfl, rfl, eh7, by rw [List.length_map]; omega, ?_⟩
      have j8 := j7 (.lst (ws.map V.str ++ [.str "more"]))
      have e8 : (upd H7 h7 (.lst (ws.map V.str ++ [.str "more"]))) pc = some (.lst cs) := by rw [upd_ne pch]; exact e7
      generalize upd H7 h7 (.lst (ws.map V.str ++ [.str "more"])) = H8 at j8 e8 ⊢
      refine ⟨_, rfl, _, _, rfl, rfl, ⟨by decide, by decide⟩, _, _, rfl, rfl, (by decide : (0 : Int) < 3), _, _, rfl, rfl, _, rfl, iteB (fun _ => ?_) fun _ => ?_⟩
      · obtain ⟨T1, T2, A1, A2, Z1, Z2, N1, N2, B1, B2, SF, LO, K1, K2, M1, M2, RL⟩ := j8.args
        refine ⟨_, rfl, _, rfl, _, rfl, x, sl, T1, T2, ls, lh, A1, A2, Z1, Z2, N1, N2, B1, B2, hs, rfl, SF, LO, K1, K2, j8.held, by omega, j8.hd, j8.d2.symm, j8.d3.symm, M1, M2, RL, fun H9 hs9 kp9 EE hl9 HH => ⟨_, rfl, iteF ?_⟩⟩
        have j9 := j8.lh kp9 EE HH
        exact ⟨_, _, _, _, _, _, _, hs9, rfl, j9, by omega, kp9 _ _ (fun z => xpc (by rw [z]; simp)) e8⟩
      · exact ⟨_, _, _, _, _, _, _, hs, rfl, j8, by omega, e8⟩
    · rintro σ H4 ⟨o4, o5, o6, o7, o8, o9, o10, hs, rfl, j4, hl4, e4⟩
      obtain ⟨T1, T2, A1, A2, Z1, Z2, N1, N2, B1, B2, SF, LO, K1, K2, M1, M2, RL⟩ := j4.args
      refine ⟨_, rfl, _, rfl, _, rfl, x, sl, T1, T2, ls, lh, A1, A2, Z1, Z2, N1, N2, B1, B2, hs, rfl, SF, LO, K1, K2, j4.held, by omega, j4.hd, j4.d2.symm, j4.d3.symm, M1, M2, RL, fun H5 hs5 kp5 EE hl5 HH => ⟨_, rfl, iteF ?_⟩⟩
      have j5 := j4.lh kp5 EE HH
      have i0 : ∀ {a b : V}, atI [a, b] 0 = some a := atI_nat (j := 0) rfl
      have i1 : ∀ {a b : V}, atI [a, b] 1 = some b := atI_nat (j := 1) rfl
      refine ⟨_, rfl, lh, rfl, ⟨_, SqL.of j5.held⟩, comp_pure_list (K := K) (fun _ => false) (fun v => v) (SqL.of j5.held) (by omega) (fun v R hv q => ?_) (fun v R _ e _ => absurd e Bool.false_ne_true) fun D hD => ?_⟩
      · obtain ⟨p, u, u', zs, rfl, ep, eu, eu', hk, _⟩ := j5.hd v hv
        exact ⟨_, rfl, p, _, _, _, rfl, rfl, SqT.of ep, i0, _, rfl, p, _, _, _, rfl, rfl, SqT.of ep, i1, neD_same (strs_dv eu) (strs_dv eu') (shaped_strs zs hk) ⟨_, rfl, q⟩⟩
      · have ef : List.map (fun v => v) (List.filter (fun _ => false) hs5) = ([] : List V) := by
          rw [List.filter_eq_nil_iff.mpr (fun _ _ => Bool.false_ne_true)]
          rfl
        refine ⟨Nat.zero_le _, fun ln hln => ⟨D, ln, [], rfl, rfl, SqL.of ?_, SqL.of upd_same, k _⟩⟩
        rw [upd_ne (ne_of_none upd_same hln), upd_same, ef]
theorem all_mk {l : PySem.W.OpenLaw} {w : World} {K : PySem.W.Frag} {h : Heap} {mg : Str → Option Value} {fa : Addr} (X : K.In h) (G : h.Ns mainGlobals mg) (hfa : mg "law" = some (.ref fa))
    {f_u_wall : Addr} {od_u_wall an_u_wall : Option Addr} {sl_u_wall : Array (Option Value)} {oc_u_wall kV_u_wall dc_u_wall pm_u_wall cd_u_wall ct_u_wall : Value}
    {f_is_whole : Addr} {od_is_whole an_is_whole : Option Addr} {sl_is_whole : Array (Option Value)} {oc_is_whole kV_is_whole dc_is_whole pm_is_whole cd_is_whole ct_is_whole : Value}
    {f_is_among : Addr} {od_is_among an_is_among : Option Addr} {sl_is_among : Array (Option Value)} {oc_is_among kV_is_among dc_is_among pm_is_among cd_is_among ct_is_among : Value}
    {f_is_time : Addr} {od_is_time an_is_time : Option Addr} {sl_is_time : Array (Option Value)} {oc_is_time kV_is_time dc_is_time pm_is_time cd_is_time ct_is_time : Value}
    {f_is_made_of : Addr} {od_is_made_of an_is_made_of : Option Addr} {sl_is_made_of : Array (Option Value)} {oc_is_made_of kV_is_made_of dc_is_made_of pm_is_made_of cd_is_made_of ct_is_made_of : Value}
    {f_figures_of : Addr} {od_figures_of an_figures_of : Option Addr} {sl_figures_of : Array (Option Value)} {oc_figures_of kV_figures_of dc_figures_of pm_figures_of cd_figures_of ct_figures_of : Value}
    {f_number_text : Addr} {od_number_text an_number_text : Option Addr} {sl_number_text : Array (Option Value)} {oc_number_text kV_number_text dc_number_text pm_number_text cd_number_text ct_number_text : Value}
    {f_line_of : Addr} {od_line_of an_line_of : Option Addr} {sl_line_of : Array (Option Value)} {oc_line_of kV_line_of dc_line_of pm_line_of cd_line_of ct_line_of : Value}
    {f_number_of : Addr} {od_number_of an_number_of : Option Addr} {sl_number_of : Array (Option Value)} {oc_number_of kV_number_of dc_number_of pm_number_of cd_number_of ct_number_of : Value}
    {f_end_line : Addr} {od_end_line an_end_line : Option Addr} {sl_end_line : Array (Option Value)} {oc_end_line kV_end_line dc_end_line pm_end_line cd_end_line ct_end_line : Value}
    {f_has_end : Addr} {od_has_end an_has_end : Option Addr} {sl_has_end : Array (Option Value)} {oc_has_end kV_has_end dc_has_end pm_has_end cd_has_end ct_has_end : Value}
    {f_numbers_of : Addr} {od_numbers_of an_numbers_of : Option Addr} {sl_numbers_of : Array (Option Value)} {oc_numbers_of kV_numbers_of dc_numbers_of pm_numbers_of cd_numbers_of ct_numbers_of : Value}
    {f_are_whole : Addr} {od_are_whole an_are_whole : Option Addr} {sl_are_whole : Array (Option Value)} {oc_are_whole kV_are_whole dc_are_whole pm_are_whole cd_are_whole ct_are_whole : Value}
    {f_clock_of : Addr} {od_clock_of an_clock_of : Option Addr} {sl_clock_of : Array (Option Value)} {oc_clock_of kV_clock_of dc_clock_of pm_clock_of cd_clock_of ct_clock_of : Value}
    {f_kept_count : Addr} {od_kept_count an_kept_count : Option Addr} {sl_kept_count : Array (Option Value)} {oc_kept_count kV_kept_count dc_kept_count pm_kept_count cd_kept_count ct_kept_count : Value}
    {c_Shelf : Addr}
    {f_Shelf___init__ : Addr} {od_Shelf___init__ an_Shelf___init__ : Option Addr} {sl_Shelf___init__ : Array (Option Value)} {oc_Shelf___init__ kV_Shelf___init__ dc_Shelf___init__ pm_Shelf___init__ cd_Shelf___init__ ct_Shelf___init__ : Value}
    {f_Shelf_write : Addr} {od_Shelf_write an_Shelf_write : Option Addr} {sl_Shelf_write : Array (Option Value)} {oc_Shelf_write kV_Shelf_write dc_Shelf_write pm_Shelf_write cd_Shelf_write ct_Shelf_write : Value}
    {f_Shelf_torn : Addr} {od_Shelf_torn an_Shelf_torn : Option Addr} {sl_Shelf_torn : Array (Option Value)} {oc_Shelf_torn kV_Shelf_torn dc_Shelf_torn pm_Shelf_torn cd_Shelf_torn ct_Shelf_torn : Value}
    {f_Shelf_last : Addr} {od_Shelf_last an_Shelf_last : Option Addr} {sl_Shelf_last : Array (Option Value)} {oc_Shelf_last kV_Shelf_last dc_Shelf_last pm_Shelf_last cd_Shelf_last ct_Shelf_last : Value}
    {f_Shelf_tell : Addr} {od_Shelf_tell an_Shelf_tell : Option Addr} {sl_Shelf_tell : Array (Option Value)} {oc_Shelf_tell kV_Shelf_tell dc_Shelf_tell pm_Shelf_tell cd_Shelf_tell ct_Shelf_tell : Value}
    {f_Shelf_name_late : Addr} {od_Shelf_name_late an_Shelf_name_late : Option Addr} {sl_Shelf_name_late : Array (Option Value)} {oc_Shelf_name_late kV_Shelf_name_late dc_Shelf_name_late pm_Shelf_name_late cd_Shelf_name_late ct_Shelf_name_late : Value}
    {f_u_law_keep : Addr} {od_u_law_keep an_u_law_keep : Option Addr} {sl_u_law_keep : Array (Option Value)} {oc_u_law_keep kV_u_law_keep dc_u_law_keep pm_u_law_keep cd_u_law_keep ct_u_law_keep : Value}
    {f_u_law_broken : Addr} {od_u_law_broken an_u_law_broken : Option Addr} {sl_u_law_broken : Array (Option Value)} {oc_u_law_broken kV_u_law_broken dc_u_law_broken pm_u_law_broken cd_u_law_broken ct_u_law_broken : Value}
    {f_u_law_due : Addr} {od_u_law_due an_u_law_due : Option Addr} {sl_u_law_due : Array (Option Value)} {oc_u_law_due kV_u_law_due dc_u_law_due pm_u_law_due cd_u_law_due ct_u_law_due : Value}
    {f_u_law_same : Addr} {od_u_law_same an_u_law_same : Option Addr} {sl_u_law_same : Array (Option Value)} {oc_u_law_same kV_u_law_same dc_u_law_same pm_u_law_same cd_u_law_same ct_u_law_same : Value}
    {f_u_law_right : Addr} {od_u_law_right an_u_law_right : Option Addr} {sl_u_law_right : Array (Option Value)} {oc_u_law_right kV_u_law_right dc_u_law_right pm_u_law_right cd_u_law_right ct_u_law_right : Value}
    {f_law : Addr} {od_law an_law : Option Addr} {sl_law : Array (Option Value)} {oc_law kV_law dc_law pm_law cd_law ct_law : Value}
    {c_FlowError : Addr}
    {c_Broken : Addr}
    {t_FIGURES : Tok}
    {t_MOST_SIGNS : Tok}
    {t_MOST_TIME : Tok}
    (a_u_wall : PySem.W.nsIn K mainGlobals "_wall" = some (some (.ref f_u_wall)))
    (l_u_wall : K.lookup f_u_wall = some ⟨oc_u_wall, od_u_wall, .func (PySem.W.fnOf "_wall" "_wall" (defArgs s_u_wall) (defBody s_u_wall) (defScope s_u_wall) .none kV_u_wall dc_u_wall pm_u_wall an_u_wall cd_u_wall ct_u_wall), sl_u_wall⟩)
    (c_u_wall : PySem.W.codeIn K cd_u_wall "_wall" = true)
    (k_u_wall : PySem.W.keepIn K (.ref f_u_wall) = true)
    (a_is_whole : PySem.W.nsIn K mainGlobals "is_whole" = some (some (.ref f_is_whole)))
    (l_is_whole : K.lookup f_is_whole = some ⟨oc_is_whole, od_is_whole, .func (PySem.W.fnOf "is_whole" "is_whole" (defArgs s_is_whole) (defBody s_is_whole) (defScope s_is_whole) .none kV_is_whole dc_is_whole pm_is_whole an_is_whole cd_is_whole ct_is_whole), sl_is_whole⟩)
    (c_is_whole : PySem.W.codeIn K cd_is_whole "is_whole" = true)
    (k_is_whole : PySem.W.keepIn K (.ref f_is_whole) = true)
    (a_is_among : PySem.W.nsIn K mainGlobals "is_among" = some (some (.ref f_is_among)))
    (l_is_among : K.lookup f_is_among = some ⟨oc_is_among, od_is_among, .func (PySem.W.fnOf "is_among" "is_among" (defArgs s_is_among) (defBody s_is_among) (defScope s_is_among) .none kV_is_among dc_is_among pm_is_among an_is_among cd_is_among ct_is_among), sl_is_among⟩)
    (c_is_among : PySem.W.codeIn K cd_is_among "is_among" = true)
    (k_is_among : PySem.W.keepIn K (.ref f_is_among) = true)
    (a_is_time : PySem.W.nsIn K mainGlobals "is_time" = some (some (.ref f_is_time)))
    (l_is_time : K.lookup f_is_time = some ⟨oc_is_time, od_is_time, .func (PySem.W.fnOf "is_time" "is_time" (defArgs s_is_time) (defBody s_is_time) (defScope s_is_time) .none kV_is_time dc_is_time pm_is_time an_is_time cd_is_time ct_is_time), sl_is_time⟩)
    (c_is_time : PySem.W.codeIn K cd_is_time "is_time" = true)
    (k_is_time : PySem.W.keepIn K (.ref f_is_time) = true)
    (a_is_made_of : PySem.W.nsIn K mainGlobals "is_made_of" = some (some (.ref f_is_made_of)))
    (l_is_made_of : K.lookup f_is_made_of = some ⟨oc_is_made_of, od_is_made_of, .func (PySem.W.fnOf "is_made_of" "is_made_of" (defArgs s_is_made_of) (defBody s_is_made_of) (defScope s_is_made_of) .none kV_is_made_of dc_is_made_of pm_is_made_of an_is_made_of cd_is_made_of ct_is_made_of), sl_is_made_of⟩)
    (c_is_made_of : PySem.W.codeIn K cd_is_made_of "is_made_of" = true)
    (k_is_made_of : PySem.W.keepIn K (.ref f_is_made_of) = true)
    (a_figures_of : PySem.W.nsIn K mainGlobals "figures_of" = some (some (.ref f_figures_of)))
    (l_figures_of : K.lookup f_figures_of = some ⟨oc_figures_of, od_figures_of, .func (PySem.W.fnOf "figures_of" "figures_of" (defArgs s_figures_of) (defBody s_figures_of) (defScope s_figures_of) .none kV_figures_of dc_figures_of pm_figures_of an_figures_of cd_figures_of ct_figures_of), sl_figures_of⟩)
    (c_figures_of : PySem.W.codeIn K cd_figures_of "figures_of" = true)
    (k_figures_of : PySem.W.keepIn K (.ref f_figures_of) = true)
    (a_number_text : PySem.W.nsIn K mainGlobals "number_text" = some (some (.ref f_number_text)))
    (l_number_text : K.lookup f_number_text = some ⟨oc_number_text, od_number_text, .func (PySem.W.fnOf "number_text" "number_text" (defArgs s_number_text) (defBody s_number_text) (defScope s_number_text) .none kV_number_text dc_number_text pm_number_text an_number_text cd_number_text ct_number_text), sl_number_text⟩)
    (c_number_text : PySem.W.codeIn K cd_number_text "number_text" = true)
    (k_number_text : PySem.W.keepIn K (.ref f_number_text) = true)
    (a_line_of : PySem.W.nsIn K mainGlobals "line_of" = some (some (.ref f_line_of)))
    (l_line_of : K.lookup f_line_of = some ⟨oc_line_of, od_line_of, .func (PySem.W.fnOf "line_of" "line_of" (defArgs s_line_of) (defBody s_line_of) (defScope s_line_of) .none kV_line_of dc_line_of pm_line_of an_line_of cd_line_of ct_line_of), sl_line_of⟩)
    (c_line_of : PySem.W.codeIn K cd_line_of "line_of" = true)
    (k_line_of : PySem.W.keepIn K (.ref f_line_of) = true)
    (a_number_of : PySem.W.nsIn K mainGlobals "number_of" = some (some (.ref f_number_of)))
    (l_number_of : K.lookup f_number_of = some ⟨oc_number_of, od_number_of, .func (PySem.W.fnOf "number_of" "number_of" (defArgs s_number_of) (defBody s_number_of) (defScope s_number_of) .none kV_number_of dc_number_of pm_number_of an_number_of cd_number_of ct_number_of), sl_number_of⟩)
    (c_number_of : PySem.W.codeIn K cd_number_of "number_of" = true)
    (k_number_of : PySem.W.keepIn K (.ref f_number_of) = true)
    (a_end_line : PySem.W.nsIn K mainGlobals "end_line" = some (some (.ref f_end_line)))
    (l_end_line : K.lookup f_end_line = some ⟨oc_end_line, od_end_line, .func (PySem.W.fnOf "end_line" "end_line" (defArgs s_end_line) (defBody s_end_line) (defScope s_end_line) .none kV_end_line dc_end_line pm_end_line an_end_line cd_end_line ct_end_line), sl_end_line⟩)
    (c_end_line : PySem.W.codeIn K cd_end_line "end_line" = true)
    (k_end_line : PySem.W.keepIn K (.ref f_end_line) = true)
    (a_has_end : PySem.W.nsIn K mainGlobals "has_end" = some (some (.ref f_has_end)))
    (l_has_end : K.lookup f_has_end = some ⟨oc_has_end, od_has_end, .func (PySem.W.fnOf "has_end" "has_end" (defArgs s_has_end) (defBody s_has_end) (defScope s_has_end) .none kV_has_end dc_has_end pm_has_end an_has_end cd_has_end ct_has_end), sl_has_end⟩)
    (c_has_end : PySem.W.codeIn K cd_has_end "has_end" = true)
    (k_has_end : PySem.W.keepIn K (.ref f_has_end) = true)
    (a_numbers_of : PySem.W.nsIn K mainGlobals "numbers_of" = some (some (.ref f_numbers_of)))
    (l_numbers_of : K.lookup f_numbers_of = some ⟨oc_numbers_of, od_numbers_of, .func (PySem.W.fnOf "numbers_of" "numbers_of" (defArgs s_numbers_of) (defBody s_numbers_of) (defScope s_numbers_of) .none kV_numbers_of dc_numbers_of pm_numbers_of an_numbers_of cd_numbers_of ct_numbers_of), sl_numbers_of⟩)
    (c_numbers_of : PySem.W.codeIn K cd_numbers_of "numbers_of" = true)
    (k_numbers_of : PySem.W.keepIn K (.ref f_numbers_of) = true)
    (a_are_whole : PySem.W.nsIn K mainGlobals "are_whole" = some (some (.ref f_are_whole)))
    (l_are_whole : K.lookup f_are_whole = some ⟨oc_are_whole, od_are_whole, .func (PySem.W.fnOf "are_whole" "are_whole" (defArgs s_are_whole) (defBody s_are_whole) (defScope s_are_whole) .none kV_are_whole dc_are_whole pm_are_whole an_are_whole cd_are_whole ct_are_whole), sl_are_whole⟩)
    (c_are_whole : PySem.W.codeIn K cd_are_whole "are_whole" = true)
    (k_are_whole : PySem.W.keepIn K (.ref f_are_whole) = true)
    (a_clock_of : PySem.W.nsIn K mainGlobals "clock_of" = some (some (.ref f_clock_of)))
    (l_clock_of : K.lookup f_clock_of = some ⟨oc_clock_of, od_clock_of, .func (PySem.W.fnOf "clock_of" "clock_of" (defArgs s_clock_of) (defBody s_clock_of) (defScope s_clock_of) .none kV_clock_of dc_clock_of pm_clock_of an_clock_of cd_clock_of ct_clock_of), sl_clock_of⟩)
    (c_clock_of : PySem.W.codeIn K cd_clock_of "clock_of" = true)
    (k_clock_of : PySem.W.keepIn K (.ref f_clock_of) = true)
    (a_kept_count : PySem.W.nsIn K mainGlobals "kept_count" = some (some (.ref f_kept_count)))
    (l_kept_count : K.lookup f_kept_count = some ⟨oc_kept_count, od_kept_count, .func (PySem.W.fnOf "kept_count" "kept_count" (defArgs s_kept_count) (defBody s_kept_count) (defScope s_kept_count) .none kV_kept_count dc_kept_count pm_kept_count an_kept_count cd_kept_count ct_kept_count), sl_kept_count⟩)
    (c_kept_count : PySem.W.codeIn K cd_kept_count "kept_count" = true)
    (k_kept_count : PySem.W.keepIn K (.ref f_kept_count) = true)
    (a_Shelf : PySem.W.nsIn K mainGlobals "Shelf" = some (some (.ref c_Shelf)))
    (a_Shelf___init__ : PySem.W.findIn K (.ref c_Shelf) "__init__" = some (some (.ref f_Shelf___init__)))
    (l_Shelf___init__ : K.lookup f_Shelf___init__ = some ⟨oc_Shelf___init__, od_Shelf___init__, .func (PySem.W.fnOf "__init__" "Shelf.__init__" (defArgs s_Shelf___init__) (defBody s_Shelf___init__) (defScope s_Shelf___init__) .none kV_Shelf___init__ dc_Shelf___init__ pm_Shelf___init__ an_Shelf___init__ cd_Shelf___init__ ct_Shelf___init__), sl_Shelf___init__⟩)
    (c_Shelf___init__ : PySem.W.codeIn K cd_Shelf___init__ "Shelf.__init__" = true)
    (k_Shelf___init__ : PySem.W.keepIn K (.ref f_Shelf___init__) = true)
    (a_Shelf_write : PySem.W.findIn K (.ref c_Shelf) "write" = some (some (.ref f_Shelf_write)))
    (l_Shelf_write : K.lookup f_Shelf_write = some ⟨oc_Shelf_write, od_Shelf_write, .func (PySem.W.fnOf "write" "Shelf.write" (defArgs s_Shelf_write) (defBody s_Shelf_write) (defScope s_Shelf_write) .none kV_Shelf_write dc_Shelf_write pm_Shelf_write an_Shelf_write cd_Shelf_write ct_Shelf_write), sl_Shelf_write⟩)
    (c_Shelf_write : PySem.W.codeIn K cd_Shelf_write "Shelf.write" = true)
    (k_Shelf_write : PySem.W.keepIn K (.ref f_Shelf_write) = true)
    (a_Shelf_torn : PySem.W.findIn K (.ref c_Shelf) "torn" = some (some (.ref f_Shelf_torn)))
    (l_Shelf_torn : K.lookup f_Shelf_torn = some ⟨oc_Shelf_torn, od_Shelf_torn, .func (PySem.W.fnOf "torn" "Shelf.torn" (defArgs s_Shelf_torn) (defBody s_Shelf_torn) (defScope s_Shelf_torn) .none kV_Shelf_torn dc_Shelf_torn pm_Shelf_torn an_Shelf_torn cd_Shelf_torn ct_Shelf_torn), sl_Shelf_torn⟩)
    (c_Shelf_torn : PySem.W.codeIn K cd_Shelf_torn "Shelf.torn" = true)
    (k_Shelf_torn : PySem.W.keepIn K (.ref f_Shelf_torn) = true)
    (a_Shelf_last : PySem.W.findIn K (.ref c_Shelf) "last" = some (some (.ref f_Shelf_last)))
    (l_Shelf_last : K.lookup f_Shelf_last = some ⟨oc_Shelf_last, od_Shelf_last, .func (PySem.W.fnOf "last" "Shelf.last" (defArgs s_Shelf_last) (defBody s_Shelf_last) (defScope s_Shelf_last) .none kV_Shelf_last dc_Shelf_last pm_Shelf_last an_Shelf_last cd_Shelf_last ct_Shelf_last), sl_Shelf_last⟩)
    (c_Shelf_last : PySem.W.codeIn K cd_Shelf_last "Shelf.last" = true)
    (k_Shelf_last : PySem.W.keepIn K (.ref f_Shelf_last) = true)
    (a_Shelf_tell : PySem.W.findIn K (.ref c_Shelf) "tell" = some (some (.ref f_Shelf_tell)))
    (l_Shelf_tell : K.lookup f_Shelf_tell = some ⟨oc_Shelf_tell, od_Shelf_tell, .func (PySem.W.fnOf "tell" "Shelf.tell" (defArgs s_Shelf_tell) (defBody s_Shelf_tell) (defScope s_Shelf_tell) .none kV_Shelf_tell dc_Shelf_tell pm_Shelf_tell an_Shelf_tell cd_Shelf_tell ct_Shelf_tell), sl_Shelf_tell⟩)
    (c_Shelf_tell : PySem.W.codeIn K cd_Shelf_tell "Shelf.tell" = true)
    (k_Shelf_tell : PySem.W.keepIn K (.ref f_Shelf_tell) = true)
    (a_Shelf_name_late : PySem.W.findIn K (.ref c_Shelf) "name_late" = some (some (.ref f_Shelf_name_late)))
    (l_Shelf_name_late : K.lookup f_Shelf_name_late = some ⟨oc_Shelf_name_late, od_Shelf_name_late, .func (PySem.W.fnOf "name_late" "Shelf.name_late" (defArgs s_Shelf_name_late) (defBody s_Shelf_name_late) (defScope s_Shelf_name_late) .none kV_Shelf_name_late dc_Shelf_name_late pm_Shelf_name_late an_Shelf_name_late cd_Shelf_name_late ct_Shelf_name_late), sl_Shelf_name_late⟩)
    (c_Shelf_name_late : PySem.W.codeIn K cd_Shelf_name_late "Shelf.name_late" = true)
    (k_Shelf_name_late : PySem.W.keepIn K (.ref f_Shelf_name_late) = true)
    (a_u_law_keep : PySem.W.nsIn K mainGlobals "_law_keep" = some (some (.ref f_u_law_keep)))
    (l_u_law_keep : K.lookup f_u_law_keep = some ⟨oc_u_law_keep, od_u_law_keep, .func (PySem.W.fnOf "_law_keep" "_law_keep" (defArgs s_u_law_keep) (defBody s_u_law_keep) (defScope s_u_law_keep) .none kV_u_law_keep dc_u_law_keep pm_u_law_keep an_u_law_keep cd_u_law_keep ct_u_law_keep), sl_u_law_keep⟩)
    (c_u_law_keep : PySem.W.codeIn K cd_u_law_keep "_law_keep" = true)
    (k_u_law_keep : PySem.W.keepIn K (.ref f_u_law_keep) = true)
    (a_u_law_broken : PySem.W.nsIn K mainGlobals "_law_broken" = some (some (.ref f_u_law_broken)))
    (l_u_law_broken : K.lookup f_u_law_broken = some ⟨oc_u_law_broken, od_u_law_broken, .func (PySem.W.fnOf "_law_broken" "_law_broken" (defArgs s_u_law_broken) (defBody s_u_law_broken) (defScope s_u_law_broken) .none kV_u_law_broken dc_u_law_broken pm_u_law_broken an_u_law_broken cd_u_law_broken ct_u_law_broken), sl_u_law_broken⟩)
    (c_u_law_broken : PySem.W.codeIn K cd_u_law_broken "_law_broken" = true)
    (k_u_law_broken : PySem.W.keepIn K (.ref f_u_law_broken) = true)
    (a_u_law_due : PySem.W.nsIn K mainGlobals "_law_due" = some (some (.ref f_u_law_due)))
    (l_u_law_due : K.lookup f_u_law_due = some ⟨oc_u_law_due, od_u_law_due, .func (PySem.W.fnOf "_law_due" "_law_due" (defArgs s_u_law_due) (defBody s_u_law_due) (defScope s_u_law_due) .none kV_u_law_due dc_u_law_due pm_u_law_due an_u_law_due cd_u_law_due ct_u_law_due), sl_u_law_due⟩)
    (c_u_law_due : PySem.W.codeIn K cd_u_law_due "_law_due" = true)
    (k_u_law_due : PySem.W.keepIn K (.ref f_u_law_due) = true)
    (a_u_law_same : PySem.W.nsIn K mainGlobals "_law_same" = some (some (.ref f_u_law_same)))
    (l_u_law_same : K.lookup f_u_law_same = some ⟨oc_u_law_same, od_u_law_same, .func (PySem.W.fnOf "_law_same" "_law_same" (defArgs s_u_law_same) (defBody s_u_law_same) (defScope s_u_law_same) .none kV_u_law_same dc_u_law_same pm_u_law_same an_u_law_same cd_u_law_same ct_u_law_same), sl_u_law_same⟩)
    (c_u_law_same : PySem.W.codeIn K cd_u_law_same "_law_same" = true)
    (k_u_law_same : PySem.W.keepIn K (.ref f_u_law_same) = true)
    (a_u_law_right : PySem.W.nsIn K mainGlobals "_law_right" = some (some (.ref f_u_law_right)))
    (l_u_law_right : K.lookup f_u_law_right = some ⟨oc_u_law_right, od_u_law_right, .func (PySem.W.fnOf "_law_right" "_law_right" (defArgs s_u_law_right) (defBody s_u_law_right) (defScope s_u_law_right) .none kV_u_law_right dc_u_law_right pm_u_law_right an_u_law_right cd_u_law_right ct_u_law_right), sl_u_law_right⟩)
    (c_u_law_right : PySem.W.codeIn K cd_u_law_right "_law_right" = true)
    (k_u_law_right : PySem.W.keepIn K (.ref f_u_law_right) = true)
    (a_law : PySem.W.nsIn K mainGlobals "law" = some (some (.ref f_law)))
    (l_law : K.lookup f_law = some ⟨oc_law, od_law, .func (PySem.W.fnOf "law" "law" (defArgs s_law) (defBody s_law) (defScope s_law) .none kV_law dc_law pm_law an_law cd_law ct_law), sl_law⟩)
    (c_law : PySem.W.codeIn K cd_law "law" = true)
    (k_law : PySem.W.keepIn K (.ref f_law) = true)
    (a_FlowError : PySem.W.nsIn K mainGlobals "FlowError" = some (some (.ref c_FlowError)))
    (x_FlowError : PySem.W.excIn K c_FlowError [.type "ValueError", .type "Exception", .type "BaseException", .type "object"] "ValueError.__new__" = true)
    (a_Broken : PySem.W.nsIn K mainGlobals "Broken" = some (some (.ref c_Broken)))
    (x_Broken : PySem.W.excIn K c_Broken [.type "ValueError", .type "Exception", .type "BaseException", .type "object"] "ValueError.__new__" = true)
    (pg_Shelf : PySem.W.plainGet K c_Shelf Str.empty = true)
    (hd_Shelf : PySem.W.hasDictIn K c_Shelf = true)
    (po_Shelf : PySem.W.plainOver K c_Shelf = true)
    (sa_Shelf : PySem.W.findIn K (.ref c_Shelf) "__setattr__" = some (some (.builtin "object.__setattr__")))
    (n_Shelf_slots : PySem.W.findIn K (.ref c_Shelf) "slots" = some none)
    (n_Shelf_rows : PySem.W.findIn K (.ref c_Shelf) "rows" = some none)
    (n_Shelf_late : PySem.W.findIn K (.ref c_Shelf) "late" = some none)
    (fn_Shelf___init__ : PySem.W.isFn K (.ref f_Shelf___init__) = true)
    (fn_Shelf_write : PySem.W.isFn K (.ref f_Shelf_write) = true)
    (fn_Shelf_torn : PySem.W.isFn K (.ref f_Shelf_torn) = true)
    (fn_Shelf_last : PySem.W.isFn K (.ref f_Shelf_last) = true)
    (fn_Shelf_tell : PySem.W.isFn K (.ref f_Shelf_tell) = true)
    (fn_Shelf_name_late : PySem.W.isFn K (.ref f_Shelf_name_late) = true)
    (mks_Shelf : PySem.W.makesIn K c_Shelf = true)
    (kp_Shelf : PySem.W.keepIn K (.ref c_Shelf) = true)
    (g_FIGURES : PySem.W.nsIn K mainGlobals "FIGURES" = some (some (.str "0123456789" t_FIGURES)))
    (g_MOST_SIGNS : PySem.W.nsIn K mainGlobals "MOST_SIGNS" = some (some (.int 60 t_MOST_SIGNS)))
    (g_MOST_TIME : PySem.W.nsIn K mainGlobals "MOST_TIME" = some (some (.int 1000000000 t_MOST_TIME)))
    (z_ValueError : PySem.W.nsIn K mainGlobals "ValueError" = some none)
    (z_all : PySem.W.nsIn K mainGlobals "all" = some none)
    (z_bool : PySem.W.nsIn K mainGlobals "bool" = some none)
    (z_int : PySem.W.nsIn K mainGlobals "int" = some none)
    (z_isinstance : PySem.W.nsIn K mainGlobals "isinstance" = some none)
    (z_len : PySem.W.nsIn K mainGlobals "len" = some none)
    (z_list : PySem.W.nsIn K mainGlobals "list" = some none)
    (z_max : PySem.W.nsIn K mainGlobals "max" = some none)
    (z_min : PySem.W.nsIn K mainGlobals "min" = some none)
    (z_range : PySem.W.nsIn K mainGlobals "range" = some none)
    (z_reversed : PySem.W.nsIn K mainGlobals "reversed" = some none)
    (z_str : PySem.W.nsIn K mainGlobals "str" = some none)
    (z_tuple : PySem.W.nsIn K mainGlobals "tuple" = some none)
    : ∃ fd : FuncData, (∀ (s : Shared) (v : Value), BindsTo s fd ⟨[v], []⟩ [("_law_script", v)]) ∧ ∀ base : Heap, K.In base → base.Ns mainGlobals mg → FnOk l.prog w K mg base CX0 depth fa fd ["_law_script"] (sp_law K) := by
  have e := hfa.symm.trans (PySem.W.mg_of X G a_law)
  cases e
  exact ⟨_, fun s v => .of_eq rfl, fun base _ _ => ok_law (tx_mk X G a_u_wall l_u_wall c_u_wall k_u_wall a_is_whole l_is_whole c_is_whole k_is_whole a_is_among l_is_among c_is_among k_is_among a_is_time l_is_time c_is_time k_is_time a_is_made_of l_is_made_of c_is_made_of k_is_made_of a_figures_of l_figures_of c_figures_of k_figures_of a_number_text l_number_text c_number_text k_number_text a_line_of l_line_of c_line_of k_line_of a_number_of l_number_of c_number_of k_number_of a_end_line l_end_line c_end_line k_end_line a_has_end l_has_end c_has_end k_has_end a_numbers_of l_numbers_of c_numbers_of k_numbers_of a_are_whole l_are_whole c_are_whole k_are_whole a_clock_of l_clock_of c_clock_of k_clock_of a_kept_count l_kept_count c_kept_count k_kept_count a_Shelf a_Shelf___init__ l_Shelf___init__ c_Shelf___init__ k_Shelf___init__ a_Shelf_write l_Shelf_write c_Shelf_write k_Shelf_write a_Shelf_torn l_Shelf_torn c_Shelf_torn k_Shelf_torn a_Shelf_last l_Shelf_last c_Shelf_last k_Shelf_last a_Shelf_tell l_Shelf_tell c_Shelf_tell k_Shelf_tell a_Shelf_name_late l_Shelf_name_late c_Shelf_name_late k_Shelf_name_late a_u_law_keep l_u_law_keep c_u_law_keep k_u_law_keep a_u_law_broken l_u_law_broken c_u_law_broken k_u_law_broken a_u_law_due l_u_law_due c_u_law_due k_u_law_due a_u_law_same l_u_law_same c_u_law_same k_u_law_same a_u_law_right l_u_law_right c_u_law_right k_u_law_right a_law l_law c_law k_law a_FlowError x_FlowError a_Broken x_Broken pg_Shelf hd_Shelf po_Shelf sa_Shelf n_Shelf_slots n_Shelf_rows n_Shelf_late fn_Shelf___init__ fn_Shelf_write fn_Shelf_torn fn_Shelf_last fn_Shelf_tell fn_Shelf_name_late mks_Shelf kp_Shelf g_FIGURES g_MOST_SIGNS g_MOST_TIME z_ValueError z_all z_bool z_int z_isinstance z_len z_list z_max z_min z_range z_reversed z_str z_tuple)⟩
end K24
open PySem PySem.W PyProof.Rows
set_option maxRecDepth 100000 in
set_option maxHeartbeats 0 in
theorem PySem.Challenge.cw_brooktally_k24_the_shelf_holds : PySem.Challenge.rw_brooktally_k24_the_shelf.Holds := by
  w_on; o_law; k_head; (case hw => w_witness2)
  k_fill
  refine L2.walk_ofK (l := PySem.Challenge.rw_brooktally_k24_the_shelf) (n := 63) (k := K24.depth) (x := "_law_script") (CX := L2.CX0) (sp := K24.sp_law) rfl (by decide) rfl ⟨rfl, by decide, by decide⟩ (fun w h Y => PySem.W.kIn_of Y) ?F K24.law_sp (fun _ _ _ _ z => z)
  case F =>
    intro w mg fa h KX G hmg
    refine' K24.all_mk KX G hmg ?a_u_wall ?l_u_wall ?c_u_wall ?k_u_wall ?a_is_whole ?l_is_whole ?c_is_whole ?k_is_whole ?a_is_among ?l_is_among ?c_is_among ?k_is_among ?a_is_time ?l_is_time ?c_is_time ?k_is_time ?a_is_made_of ?l_is_made_of ?c_is_made_of ?k_is_made_of ?a_figures_of ?l_figures_of ?c_figures_of ?k_figures_of ?a_number_text ?l_number_text ?c_number_text ?k_number_text ?a_line_of ?l_line_of ?c_line_of ?k_line_of ?a_number_of ?l_number_of ?c_number_of ?k_number_of ?a_end_line ?l_end_line ?c_end_line ?k_end_line ?a_has_end ?l_has_end ?c_has_end ?k_has_end ?a_numbers_of ?l_numbers_of ?c_numbers_of ?k_numbers_of ?a_are_whole ?l_are_whole ?c_are_whole ?k_are_whole ?a_clock_of ?l_clock_of ?c_clock_of ?k_clock_of ?a_kept_count ?l_kept_count ?c_kept_count ?k_kept_count ?a_Shelf ?a_Shelf___init__ ?l_Shelf___init__ ?c_Shelf___init__ ?k_Shelf___init__ ?a_Shelf_write ?l_Shelf_write ?c_Shelf_write ?k_Shelf_write ?a_Shelf_torn ?l_Shelf_torn ?c_Shelf_torn ?k_Shelf_torn ?a_Shelf_last ?l_Shelf_last ?c_Shelf_last ?k_Shelf_last ?a_Shelf_tell ?l_Shelf_tell ?c_Shelf_tell ?k_Shelf_tell ?a_Shelf_name_late ?l_Shelf_name_late ?c_Shelf_name_late ?k_Shelf_name_late ?a_u_law_keep ?l_u_law_keep ?c_u_law_keep ?k_u_law_keep ?a_u_law_broken ?l_u_law_broken ?c_u_law_broken ?k_u_law_broken ?a_u_law_due ?l_u_law_due ?c_u_law_due ?k_u_law_due ?a_u_law_same ?l_u_law_same ?c_u_law_same ?k_u_law_same ?a_u_law_right ?l_u_law_right ?c_u_law_right ?k_u_law_right ?a_law ?l_law ?c_law ?k_law ?a_FlowError ?x_FlowError ?a_Broken ?x_Broken ?pg_Shelf ?hd_Shelf ?po_Shelf ?sa_Shelf ?n_Shelf_slots ?n_Shelf_rows ?n_Shelf_late ?fn_Shelf___init__ ?fn_Shelf_write ?fn_Shelf_torn ?fn_Shelf_last ?fn_Shelf_tell ?fn_Shelf_name_late ?mks_Shelf ?kp_Shelf ?g_FIGURES ?g_MOST_SIGNS ?g_MOST_TIME ?z_ValueError ?z_all ?z_bool ?z_int ?z_isinstance ?z_len ?z_list ?z_max ?z_min ?z_range ?z_reversed ?z_str ?z_tuple
    (case a_u_wall => k_is)
    (case l_u_wall => k_is)
    (case c_u_wall => k_is)
    (case k_u_wall => k_is)
    (case a_is_whole => k_is)
    (case l_is_whole => k_is)
    (case c_is_whole => k_is)
    (case k_is_whole => k_is)
    (case a_is_among => k_is)
    (case l_is_among => k_is)
    (case c_is_among => k_is)
    (case k_is_among => k_is)
    (case a_is_time => k_is)
    (case l_is_time => k_is)
    (case c_is_time => k_is)
    (case k_is_time => k_is)
    (case a_is_made_of => k_is)
    (case l_is_made_of => k_is)
    (case c_is_made_of => k_is)
    (case k_is_made_of => k_is)
    (case a_figures_of => k_is)
    (case l_figures_of => k_is)
    (case c_figures_of => k_is)
    (case k_figures_of => k_is)
    (case a_number_text => k_is)
    (case l_number_text => k_is)
    (case c_number_text => k_is)
    (case k_number_text => k_is)
    (case a_line_of => k_is)
    (case l_line_of => k_is)
    (case c_line_of => k_is)
    (case k_line_of => k_is)
    (case a_number_of => k_is)
    (case l_number_of => k_is)
    (case c_number_of => k_is)
    (case k_number_of => k_is)
    (case a_end_line => k_is)
    (case l_end_line => k_is)
    (case c_end_line => k_is)
    (case k_end_line => k_is)
    (case a_has_end => k_is)
    (case l_has_end => k_is)
    (case c_has_end => k_is)
    (case k_has_end => k_is)
    (case a_numbers_of => k_is)
    (case l_numbers_of => k_is)
    (case c_numbers_of => k_is)
    (case k_numbers_of => k_is)
    (case a_are_whole => k_is)
    (case l_are_whole => k_is)
    (case c_are_whole => k_is)
    (case k_are_whole => k_is)
    (case a_clock_of => k_is)
    (case l_clock_of => k_is)
    (case c_clock_of => k_is)
    (case k_clock_of => k_is)
    (case a_kept_count => k_is)
    (case l_kept_count => k_is)
    (case c_kept_count => k_is)
    (case k_kept_count => k_is)
    (case a_Shelf => k_is)
    (case a_Shelf___init__ => k_is)
    (case l_Shelf___init__ => k_is)
    (case c_Shelf___init__ => k_is)
    (case k_Shelf___init__ => k_is)
    (case a_Shelf_write => k_is)
    (case l_Shelf_write => k_is)
    (case c_Shelf_write => k_is)
    (case k_Shelf_write => k_is)
    (case a_Shelf_torn => k_is)
    (case l_Shelf_torn => k_is)
    (case c_Shelf_torn => k_is)
    (case k_Shelf_torn => k_is)
    (case a_Shelf_last => k_is)
    (case l_Shelf_last => k_is)
    (case c_Shelf_last => k_is)
    (case k_Shelf_last => k_is)
    (case a_Shelf_tell => k_is)
    (case l_Shelf_tell => k_is)
    (case c_Shelf_tell => k_is)
    (case k_Shelf_tell => k_is)
    (case a_Shelf_name_late => k_is)
    (case l_Shelf_name_late => k_is)
    (case c_Shelf_name_late => k_is)
    (case k_Shelf_name_late => k_is)
    (case a_u_law_keep => k_is)
    (case l_u_law_keep => k_is)
    (case c_u_law_keep => k_is)
    (case k_u_law_keep => k_is)
    (case a_u_law_broken => k_is)
    (case l_u_law_broken => k_is)
    (case c_u_law_broken => k_is)
    (case k_u_law_broken => k_is)
    (case a_u_law_due => k_is)
    (case l_u_law_due => k_is)
    (case c_u_law_due => k_is)
    (case k_u_law_due => k_is)
    (case a_u_law_same => k_is)
    (case l_u_law_same => k_is)
    (case c_u_law_same => k_is)
    (case k_u_law_same => k_is)
    (case a_u_law_right => k_is)
    (case l_u_law_right => k_is)
    (case c_u_law_right => k_is)
    (case k_u_law_right => k_is)
    (case a_law => k_is)
    (case l_law => k_is)
    (case c_law => k_is)
    (case k_law => k_is)
    (case a_FlowError => k_is)
    (case x_FlowError => k_exc)
    (case a_Broken => k_is)
    (case x_Broken => k_exc)
    (case pg_Shelf => k_is)
    (case hd_Shelf => k_is)
    (case po_Shelf => k_is)
    (case sa_Shelf => k_is)
    (case n_Shelf_slots => k_is)
    (case n_Shelf_rows => k_is)
    (case n_Shelf_late => k_is)
    (case fn_Shelf___init__ => k_is)
    (case fn_Shelf_write => k_is)
    (case fn_Shelf_torn => k_is)
    (case fn_Shelf_last => k_is)
    (case fn_Shelf_tell => k_is)
    (case fn_Shelf_name_late => k_is)
    (case mks_Shelf => k_is)
    (case kp_Shelf => k_is)
    (case g_FIGURES => k_is)
    (case g_MOST_SIGNS => k_is)
    (case g_MOST_TIME => k_is)
    (case z_ValueError => k_is)
    (case z_all => k_is)
    (case z_bool => k_is)
    (case z_int => k_is)
    (case z_isinstance => k_is)
    (case z_len => k_is)
    (case z_list => k_is)
    (case z_max => k_is)
    (case z_min => k_is)
    (case z_range => k_is)
    (case z_reversed => k_is)
    (case z_str => k_is)
    (case z_tuple => k_is)
