import PyProof.Rows.All
import Wide.All
import OpenK.AllK
import Wide.FinOn
import Lean
import PyProof.EqAt
import PyProof.EqKinds
import PyProof.TupleCall
import PySem.Challenge.RW_brooktally_k19_what_an_event_brings
set_option Elab.async false
set_option linter.all false
set_option maxRecDepth 100000
namespace L2
open PySem PySem.Spec PyProof.Rows
abbrev Key := Sum Int Str
def keyIs : Key → Value → Bool
  | .inl k, v => Value.isInt k v
  | .inr x, v => Value.isStrOf x v
def keyH (w : World) : Key → Int
  | .inl k => hashInt k
  | .inr x => hashStr w x
theorem keyIs_shape : ∀ {k : Key} {v : Value}, keyIs k v = true → (∃ i t, k = Sum.inl i ∧ v = Value.int i t) ∨ (∃ x t, k = Sum.inr x ∧ v = Value.str x t)
  | .inl i, v, h => by
    obtain ⟨t, e⟩ := Value.isInt_shape (k := i) (v := v) h
    exact .inl ⟨i, t, rfl, e⟩
  | .inr x, v, h => by
    obtain ⟨t, e⟩ := Value.isStrOf_shape (x := x) (v := v) h
    exact .inr ⟨x, t, rfl, e⟩
theorem keyIs_int (i : Int) (t : Tok) : keyIs (.inl i) (.int i t) = true := by simp [keyIs, Value.isInt]
theorem keyIs_str (x : Str) (t : Tok) : keyIs (.inr x) (.str x t) = true := by simp [keyIs, Value.isStrOf]
theorem key_ll (a b : Int) : decide ((Sum.inl a : Key) = Sum.inl b) = (a == b) := by
  by_cases e : a = b
  · subst e; simp
  · have h : ¬ (Sum.inl a : Key) = Sum.inl b := fun q => e (Sum.inl.inj q)
    rw [decide_eq_false h]
    exact (beq_eq_false_iff_ne.mpr e).symm
theorem key_rr (a b : Str) : decide ((Sum.inr a : Key) = Sum.inr b) = decide (a = b) := by
  by_cases e : a = b
  · subst e; simp
  · have h : ¬ (Sum.inr a : Key) = Sum.inr b := fun q => e (Sum.inr.inj q)
    rw [decide_eq_false h, decide_eq_false e]
theorem key_lr (a : Int) (b : Str) : decide ((Sum.inl a : Key) = Sum.inr b) = false := decide_eq_false (fun q => nomatch q)
theorem key_rl (a : Str) (b : Int) : decide ((Sum.inr a : Key) = Sum.inl b) = false := decide_eq_false (fun q => nomatch q)
def mixKind (prog : Program) (w : World) : PySem.KeyKind prog w Key where
  is := keyIs
  hash := keyH w
  inj := fun v a b ha hb => by
    rcases keyIs_shape ha with ⟨i, t, rfl, rfl⟩ | ⟨x, t, rfl, rfl⟩
    · rcases keyIs_shape hb with ⟨j, u, rfl, e⟩ | ⟨y, u, rfl, e⟩
      · injection e with e1 _; rw [e1]
      · exact nomatch e
    · rcases keyIs_shape hb with ⟨j, u, rfl, e⟩ | ⟨y, u, rfl, e⟩
      · exact nomatch e
      · injection e with e1 _; rw [e1]
  byValue := fun k v h => by
    rcases keyIs_shape h with ⟨i, t, rfl, rfl⟩ | ⟨x, t, rfl, rfl⟩ <;> rfl
  pyHash := fun hv h => by
    rcases keyIs_shape hv with ⟨i, t, rfl, rfl⟩ | ⟨x, t, rfl, rfl⟩
    · exact wpAny_pyHash_int h
    · exact wpAny_pyHash_str h
  eqBool := fun hu hv h => by
    rcases keyIs_shape hu with ⟨i, t, rfl, rfl⟩ | ⟨x, t, rfl, rfl⟩
    · rcases keyIs_shape hv with ⟨j, u, rfl, rfl⟩ | ⟨y, u, rfl, rfl⟩
      · rw [key_ll] at h; exact wpAny_eqBool_int h
      · rw [key_lr] at h; exact SeqAt.EqAt.int_str i t y u _ _ _ _ h
    · rcases keyIs_shape hv with ⟨j, u, rfl, rfl⟩ | ⟨y, u, rfl, rfl⟩
      · rw [key_rl] at h; exact SeqAt.EqAt.str_int x t j u _ _ _ _ h
      · rw [key_rr] at h; exact wpAny_eqBool_str h
  «strs» := fun k x t v h => by
    rcases keyIs_shape h with ⟨i, u, rfl, e⟩ | ⟨y, u, rfl, e⟩
    · exact nomatch e
    · injection e with e1 _
      subst e1
      cases v <;> rfl
theorem mixKind_int (prog : Program) (w : World) (i : Int) (t : Tok) : (mixKind prog w).is (.inl i) (.int i t) = true := keyIs_int i t
theorem mixKind_str (prog : Program) (w : World) (x : Str) (t : Tok) : (mixKind prog w).is (.inr x) (.str x t) = true := keyIs_str x t
end L2
namespace L2
open PySem PySem.Spec PyProof.Rows
inductive V where
  | non | bl (b : Bool) | int (i : Int) | str (x : Str) | byt (b : Array UInt8) | flt (b : UInt64) | ref (a : Addr) | ty (n : String)
  deriving DecidableEq
def RelV : V → Value → Prop
  | .non, u => u = Value.none
  | .bl b, u => u = Value.bool b
  | .int i, u => ∃ t, u = Value.int i t
  | .str x, u => ∃ t, u = Value.str x t
  | .byt b, u => ∃ t, u = Value.bytes b t
  | .flt b, u => ∃ t, u = Value.float b t
  | .ref a, u => u = Value.ref a
  | .ty n, u => u = Value.type n
abbrev Vals : List V → List Value → Prop := Paired RelV
theorem Vals.length {xs : List V} {us : List Value} (r : Vals xs us) : xs.length = us.length := Paired.length r
theorem Vals.get : ∀ {xs : List V} {us : List Value} {i : Nat} {x : V}, Vals xs us → xs[i]? = some x → ∃ u, us[i]? = some u ∧ RelV x u
  | _, _, _, _, .nil, e => by simp at e
  | _, _, 0, _, .cons r _, e => by simp at e; subst e; exact ⟨_, rfl, r⟩
  | _, _, i + 1, x, .cons _ t, e => by
    obtain ⟨u, h1, h2⟩ := Vals.get (i := i) (x := x) t (by simpa using e)
    exact ⟨u, by simpa using h1, h2⟩
theorem Vals.set {x : V} {u : Value} (r : RelV x u) : ∀ {xs : List V} {us : List Value} (i : Nat), Vals xs us → Vals (xs.set i x) (us.set i u)
  | _, _, _, .nil => .nil
  | _, _, 0, .cons _ t => .cons r t
  | _, _, i + 1, .cons q t => .cons q (Vals.set r i t)
theorem Vals.append : ∀ {xs ys : List V} {us ws : List Value}, Vals xs us → Vals ys ws → Vals (xs ++ ys) (us ++ ws)
  | _, _, _, _, .nil, s => s
  | _, _, _, _, .cons r t, s => .cons r (Vals.append t s)
theorem Vals.take : ∀ {xs : List V} {us : List Value} (n : Nat), Vals xs us → Vals (xs.take n) (us.take n)
  | _, _, 0, _ => .nil
  | _, _, _ + 1, .nil => .nil
  | _, _, n + 1, .cons r t => .cons r (Vals.take n t)
theorem Vals.drop : ∀ {xs : List V} {us : List Value} (n : Nat), Vals xs us → Vals (xs.drop n) (us.drop n)
  | _, _, 0, r => r
  | _, _, _ + 1, .nil => .nil
  | _, _, n + 1, .cons _ t => Vals.drop n t
theorem Vals.none_of : ∀ {xs : List V} {us : List Value} {i : Nat}, Vals xs us → xs[i]? = none → us[i]? = none := fun {xs us i} r e => by
  have h1 := r.length
  have h2 : xs.length ≤ i := List.getElem?_eq_none_iff.mp e
  exact List.getElem?_eq_none_iff.mpr (by omega)
def RelO : Option V → Option Value → Prop
  | some v, some u => RelV v u
  | none, none => True
  | _, _ => False
def KV {κ : Type} : List (κ × V) → List (κ × Value) → Prop := Paired fun (p : κ × V) (q : κ × Value) => p.1 = q.1 ∧ RelV p.2 q.2
def kV : Key → V
  | .inl i => .int i
  | .inr x => .str x
inductive HO where
  | lst (xs : List V)
  | tup (xs : List V)
  | dK (kvs : List (Key × V)) | dT (kvs : List (List Key × V))
  | set (S : Int → Bool) (n : Nat)
  | ins (C dx : Addr) (fs : List (Str × V))
  | own (x : Addr)
  | xd (fs : List (Str × V))
  | met (f x : Addr)
  | rng (lo hi : Int)
  | frz (o : Obj) (u : HO)
  | tbl (ps : Array Value)
  | ext (φ : Heap → Prop)
abbrev Hp := Addr → Option HO
def upd (H : Hp) (a : Addr) (o : HO) : Hp := fun b => if b = a then some o else H b
theorem upd_same {H : Hp} {a : Addr} {o : HO} : upd H a o a = some o := by unfold upd; rw [if_pos rfl]
theorem upd_ne {H : Hp} {a b : Addr} {o : HO} (h : b ≠ a) : upd H a o b = H b := by unfold upd; rw [if_neg h]
theorem ne_of {H : Hp} {a b : Addr} {o u : HO} (h : H a = some o) (h' : H b = some u) (d : o ≠ u) : a ≠ b := by
  intro e; subst e; rw [h] at h'; exact d (Option.some.inj h')
theorem ne_of_none {H : Hp} {a b : Addr} {o : HO} (h : H a = some o) (h' : H b = none) : a ≠ b := by
  intro e; subst e; rw [h] at h'; cases h'
section
variable (P : Program) (w : World)
def ObjOk (H : Hp) (h : Heap) (a : Addr) : HO → Prop
  | .lst xs => xs.length ≤ sizeLine ∧ ∃ (its : List Value) (n : Nat), Vals xs its ∧ h.get? a = some { cls := .type "list", data := .seq its.toArray n }
  | .tup xs => xs.length ≤ sizeLine ∧ ∃ its : List Value, Vals xs its ∧ IsTup h a its.toArray
  | .dK kvs => kvs.length ≤ sizeLine ∧ (a == sysModules) = false ∧ ∃ vs, KV kvs vs ∧ h.DictOf (mixKind P w) a vs
  | .dT kvs => kvs.length ≤ sizeLine ∧ (a == sysModules) = false ∧ ∃ xs : List (List Key × Addr × Value),
      Paired (fun (p : List Key × V) (q : List Key × Addr × Value) => p.1 = q.1 ∧ H q.2.1 = some (.tup (p.1.map kV)) ∧ RelV p.2 q.2.2) kvs xs ∧
      ∃ o es ep, h.get? a = some o ∧ o.ExactDict ∧ o.data = .dict es ep ∧ es.toList = xs.map (entryOfKey (tupleKind (mixKind P w))) ∧ (xs.map (·.1)).Nodup
  | .set S n => h.SetOf (intKind P w) a S n
  | .ins C dx fs => H dx = some (.own a) ∧ fs.length ≤ 1000 ∧ dx ≠ a ∧ h.get? a = some (PySem.W.instObj C dx) ∧
      ∃ mA, h.Ns1 dx mA ∧ (∀ f, RelO (fs.lookup f) (mA f)) ∧ PySem.Within mA (fs.map (·.1))
  | .own _ => ∃ o, h.get? a = some o
  | .xd fs => ∃ mA, h.Ns1 a mA ∧ ∀ f, RelO (fs.lookup f) (mA f)
  | .rng lo hi => ∃ t u v, h.get? a = some { cls := .type "range", data := .fields #[.int lo t, .int hi u, .int 1 v] }
  | .frz o u => h.get? a = some o ∧ ObjOk H h a u
  | .tbl ps => h.get? a = some { cls := .none, data := .fields ps }
  | .met f x => h.get? a = some (PySem.W.methodObj (.ref f) (.ref x))
  | .ext φ => φ h ∧ (∃ o, h.get? a = some o) ∧ ∀ h1 h2 : Heap, φ h1 → (∀ o, h1.get? a = some o → h2.get? a = some o) → φ h2
def HOk (H : Hp) (h : Heap) : Prop := ∀ a o, H a = some o → ObjOk P w H h a o
end
section
variable {P : Program} {w : World} {H H' : Hp} {h h' : Heap} {a : Addr} {o : HO}
theorem ObjOk.lt (x : ObjOk P w H h a o) : a < h.objs.size := by
  cases o with
  | lst xs => obtain ⟨_, _, _, _, e⟩ := x; exact Heap.lt_size e
  | tup xs => obtain ⟨_, _, _, p⟩ := x; exact p.lt
  | dK kvs => obtain ⟨_, _, _, _, o, _, _, e, _⟩ := x; exact Heap.lt_size e
  | dT kvs => obtain ⟨_, _, _, _, o, _, _, e, _⟩ := x; exact Heap.lt_size e
  | set S n => obtain ⟨o, _, _, _, e, _⟩ := x; exact Heap.lt_size e
  | ins C dx fs => obtain ⟨_, _, _, e, _⟩ := x; exact Heap.lt_size e
  | own y => obtain ⟨_, e⟩ := x; exact Heap.lt_size e
  | xd fs => obtain ⟨_, ⟨_, _, _, e, _⟩, _⟩ := x; exact Heap.lt_size e
  | rng lo hi => obtain ⟨_, _, _, e⟩ := x; exact Heap.lt_size e
  | frz ob u => obtain ⟨e, _⟩ := x; exact Heap.lt_size e
  | tbl ps => exact Heap.lt_size (show h.get? a = some _ from x)
  | met f y => exact Heap.lt_size (show h.get? a = some _ from x)
  | ext φ => obtain ⟨_, ⟨_, e⟩, _⟩ := x; exact Heap.lt_size e
theorem Paired.mapP {α β : Type} {F G : α → β → Prop} : ∀ {l₁ : List α} {l₂ : List β}, Paired F l₁ l₂ → (∀ a b, F a b → G a b) → Paired G l₁ l₂
  | _, _, .nil, _ => .nil
  | _, _, .cons r t, f => .cons (f _ _ r) (Paired.mapP t f)
theorem ObjOk.stay (x : ObjOk P w H h a o) (k : ∀ b u, (b = a ∨ H b = some (.own a)) → h.get? b = some u → h'.get? b = some u)
    (ho : ∀ b, H b = some (.own a) → H' b = some (.own a)) (ht : ∀ b xs, H b = some (.tup xs) → H' b = some (.tup xs)) : ObjOk P w H' h' a o := by
  induction o with
  | lst xs => obtain ⟨z, its, n, r, e⟩ := x; exact ⟨z, its, n, r, k _ _ (.inl rfl) e⟩
  | tup xs => obtain ⟨z, its, r, ob, e, c⟩ := x; exact ⟨z, its, r, ob, k _ _ (.inl rfl) e, c⟩
  | dK kvs => obtain ⟨z, y, vs, r, ob, es, ep, e, c⟩ := x; exact ⟨z, y, vs, r, ob, es, ep, k _ _ (.inl rfl) e, c⟩
  | dT kvs =>
    obtain ⟨z, y, xs, r, ob, es, ep, e, c⟩ := x
    exact ⟨z, y, xs, Paired.mapP r fun p q z => ⟨z.1, ht _ _ z.2.1, z.2.2⟩, ob, es, ep, k _ _ (.inl rfl) e, c⟩
  | set S n => obtain ⟨ob, es, ep, t, e, c⟩ := x; exact ⟨ob, es, ep, t, k _ _ (.inl rfl) e, c⟩
  | ins C dx fs =>
    obtain ⟨d, z, ne, e, mA, ⟨od, es, ep, e2, c⟩, r⟩ := x
    exact ⟨ho _ d, z, ne, k _ _ (.inl rfl) e, mA, ⟨od, es, ep, k _ _ (.inr d) e2, c⟩, r⟩
  | own y => obtain ⟨ob, e⟩ := x; exact ⟨ob, k _ _ (.inl rfl) e⟩
  | xd fs => obtain ⟨mA, ⟨od, es, ep, e, c⟩, r⟩ := x; exact ⟨mA, ⟨od, es, ep, k _ _ (.inl rfl) e, c⟩, r⟩
  | rng lo hi => obtain ⟨t, u, v, e⟩ := x; exact ⟨t, u, v, k _ _ (.inl rfl) e⟩
  | frz ob u ih => obtain ⟨e, q⟩ := x; exact ⟨k _ _ (.inl rfl) e, ih q⟩
  | tbl ps =>
    have e : h.get? a = some { cls := .none, data := .fields ps } := x
    show h'.get? a = some { cls := .none, data := .fields ps }
    exact k a _ (.inl rfl) e
  | met f y =>
    have e : h.get? a = some (PySem.W.methodObj (.ref f) (.ref y)) := x
    show h'.get? a = some (PySem.W.methodObj (.ref f) (.ref y))
    exact k a _ (.inl rfl) e
  | ext φ => obtain ⟨p, ⟨o, e⟩, st⟩ := x; exact ⟨st _ _ p fun o q => k _ _ (.inl rfl) q, ⟨o, k _ _ (.inl rfl) e⟩, st⟩
theorem HOk.lt (x : HOk P w H h) (e : H a = some o) : a < h.objs.size := (x a o e).lt
theorem HOk.fresh (x : HOk P w H h) (e : h.objs.size ≤ a) : H a = none := by
  cases q : H a with
  | none => rfl
  | some u => exact absurd (Nat.lt_of_lt_of_le (x.lt q) e) (Nat.lt_irrefl _)
theorem HOk.kept (x : HOk P w H h) (k : ∀ b u, h.get? b = some u → h'.get? b = some u) : HOk P w H h' := fun a o e =>
  (x a o e).stay (fun b u _ q => k b u q) (fun _ q => q) fun _ _ q => q
theorem HOk.laid (x : HOk P w H h) (k : ∀ b u, h.get? b = some u → h'.get? b = some u) (hp : h.objs.size ≤ a) (new : ObjOk P w (upd H a o) h' a o) : HOk P w (upd H a o) h' := fun b u e => by
  have hn := x.fresh hp
  by_cases hb : b = a
  · subst hb; rw [upd_same] at e; cases e; exact new
  · rw [upd_ne hb] at e
    exact (x b u e).stay (fun c v _ q => k c v q) (fun c q => by rw [upd_ne (ne_of_none q hn)]; exact q) fun c xs q => by rw [upd_ne (ne_of_none q hn)]; exact q
end
def Rd (H : Hp) (a : Addr) (u : HO) : Prop := H a = some u ∨ ∃ o, H a = some (.frz o u)
theorem Rd.of {H : Hp} {a : Addr} {u : HO} (h : H a = some u) : Rd H a u := .inl h
theorem Rd.ok {P : Program} {w : World} {H : Hp} {h : Heap} {a : Addr} {u : HO} (r : Rd H a u) (x : HOk P w H h) : ObjOk P w H h a u := by
  rcases r with r | ⟨o, r⟩
  · exact x a u r
  · obtain ⟨_, q⟩ := x a _ r
    exact q
def Mut : Option HO → Prop
  | some (.lst _) => True
  | some (.dK _) => True
  | some (.dT _) => True
  | some (.set _ _) => True
  | some (.ins _ _ _) => True
  | some (.ext _) => True
  | _ => False
section
variable {P : Program} {w : World} {H : Hp} {h h' : Heap} {x e : Addr} {o' : HO}
theorem HOk.write (ok : HOk P w H h) (mu : Mut (H x)) (he : e = x ∨ H e = some (.own x)) (k : ∀ b u, b ≠ e → h.get? b = some u → h'.get? b = some u) (heo : ∃ u, h'.get? e = some u)
    (new : ObjOk P w (upd H x o') h' x o') : HOk P w (upd H x o') h' := fun b u q => by
  have nown : ∀ c y, H c = some (.own y) → c ≠ x := fun c y r z => by subst z; rw [r] at mu; exact mu
  have ntup : ∀ c xs, H c = some (.tup xs) → c ≠ x := fun c xs r z => by subst z; rw [r] at mu; exact mu
  by_cases hb : b = x
  · subst hb; rw [upd_same] at q; cases q; exact new
  · rw [upd_ne hb] at q
    by_cases hbe : b = e
    · have q' : H b = some (.own x) := by
        rcases he with z | z
        · exact absurd (hbe.trans z) hb
        · rw [hbe]; exact z
      rw [q] at q'; cases q'
      obtain ⟨v, hv⟩ := heo
      exact ⟨v, by rw [hbe]; exact hv⟩
    · refine (ok b u q).stay (fun c v hc r => k c v ?_ r) (fun c r => by rw [upd_ne (nown c b r)]; exact r) fun c xs r => by rw [upd_ne (ntup c xs r)]; exact r
      rcases hc with rfl | hc
      · exact hbe
      · rintro rfl
        rcases he with z | z
        · exact nown c b hc z
        · rw [hc] at z; cases z; exact hb rfl
end
structure Un (fs ex : List Addr) (H H' : Hp) (h h' : Heap) : Prop where
  keep : ∀ b o, h.get? b = some o → H b = none → b ∉ fs → b ∉ ex → h'.get? b = some o
  slot : ∀ b o, h.get? b = some o → H b = none → b ∈ fs → b ∉ ex → ∃ sl, h'.get? b = some { o with slots := sl }
  free : ∀ b o, h.get? b = some o → H b = none → b ∉ ex → H' b = none
  there : ∀ b o, h.get? b = some o → b ∉ ex → ∃ o', h'.get? b = some o'
  tups : ∀ b xs, H b = some (.tup xs) → H' b = some (.tup xs)
  frzs : ∀ b o u, H b = some (.frz o u) → H' b = some (.frz o u)
  tbls : ∀ b ps, H b = some (.tbl ps) → ∃ more, H' b = some (.tbl (ps ++ more))
section
variable {fs fs' ex ex' : List Addr} {H H1 H2 : Hp} {h h1 h2 h' : Heap} {a x e : Addr} {o : HO}
theorem Un.any (u : Un fs ex H H1 h h1) {b : Addr} {ob : Obj} (q : h.get? b = some ob) (n : H b = none) (hx : b ∉ ex) : ∃ sl, h1.get? b = some { ob with slots := sl } := by
  by_cases hb : b ∈ fs
  · exact u.slot b ob q n hb hx
  · exact ⟨ob.slots, u.keep b ob q n hb hx⟩
theorem Un.trans (a : Un fs ex H H1 h h1) (b : Un fs ex H1 H2 h1 h2) : Un fs ex H H2 h h2 where
  keep := fun c ob q n hc hx => b.keep c ob (a.keep c ob q n hc hx) (a.free c ob q n hx) hc hx
  slot := fun c ob q n hc hx => by
    obtain ⟨sl, e1⟩ := a.slot c ob q n hc hx
    obtain ⟨sl', e2⟩ := b.slot c _ e1 (a.free c ob q n hx) hc hx
    exact ⟨sl', e2⟩
  free := fun c ob q n hx => by
    obtain ⟨o', e1⟩ := a.there c ob q hx
    exact b.free c o' e1 (a.free c ob q n hx) hx
  there := fun c ob q hx => by
    obtain ⟨o', e1⟩ := a.there c ob q hx
    exact b.there c o' e1 hx
  tups := fun c xs q => b.tups c xs (a.tups c xs q)
  frzs := fun c ob xs q => b.frzs c ob xs (a.frzs c ob xs q)
  tbls := fun c ps q => by
    obtain ⟨m1, e1⟩ := a.tbls c ps q
    obtain ⟨m2, e2⟩ := b.tbls c _ e1
    exact ⟨m1 ++ m2, by rw [e2, Array.append_assoc]⟩
theorem Un.kept (k : ∀ b u, h.get? b = some u → h'.get? b = some u) : Un fs ex H H h h' :=
  ⟨fun b ob q _ _ _ => k b ob q, fun b ob q _ _ _ => ⟨ob.slots, k b ob q⟩, fun _ _ _ n _ => n, fun b ob q _ => ⟨ob, k b ob q⟩, fun _ _ q => q, fun _ _ _ q => q, fun _ ps q => ⟨#[], by rw [q]; simp⟩⟩
theorem Un.refl : Un fs ex H H h h := Un.kept fun _ _ q => q
theorem Un.laid (k : ∀ b u, h.get? b = some u → h'.get? b = some u) (hp : h.objs.size ≤ a) (hn : H a = none) : Un fs ex H (upd H a o) h h' where
  keep := fun b u q _ _ _ => k b u q
  slot := fun b u q _ _ _ => ⟨u.slots, k b u q⟩
  free := fun b u q n _ => by rw [upd_ne (Nat.ne_of_lt (Nat.lt_of_lt_of_le (Heap.lt_size q) hp))]; exact n
  there := fun b u q _ => ⟨u, k b u q⟩
  tups := fun b xs q => by rw [upd_ne (ne_of_none q hn)]; exact q
  frzs := fun b u xs q => by rw [upd_ne (ne_of_none q hn)]; exact q
  tbls := fun b ps q => ⟨#[], by rw [upd_ne (ne_of_none q hn), q]; simp⟩
theorem Un.write (mu : Mut (H x)) (he : e = x ∨ H e = some (.own x)) (k : ∀ b u, b ≠ e → h.get? b = some u → h'.get? b = some u) (heo : ∃ u, h'.get? e = some u) : Un fs ex H (upd H x o) h h' := by
  have hx : ∀ b, H b = none → b ≠ x := fun b n z => by subst z; rw [n] at mu; exact mu
  have hb : ∀ b, H b = none → b ≠ e := fun b n z => by
    subst z
    rcases he with r | r
    · exact hx b n r
    · rw [n] at r; cases r
  have hm : ∀ b u, H b = some u → ¬ Mut (some u) → b ≠ x := fun b u q nm z => by subst z; rw [q] at mu; exact nm mu
  refine ⟨fun b u q n _ _ => k b u (hb b n) q, fun b u q n _ _ => ⟨u.slots, k b u (hb b n) q⟩, fun b u q n _ => by rw [upd_ne (hx b n)]; exact n, fun b u q _ => ?_,
    fun b xs q => by rw [upd_ne (hm b _ q fun z => z)]; exact q, fun b u xs q => by rw [upd_ne (hm b _ q fun z => z)]; exact q, fun b ps q => ⟨#[], by rw [upd_ne (hm b _ q fun z => z), q]; simp⟩⟩
  by_cases hbe : b = e
  · subst hbe; exact heo
  · exact ⟨u, k b u hbe q⟩
theorem Un.mono (u : Un fs ex H H1 h h1) (hs : ∀ b ∈ fs, b ∈ fs') (hx : ∀ b ∈ ex, b ∈ ex') : Un fs' ex' H H1 h h1 :=
  ⟨fun b ob q n hb he => u.keep b ob q n (fun z => hb (hs b z)) fun z => he (hx b z), fun _ _ q n _ he => u.any q n fun z => he (hx _ z), fun b ob q n he => u.free b ob q n fun z => he (hx b z), fun b ob q he => u.there b ob q fun z => he (hx b z), u.tups, u.frzs, u.tbls⟩
end
def trk (h : Heap) (H : Hp) : List Addr := (List.range h.objs.size).filter fun a => (H a).isSome
def hidT (h : Heap) (H : Hp) : Heap := PySem.W.hideAll h (trk h H)
theorem hidT_size (h : Heap) (H : Hp) : (hidT h H).objs.size = h.objs.size := PySem.W.hideAll_size _ _
theorem hidT_get {h : Heap} {H : Hp} {b : Addr} {o : Obj} (e : h.get? b = some o) (n : H b = none) : (hidT h H).get? b = some o :=
  PySem.W.hideAll_get _ e fun hm => by
    have q : (H b).isSome = true := (List.mem_filter.mp hm).2
    rw [n] at q; simp at q
theorem of_hidT {h : Heap} {H : Hp} {b : Addr} {o : Obj} (e : (hidT h H).get? b = some o) : h.get? b = some o ∧ H b = none := by
  have e' : h.get? b = some o := PySem.W.of_hideAll (trk h H) e
  refine ⟨e', ?_⟩
  cases q : H b with
  | none => rfl
  | some x =>
    have hm : b ∈ trk h H := List.mem_filter.mpr ⟨List.mem_range.mpr (Heap.lt_size e'), by simp [q]⟩
    have z : (hidT h H).get? b = none := PySem.W.hideAll_none (trk h H) hm
    rw [z] at e; cases e
def allNews (g h : Heap) (L : Addr) : List (Addr × Obj) := (List.range h.objs.size).filterMap fun a => if a = L ∨ (g.get? a).isSome = true then none else (h.get? a).map fun o => (a, o)
def rest (g h : Heap) (L d : Addr) : List (Addr × Obj) := (allNews g h L).filter fun p => decide (p.1 ≠ d)
end L2
namespace L2
open PySem PySem.Spec PyProof.Rows
structure Mod (K : PySem.W.Frag) (mg : Str → Option Value) (base : Heap) : Prop where
  kin : K.In base
  glob : base.Ns mainGlobals mg
  blt : ∃ mb, base.Ns builtinsNs mb ∧ ∀ x : Str, x ≠ "__name__" → mb x = bootBuiltins x
  nolimit : base.NoLimit
structure Cx where
  prog : Program
  w : World
  K : PySem.W.Frag
  mg : Str → Option Value
  base : Heap
  A : Around
  N : List Str
  s₀ : Shared
  H₀ : Hp
  env : Env
  outer : List Env
  stack : List Env
  ex : List Addr
  fn : Str → Bool
  calm : Bool
  pn : List (Addr × Obj)
  xe : Value → Shared → Prop
def frs (l : List Env) : List Addr := l.filterMap (·.frame)
abbrev Cx.fs (X : Cx) : List Addr := frs X.outer
def Vis (sc : Scope) (x : Str) : Prop := sc.names.lookup x = some .local ∨ sc.names.lookup x = some .cell ∨ sc.names.lookup x = some .free
def Loc (sc : Scope) (x : Str) : Prop := sc.names.lookup x = some .local ∨ sc.names.lookup x = some .cell
def Look (env : Env) (h : Heap) (m : Str → Option Value) (x : Str) (u : Value) : Prop :=
  (env.kindOf x = some .local ∧ m x = some u) ∨ ((env.kindOf x = some .cell ∨ env.kindOf x = some .free) ∧ ∃ c, env.cells.lookup x = some c ∧ h.IsCell c (some u))
structure Cx.Ok (X : Cx) : Prop where
  mod : Mod X.K X.mg X.base
  kind : X.env.scope.kind = .function
  glob : X.env.globals = mainGlobals
  blt : X.env.builtins = builtinsNs
  above : X.s₀.heap.objs.size ≤ X.env.locals
  inj : ∀ x y c, X.env.cells.lookup x = some c → X.env.cells.lookup y = some c → x = y
  has : ∀ x, (X.env.kindOf x = some .cell ∨ X.env.kindOf x = some .free) → ∃ c, X.env.cells.lookup x = some c
  cab : ∀ x c, X.fn x = true → X.env.cells.lookup x = some c → X.s₀.heap.objs.size ≤ c
  hd : X.calm = true → X.A.handled = none
  frames : X.A.frames = some X.stack
  stk : X.stack = X.outer ∨ (X.stack = X.env :: X.outer ∧ X.env.frame = some X.env.locals)
  exf : ∀ b ∈ X.ex, b ≠ X.env.locals ∧ ∀ x c, X.env.cells.lookup x = some c → c ≠ b
  bs : ∀ b o, X.base.get? b = some o → X.s₀.heap.get? b = some o ∧ X.H₀ b = none
  bsz : X.base.objs.size ≤ X.s₀.heap.objs.size
  noex : ∀ b o, X.base.get? b = some o → b ∉ X.ex
  exfs : ∀ b ∈ X.ex, b ∉ X.fs
  funs : X.s₀.heap.FunFrames X.base X.outer
  frf : ∀ b ∈ X.fs, X.H₀ b = none
structure Inv (X : Cx) (pins : List (Addr × Obj)) (σ : List (Option V)) (H : Hp) (s : Shared) : Prop where
  ok : X.Ok
  os : s.os = X.s₀.os
  bare : AllBare s.gens
  base : Un X.fs X.ex X.H₀ H X.s₀.heap s.heap
  loc : ∃ m, s.heap.Ns X.env.locals m ∧ ∀ (i : Nat) (x : Str) (v : V), X.N[i]? = some x → σ[i]? = some (some v) → Vis X.env.scope x → ∃ u, RelV v u ∧ Look X.env s.heap m x u
  cell : ∀ x c, X.env.cells.lookup x = some c → ∃ v, s.heap.IsCell c v
  free : H X.env.locals = none
  freeC : ∀ x c, X.env.cells.lookup x = some c → H c = none
  pin : ∀ p ∈ X.pn ++ pins, s.heap.get? p.1 = some p.2 ∧ H p.1 = none ∧ p.1 ≠ X.env.locals ∧ p.1 ∉ X.fs ∧ ∀ v, p.2.data ≠ .cell v
  hok : HOk X.prog X.w H s.heap
  len : σ.length = X.N.length
section
variable {X : Cx} {pins : List (Addr × Obj)} {σ : List (Option V)} {H H' : Hp} {s : Shared} {h' : Heap}
theorem Cx.Ok.nofr (ok : X.Ok) {b : Addr} {o : Obj} (e : X.base.get? b = some o) : b ∉ X.fs := fun hb => by
  have := (ok.funs.mem hb).1
  rw [e] at this; cases this
theorem Inv.bs (I : Inv X pins σ H s) : ∀ b o, X.base.get? b = some o → s.heap.get? b = some o ∧ H b = none := fun b o e =>
  ⟨I.base.keep b o (I.ok.bs b o e).1 (I.ok.bs b o e).2 (I.ok.nofr e) (I.ok.noex b o e), I.base.free b o (I.ok.bs b o e).1 (I.ok.bs b o e).2 (I.ok.noex b o e)⟩
theorem Inv.bk (I : Inv X pins σ H s) : ∀ b o, X.base.get? b = some o → s.heap.get? b = some o := fun b o e => (I.bs b o e).1
theorem Inv.mod (I : Inv X pins σ H s) : Mod X.K X.mg X.base := I.ok.mod
theorem Inv.kIn (I : Inv X pins σ H s) : X.K.In s.heap := I.ok.mod.kin.keeps I.bk
theorem Inv.nolimit (I : Inv X pins σ H s) : s.heap.NoLimit := I.ok.mod.nolimit.keeps I.bk
theorem Inv.fr (I : Inv X pins σ H s) : ∃ m, Fr X.base X.env.locals s.heap m :=
  let ⟨m, hn, _⟩ := I.loc
  ⟨m, hn, I.bk, Nat.le_trans I.ok.bsz I.ok.above⟩
theorem Inv.lt (I : Inv X pins σ H s) : X.env.locals < s.heap.objs.size := let ⟨_, hn, _⟩ := I.loc; hn.lt
theorem Inv.sz (I : Inv X pins σ H s) : X.s₀.heap.objs.size ≤ s.heap.objs.size := Nat.le_trans I.ok.above (Nat.le_of_lt I.lt)
theorem Inv.nofs (I : Inv X pins σ H s) {a : Addr} (h : s.heap.objs.size ≤ a) : a ∉ X.fs := fun hb => by
  obtain ⟨_, o, ho, _⟩ := I.ok.funs.mem hb
  exact absurd (Nat.lt_of_lt_of_le (Heap.lt_size ho) (Nat.le_trans I.sz h)) (Nat.lt_irrefl _)
theorem Inv.cne (I : Inv X pins σ H s) : ∀ x c, X.env.cells.lookup x = some c → c ≠ X.env.locals := fun x c e z => by
  obtain ⟨v, o, ho, hd⟩ := I.cell x c e
  obtain ⟨m, ⟨o', es, ep, ho', hd', _⟩, _⟩ := I.loc
  rw [z, ho'] at ho; cases ho; rw [hd'] at hd; cases hd
theorem Inv.funs (I : Inv X pins σ H s) : s.heap.FunFrames X.base X.outer := by
  have all : ∀ (l : List Env), (∀ b ∈ frs l, b ∈ X.fs) → X.s₀.heap.FunFrames X.base l → s.heap.FunFrames X.base l := by
    intro l
    induction l with
    | nil => intro _ _; trivial
    | cons env r ih =>
      intro hs hl
      obtain ⟨hk, ⟨L, o, hf, hn, ho, hd⟩, hr⟩ := hl
      have hL : L ∈ X.fs := hs L (by unfold frs; rw [List.filterMap_cons, hf]; exact List.mem_cons_self)
      obtain ⟨sl, e⟩ := I.base.slot L o ho (I.ok.frf L hL) hL fun z => I.ok.exfs L z hL
      exact ⟨hk, ⟨L, _, hf, hn, e, hd⟩, ih (fun b hb => hs b (by unfold frs; rw [List.filterMap_cons, hf]; exact List.mem_cons_of_mem _ hb)) hr⟩
  exact all X.outer (fun _ hb => hb) I.ok.funs
theorem Inv.stack (I : Inv X pins σ H s) : s.heap.FunFrames X.base X.stack := by
  rcases I.ok.stk with e | ⟨e, hf⟩
  · rw [e]; exact I.funs
  · rw [e]
    obtain ⟨m, hn, _⟩ := I.loc
    refine .cons (by rw [I.ok.kind]; decide) hf hn ?_ I.funs
    exact Heap.get?_none_of_le (Nat.le_trans I.ok.bsz I.ok.above)
theorem Inv.stkSub (I : Inv X pins σ H s) : ∀ b ∈ frs X.stack, b ∈ X.env.locals :: X.fs := fun b hb => by
  rcases I.ok.stk with e | ⟨e, hf⟩
  · rw [e] at hb; exact List.mem_cons_of_mem _ hb
  · rw [e] at hb
    unfold frs at hb
    rw [List.filterMap_cons, hf] at hb
    exact hb
theorem Inv.stkFree (I : Inv X pins σ H s) : ∀ b ∈ frs X.stack, H b = none := fun b hb => by
  rcases List.mem_cons.mp (I.stkSub b hb) with e | hb
  · rw [e]; exact I.free
  · obtain ⟨_, o, ho, _⟩ := I.ok.funs.mem hb
    exact I.base.free b o ho (I.ok.frf b hb) fun z => I.ok.exfs b z hb
theorem Inv.step {g' : Array GenState} {t' : Nat} {d' : Drawn} {ch : List Addr} (I : Inv X pins σ H s)
    (hch : ∀ b ∈ ch, (b ∈ X.ex ∨ X.s₀.heap.objs.size ≤ b) ∧ b ≠ X.env.locals ∧ (∀ x c, X.env.cells.lookup x = some c → c ≠ b) ∧ ∀ p ∈ X.pn ++ pins, p.1 ≠ b)
    (keep : ∀ b o, b ≠ X.env.locals → b ∉ X.fs → b ∉ ch → s.heap.get? b = some o → H b = none → h'.get? b = some o)
    (slot : ∀ b o, b ≠ X.env.locals → b ∈ X.fs → b ∉ ch → s.heap.get? b = some o → H b = none → ∃ sl, h'.get? b = some { o with slots := sl }) (free : ∀ b o, b ∉ ch → s.heap.get? b = some o → H b = none → H' b = none)
    (there : ∀ b o, b ∉ ch → s.heap.get? b = some o → ∃ o', h'.get? b = some o')
    (tups : ∀ b xs, H b = some (.tup xs) → H' b = some (.tup xs)) (frzs : ∀ b o u, H b = some (.frz o u) → H' b = some (.frz o u)) (tbls : ∀ b ps, H b = some (.tbl ps) → ∃ more, H' b = some (.tbl (ps ++ more)))
    (ns : ∀ m, s.heap.Ns X.env.locals m → h'.Ns X.env.locals m) (hok : HOk X.prog X.w H' h') (hg : AllBare g') :
    Inv X pins σ H' { s with heap := h', gens := g', drawn := d', toks := t' } := by
  have neL : ∀ b o, X.s₀.heap.get? b = some o → b ≠ X.env.locals := fun b o e => Nat.ne_of_lt (Nat.lt_of_lt_of_le (Heap.lt_size e) I.ok.above)
  have neC : ∀ b o, X.s₀.heap.get? b = some o → b ∉ X.ex → b ∉ ch := fun b o e hx hb => by
    rcases (hch b hb).1 with z | z
    · exact hx z
    · exact absurd (Nat.lt_of_lt_of_le (Heap.lt_size e) z) (Nat.lt_irrefl _)
  have cellK : ∀ x c, X.env.cells.lookup x = some c → ∀ v, s.heap.IsCell c v → h'.IsCell c v := fun x c e v ⟨o, ho, hd⟩ => by
    have nch : c ∉ ch := fun z => (hch c z).2.2.1 x c e rfl
    by_cases hc : c ∈ X.fs
    · obtain ⟨sl, q⟩ := slot c o (I.cne x c e) hc nch ho (I.freeC x c e)
      exact ⟨_, q, hd⟩
    · exact ⟨o, keep c o (I.cne x c e) hc nch ho (I.freeC x c e), hd⟩
  refine ⟨I.ok, I.os, hg, ⟨fun b o e n hb hx => ?_, fun b o e n hb hx => ?_, fun b o e n hx => ?_, fun b o e hx => ?_, fun b xs e => tups b xs (I.base.tups b xs e), fun b o xs e => frzs b o xs (I.base.frzs b o xs e), fun b ps e => ?_⟩, ?_, fun x c e => ?_, ?_, fun x c e => ?_, fun p hp => ?_, hok, I.len⟩
  · exact keep b o (neL b o e) hb (neC b o e hx) (I.base.keep b o e n hb hx) (I.base.free b o e n hx)
  · obtain ⟨sl, e1⟩ := I.base.slot b o e n hb hx
    obtain ⟨sl', e2⟩ := slot b _ (neL b o e) hb (neC b o e hx) e1 (I.base.free b o e n hx)
    exact ⟨sl', e2⟩
  · obtain ⟨o', e1⟩ := I.base.there b o e hx
    exact free b o' (neC b o e hx) e1 (I.base.free b o e n hx)
  · obtain ⟨o', e1⟩ := I.base.there b o e hx
    exact there b o' (neC b o e hx) e1
  · obtain ⟨m1, e1⟩ := I.base.tbls b ps e
    obtain ⟨m2, e2⟩ := tbls b _ e1
    exact ⟨m1 ++ m2, by rw [e2, Array.append_assoc]⟩
  · obtain ⟨m, hn, hl⟩ := I.loc
    refine ⟨m, ns m hn, fun i x v e1 e2 e3 => ?_⟩
    obtain ⟨u, r, l⟩ := hl i x v e1 e2 e3
    refine ⟨u, r, ?_⟩
    rcases l with l | ⟨k, c, e, z⟩
    · exact .inl l
    · exact .inr ⟨k, c, e, cellK x c e _ z⟩
  · obtain ⟨v, z⟩ := I.cell x c e
    exact ⟨v, cellK x c e v z⟩
  · obtain ⟨m, ⟨o, _, _, ho, _⟩, _⟩ := I.loc
    exact free _ o (fun z => (hch _ z).2.1 rfl) ho I.free
  · obtain ⟨v, o, ho, hd⟩ := I.cell x c e
    exact free c o (fun z => (hch c z).2.2.1 x c e rfl) ho (I.freeC x c e)
  · obtain ⟨e, n, ne, nf, d⟩ := I.pin p hp
    have nch : p.1 ∉ ch := fun z => (hch p.1 z).2.2.2 p hp rfl
    exact ⟨keep p.1 p.2 ne nf nch e n, free p.1 p.2 nch e n, ne, nf, d⟩
theorem Inv.un {t' : Nat} (I : Inv X pins σ H s) (u : Un X.fs [] H H' s.heap h') (hok : HOk X.prog X.w H' h') : Inv X pins σ H' { s with heap := h', toks := t' } := by
  obtain ⟨m, ⟨o, es, ep, ho, r⟩, _⟩ := id I.loc
  obtain ⟨sl, hL⟩ := u.any ho I.free (by simp)
  exact I.step (g' := s.gens) (d' := s.drawn) (ch := []) (fun _ z => nomatch z) (fun b o _ hb _ e n => u.keep b o e n hb (by simp)) (fun b o _ hb _ e n => u.slot b o e n hb (by simp)) (fun b o _ e n => u.free b o e n (by simp)) (fun b o _ e => u.there b o e (by simp)) u.tups u.frzs u.tbls (fun m' hm => by
    obtain ⟨o', es', ep', ho', r'⟩ := hm
    rw [ho] at ho'; cases ho'
    exact ⟨_, es', ep', hL, r'⟩) hok I.bare
theorem Inv.call {g' : Array GenState} {t' : Nat} {d' : Drawn} {ch : List Addr} (I : Inv X pins σ H s) (u : Un (frs X.stack) ch H H' s.heap h') (hok : HOk X.prog X.w H' h') (hg : AllBare g')
    (hch : ∀ b ∈ ch, (b ∈ X.ex ∨ X.s₀.heap.objs.size ≤ b) ∧ b ≠ X.env.locals ∧ (∀ x c, X.env.cells.lookup x = some c → c ≠ b) ∧ ∀ p ∈ X.pn ++ pins, p.1 ≠ b) :
    Inv X pins σ H' { s with heap := h', gens := g', drawn := d', toks := t' } := by
  obtain ⟨m, ⟨o, es, ep, ho, r⟩, _⟩ := id I.loc
  obtain ⟨sl, hL⟩ := u.any ho I.free fun z => (hch _ z).2.1 rfl
  exact I.step (ch := ch) hch (fun b o hL hb hc e n => u.keep b o e n (fun z => (List.mem_cons.mp (I.stkSub b z)).elim hL hb) hc) (fun b o _ _ hc e n => u.any e n hc) (fun b o hc e n => u.free b o e n hc) (fun b o hc e => u.there b o e hc) u.tups u.frzs u.tbls (fun m' hm => by
    obtain ⟨o', es', ep', ho', r'⟩ := hm
    rw [ho] at ho'; cases ho'
    exact ⟨_, es', ep', hL, r'⟩) hok hg
theorem Inv.turned {t' : Nat} {it : Addr} (I : Inv X pins σ H s) (k : ∀ b o, b ≠ it → s.heap.get? b = some o → h'.get? b = some o) (hn : H it = none) (hL : it ≠ X.env.locals)
    (h1 : it ∈ X.ex ∨ X.s₀.heap.objs.size ≤ it) (h2 : ∀ x c, X.env.cells.lookup x = some c → c ≠ it) (h3 : ∀ p ∈ X.pn ++ pins, p.1 ≠ it) : Inv X pins σ H { s with heap := h', toks := t' } := by
  have nit : ∀ b u, H b = some u → b ≠ it := fun b u e z => by rw [z, hn] at e; cases e
  refine I.step (g' := s.gens) (d' := s.drawn) (ch := [it]) (fun b hb => ?_) (fun b o _ _ hc e _ => k b o (fun z => hc (by simp [z])) e) (fun b o _ _ hc e _ => ⟨o.slots, k b o (fun z => hc (by simp [z])) e⟩) (fun _ _ _ _ n => n)
    (fun b o hc e => ⟨o, k b o (fun z => hc (by simp [z])) e⟩) (fun _ _ e => e) (fun _ _ _ e => e) (fun b ps e => ⟨#[], by rw [e]; simp⟩) (fun m hm => ?_) (fun b u e => ?_) I.bare
  · have e : b = it := by simpa using hb
    subst e
    exact ⟨h1, hL, h2, h3⟩
  · obtain ⟨o, es, ep, ho, r⟩ := hm
    exact ⟨o, es, ep, k _ o (Ne.symm hL) ho, r⟩
  · refine (I.hok b u e).stay (fun c v hc q => k c v ?_ q) (fun _ q => q) fun _ _ q => q
    rcases hc with z | z
    · rw [z]; exact nit b u e
    · exact nit c _ z
theorem Inv.tok (I : Inv X pins σ H s) (t : Nat) : Inv X pins σ H { s with toks := t } := I.un (h' := s.heap) (t' := t) Un.refl I.hok
theorem Inv.kept {t' : Nat} (I : Inv X pins σ H s) (k : ∀ b u, s.heap.get? b = some u → h'.get? b = some u) : Inv X pins σ H { s with heap := h', toks := t' } := I.un (Un.kept k) (I.hok.kept k)
theorem Inv.laid {a : Addr} {o : HO} {t' : Nat} (I : Inv X pins σ H s) (k : ∀ b u, s.heap.get? b = some u → h'.get? b = some u) (hp : s.heap.objs.size ≤ a) (new : ObjOk X.prog X.w (upd H a o) h' a o) :
    Inv X pins σ (upd H a o) { s with heap := h', toks := t' } := I.un (Un.laid k hp (I.hok.fresh hp)) (I.hok.laid k hp new)
theorem Inv.write {x e : Addr} {o : HO} {t' : Nat} (I : Inv X pins σ H s) (mu : Mut (H x)) (he : e = x ∨ H e = some (.own x)) (k : ∀ b u, b ≠ e → s.heap.get? b = some u → h'.get? b = some u) (heo : ∃ u, h'.get? e = some u)
    (new : ObjOk X.prog X.w (upd H x o) h' x o) : Inv X pins σ (upd H x o) { s with heap := h', toks := t' } := I.un (Un.write mu he k heo) (I.hok.write mu he k heo new)
theorem Inv.weak {σ' : List (Option V)} (I : Inv X pins σ H s) (hl : σ'.length = σ.length) (w : ∀ (i : Nat) v, σ'[i]? = some (some v) → σ[i]? = some (some v)) : Inv X pins σ' H s :=
  ⟨I.ok, I.os, I.bare, I.base, let ⟨m, hn, hl'⟩ := I.loc; ⟨m, hn, fun i x v e1 e2 e3 => hl' i x v e1 (w i v e2) e3⟩, I.cell, I.free, I.freeC, I.pin, I.hok, hl.trans I.len⟩
theorem Inv.pins_of {pins' : List (Addr × Obj)} (I : Inv X pins σ H s) (h : ∀ p ∈ pins', s.heap.get? p.1 = some p.2 ∧ H p.1 = none ∧ p.1 ≠ X.env.locals ∧ p.1 ∉ X.fs ∧ ∀ v, p.2.data ≠ .cell v) : Inv X pins' σ H s :=
  ⟨I.ok, I.os, I.bare, I.base, I.loc, I.cell, I.free, I.freeC, fun p hp => (List.mem_append.mp hp).elim (fun z => I.pin p (List.mem_append_left _ z)) (h p), I.hok, I.len⟩
theorem nodup_ix {N : List Str} (hN : N.Nodup) {i j : Nat} {x : Str} (a : N[i]? = some x) (b : N[j]? = some x) : i = j := by
  obtain ⟨h1, e1⟩ := List.getElem?_eq_some_iff.mp a
  obtain ⟨h2, e2⟩ := List.getElem?_eq_some_iff.mp b
  exact (List.getElem_inj hN).mp (e1.trans e2.symm)
theorem store_ok2 {M : Model} {A : Around} {E : Value → Shared → Prop} {i : Nat} {x : Str} {v : V} {u : Value} {Q : Unit → Shared → Prop} (I : Inv X pins σ H s) (hN : X.N.Nodup) (hi : X.N[i]? = some x) (hx : Loc X.env.scope x) (r : RelV v u)
    (h : ∀ s', Inv X pins (σ.set i (some v)) H s' → (∃ a, Heap.SameBut a s.heap s'.heap ∧ (a = X.env.locals ∨ X.env.cells.lookup x = some a)) → Q () s') (hf : X.fn x = true ∨ X.env.scope.names.lookup x = some .local := by first | exact .inl rfl | exact .inr rfl | assumption) : wpAny M A (storeName X.env x u) Q E s := by
  obtain ⟨m, hn, hl⟩ := id I.loc
  have hcls : (X.env.scope.kind == .class || (X.env.scope.kind == .module && X.env.locals != X.env.globals)) = false := by rw [I.ok.kind]; rfl
  have hiσ : i < σ.length := by rw [I.len]; exact (List.getElem?_eq_some_iff.mp hi).1
  have cne := I.cne
  have tracked : ∀ {a : Addr} {h' : Heap}, (∃ o, s.heap.get? a = some o ∧ H a = none) → Heap.SameBut a s.heap h' → HOk X.prog X.w H h' := fun {a h'} ha hs b ob e => by
    obtain ⟨_, _, hfree⟩ := ha
    refine (I.hok b ob e).stay (fun c w' hc q => (hs.2 c ?_).trans q) (fun _ q => q) fun _ _ q => q
    rintro rfl
    rcases hc with rfl | hc
    · rw [hfree] at e; cases e
    · rw [hfree] at hc; cases hc
  rcases hx with hk | hk
  · refine wpAny_storeName_local hk hn (fun h' hn' hs => ?_) hcls
    obtain ⟨oL, _, _, hoL, _⟩ := id hn
    refine h _ ⟨I.ok, I.os, I.bare, ⟨fun b o e n hb hx => ?_, fun b o e n hb hx => ?_, I.base.free, fun b o e hx => ?_, I.base.tups, I.base.frzs, I.base.tbls⟩, ⟨_, hn', fun j y v' e1 e2 e3 => ?_⟩, fun y c e => ?_, I.free, I.freeC, fun p hp => ?_, tracked ⟨oL, hoL, I.free⟩ hs, by simpa using I.len⟩ ⟨_, hs, .inl rfl⟩
    · exact (hs.2 b (Nat.ne_of_lt (Nat.lt_of_lt_of_le (Heap.lt_size e) I.ok.above))).trans (I.base.keep b o e n hb hx)
    · obtain ⟨sl, e1⟩ := I.base.slot b o e n hb hx
      exact ⟨sl, (hs.2 b (Nat.ne_of_lt (Nat.lt_of_lt_of_le (Heap.lt_size e) I.ok.above))).trans e1⟩
    · obtain ⟨o', e1⟩ := I.base.there b o e hx
      exact ⟨o', (hs.2 b (Nat.ne_of_lt (Nat.lt_of_lt_of_le (Heap.lt_size e) I.ok.above))).trans e1⟩
    · by_cases hj : j = i
      · subst hj
        rw [hi] at e1; cases e1
        rw [List.getElem?_set_self hiσ] at e2
        cases e2
        exact ⟨u, r, .inl ⟨hk, by simp⟩⟩
      · rw [List.getElem?_set_ne (Ne.symm hj)] at e2
        obtain ⟨u', r', q⟩ := hl j y v' e1 e2 e3
        refine ⟨u', r', ?_⟩
        rcases q with ⟨k, e⟩ | ⟨k, c, e, z⟩
        · refine .inl ⟨k, ?_⟩
          have : y ≠ x := fun e => hj (nodup_ix hN e1 (e ▸ hi))
          simp [this, e]
        · exact .inr ⟨k, c, e, z.sameBut hs (cne y c e)⟩
    · obtain ⟨w', z⟩ := I.cell y c e
      exact ⟨w', z.sameBut hs (cne y c e)⟩
    · obtain ⟨e, n, ne, nf, d⟩ := I.pin p hp
      exact ⟨(hs.2 p.1 ne).trans e, n, ne, nf, d⟩
  · have hfn : X.fn x = true := by
      rcases hf with z | z
      · exact z
      · rw [z] at hk; cases hk
    obtain ⟨c, hc⟩ := I.ok.has x (.inl hk)
    obtain ⟨w', z⟩ := I.cell x c hc
    refine wpAny_storeName_cell I.ok.kind hk hc z (fun h' hc' hs => ?_)
    obtain ⟨oc, hoc, hocd⟩ := id z
    refine h { s with heap := h' } ⟨I.ok, I.os, I.bare, ⟨fun b o e n hb hx => ?_, fun b o e n hb hx => ?_, I.base.free, fun b o e hx => ?_, I.base.tups, I.base.frzs, I.base.tbls⟩, ⟨m, hn.sameBut hs (Ne.symm (cne x c hc)), fun j y v' e1 e2 e3 => ?_⟩, fun y c' e => ?_, I.free, I.freeC, fun p hp => ?_, tracked ⟨oc, hoc, I.freeC x c hc⟩ hs, by simpa using I.len⟩ ⟨c, hs, .inr hc⟩
    · exact (hs.2 b (Nat.ne_of_lt (Nat.lt_of_lt_of_le (Heap.lt_size e) (I.ok.cab x c hfn hc)))).trans (I.base.keep b o e n hb hx)
    · obtain ⟨sl, e1⟩ := I.base.slot b o e n hb hx
      exact ⟨sl, (hs.2 b (Nat.ne_of_lt (Nat.lt_of_lt_of_le (Heap.lt_size e) (I.ok.cab x c hfn hc)))).trans e1⟩
    · obtain ⟨o', e1⟩ := I.base.there b o e hx
      exact ⟨o', (hs.2 b (Nat.ne_of_lt (Nat.lt_of_lt_of_le (Heap.lt_size e) (I.ok.cab x c hfn hc)))).trans e1⟩
    · by_cases hj : j = i
      · subst hj
        rw [hi] at e1; cases e1
        rw [List.getElem?_set_self hiσ] at e2
        cases e2
        exact ⟨u, r, .inr ⟨.inl hk, c, hc, hc'⟩⟩
      · rw [List.getElem?_set_ne (Ne.symm hj)] at e2
        obtain ⟨u', r', q⟩ := hl j y v' e1 e2 e3
        refine ⟨u', r', ?_⟩
        rcases q with q | ⟨k, c', e, z'⟩
        · exact .inl q
        · refine .inr ⟨k, c', e, z'.sameBut hs ?_⟩
          rintro rfl
          exact hj (nodup_ix hN e1 (I.ok.inj _ _ _ e hc ▸ hi))
    · by_cases hcc : c' = c
      · subst hcc; exact ⟨_, hc'⟩
      · obtain ⟨w2, z2⟩ := I.cell y c' e
        exact ⟨w2, z2.sameBut hs hcc⟩
    · obtain ⟨e, n, ne, nf, d⟩ := I.pin p hp
      refine ⟨(hs.2 p.1 ?_).trans e, n, ne, nf, d⟩
      intro q
      rw [q, hoc] at e
      have q' : oc = p.2 := Option.some.inj e
      exact d w' (by rw [← q']; exact hocd)
theorem store_ok {M : Model} {A : Around} {E : Value → Shared → Prop} {i : Nat} {x : Str} {v : V} {u : Value} {Q : Unit → Shared → Prop} (I : Inv X pins σ H s) (hN : X.N.Nodup) (hi : X.N[i]? = some x) (hx : Loc X.env.scope x) (r : RelV v u)
    (h : ∀ s', Inv X pins (σ.set i (some v)) H s' → Q () s') (hf : X.fn x = true ∨ X.env.scope.names.lookup x = some .local := by first | exact .inl rfl | exact .inr rfl | assumption) : wpAny M A (storeName X.env x u) Q E s :=
  store_ok2 I hN hi hx r (fun s' I' _ => h s' I') hf
theorem Inv.call' {s' : Shared} {ch : List Addr} (I : Inv X pins σ H s) (ho : s'.os = s.os) (u : Un (frs X.stack) ch H H' s.heap s'.heap) (hok : HOk X.prog X.w H' s'.heap) (hg : AllBare s'.gens)
    (hch : ∀ b ∈ ch, (b ∈ X.ex ∨ X.s₀.heap.objs.size ≤ b) ∧ b ≠ X.env.locals ∧ (∀ x c, X.env.cells.lookup x = some c → c ≠ b) ∧ ∀ p ∈ X.pn ++ pins, p.1 ≠ b) : Inv X pins σ H' s' := by
  obtain ⟨h', g', d', t', o'⟩ := s'
  have e : o' = s.os := ho
  subst e
  exact I.call (g' := g') (t' := t') (d' := d') u hok hg hch
end
abbrev XK := Value → Option Addr → Hp → Prop
abbrev St := List (Option V)
abbrev VK := V → Hp → Prop
abbrev TE := St → Hp → VK → Prop
abbrev TT := St → Hp → (Bool → Hp → Prop) → Prop
abbrev TA := St → Hp → (List V → Hp → Prop) → Prop
structure Ends where
  nx : St → Hp → Prop
  rt : VK
  bk : St → Hp → Prop := fun _ _ => False
  ct : St → Hp → Prop := fun _ _ => False
abbrev TS := Ends → St → Hp → Prop
def EP (X : Cx) (pins : List (Addr × Obj)) (σ : St) (Q : VK) (u : Value) (s' : Shared) : Prop := ∃ v H', Inv X pins σ H' s' ∧ RelV v u ∧ Q v H'
def TP (X : Cx) (pins : List (Addr × Obj)) (σ : St) (Q : Bool → Hp → Prop) (b : Bool) (s' : Shared) : Prop := ∃ H', Inv X pins σ H' s' ∧ Q b H'
def AP (X : Cx) (pins : List (Addr × Obj)) (σ : St) (Q : List V → Hp → Prop) (us : List Value) (s' : Shared) : Prop := ∃ vs H', Inv X pins σ H' s' ∧ Vals vs us ∧ Q vs H'
def SP (X : Cx) (pins : List (Addr × Obj)) (D : Ends) (f : Flow) (s' : Shared) : Prop :=
  match f with
  | .next => ∃ σ' H', Inv X pins σ' H' s' ∧ D.nx σ' H'
  | .brk => ∃ σ' H', Inv X pins σ' H' s' ∧ D.bk σ' H'
  | .cont => ∃ σ' H', Inv X pins σ' H' s' ∧ D.ct σ' H'
  | .ret u => ∃ v σ' H', Inv X pins σ' H' s' ∧ RelV v u ∧ D.rt v H'
def PE (X : Cx) (e : Expr) (t : TE) : Prop :=
  ∀ (pins : List (Addr × Obj)) (s : Shared) (σ : St) (H : Hp) (Q : VK), Inv X pins σ H s → t σ H Q → wpAny (model X.prog X.w) X.A (eval e X.env) (EP X pins σ Q) X.xe s
def PT (X : Cx) (e : Expr) (t : TT) : Prop :=
  ∀ (pins : List (Addr × Obj)) (s : Shared) (σ : St) (H : Hp) (Q : Bool → Hp → Prop), Inv X pins σ H s → t σ H Q → wpAny (model X.prog X.w) X.A (isTrue e X.env (eval e X.env)) (TP X pins σ Q) X.xe s
def PW (X : Cx) (e : Expr) (t : TT) : Prop :=
  ∀ (whole : Sem Value) (pins : List (Addr × Obj)) (s : Shared) (σ : St) (H : Hp) (Q : Bool → Hp → Prop), Inv X pins σ H s → t σ H Q → wpAny (model X.prog X.w) X.A (isTrue e X.env whole) (TP X pins σ Q) X.xe s
theorem PW.pt {X : Cx} {e : Expr} {t : TT} (h : PW X e t) : PT X e t := h _
def PA (X : Cx) (es : List Expr) (t : TA) : Prop :=
  ∀ (pos : Pos) (pins : List (Addr × Obj)) (s : Shared) (σ : St) (H : Hp) (Q : List V → Hp → Prop), Inv X pins σ H s → t σ H Q → wpAny (model X.prog X.w) X.A (spliced (backTo pos (starEach es X.env))) (AP X pins σ Q) X.xe s
def PS (X : Cx) (st : Stmt) (t : TS) : Prop :=
  ∀ (pins : List (Addr × Obj)) (s : Shared) (σ : St) (H : Hp) (D : Ends), Inv X pins σ H s → t D σ H → wpAny (model X.prog X.w) X.A (exec st X.env) (SP X pins D) X.xe s
def PSs (X : Cx) (st : List Stmt) (t : TS) : Prop :=
  ∀ (pins : List (Addr × Obj)) (s : Shared) (σ : St) (H : Hp) (D : Ends), Inv X pins σ H s → t D σ H → wpAny (model X.prog X.w) X.A (execs st X.env) (SP X pins D) X.xe s
theorem thn {α : Type} {t : Sem α} {Q Q' : α → Shared → Prop} {M : Model} {A : Around} {E : Value → Shared → Prop} {s : Shared} (h : wpAny M A t Q E s) (hQ : ∀ a s, Q a s → Q' a s) : wpAny M A t Q' E s := wpAny_mono h hQ fun _ _ x => x
end L2
namespace L2
open PySem PySem.Spec PyProof.Rows
section
variable {X : Cx}
def tVar (i : Nat) : TE := fun σ H Q => ∃ v, σ[i]? = some (some v) ∧ Q v H
def tC (v : V) : TE := fun _ H Q => Q v H
theorem pe_var {i : Nat} {x : Str} {pos : Pos} (hN : X.N[i]? = some x) (hv : Vis X.env.scope x) (hd : (x == ("__debug__" : Str)) = false := by decide) (hcd : (x == ("__classdict__" : Str)) = false := by decide) : PE X (.Name x pos) (tVar i) := by
  intro pins s σ H Q I h
  obtain ⟨v, e, h⟩ := h
  obtain ⟨m, hn, hl⟩ := I.loc
  obtain ⟨u, r, l⟩ := hl i x v hN e hv
  have fin : EP X pins σ Q u s := ⟨v, H, I, r, h⟩
  rcases l with ⟨hk, hm⟩ | ⟨hk, c, hc, hcell⟩
  · exact wpAny_Name (wpAny_loadName_local I.ok.kind hk hn hm fin) hd
  · rcases hk with hk | hk
    · exact wpAny_Name (wpAny_loadName_cell I.ok.kind hk hc hcell fin) hd
    · exact wpAny_Name (wpAny_loadName_free I.ok.kind hk hc hcell fin hcd) hd
theorem pe_int {i j pos} : PE X (.Constant (.int i) j pos) (tC (.int i)) := fun _ _ _ H _ I h => wpAny_Constant_int ⟨.int i, H, I.tok _, ⟨_, rfl⟩, h⟩
theorem pe_bl {b j pos} : PE X (.Constant (.bool b) j pos) (tC (.bl b)) := fun _ _ _ H _ I h => Constant_bool ⟨.bl b, H, I, rfl, h⟩
theorem pe_str {x j pos} : PE X (.Constant (.str x) j pos) (tC (.str x)) := fun _ _ _ H _ I h => Calls.Constant_str ⟨.str x, H, I.tok _, ⟨_, rfl⟩, h⟩
def Gl (X : Cx) (x : Str) : Prop := X.env.kindOf x = some .globalImplicit
theorem ld_glob {E : Value → Shared → Prop} {pins : List (Addr × Obj)} {s : Shared} {σ : St} {H : Hp} {x : Str} {u : Value} {pos : Pos} {Q : Value → Shared → Prop} (I : Inv X pins σ H s) (hg : Gl X x) (hm : X.mg x = some u) (h : Q u s)
    (hd : (x == ("__debug__" : Str)) = false := by decide) : wpAny (model X.prog X.w) X.A (eval (.Name x pos) X.env) Q E s :=
  Calls.Name_function_global I.ok.kind hg (Calls.loadGlobal_global (by rw [I.ok.glob]; exact I.mod.glob.keeps I.bk) hm h) hd
theorem ld_blt {E : Value → Shared → Prop} {pins : List (Addr × Obj)} {s : Shared} {σ : St} {H : Hp} {x : Str} {u : Value} {pos : Pos} {Q : Value → Shared → Prop} (I : Inv X pins σ H s) (hg : Gl X x) (hm : X.mg x = none) (hv : bootBuiltins x = some u) (h : Q u s)
    (hn : x ≠ "__name__" := by decide) (hd : (x == ("__debug__" : Str)) = false := by decide) : wpAny (model X.prog X.w) X.A (eval (.Name x pos) X.env) Q E s := by
  obtain ⟨mb, h1, h2⟩ := I.mod.blt
  exact Calls.Name_function_global I.ok.kind hg (Calls.loadGlobal_builtin (by rw [I.ok.glob]; exact I.mod.glob.keeps I.bk) hm (by rw [I.ok.blt]; exact h1.keeps I.bk) ((h2 x hn).trans hv) h) hd
theorem pe_glob {x : Str} {v : V} {u : Value} {pos : Pos} (hg : Gl X x) (hm : X.mg x = some u) (r : RelV v u) (hd : (x == ("__debug__" : Str)) = false := by decide) : PE X (.Name x pos) (tC v) :=
  fun _ _ _ H _ I h => ld_glob I hg hm ⟨v, H, I, r, h⟩ hd
theorem pe_bltn {x : Str} {v : V} {u : Value} {pos : Pos} (hg : Gl X x) (hm : X.mg x = none) (hv : bootBuiltins x = some u) (r : RelV v u) (hn : x ≠ "__name__" := by decide) (hd : (x == ("__debug__" : Str)) = false := by decide) : PE X (.Name x pos) (tC v) :=
  fun _ _ _ H _ I h => ld_blt I hg hm hv ⟨v, H, I, r, h⟩ hn hd
variable {a b : Expr} {ta tb : TE} {pos : Pos}
def PC (X : Cx) (op : CmpOp) (a b : Expr) (t : TE) : Prop :=
  ∀ (pins : List (Addr × Obj)) (s : Shared) (σ : St) (H : Hp) (Q : VK), Inv X pins σ H s → t σ H Q →
    wpAny (model X.prog X.w) X.A (eval a X.env) (fun v s₁ => wpAny (model X.prog X.w) X.A (eval b X.env) (fun u s₂ => wpAny (model X.prog X.w) X.A (compareOp op v u) (EP X pins σ Q) X.xe s₂) X.xe s₁) X.xe s
theorem nobehind (b : Expr) {op : CmpOp} (h : op ≠ .In) (h2 : op ≠ .NotIn) : behindInMarks op b = false := by
  have e1 : (op == CmpOp.In) = false := by cases op <;> first | rfl | exact absurd rfl h
  have e2 : (op == CmpOp.NotIn) = false := by cases op <;> first | rfl | exact absurd rfl h2
  cases b <;> simp [behindInMarks, e1, e2]
def tB (t : TE) : TT := fun σ H Q => t σ H fun x H1 => ∃ c, x = .bl c ∧ Q c H1
theorem pt_cmp {op : CmpOp} {t : TE} (h : PC X op a b t) (h1 : behindInMarks op b = false := by first | exact nobehind _ (by decide) (by decide) | rfl) : PT X (.Compare a [op] [b] pos) (tB t) := by
  intro pins s σ H Q I hw
  refine wpAny_isTrue_Compare1 (thn (h pins s σ H _ I hw) fun v s1 h1 => thn h1 fun u s2 h2 => thn h2 fun c s3 ⟨x, H1, I1, r1, q1⟩ => ?_) h1
  obtain ⟨d, rfl, q⟩ := q1
  cases r1
  exact wpAny_truthy_bool ⟨H1, I1, q⟩
theorem pt_val {e : Expr} {t : TE} (h : PE X e t) (he : ∀ whole, isTrue e X.env whole = (do let v ← whole; standAt e.pos; holding [v] (truthy v)) := by intro _; rfl) : PT X e (tB t) := by
  intro pins s σ H Q I hw
  refine isTrue_plain (thn (h pins s σ H _ I hw) fun v s1 ⟨x, H1, I1, r1, q1⟩ => ?_) (he _)
  obtain ⟨d, rfl, q⟩ := q1
  cases r1
  exact wpAny_truthy_bool ⟨H1, I1, q⟩
variable {tA tB' : TT} {rest : List Expr}
def tAnd (t u : TT) : TT := fun σ H Q => t σ H fun c H1 => if c = true then u σ H1 Q else Q false H1
def tOr (t u : TT) : TT := fun σ H Q => t σ H fun c H1 => if c = true then Q true H1 else u σ H1 Q
def tNot (t : TT) : TT := fun σ H Q => t σ H fun c H1 => Q (!c) H1
theorem pw_and1 (ha : PT X a tA) : PW X (.BoolOp .And [a] pos) tA := by
  intro wh pins s σ H Q I h
  refine isTrue_and (thn (ha pins s σ H Q I h) fun c s1 e => ?_)
  cases c with
  | true => exact isTrue_and_nil e
  | false => exact e
theorem pw_or1 (ha : PT X a tA) : PW X (.BoolOp .Or [a] pos) tA := by
  intro wh pins s σ H Q I h
  refine isTrue_or (thn (ha pins s σ H Q I h) fun c s1 e => ?_)
  cases c with
  | false => exact isTrue_or_nil e
  | true => exact e
theorem pw_and (ha : PT X a tA) (hb : PW X (.BoolOp .And (b :: rest) pos) tB') : PW X (.BoolOp .And (a :: b :: rest) pos) (tAnd tA tB') := by
  intro wh pins s σ H Q I h
  refine isTrue_and (thn (ha pins s σ H _ I h) fun c s1 ⟨H1, I1, q1⟩ => ?_)
  cases c with
  | true => exact hb wh pins s1 σ H1 Q I1 q1
  | false => exact ⟨H1, I1, q1⟩
theorem pw_or (ha : PT X a tA) (hb : PW X (.BoolOp .Or (b :: rest) pos) tB') : PW X (.BoolOp .Or (a :: b :: rest) pos) (tOr tA tB') := by
  intro wh pins s σ H Q I h
  refine isTrue_or (thn (ha pins s σ H _ I h) fun c s1 ⟨H1, I1, q1⟩ => ?_)
  cases c with
  | true => exact ⟨H1, I1, q1⟩
  | false => exact hb wh pins s1 σ H1 Q I1 q1
theorem pt_not (ha : PT X a tA) : PT X (.UnaryOp .Not a pos) (tNot tA) := by
  intro pins s σ H Q I h
  exact isTrue_not (ha pins s σ H (fun c H1 => Q (!c) H1) I h)
def tIf (t : TT) (ta tb : TE) : TE := fun σ H Q => t σ H fun c H1 => if c = true then ta σ H1 Q else tb σ H1 Q
theorem pe_ifExp {c : Expr} (hc : PT X c tA) (ha : PE X a ta) (hb : PE X b tb) : PE X (.IfExp c a b pos) (tIf tA ta tb) := by
  intro pins s σ H Q I h
  refine wpAny_IfExp (thn (hc pins s σ H _ I h) fun d s1 ⟨H1, I1, q1⟩ => ?_)
  cases d with
  | true => exact ha pins s1 σ H1 Q I1 q1
  | false => exact hb pins s1 σ H1 Q I1 q1
end
end L2
namespace L2
open PySem PySem.Spec PyProof.Rows
def SqL (K : PySem.W.Frag) (H : Hp) (a : Addr) (xs : List V) : Prop :=
  Rd H a (.lst xs) ∨
    ∃ (o : Obj) (its : Array Value) (n : Nat), K.lookup a = some o ∧ o.cls = .type "list" ∧ o.dict = none ∧ o.data = .seq its n ∧ its.size ≤ sizeLine ∧ Vals xs its.toList
def SqT (K : PySem.W.Frag) (H : Hp) (a : Addr) (xs : List V) : Prop :=
  Rd H a (.tup xs) ∨
    ∃ (o : Obj) (its : Array Value) (n : Nat), K.lookup a = some o ∧ o.cls = .type "tuple" ∧ o.data = .seq its n ∧ its.size ≤ sizeLine ∧ Vals xs its.toList
def absV : Value → Option V
  | .none => some .non
  | .bool b => some (.bl b)
  | .int i _ => some (.int i)
  | .str x _ => some (.str x)
  | .bytes b _ => some (.byt b)
  | .float b _ => some (.flt b)
  | .ref a => some (.ref a)
  | .type n => some (.ty n)
  | _ => none
theorem RelV.abs {x : V} {u : Value} (r : RelV x u) : absV u = some x := by
  cases x with
  | non => cases r; rfl
  | bl _ => cases r; rfl
  | int _ => obtain ⟨t, rfl⟩ := r; rfl
  | str _ => obtain ⟨t, rfl⟩ := r; rfl
  | byt _ => obtain ⟨t, rfl⟩ := r; rfl
  | flt _ => obtain ⟨t, rfl⟩ := r; rfl
  | ref _ => cases r; rfl
  | ty _ => cases r; rfl
theorem RelV.inj {x y : V} {u : Value} (r : RelV x u) (q : RelV y u) : x = y := Option.some.inj (r.abs.symm.trans q.abs)
theorem Vals.inj : ∀ {xs ys : List V} {us : List Value}, Vals xs us → Vals ys us → xs = ys
  | _, _, _, .nil, .nil => rfl
  | _, _, _, .cons r t, .cons r' t' => by rw [r.inj r', Vals.inj t t']
section
variable {X : Cx} {pins : List (Addr × Obj)} {σ : St} {H : Hp} {s : Shared} {a : Addr} {xs ys : List V}
theorem SqL.of {K : PySem.W.Frag} (h : H a = some (.lst xs)) : SqL K H a xs := .inl (.inl h)
theorem SqT.of {K : PySem.W.Frag} (h : H a = some (.tup xs)) : SqT K H a xs := .inl (.inl h)
theorem Inv.list (I : Inv X pins σ H s) (h : SqL X.K H a xs) : ∃ its : List Value, Vals xs its ∧ PlainL s.heap a its.toArray ∧ xs.length ≤ sizeLine := by
  rcases h with h | ⟨o, its, n, hk, hc, hd, hs, hz, r⟩
  · obtain ⟨z, its, n, r, e⟩ := h.ok I.hok
    exact ⟨its, r, ⟨_, n, e, rfl, rfl, rfl⟩, z⟩
  · refine ⟨its.toList, r, ⟨o, n, I.kIn a o hk, hc, hd, by simpa using hs⟩, ?_⟩
    have e := r.length
    simp only [Array.length_toList] at e
    omega
theorem Inv.tuple (I : Inv X pins σ H s) (h : SqT X.K H a xs) : ∃ its : List Value, Vals xs its ∧ IsTup s.heap a its.toArray ∧ xs.length ≤ sizeLine := by
  rcases h with h | ⟨o, its, n, hk, hc, hs, hz, r⟩
  · obtain ⟨z, its, r, p⟩ := h.ok I.hok
    exact ⟨its, r, p, z⟩
  · refine ⟨its.toList, r, ⟨o, I.kIn a o hk, hc, n, by simpa using hs⟩, ?_⟩
    have e := r.length
    simp only [Array.length_toList] at e
    omega
theorem Inv.list_inj (I : Inv X pins σ H s) (h : SqL X.K H a xs) (h' : SqL X.K H a ys) : xs = ys := by
  obtain ⟨its, r, ⟨o, n, e, _, _, d⟩, _⟩ := I.list h
  obtain ⟨its', r', ⟨o', n', e', _, _, d'⟩, _⟩ := I.list h'
  rw [e] at e'; cases e'
  rw [d] at d'
  injection d' with d1 _
  have : its = its' := by simpa using congrArg Array.toList d1
  subst this
  exact r.inj r'
end
abbrev Cx.wish (X : Cx) (E : Value → Shared → Prop) : Cx := { X with xe := E }
abbrev Cx.nox (X : Cx) : Cx := X.wish fun _ _ => False
theorem Cx.Ok.wish {X : Cx} (ok : X.Ok) (E : Value → Shared → Prop) : (X.wish E).Ok :=
  ⟨ok.mod, ok.kind, ok.glob, ok.blt, ok.above, ok.inj, ok.has, ok.cab, ok.hd, ok.frames, ok.stk, ok.exf, ok.bs, ok.bsz, ok.noex, ok.exfs, ok.funs, ok.frf⟩
theorem Cx.Ok.unwish {X : Cx} {E : Value → Shared → Prop} (ok : (X.wish E).Ok) : X.Ok :=
  ⟨ok.mod, ok.kind, ok.glob, ok.blt, ok.above, ok.inj, ok.has, ok.cab, ok.hd, ok.frames, ok.stk, ok.exf, ok.bs, ok.bsz, ok.noex, ok.exfs, ok.funs, ok.frf⟩
section
variable {X : Cx} {pins : List (Addr × Obj)} {σ : St} {H : Hp} {s : Shared} {E : Value → Shared → Prop}
theorem Inv.wish (I : Inv X pins σ H s) (E : Value → Shared → Prop) : Inv (X.wish E) pins σ H s := ⟨I.ok.wish E, I.os, I.bare, I.base, I.loc, I.cell, I.free, I.freeC, I.pin, I.hok, I.len⟩
theorem Inv.unwish (I : Inv (X.wish E) pins σ H s) : Inv X pins σ H s := ⟨I.ok.unwish, I.os, I.bare, I.base, I.loc, I.cell, I.free, I.freeC, I.pin, I.hok, I.len⟩
theorem SP.unwish {D : Ends} {f : Flow} {s' : Shared} (h : SP (X.wish E) pins D f s') : SP X pins D f s' := by
  cases f with
  | next => obtain ⟨σ', H', I, q⟩ := h; exact ⟨σ', H', I.unwish, q⟩
  | brk => obtain ⟨σ', H', I, q⟩ := h; exact ⟨σ', H', I.unwish, q⟩
  | cont => obtain ⟨σ', H', I, q⟩ := h; exact ⟨σ', H', I.unwish, q⟩
  | ret u => obtain ⟨v, σ', H', I, r, q⟩ := h; exact ⟨v, σ', H', I.unwish, r, q⟩
theorem PE.nox {e : Expr} {t : TE} (h : PE X.nox e t) : PE X e t := fun pins s σ H Q I hw =>
  wpAny_mono (h pins s σ H Q (I.wish _) hw) (fun _ _ ⟨v, H', I', r, q⟩ => ⟨v, H', I'.unwish, r, q⟩) fun _ _ z => False.elim z
theorem PT.nox {e : Expr} {t : TT} (h : PT X.nox e t) : PT X e t := fun pins s σ H Q I hw =>
  wpAny_mono (h pins s σ H Q (I.wish _) hw) (fun _ _ ⟨H', I', q⟩ => ⟨H', I'.unwish, q⟩) fun _ _ z => False.elim z
theorem PSs.nox {st : List Stmt} {t : TS} (h : PSs X.nox st t) : PSs X st t := fun pins s σ H D I hw =>
  wpAny_mono (h pins s σ H D (I.wish _) hw) (fun _ _ q => q.unwish) fun _ _ z => False.elim z
end
section
variable {X : Cx} {st : Stmt} {rest : List Stmt} {t u : TS} {e : Expr} {te : TE} {pos : Pos}
def tNext : TS := fun D σ H => D.nx σ H
def tSeq (t u : TS) : TS := fun D σ H => t { D with nx := u D } σ H
theorem pss_nil : PSs X [] tNext := fun _ _ σ H _ I h => wpAny_execs_nil ⟨σ, H, I, h⟩
theorem pss_cons (h1 : PS X st t) (h2 : PSs X rest u) : PSs X (st :: rest) (tSeq t u) := by
  intro pins s σ H D I h
  refine wpAny_execs_cons (thn (h1 pins s σ H { D with nx := u D } I h) fun f s1 q => ?_)
  cases f with
  | next =>
    obtain ⟨σ', H', I', q⟩ := q
    exact h2 pins s1 σ' H' D I' q
  | ret v => exact q
  | brk => exact q
  | cont => exact q
theorem pss_one (h1 : PS X st t) : PSs X [st] t := by
  intro pins s σ H D I h
  refine wpAny_execs_cons (thn (h1 pins s σ H D I h) fun f s1 q => ?_)
  cases f with
  | next => exact wpAny_execs_nil q
  | ret v => exact q
  | brk => exact q
  | cont => exact q
def tCont : TS := fun D σ H => D.ct σ H
theorem ps_continue : PS X (.Continue pos) tCont := fun _ _ σ H _ I h => wpAny_Continue ⟨σ, H, I, h⟩
theorem Inv.quiet {pins : List (Addr × Obj)} {σ : St} {H : Hp} {s : Shared} (I : Inv X pins σ H s) : interactive X.env = false := by simp [interactive, I.ok.kind]
def tDrop (te : TE) : TS := fun D σ H => te σ H fun _ H1 => D.nx σ H1
theorem ps_expr (he : PE X e te) (hs : swapsWith e none pos.line X.env = pure false := by rfl) : PS X (.Expr e pos) (tDrop te) := by
  intro pins s σ H D I h
  exact wpAny_Expr_any (thn (he pins s σ H _ I h) fun v s1 ⟨x, H1, I1, r1, q1⟩ => ⟨σ, H1, I1, q1⟩) I.quiet hs
def tRet (te : TE) : TS := fun D σ H => te σ H D.rt
theorem ps_ret (he : PE X e te) : PS X (.Return (some e) pos) (tRet te) := by
  intro pins s σ H D I h
  exact wpAny_Return_some (thn (he pins s σ H _ I h) fun v s1 ⟨x, H1, I1, r1, q1⟩ => ⟨x, σ, H1, I1, r1, q1⟩)
def tIfS (c : TT) (t u : TS) : TS := fun D σ H => c σ H fun b H1 => if b = true then t D σ H1 else u D σ H1
theorem ps_if {c : Expr} {a b : List Stmt} {tc : TT} (hc : PT X c tc) (ha : PSs X a t) (hb : PSs X b u) : PS X (.If c a b pos) (tIfS tc t u) := by
  intro pins s σ H D I h
  refine wpAny_If (thn (hc pins s σ H _ I h) fun d s1 ⟨H1, I1, q1⟩ => ?_)
  cases d with
  | true => exact ha pins s1 σ H1 D I1 q1
  | false => exact hb pins s1 σ H1 D I1 q1
end
abbrev TG := V → St → Hp → (St → Hp → Prop) → Prop
abbrev TGs := List V → St → Hp → (St → Hp → Prop) → Prop
def PG (X : Cx) (target : Expr) (t : TG) : Prop :=
  ∀ (pins : List (Addr × Obj)) (s : Shared) (σ : St) (H : Hp) (v : V) (u : Value) (Q : St → Hp → Prop), Inv X pins σ H s → RelV v u → t v σ H Q →
    wpAny (model X.prog X.w) X.A (assign target X.env u) (fun _ s' => ∃ σ' H', Inv X pins σ' H' s' ∧ Q σ' H') X.xe s
def PGs (X : Cx) (ts : List Expr) (t : TGs) : Prop :=
  ∀ (pins : List (Addr × Obj)) (s : Shared) (σ : St) (H : Hp) (vs : List V) (us : List Value) (Q : St → Hp → Prop), Inv X pins σ H s → Vals vs us → t vs σ H Q →
    wpAny (model X.prog X.w) X.A (assignInOrder ((assignEach ts X.env).map (·.2)) us) (fun _ s' => ∃ σ' H', Inv X pins σ' H' s' ∧ Q σ' H') X.xe s
section
variable {X : Cx} {pos : Pos}
def gName (i : Nat) : TG := fun v σ H Q => Q (σ.set i (some v)) H
theorem pg_name {i : Nat} {x : Str} (hN : X.N.Nodup) (hi : X.N[i]? = some x) (hx : Loc X.env.scope x) (hf : X.fn x = true ∨ X.env.scope.names.lookup x = some .local := by first | exact .inl rfl | exact .inr rfl | assumption) : PG X (.Name x pos) (gName i) := by
  intro pins s σ H v u Q I r h
  exact wpAny_assign_Name (store_ok I hN hi hx r (fun s' I' => ⟨_, H, I', h⟩) hf)
def gNil : TGs := fun vs σ H Q => vs = [] ∧ Q σ H
def gCons (t : TG) (u : TGs) : TGs := fun vs σ H Q => ∃ v r, vs = v :: r ∧ t v σ H fun σ' H' => u r σ' H' Q
theorem pgs_nil : PGs X [] gNil := by
  intro pins s σ H vs us Q I r h
  obtain ⟨e, h⟩ := h
  subst e
  cases r
  exact assignInOrder_nil ⟨σ, H, I, h⟩
theorem pgs_cons {e : Expr} {es : List Expr} {t : TG} {u : TGs} (h1 : PG X e t) (h2 : PGs X es u)
    (hs : (assignEach (e :: es) X.env).map (·.2) = assign e X.env :: (assignEach es X.env).map (·.2) := by rfl) : PGs X (e :: es) (gCons t u) := by
  intro pins s σ H vs us Q I r h
  obtain ⟨v, vr, e1, h⟩ := h
  subst e1
  cases r with
  | cons r rr =>
    rw [hs]
    refine assignInOrder_cons (thn (h1 pins s σ H _ _ _ I r h) fun _ s1 ⟨σ1, H1, I1, q1⟩ => ?_)
    exact h2 pins s1 σ1 H1 _ _ Q I1 rr q1
def gTup (K : PySem.W.Frag) (n : Nat) (t : TGs) : TG := fun v σ H Q => ∃ a xs, v = .ref a ∧ SqT K H a xs ∧ xs.length = n ∧ t xs σ H Q
theorem pg_tup {es : List Expr} {k : Nat} {t : TGs} {n : Nat} (hc : X.calm = true) (h : PGs X es t)
    (hn : (assignEach es X.env).length = n := by rfl) (hst : (assignEach es X.env).findIdx? (·.1) = none := by rfl) : PG X (.Tuple es k pos) (gTup X.K n t) := by
  intro pins s σ H v u Q I r hw
  obtain ⟨a, xs, e1, hq, hl, hw⟩ := hw
  subst e1
  cases r
  obtain ⟨its, rv, ht, hz⟩ := I.tuple hq
  refine assign_Tuple_tuple (I.ok.hd hc) ht (by simp [hn, ← hl, rv.length]) hst fun h' hx => ?_
  have I1 : Inv X pins σ H { s with heap := h' } := I.kept (t' := s.toks) fun b o e => hx b o (Nat.ne_of_lt (Heap.lt_size e)) e
  exact h pins _ σ H xs _ Q I1 (by simpa using rv) hw
def tAsg (te : TE) (g : TG) : TS := fun D σ H => te σ H fun x H1 => g x σ H1 D.nx
theorem ps_asg {tg e : Expr} {te : TE} {g : TG} (he : PE X e te) (hg : PG X tg g) (hs : swapsWithSole [tg] e pos.line X.env = pure false := by rfl) (hw : swappedStores [tg] e X.env = pure none := by rfl)
    (h1 : (assignEach [tg] X.env).map (·.2) = [assign tg X.env] := by rfl) : PS X (.Assign [tg] e pos) (tAsg te g) := by
  intro pins s σ H D I h
  refine wpAny_Assign_stores (thn (he pins s σ H _ I h) fun v s1 ⟨x, H1, I1, r1, q1⟩ => ?_) hs hw
  rw [h1]
  exact thn (hg pins s1 σ H1 x v _ I1 r1 q1) fun _ s2 q => q
theorem ps_set {i : Nat} {x : Str} {e : Expr} {te : TE} {pos' : Pos} (hN : X.N.Nodup) (hi : X.N[i]? = some x) (hx : Loc X.env.scope x) (he : PE X e te) (hs : swapsWith e (some (.Name x pos')) pos.line X.env = pure false := by rfl) (hf : X.fn x = true ∨ X.env.scope.names.lookup x = some .local := by first | exact .inl rfl | exact .inr rfl | assumption) :
    PS X (.Assign [.Name x pos'] e pos) (tAsg te (gName i)) := by
  intro pins s σ H D I h
  refine wpAny_Assign_Name (thn (he pins s σ H _ I h) fun v s1 ⟨y, H1, I1, r1, q1⟩ => ?_) hs
  exact store_ok I1 hN hi hx r1 (fun s2 I2 => ⟨_, H1, I2, q1⟩) hf
end
section
variable {X : Cx} {pos : Pos}
def tWhile (c : TT) (tb : TS) : TS := fun D σ H => ∃ W : Nat → St → Hp → Prop, (∃ m, W m σ H) ∧ ∀ m σ H, W m σ H →
  c σ H fun b H1 => if b = true then ∃ N : St → Hp → Prop, (∀ σ' H', N σ' H' → ∃ m', m' < m ∧ W m' σ' H') ∧ tb { D with nx := N, ct := N, bk := D.nx } σ H1 else D.nx σ H1
theorem ps_while {c : Expr} {body : List Stmt} {tc : TT} {tb : TS} (hp : PassesOwn (model X.prog X.w) X.A X.env X.xe) (hc : PT X c tc) (hb : PSs X body tb) : PS X (.While c body [] pos) (tWhile tc tb) := by
  intro pins s σ H D I h
  obtain ⟨W, ⟨m0, w0⟩, turn⟩ := h
  refine wpAny_While (codeAny_whileLoop (fun n s' => ∃ σ' H', Inv X pins σ' H' s' ∧ W n σ' H') ?_ m0 ⟨σ, H, I, w0⟩)
  rintro n s1 ⟨σ1, H1, I1, w1⟩
  refine wpAny_passesOwn hp (thn (hc pins s1 σ1 H1 _ I1 (turn n σ1 H1 w1)) fun b s2 ⟨H2, I2, q2⟩ => ?_)
  cases b with
  | true =>
    obtain ⟨N, hN, q2⟩ := q2
    rw [if_pos rfl]
    refine wpAny_passesOwn hp (thn (hb pins s2 σ1 H2 _ I2 q2) fun f s3 q3 => ?_)
    cases f with
    | next =>
      obtain ⟨σ3, H3, I3, n3⟩ := q3
      obtain ⟨m', hm, w3⟩ := hN σ3 H3 n3
      exact ⟨m', hm, σ3, H3, I3, w3⟩
    | cont =>
      obtain ⟨σ3, H3, I3, n3⟩ := q3
      obtain ⟨m', hm, w3⟩ := hN σ3 H3 n3
      exact ⟨m', hm, σ3, H3, I3, w3⟩
    | brk => exact q3
    | ret v => exact q3
  | false =>
    rw [if_neg Bool.false_ne_true]
    exact wpAny_execs_nil ⟨σ1, H2, I2, q2⟩
end
structure It where
  go : Nat → Hp → Prop
  yld : Nat → Hp → V → Hp → Prop
  stop : Nat → Hp → Prop
def FpOk (X : Cx) (pins : List (Addr × Obj)) (H : Hp) (b : Addr) : Prop :=
  H b = none ∧ b ≠ X.env.locals ∧ b ∉ X.fs ∧ (b ∈ X.ex ∨ X.s₀.heap.objs.size ≤ b) ∧ (∀ x c, X.env.cells.lookup x = some c → c ≠ b) ∧ ∀ p ∈ X.pn ++ pins, p.1 ≠ b
theorem Inv.fpOk {X : Cx} {pins : List (Addr × Obj)} {σ : St} {H H' : Hp} {s : Shared} {b : Addr} (I : Inv X pins σ H s) (hb : s.heap.objs.size ≤ b) (hn : H' b = none) : FpOk X pins H' b := by
  refine ⟨hn, Nat.ne_of_gt (Nat.lt_of_lt_of_le I.lt hb), I.nofs hb, .inr (Nat.le_trans I.sz hb), fun x c e z => ?_, fun p hp z => ?_⟩
  · obtain ⟨v, q⟩ := I.cell x c e
    exact absurd (Nat.lt_of_lt_of_le q.lt (by rw [z]; exact hb)) (Nat.lt_irrefl _)
  · exact absurd (Nat.lt_of_lt_of_le (Heap.lt_size (I.pin p hp).1) (by rw [z]; exact hb)) (Nat.lt_irrefl _)
structure Turn (P : Program) (w : World) (K : PySem.W.Frag) (tg : Expr) (J : It) (fp : List Addr) (it : Addr) (tn : Nat → Heap → Prop) : Prop where
  mem : it ∈ fp
  obj : ∀ i h, tn i h → ∀ b ∈ fp, ∃ o, h.get? b = some o ∧ ∀ v, o.data ≠ .cell v
  keep : ∀ i h h', tn i h → (∀ b ∈ fp, ∀ o, h.get? b = some o → h'.get? b = some o) → tn i h'
  item : ∀ (X : Cx), X.prog = P → X.w = w → X.K = K → X.calm = true → ∀ (i : Nat) (pins : List (Addr × Obj)) (s : Shared) (σ : St) (H : Hp) (E : Value → Shared → Prop), Inv X pins σ H s → (∀ b ∈ fp, FpOk X pins H b) → tn i s.heap → J.go i H →
    wpAny (model P w) X.A (pyNext (.ref it)) (fun r s1 => ∃ u, r = some u ∧
      wpAny (model P w) X.A (letOwnedTupleGo tg (.ref it) u) (fun _ s2 => ∃ x H', Inv X pins σ H' s2 ∧ RelV x u ∧ J.yld i H x H' ∧ tn (i + 1) s2.heap ∧ ∀ b ∈ fp, H' b = none) E s1) E s
  done : ∀ (X : Cx), X.prog = P → X.w = w → X.K = K → X.calm = true → ∀ (i : Nat) (pins : List (Addr × Obj)) (s : Shared) (σ : St) (H : Hp) (E : Value → Shared → Prop), Inv X pins σ H s → (∀ b ∈ fp, FpOk X pins H b) → tn i s.heap → J.stop i H →
    wpAny (model P w) X.A (pyNext (.ref it)) (fun r s1 => r = none ∧ Inv X pins σ H s1) E s
  self : ∀ (A : Around) (i : Nat) (s : Shared) (Q : Value → Shared → Prop) (E : Value → Shared → Prop), tn i s.heap → Q (.ref it) s → wpAny (model P w) A (pyIter (.ref it)) Q E s
abbrev TI := St → Hp → (It → Hp → Prop) → Prop
def PIE (X : Cx) (pins : List (Addr × Obj)) (σ : St) (tg : Expr) (R : It → Hp → Prop) (itv : Value) (s2 : Shared) : Prop :=
  ∃ (it : Addr) (fp : List Addr) (tn : Nat → Heap → Prop) (J : It) (H' : Hp), itv = .ref it ∧ Inv X pins σ H' s2 ∧ Turn X.prog X.w X.K tg J fp it tn ∧ tn 0 s2.heap ∧ (∀ b ∈ fp, FpOk X pins H' b) ∧ R J H'
def PI (X : Cx) (tg iter : Expr) (wi : TI) : Prop :=
  ∀ (pins : List (Addr × Obj)) (s : Shared) (σ : St) (H : Hp) (R : It → Hp → Prop), Inv X pins σ H s → wi σ H R →
    wpAny (model X.prog X.w) X.A (eval iter X.env) (fun v s1 => wpAny (model X.prog X.w) X.A (pyIter v) (PIE X pins σ tg R) X.xe s1) X.xe s
theorem go_of {M : Model} {A : Around} {E : Value → Shared → Prop} {s : Shared} {tg : Expr} {it : Addr} {u : Value} {o : Obj} {n : String} {vs : Array Value} {Q : Unit → Shared → Prop} (ho : s.heap.get? it = some o) (hc : o.cls = .type n) (hd : o.data = .fields vs)
    (hn : ["enumerate", "zip", "dict_itemiterator", "dict_reverseitemiterator", "odict_iterator", "itertools.zip_longest", "itertools.pairwise"].contains n = false) (hQ : Q () s) : wpAny M A (letOwnedTupleGo tg (.ref it) u) Q E s := by
  unfold letOwnedTupleGo
  cases tg <;> first
    | exact wpAny_pure hQ
    | (cases u <;> first
        | exact wpAny_pure hQ
        | (refine wpAny_bind (wpAny_load ho ?_)
           rw [hc, hd]
           show wpAny M A (if (["enumerate", "zip", "dict_itemiterator", "dict_reverseitemiterator", "odict_iterator", "itertools.zip_longest", "itertools.pairwise"].contains n && vs[0]? == some (rawInt _)) = true then _ else _) Q E s
           rw [if_neg (by intro h; rw [hn, Bool.false_and] at h; cases h)]
           exact wpAny_pure hQ))
def Itl (K : PySem.W.Frag) (a : Addr) : It :=
  ⟨fun i H => ∃ xs x, SqL K H a xs ∧ xs[i]? = some x, fun i H x H' => H' = H ∧ ∀ xs, SqL K H a xs → xs[i]? = some x, fun i H => ∃ xs, SqL K H a xs ∧ xs.length ≤ i⟩
def Itr (lo : Int) (n : Nat) : It := ⟨fun i _ => i < n, fun i H x H' => H' = H ∧ x = .int (lo + i), fun i _ => n ≤ i⟩
theorem turn_list {P : Program} {w : World} {K : PySem.W.Frag} {tg : Expr} (a it : Addr) : Turn P w K tg (Itl K a) [it] it (fun i h => h.IsListIter it a i) where
  mem := by simp
  obj := fun i h st b hb => by
    have e : b = it := by simpa using hb
    subst e
    obtain ⟨o, e, c, d⟩ := st
    exact ⟨o, e, fun v z => by rw [d] at z; cases z⟩
  keep := fun i h h' st k => st.at fun o e => k it (by simp) o e
  item := by
    intro X hP hw hK hc i pins s σ H E I hf st hg
    subst hP hw hK
    obtain ⟨xs, x, hq, hx⟩ := hg
    obtain ⟨its, rv, p, hz⟩ := I.list hq
    obtain ⟨u, hu, ru⟩ := rv.get hx
    obtain ⟨f0, f1, f2, f3, f4, f5⟩ := hf it (by simp)
    refine wpAny_pyNext_list_item st p.isList (x := u) (by simpa using hu) fun h' st' sb => ?_
    have I1 : Inv X pins σ H { s with heap := h' } := I.turned (t' := s.toks) (fun b o hb e => (sb.2 b hb).trans e) f0 f1 f3 f4 f5
    obtain ⟨o, e, c, d⟩ := id st'
    exact ⟨u, rfl, go_of (s := { s with heap := h' }) e c d (by decide) ⟨x, H, I1, ru, ⟨rfl, fun ys hy => by rw [I.list_inj hy hq]; exact hx⟩, st', fun b hb => (hf b hb).1⟩⟩
  done := by
    intro X hP hw hK hc i pins s σ H E I hf st hg
    subst hP hw hK
    obtain ⟨xs, hq, hx⟩ := hg
    obtain ⟨its, rv, p, hz⟩ := I.list hq
    obtain ⟨f0, f1, f2, f3, f4, f5⟩ := hf it (by simp)
    have hl := rv.length
    exact wpAny_pyNext_list_end (I.ok.hd hc) st p.isList (by simp; omega) fun h' eb => ⟨rfl, I.turned (t' := s.toks) (fun b o hb e => eb b o hb e) f0 f1 f3 f4 f5⟩
  self := fun _ _ _ _ _ st h => wpAny_pyIter_listiter st h
theorem turn_range {P : Program} {w : World} {K : PySem.W.Frag} {tg : Expr} (it : Addr) (lo : Int) (n : Nat) : Turn P w K tg (Itr lo n) [it] it (fun i h => IsRangeIter h it (lo + (i : Nat) * 1) ((n : Int) - (i : Nat)) 1) where
  mem := by simp
  obj := fun i h st b hb => by
    have e : b = it := by simpa using hb
    subst e
    exact ⟨_, st, fun v z => by
      have z' : Data.fields _ = Data.cell v := z
      cases z'⟩
  keep := fun i h h' st k => k it (by simp) _ st
  item := by
    intro X hP hw hK hc i pins s σ H E I hf st hg
    subst hP hw hK
    obtain ⟨f0, f1, f2, f3, f4, f5⟩ := hf it (by simp)
    have W := Walks.range (prog := X.prog) (w := X.w) (I.ok.hd hc) it lo 1 n
    refine W.item i s _ _ hg st fun v h' tk hv st' kk => ?_
    obtain ⟨t, rfl⟩ := hv
    have I1 : Inv X pins σ H { s with heap := h', toks := tk } := I.turned (fun b o hb e => kk b o (by simpa using hb) e) f0 f1 f3 f4 f5
    refine ⟨_, rfl, go_of (s := { s with heap := h', toks := tk }) (n := "range_iterator") st' rfl rfl (by decide) ⟨.int (lo + i), H, I1, ⟨t, ?_⟩, ⟨rfl, rfl⟩, st', fun b hb => (hf b hb).1⟩⟩
    rw [Int.mul_one]
  done := by
    intro X hP hw hK hc i pins s σ H E I hf st hg
    subst hP hw hK
    obtain ⟨f0, f1, f2, f3, f4, f5⟩ := hf it (by simp)
    exact wpAny_pyNext_range_end (I.ok.hd hc) st (by have : n ≤ i := hg; omega) fun h' eb => ⟨rfl, I.turned (t' := s.toks) (fun b o hb e => eb b o hb e) f0 f1 f3 f4 f5⟩
  self := fun _ _ _ _ _ st h => wpAny_pyIter_rangeiter st h
end L2
namespace L2
open PySem PySem.Spec PyProof.Rows
section
variable {X : Cx} {tg : Expr}
def iList (K : PySem.W.Frag) (tl : TE) : TI := fun σ H R => tl σ H fun x H1 => ∃ a, x = .ref a ∧ (∃ xs, SqL K H1 a xs) ∧ R (Itl K a) H1
theorem pi_list {l : Expr} {tl : TE} (hl : PE X l tl) : PI X tg l (iList X.K tl) := by
  intro pins s σ H R I h
  refine thn (hl pins s σ H _ I h) fun v s1 ⟨x, H1, I1, r1, q1⟩ => ?_
  obtain ⟨a, e, ⟨xs, hq⟩, q⟩ := q1
  subst e
  cases r1
  obtain ⟨its, rv, p, hz⟩ := I1.list hq
  refine wpAny_pyIter_list p.isList ?_
  refine ⟨s1.heap.objs.size, [s1.heap.objs.size], _, _, H1, rfl, I1.kept (t' := s1.toks) fun b o e => Heap.get?_push_of_some _ e, turn_list a _, ⟨_, Heap.get?_push_size _ rfl, rfl, rfl⟩, fun b hb => ?_, q⟩
  have e : b = s1.heap.objs.size := by simpa using hb
  subst e
  exact I1.fpOk (Nat.le_refl _) (I1.hok.fresh (Nat.le_refl _))
theorem range_it {pins : List (Addr × Obj)} {σ : St} {H : Hp} {s : Shared} {R : It → Hp → Prop} {E : Value → Shared → Prop} {lo hi : Int} {t u v : Tok} {tk : Nat} (I : Inv X pins σ H s) (h1 : -(2 ^ 62) ≤ lo) (h2 : lo < 2 ^ 62) (h3 : -(2 ^ 62) ≤ hi) (h4 : hi < 2 ^ 62)
    (q : R (Itr lo (hi - lo).toNat) H) : wpAny (model X.prog X.w) X.A (pyIter (.ref s.heap.objs.size)) (PIE X pins σ tg R) E { s with heap := s.heap.push { cls := .type "range", data := .fields #[.int lo t, .int hi u, .int 1 v] }, toks := tk } := by
  refine wpAny_pyIter_range (IsRange.new ..) (small_one h1 h2 h3 h4) ?_
  have I1 : Inv X pins σ H { s with heap := s.heap.push { cls := .type "range", data := .fields #[.int lo t, .int hi u, .int 1 v] }, toks := tk } := I.kept fun b o e => Heap.get?_push_of_some _ e
  refine ⟨(s.heap.push { cls := .type "range", data := .fields #[.int lo t, .int hi u, .int 1 v] }).objs.size, [(s.heap.push { cls := .type "range", data := .fields #[.int lo t, .int hi u, .int 1 v] }).objs.size], _, _, H, rfl,
    I1.kept (t' := tk) fun b o e => Heap.get?_push_of_some _ e, turn_range _ lo (hi - lo).toNat, ?_, fun b hb => ?_, q⟩
  · have e1 : lo + ((0 : Nat) : Int) * 1 = lo := by simp
    have e2 : (((hi - lo).toNat : Nat) : Int) - ((0 : Nat) : Int) = Builtin.Range.rangeSize lo hi 1 := by rw [rangeSize_one]; split <;> omega
    show IsRangeIter _ _ (lo + ((0 : Nat) : Int) * 1) ((((hi - lo).toNat : Nat) : Int) - ((0 : Nat) : Int)) 1
    rw [e1, e2]
    exact Heap.get?_push_size _ rfl
  · have e : b = (s.heap.push { cls := .type "range", data := .fields #[.int lo t, .int hi u, .int 1 v] }).objs.size := by simpa using hb
    subst e
    exact I1.fpOk (Nat.le_refl _) (I1.hok.fresh (Nat.le_refl _))
def iRng1 (ta : TA) : TI := fun σ H R => ta σ H fun vs H1 => ∃ j : Int, vs = [.int j] ∧ -(2 ^ 62) ≤ j ∧ j < 2 ^ 62 ∧ R (Itr 0 j.toNat) H1
def iRng2 (ta : TA) : TI := fun σ H R => ta σ H fun vs H1 => ∃ i j : Int, vs = [.int i, .int j] ∧ (-(2 ^ 62) ≤ i ∧ i < 2 ^ 62 ∧ -(2 ^ 62) ≤ j ∧ j < 2 ^ 62) ∧ R (Itr i (j - i).toNat) H1
theorem pi_range1 {a : Expr} {ta : TA} {p pos : Pos} (hg : Gl X "range") (hm : X.mg "range" = none) (ha : PA X [a] ta) (hs : starEach [a] X.env = [(false, eval a X.env)] := by rfl) : PI X tg (.Call (.Name "range" p) [a] [] pos) (iRng1 ta) := by
  intro pins s σ H R I h
  refine Call_ (ld_blt I hg hm boot_range (PyProof.Rows.callWith_type1 (thn (ha pos pins s σ H _ I h) fun us s1 ⟨vs, H1, I1, r1, q1⟩ => ?_) hs rfl))
  obtain ⟨j, e, q1, q2, q⟩ := q1
  subst e
  cases r1 with
  | cons r rr =>
    cases rr
    obtain ⟨t, rfl⟩ := r
    exact call_range_1 (range_it I1 (by omega) (by omega) q1 q2 (by simpa using q))
theorem pi_range2 {a b : Expr} {ta : TA} {p pos : Pos} (hg : Gl X "range") (hm : X.mg "range" = none) (ha : PA X [a, b] ta) (hs : starEach [a, b] X.env = [(false, eval a X.env), (false, eval b X.env)] := by rfl) (hs2 : starEach [b] X.env = [(false, eval b X.env)] := by rfl) :
    PI X tg (.Call (.Name "range" p) [a, b] [] pos) (iRng2 ta) := by
  intro pins s σ H R I h
  refine Call_ (ld_blt I hg hm boot_range (PyProof.Rows.callWith_type1 (thn (ha pos pins s σ H _ I h) fun us s1 ⟨vs, H1, I1, r1, q1⟩ => ?_) (by rw [hs, hs2]) (by rw [hs2]; rfl)))
  obtain ⟨i, j, e, ⟨q1, q2, q3, q4⟩, q⟩ := q1
  subst e
  cases r1 with
  | cons r rr =>
    cases rr with
    | cons r' rr =>
      cases rr
      obtain ⟨t, rfl⟩ := r
      obtain ⟨t', rfl⟩ := r'
      exact call_range_2 (range_it I1 q1 q2 q3 q4 q)
def tFor (wi : TI) (g : TG) (tb : TS) : TS := fun D σ H => wi σ H fun J H1 => ∃ W : Nat → Nat → St → Hp → Prop, (∃ m, W 0 m σ H1) ∧ ∀ i m σ H, W i m σ H →
  (J.stop i H ∧ D.nx σ H) ∨ (J.go i H ∧ ∃ N : St → Hp → Prop, (∀ σ' H', N σ' H' → ∃ m', m' < m ∧ W (i + 1) m' σ' H') ∧ ∀ x H', J.yld i H x H' → g x σ H' fun σ2 H2 => tb { D with nx := N, ct := N, bk := D.nx } σ2 H2)
def pinsAt (fp : List Addr) (h : Heap) : List (Addr × Obj) := fp.filterMap fun b => (h.get? b).map fun o => (b, o)
theorem mem_pinsAt {fp : List Addr} {h : Heap} {b : Addr} {o : Obj} (hb : b ∈ fp) (e : h.get? b = some o) : (b, o) ∈ pinsAt fp h := List.mem_filterMap.mpr ⟨b, hb, by rw [e]; rfl⟩
theorem of_pinsAt {fp : List Addr} {h : Heap} {p : Addr × Obj} (hp : p ∈ pinsAt fp h) : p.1 ∈ fp ∧ h.get? p.1 = some p.2 := by
  obtain ⟨b, hb, e⟩ := List.mem_filterMap.mp hp
  cases q : h.get? b with
  | none => rw [q] at e; cases e
  | some o =>
    rw [q] at e
    have e' : (b, o) = p := Option.some.inj e
    subst e'
    exact ⟨hb, q⟩
theorem Inv.pinned {pins : List (Addr × Obj)} {σ : St} {H : Hp} {s : Shared} {fp : List Addr} (I : Inv X pins σ H s) (hf : ∀ b ∈ fp, FpOk X pins H b) (ho : ∀ b ∈ fp, ∃ o, s.heap.get? b = some o ∧ ∀ v, o.data ≠ .cell v) : Inv X (pins ++ pinsAt fp s.heap) σ H s :=
  I.pins_of fun p hp => (List.mem_append.mp hp).elim (fun z => I.pin p (List.mem_append_right _ z)) fun z => by
    obtain ⟨hb, e⟩ := of_pinsAt z
    obtain ⟨f0, f1, f2, _⟩ := hf p.1 hb
    obtain ⟨o, e', d⟩ := ho p.1 hb
    rw [e] at e'; cases e'
    exact ⟨e, f0, f1, f2, d⟩
theorem Inv.unpinned {pins pl : List (Addr × Obj)} {σ : St} {H : Hp} {s : Shared} (I : Inv X (pins ++ pl) σ H s) : Inv X pins σ H s := I.pins_of fun p hp => I.pin p (List.mem_append_right _ (List.mem_append_left _ hp))
theorem ps_for {iter : Expr} {body : List Stmt} {wi : TI} {g : TG} {tb : TS} {pos : Pos} (hp : PassesOwn (model X.prog X.w) X.A X.env X.xe) (hc : X.calm = true) (hi : PI X tg iter wi) (hg : PG X tg g) (hb : PSs X body tb)
    (hs : ∀ x, foldedSetIterable iter X.env x = pure x := by intro _; rfl) : PS X (.For tg iter body [] pos) (tFor wi g tb) := by
  intro pins s σ H D I h
  refine wpAny_For (thn (hi pins s σ H _ I h) fun v s1 h1 => thn h1 fun itv s2 h2 => ?_) hs
  obtain ⟨it, fp, tn, J, H2, e, I2, T, st2, f2, W, ⟨m0, w0⟩, turn⟩ := h2
  subst e
  have stat : ∀ {H' : Hp}, (∀ b ∈ fp, H' b = none) → ∀ b ∈ fp, FpOk X pins H' b := fun hn b hb => ⟨hn b hb, (f2 b hb).2⟩
  refine codeAny_forLoop_any (fun n s' => ∃ i σ' H', Inv X pins σ' H' s' ∧ tn i s'.heap ∧ (∀ b ∈ fp, H' b = none) ∧ W i n σ' H') ?_ m0 ⟨0, σ, H2, I2, st2, fun b hb => (f2 b hb).1, w0⟩
  rintro n s3 ⟨i, σ3, H3, I3, st3, fr3, w3⟩
  rcases turn i n σ3 H3 w3 with ⟨stop, qn⟩ | ⟨go, N, hN, step⟩
  · refine wpAny_passesOwn hp (thn (T.done X rfl rfl rfl hc i pins s3 σ3 H3 X.xe I3 (stat fr3) st3 stop) fun r s4 ⟨hr, I4⟩ => ?_)
    subst hr
    exact wpAny_execs_nil ⟨σ3, H3, I4, qn⟩
  · refine wpAny_passesOwn hp (thn (T.item X rfl rfl rfl hc i pins s3 σ3 H3 X.xe I3 (stat fr3) st3 go) fun r s4 ⟨u, hr, h4⟩ => ?_)
    subst hr
    refine wpAny_passesOwn hp (thn h4 fun _ s5 ⟨x, H5, I5, r5, y5, st5, fr5⟩ => ?_)
    have I5' := I5.pinned (stat fr5) (T.obj _ _ st5)
    refine wpAny_passesOwn hp (thn (hg _ s5 σ3 H5 x u _ I5' r5 (step x H5 y5)) fun _ s6 ⟨σ6, H6, I6, q6⟩ => ?_)
    refine wpAny_passesOwn hp (thn (hb _ s6 σ6 H6 _ I6 q6) fun f s7 q7 => ?_)
    have again : ∀ {σ7 : St} {H7 : Hp}, Inv X (pins ++ pinsAt fp s5.heap) σ7 H7 s7 → N σ7 H7 → ∃ m, m < n ∧ ∃ i σ' H', Inv X pins σ' H' s7 ∧ tn i s7.heap ∧ (∀ b ∈ fp, H' b = none) ∧ W i m σ' H' := fun {σ7 H7} I7 n7 => by
      obtain ⟨m', hm, w7⟩ := hN σ7 H7 n7
      refine ⟨m', hm, i + 1, σ7, H7, I7.unpinned, T.keep _ _ _ st5 fun b hb o e => (I7.pin (b, o) (List.mem_append_right _ (List.mem_append_right _ (mem_pinsAt hb e)))).1, fun b hb => ?_, w7⟩
      obtain ⟨o, e, d⟩ := T.obj _ _ st5 b hb
      exact (I7.pin (b, o) (List.mem_append_right _ (List.mem_append_right _ (mem_pinsAt hb e)))).2.1
    cases f with
    | next => obtain ⟨σ7, H7, I7, n7⟩ := q7; exact again I7 n7
    | cont => obtain ⟨σ7, H7, I7, n7⟩ := q7; exact again I7 n7
    | brk => obtain ⟨σ7, H7, I7, q7⟩ := q7; exact ⟨σ7, H7, I7.unpinned, q7⟩
    | ret v => obtain ⟨x7, σ7, H7, I7, r7, q7⟩ := q7; exact ⟨x7, σ7, H7, I7.unpinned, r7, q7⟩
end
theorem for_list {K : PySem.W.Frag} {a : Addr} {xs : List V} {g : TG} {tb : TS} {D : Ends} {σ : St} {H : Hp} (Pv : Nat → St → Hp → Prop) (h0 : Pv 0 σ H) (hl : ∀ i σ H, i ≤ xs.length → Pv i σ H → SqL K H a xs)
    (hs : ∀ i x σ H, xs[i]? = some x → Pv i σ H → g x σ H fun σ2 H2 => tb { D with nx := Pv (i + 1), ct := Pv (i + 1), bk := D.nx } σ2 H2) (hd : ∀ σ H, Pv xs.length σ H → D.nx σ H) :
    ∃ W : Nat → Nat → St → Hp → Prop, (∃ m, W 0 m σ H) ∧ ∀ i m σ H, W i m σ H →
      ((Itl K a).stop i H ∧ D.nx σ H) ∨ ((Itl K a).go i H ∧ ∃ N : St → Hp → Prop, (∀ σ' H', N σ' H' → ∃ m', m' < m ∧ W (i + 1) m' σ' H') ∧ ∀ x H', (Itl K a).yld i H x H' → g x σ H' fun σ2 H2 => tb { D with nx := N, ct := N, bk := D.nx } σ2 H2) := by
  refine ⟨fun i m σ H => m = xs.length - i ∧ i ≤ xs.length ∧ Pv i σ H, ⟨xs.length, by simp, Nat.zero_le _, h0⟩, ?_⟩
  rintro i m σ H ⟨rfl, hi, p⟩
  have q := hl i σ H hi p
  by_cases hlt : i < xs.length
  · refine .inr ⟨⟨xs, xs[i], q, by simp [hlt]⟩, Pv (i + 1), fun σ' H' p' => ⟨xs.length - (i + 1), by omega, rfl, hlt, p'⟩, fun x H' y => ?_⟩
    obtain ⟨e, y⟩ := y
    subst e
    exact hs i x σ _ (y xs q) p
  · have e : i = xs.length := by omega
    subst e
    exact .inl ⟨⟨xs, q, Nat.le_refl _⟩, hd σ H p⟩
theorem for_range {lo : Int} {n : Nat} {g : TG} {tb : TS} {D : Ends} {σ : St} {H : Hp} (Pv : Nat → St → Hp → Prop) (h0 : Pv 0 σ H)
    (hs : ∀ i σ H, i < n → Pv i σ H → g (.int (lo + i)) σ H fun σ2 H2 => tb { D with nx := Pv (i + 1), ct := Pv (i + 1), bk := D.nx } σ2 H2) (hd : ∀ σ H, Pv n σ H → D.nx σ H) :
    ∃ W : Nat → Nat → St → Hp → Prop, (∃ m, W 0 m σ H) ∧ ∀ i m σ H, W i m σ H →
      ((Itr lo n).stop i H ∧ D.nx σ H) ∨ ((Itr lo n).go i H ∧ ∃ N : St → Hp → Prop, (∀ σ' H', N σ' H' → ∃ m', m' < m ∧ W (i + 1) m' σ' H') ∧ ∀ x H', (Itr lo n).yld i H x H' → g x σ H' fun σ2 H2 => tb { D with nx := N, ct := N, bk := D.nx } σ2 H2) := by
  refine ⟨fun i m σ H => m = n - i ∧ i ≤ n ∧ Pv i σ H, ⟨n, by simp, Nat.zero_le _, h0⟩, ?_⟩
  rintro i m σ H ⟨rfl, hi, p⟩
  by_cases hlt : i < n
  · refine .inr ⟨hlt, Pv (i + 1), fun σ' H' p' => ⟨n - (i + 1), by omega, rfl, hlt, p'⟩, fun x H' y => ?_⟩
    obtain ⟨e, y⟩ := y
    subst e y
    exact hs i σ _ hlt p
  · have e : i = n := by omega
    subst e
    exact .inl ⟨Nat.le_refl _, hd σ H p⟩
theorem while_by {c : TT} {tb : TS} {D : Ends} {σ : St} {H : Hp} (Pv : St → Hp → Prop) (μ : St → Hp → Nat) (h0 : Pv σ H)
    (hs : ∀ σ H, Pv σ H → c σ H fun b H1 => if b = true then tb { D with nx := fun σ' H' => Pv σ' H' ∧ μ σ' H' < μ σ H, ct := fun σ' H' => Pv σ' H' ∧ μ σ' H' < μ σ H, bk := D.nx } σ H1 else D.nx σ H1)
    (mono : ∀ σ H Q Q', (∀ b H1, Q b H1 → Q' b H1) → c σ H Q → c σ H Q') : tWhile c tb D σ H := by
  refine ⟨fun m σ H => m = μ σ H ∧ Pv σ H, ⟨_, rfl, h0⟩, ?_⟩
  rintro m σ H ⟨rfl, p⟩
  refine mono σ H _ _ (fun b H1 q => ?_) (hs σ H p)
  cases b with
  | true => exact ⟨_, fun σ' H' ⟨p', l⟩ => ⟨_, l, rfl, p'⟩, q⟩
  | false => exact q
end L2
namespace L2
open PySem PySem.Spec PyProof.Rows
abbrev R2 := V → V → Hp → VK → Prop
def OpR (X : Cx) (f : Value → Value → Sem Value) (r : R2) : Prop :=
  ∀ (pins : List (Addr × Obj)) (s : Shared) (σ : St) (H : Hp) (x y : V) (v u : Value) (Q : VK), Inv X pins σ H s → RelV x v → RelV y u → r x y H Q →
    wpAny (model X.prog X.w) X.A (f v u) (EP X pins σ Q) X.xe s
def UnR (X : Cx) (f : Value → Sem Value) (r : V → Hp → VK → Prop) : Prop :=
  ∀ (pins : List (Addr × Obj)) (s : Shared) (σ : St) (H : Hp) (x : V) (v : Value) (Q : VK), Inv X pins σ H s → RelV x v → r x H Q →
    wpAny (model X.prog X.w) X.A (f v) (EP X pins σ Q) X.xe s
def CallR (X : Cx) (f : Value) (r : List V → Hp → VK → Prop) : Prop :=
  ∀ (pins : List (Addr × Obj)) (s : Shared) (σ : St) (H : Hp) (xs : List V) (us : List Value) (Q : VK), Inv X pins σ H s → Vals xs us → r xs H Q →
    wpAny (model X.prog X.w) X.A (call f us) (EP X pins σ Q) X.xe s
def TruR (X : Cx) (r : V → Hp → (Bool → Hp → Prop) → Prop) : Prop :=
  ∀ (pins : List (Addr × Obj)) (s : Shared) (σ : St) (H : Hp) (x : V) (v : Value) (Q : Bool → Hp → Prop), Inv X pins σ H s → RelV x v → r x H Q →
    wpAny (model X.prog X.w) X.A (truthy v) (TP X pins σ Q) X.xe s
def tOp (r : R2) (ta tb : TE) : TE := fun σ H Q => ta σ H fun x H1 => tb σ H1 fun y H2 => r x y H2 Q
def tUn (r : V → Hp → VK → Prop) (ta : TE) : TE := fun σ H Q => ta σ H fun x H1 => r x H1 Q
def rI (C : Int → Int → Prop) (g : Int → Int → V) : R2 := fun x y H Q => ∃ i j, x = .int i ∧ y = .int j ∧ C i j ∧ Q (g i j) H
def rI0 (g : Int → Int → V) : R2 := fun x y H Q => ∃ i j, x = .int i ∧ y = .int j ∧ Q (g i j) H
def rU (g : Int → V) : V → Hp → VK → Prop := fun x H Q => ∃ i, x = .int i ∧ Q (g i) H
section
variable {X : Cx} {a b c : Expr} {ta tb tc : TE} {pos : Pos}
theorem binT (ha : PE X a ta) (hb : PE X b tb) {pins : List (Addr × Obj)} {s : Shared} {σ : St} {H : Hp} {R : V → V → Hp → Prop} (I : Inv X pins σ H s)
    (h : ta σ H fun x H1 => tb σ H1 fun y H2 => R x y H2) {Q : Value → Shared → Prop} {f : Value → Value → Sem Value}
    (hf : ∀ v u s2 x y H2, Inv X pins σ H2 s2 → RelV x v → RelV y u → R x y H2 → wpAny (model X.prog X.w) X.A (f v u) Q X.xe s2) :
    wpAny (model X.prog X.w) X.A (eval a X.env) (fun v s₁ => wpAny (model X.prog X.w) X.A (eval b X.env) (fun u s₂ => wpAny (model X.prog X.w) X.A (f v u) Q X.xe s₂) X.xe s₁) X.xe s := by
  refine thn (ha pins s σ H _ I h) fun v s1 ⟨x, H1, I1, r1, q1⟩ => ?_
  refine thn (hb pins s1 σ H1 _ I1 q1) fun u s2 ⟨y, H2, I2, r2, q2⟩ => ?_
  exact hf v u s2 x y H2 I2 r1 r2 q2
theorem pe_op {op : Operator} {r : R2} (ho : OpR X (binaryOp op) r) (ha : PE X a ta) (hb : PE X b tb) : PE X (.BinOp a op b pos) (tOp r ta tb) := by
  intro pins s σ H Q I h
  exact wpAny_BinOp (binT ha hb I h fun v u s2 x y H2 I2 rx ry q => ho pins s2 σ H2 x y v u Q I2 rx ry q)
theorem pe_un {op : UnaryOp} {r : V → Hp → VK → Prop} (ho : UnR X (unaryOp op) r) (ha : PE X a ta) : PE X (.UnaryOp op a pos) (tUn r ta) := by
  intro pins s σ H Q I h
  exact UnaryOp_ (thn (ha pins s σ H _ I h) fun v s1 ⟨x, H1, I1, r1, q1⟩ => ho pins s1 σ H1 x v Q I1 r1 q1)
theorem opI {f : Value → Value → Sem Value} {C : Int → Int → Prop} {g : Int → Int → Int}
    (rule : ∀ (i j : Int) (t u : Tok) (s : Shared) (Q : Value → Shared → Prop) (E : Value → Shared → Prop), C i j → Q (.int (g i j) s.toks) { s with toks := s.toks + 1 } → wpAny (model X.prog X.w) X.A (f (.int i t) (.int j u)) Q E s) :
    OpR X f (rI C fun i j => .int (g i j)) := by
  intro pins s σ H x y v u Q I rx ry h
  obtain ⟨i, j, rfl, rfl, hc, q⟩ := h
  obtain ⟨t, rfl⟩ := rx
  obtain ⟨t', rfl⟩ := ry
  exact rule i j t t' s _ _ hc ⟨.int (g i j), H, I.tok _, ⟨_, rfl⟩, q⟩
theorem opI0 {f : Value → Value → Sem Value} {g : Int → Int → Int}
    (rule : ∀ (i j : Int) (t u : Tok) (s : Shared) (Q : Value → Shared → Prop) (E : Value → Shared → Prop), Q (.int (g i j) s.toks) { s with toks := s.toks + 1 } → wpAny (model X.prog X.w) X.A (f (.int i t) (.int j u)) Q E s) :
    OpR X f (rI0 fun i j => .int (g i j)) := by
  intro pins s σ H x y v u Q I rx ry h
  obtain ⟨i, j, rfl, rfl, q⟩ := h
  obtain ⟨t, rfl⟩ := rx
  obtain ⟨t', rfl⟩ := ry
  exact rule i j t t' s _ _ ⟨.int (g i j), H, I.tok _, ⟨_, rfl⟩, q⟩
theorem opB0 {f : Value → Value → Sem Value} {g : Int → Int → Bool}
    (rule : ∀ (i j : Int) (t u : Tok) (s : Shared) (Q : Value → Shared → Prop) (E : Value → Shared → Prop), Q (.bool (g i j)) s → wpAny (model X.prog X.w) X.A (f (.int i t) (.int j u)) Q E s) :
    OpR X f (rI0 fun i j => .bl (g i j)) := by
  intro pins s σ H x y v u Q I rx ry h
  obtain ⟨i, j, rfl, rfl, q⟩ := h
  obtain ⟨t, rfl⟩ := rx
  obtain ⟨t', rfl⟩ := ry
  exact rule i j t t' s _ _ ⟨.bl (g i j), H, I, rfl, q⟩
def CDiv (i j : Int) : Prop := 0 < j ∧ j < 1073741824
def CPow (i j : Int) : Prop := 0 ≤ j ∧ j ≤ 1000000 ∧ i.natAbs < 2 ^ 64
def CMul (i j : Int) : Prop := (-(2 ^ 64) < i ∧ i < 2 ^ 64) ∨ (-(2 ^ 64) < j ∧ j < 2 ^ 64)
theorem CMul.ok {i j : Int} (h : CMul i j) : IntMulOk i j := by
  rcases h with ⟨h1, h2⟩ | ⟨h1, h2⟩
  · exact .of_left (intBits_le_64 h1 h2)
  · exact .of_right (intBits_le_64 h1 h2)
theorem op_add : OpR X (binaryOp .Add) (rI0 fun i j => .int (i + j)) := opI0 fun _ _ _ _ _ _ _ q => add_int q
theorem op_sub : OpR X (binaryOp .Sub) (rI0 fun i j => .int (i - j)) := opI0 fun _ _ _ _ _ _ _ q => sub_int q
theorem op_mul : OpR X (binaryOp .Mult) (rI CMul fun i j => .int (i * j)) := opI fun _ _ _ _ _ _ _ hc q => mul_int q hc.ok
theorem op_fdiv : OpR X (binaryOp .FloorDiv) (rI CDiv fun i j => .int (i / j)) := opI fun i j _ _ _ _ _ hc q => by
  have h1 : (0 : Int) < j := hc.1
  have h2 : j < 1073741824 := hc.2
  exact floordiv_int (by omega) (by rw [Int.fdiv_eq_ediv_of_nonneg i (by omega)]; exact q) (.inl (PyProof.noPylong_small (by omega)))
theorem op_mod : OpR X (binaryOp .Mod) (rI (fun _ j => 0 < j) fun i j => .int (i % j)) := opI fun i j _ _ _ _ _ hc q => by
  have h1 : (0 : Int) < j := hc
  exact mod_int' (by omega) (by rw [Int.fmod_eq_emod_of_nonneg i (by omega)]; exact q)
theorem op_pow : OpR X (binaryOp .Pow) (rI CPow fun i j => .int (i ^ j.toNat)) := opI fun _ _ _ _ _ _ _ hc q => pow_int_small hc.1 hc.2.1 hc.2.2 q
theorem unI {f : Value → Sem Value} {g : Int → Int}
    (rule : ∀ (i : Int) (t : Tok) (s : Shared) (Q : Value → Shared → Prop) (E : Value → Shared → Prop), Q (.int (g i) s.toks) { s with toks := s.toks + 1 } → wpAny (model X.prog X.w) X.A (f (.int i t)) Q E s) :
    UnR X f (rU fun i => .int (g i)) := by
  intro pins s σ H x v Q I rx h
  obtain ⟨i, rfl, q⟩ := h
  obtain ⟨t, rfl⟩ := rx
  exact rule i t s _ _ ⟨.int (g i), H, I.tok _, ⟨_, rfl⟩, q⟩
theorem un_neg : UnR X (unaryOp .USub) (rU fun i => .int (-i)) := unI fun _ _ _ _ _ q => neg_int q
end
def scal : V → V → Bool
  | .non, .non => true | .non, .int _ => true | .int _, .non => true | .non, .bl _ => true | .bl _, .non => true | .non, .str _ => true | .str _, .non => true
  | .int _, .int _ => true | .bl _, .bl _ => true | .str _, .str _ => true | .byt _, .byt _ => true
  | .int _, .str _ => true | .str _, .int _ => true | .bl _, .str _ => true | .str _, .bl _ => true
  | _, _ => false
def rEq : R2 := fun x y H Q => scal x y = true ∧ Q (.bl (decide (x = y))) H
def rNe : R2 := fun x y H Q => scal x y = true ∧ Q (.bl (!decide (x = y))) H
theorem dec_int {i j : Int} : decide (V.int i = V.int j) = (i == j) := by
  rw [Bool.eq_iff_iff]
  simp
theorem dec_bl {i j : Bool} : decide (V.bl i = V.bl j) = (i == j) := by
  rw [Bool.eq_iff_iff]
  simp
theorem dec_str {i j : Str} : decide (V.str i = V.str j) = (i == j) := by
  rw [Bool.eq_iff_iff]
  simp
theorem dec_byt {i j : Array UInt8} : decide (V.byt i = V.byt j) = (i.toList == j.toList) := by
  rw [Bool.eq_iff_iff]
  cases i
  cases j
  simp
section
variable {X : Cx} {a b c : Expr} {ta tb tc : TE} {pos : Pos}
theorem fin_bl {pins : List (Addr × Obj)} {σ : St} {H : Hp} {s : Shared} {Q : VK} {k k' : Bool} (I : Inv X pins σ H s) (q : Q (.bl k) H) (e : k = k') : EP X pins σ Q (.bool k') s := by
  subst e
  exact ⟨.bl k, H, I, rfl, q⟩
theorem op_eq : OpR X (compareOp .Eq) rEq := by
  intro pins s σ H x y v u Q I rx ry h
  obtain ⟨hs, q⟩ := h
  cases x with
  | non =>
    cases rx
    cases y with
    | non => cases ry; exact PySem.EqNone.eq_none_none (fin_bl I q (by simp))
    | bl j => cases ry; exact PySem.EqNone.eq_none_bool (fin_bl I q (by simp))
    | int j => obtain ⟨t', rfl⟩ := ry; exact PySem.EqNone.eq_none_int (fin_bl I q (by simp))
    | str j => obtain ⟨t', rfl⟩ := ry; exact PySem.EqNone.eq_none_str (fin_bl I q (by simp))
    | _ => exact absurd (show false = true from hs) Bool.false_ne_true
  | bl i =>
    cases rx
    cases y with
    | non => cases ry; exact PySem.EqNone.eq_bool_none (fin_bl I q (by simp))
    | bl j => cases ry; exact eq_bool (fin_bl I q dec_bl)
    | str j => obtain ⟨t', rfl⟩ := ry; exact PySem.EqMixed.eq_bool_str (fin_bl I q (by simp))
    | _ => exact absurd (show false = true from hs) Bool.false_ne_true
  | int i =>
    obtain ⟨t, rfl⟩ := rx
    cases y with
    | non => cases ry; exact PySem.EqNone.eq_int_none (fin_bl I q (by simp))
    | int j => obtain ⟨t', rfl⟩ := ry; exact eq_int (fin_bl I q dec_int)
    | str j => obtain ⟨t', rfl⟩ := ry; exact PySem.EqMixed.eq_int_str (fin_bl I q (by simp))
    | _ => exact absurd (show false = true from hs) Bool.false_ne_true
  | str i =>
    obtain ⟨t, rfl⟩ := rx
    cases y with
    | non => cases ry; exact PySem.EqNone.eq_str_none (fin_bl I q (by simp))
    | bl j => cases ry; exact PySem.EqMixed.eq_str_bool (fin_bl I q (by simp))
    | int j => obtain ⟨t', rfl⟩ := ry; exact PySem.EqMixed.eq_str_int (fin_bl I q (by simp))
    | str j => obtain ⟨t', rfl⟩ := ry; exact eq_str (fin_bl I q dec_str)
    | _ => exact absurd (show false = true from hs) Bool.false_ne_true
  | byt i =>
    obtain ⟨t, rfl⟩ := rx
    cases y with
    | byt j => obtain ⟨t', rfl⟩ := ry; exact PySem.W.eq_bytes (fin_bl I q dec_byt)
    | _ => exact absurd (show false = true from hs) Bool.false_ne_true
  | _ => cases y <;> exact absurd (show false = true from hs) Bool.false_ne_true
theorem op_ne : OpR X (compareOp .NotEq) rNe := by
  intro pins s σ H x y v u Q I rx ry h
  obtain ⟨hs, q⟩ := h
  cases x with
  | non =>
    cases rx
    cases y with
    | non => cases ry; exact PySem.EqNone.ne_none_none (fin_bl I q (by simp))
    | bl j => cases ry; exact PySem.EqNone.ne_none_bool (fin_bl I q (by simp))
    | int j => obtain ⟨t', rfl⟩ := ry; exact PySem.EqNone.ne_none_int (fin_bl I q (by simp))
    | str j => obtain ⟨t', rfl⟩ := ry; exact PySem.EqNone.ne_none_str (fin_bl I q (by simp))
    | _ => exact absurd (show false = true from hs) Bool.false_ne_true
  | bl i =>
    cases rx
    cases y with
    | non => cases ry; exact PySem.EqNone.ne_bool_none (fin_bl I q (by simp))
    | bl j => cases ry; exact ne_bool (fin_bl I q (congrArg not dec_bl))
    | str j => obtain ⟨t', rfl⟩ := ry; exact PySem.EqMixed.ne_bool_str (fin_bl I q (by simp))
    | _ => exact absurd (show false = true from hs) Bool.false_ne_true
  | int i =>
    obtain ⟨t, rfl⟩ := rx
    cases y with
    | non => cases ry; exact PySem.EqNone.ne_int_none (fin_bl I q (by simp))
    | int j => obtain ⟨t', rfl⟩ := ry; exact ne_int (fin_bl I q (congrArg not dec_int))
    | str j => obtain ⟨t', rfl⟩ := ry; exact PySem.EqMixed.ne_int_str (fin_bl I q (by simp))
    | _ => exact absurd (show false = true from hs) Bool.false_ne_true
  | str i =>
    obtain ⟨t, rfl⟩ := rx
    cases y with
    | non => cases ry; exact PySem.EqNone.ne_str_none (fin_bl I q (by simp))
    | bl j => cases ry; exact PySem.EqMixed.ne_str_bool (fin_bl I q (by simp))
    | int j => obtain ⟨t', rfl⟩ := ry; exact PySem.EqMixed.ne_str_int (fin_bl I q (by simp))
    | str j => obtain ⟨t', rfl⟩ := ry; exact ne_str (fin_bl I q (congrArg not dec_str))
    | _ => exact absurd (show false = true from hs) Bool.false_ne_true
  | byt i =>
    obtain ⟨t, rfl⟩ := rx
    cases y with
    | byt j => obtain ⟨t', rfl⟩ := ry; exact PySem.W.ne_bytes (fin_bl I q (congrArg not dec_byt))
    | _ => exact absurd (show false = true from hs) Bool.false_ne_true
  | _ => cases y <;> exact absurd (show false = true from hs) Bool.false_ne_true
theorem op_lt : OpR X (compareOp .Lt) (rI0 fun i j => .bl (decide (i < j))) := opB0 fun _ _ _ _ _ _ _ q => lt_int q
theorem op_le : OpR X (compareOp .LtE) (rI0 fun i j => .bl (decide (i ≤ j))) := opB0 fun _ _ _ _ _ _ _ q => le_int q
theorem op_gt : OpR X (compareOp .Gt) (rI0 fun i j => .bl (decide (j < i))) := opB0 fun _ _ _ _ _ _ _ q => gt_int q
theorem nomark (b : Expr) {op : CmpOp} (h : op ≠ .In := by decide) (h2 : op ≠ .NotIn := by decide) : behindInMarks op b = false := by
  have e1 : (op == CmpOp.In) = false := by cases op <;> first | rfl | exact absurd rfl h
  have e2 : (op == CmpOp.NotIn) = false := by cases op <;> first | rfl | exact absurd rfl h2
  cases b <;> simp [behindInMarks, e1, e2]
theorem pe_cmpR {op : CmpOp} {r : R2} (ho : OpR X (compareOp op) r) (ha : PE X a ta) (hb : PE X b tb) (hm : behindInMarks op b = false) : PE X (.Compare a [op] [b] pos) (tOp r ta tb) := by
  intro pins s σ H Q I h
  exact wpAny_Compare1 (binT ha hb I h fun v u s2 x y H2 I2 rx ry q => ho pins s2 σ H2 x y v u Q I2 rx ry q) hm
def tTest (t : TE) : TT := fun σ H Q => t σ H fun x H' => ∃ k, x = .bl k ∧ Q k H'
theorem pt_cmpR {op : CmpOp} {r : R2} (ho : OpR X (compareOp op) r) (ha : PE X a ta) (hb : PE X b tb) (hm : behindInMarks op b = false) : PT X (.Compare a [op] [b] pos) (tTest (tOp r ta tb)) := by
  intro pins s σ H Q I h
  refine wpAny_isTrue_Compare1 (thn (ha pins s σ H _ I h) fun v s1 ⟨x, H1, I1, r1, q1⟩ => thn (hb pins s1 σ H1 _ I1 q1) fun u s2 ⟨y, H2, I2, r2, q2⟩ =>
    thn (ho pins s2 σ H2 x y v u _ I2 r1 r2 q2) fun c s3 ⟨z, H3, I3, r3, k, e, q3⟩ => ?_) hm
  subst e
  cases r3
  exact wpAny_truthy_bool ⟨H3, I3, q3⟩
def tChain (r r' : R2) (ta tb tc : TE) : TE := fun σ H Q => ta σ H fun x H1 => tb σ H1 fun y H2 => r x y H2 fun z H3 => ∃ k, z = .bl k ∧
  (if k = true then tc σ H3 fun w' H4 => r' y w' H4 Q else Q (.bl false) H3)
theorem pt_chain {op op' : CmpOp} {r r' : R2} (ho : OpR X (compareOp op) r) (ho' : OpR X (compareOp op') r') (ha : PE X a ta) (hb : PE X b tb) (hc : PE X c tc)
    (hm : lastMarks [op, op'] [b, c] = false := by with_unfolding_all rfl) : PT X (.Compare a [op, op'] [b, c] pos) (tTest (tChain r r' ta tb tc)) := by
  intro pins s σ H Q I h
  refine isTrue_chain (thn (ha pins s σ H _ I h) fun v s1 ⟨x, H1, I1, r1, q1⟩ => test_link (thn (hb pins s1 σ H1 _ I1 q1) fun u s2 ⟨y, H2, I2, r2, q2⟩ =>
    thn (ho pins s2 σ H2 x y v u _ I2 r1 r2 q2) fun d s3 ⟨z, H3, I3, r3, k, e, q3⟩ => ?_)) hm
  subst e
  cases r3
  refine wpAny_truthy_bool ?_
  cases k with
  | false =>
    obtain ⟨k', e', q'⟩ := q3
    cases e'
    exact ite_ff ⟨H3, I3, q'⟩
  | true =>
    refine ite_tt (test_last (thn (hc pins s3 σ H3 _ I3 q3) fun w' s4 ⟨z', H4, I4, r4, q4⟩ => thn (ho' pins s4 σ H4 y z' u w' _ I4 r2 r4 q4) fun d' s5 ⟨z2, H5, I5, r5, k2, e2, q5⟩ => ?_))
    subst e2
    cases r5
    exact wpAny_truthy_bool ⟨H5, I5, q5⟩
theorem line63 : (sizeLine : Nat) < 2 ^ 63 := by rw [sizeLine_eq]; decide
theorem op_add_str : OpR X (binaryOp .Add) (fun x y H Q => ∃ i j, x = .str i ∧ y = .str j ∧ i.length + j.length ≤ sizeLine ∧ Q (.str (i ++ j)) H) := by
  intro pins s σ H x y v u Q I rx ry h
  obtain ⟨i, j, rfl, rfl, hz, q⟩ := h
  obtain ⟨t, rfl⟩ := rx
  obtain ⟨t', rfl⟩ := ry
  exact add_str (fun t' tk => ⟨.str (i ++ j), H, I.tok _, ⟨_, rfl⟩, q⟩) hz
theorem vals1 {x : V} {us : List Value} (r : Vals [x] us) : ∃ u, us = [u] ∧ RelV x u := by
  cases r with
  | cons r1 r2 => cases r2; exact ⟨_, rfl, r1⟩
theorem vals2 {x y : V} {us : List Value} (r : Vals [x, y] us) : ∃ u w', us = [u, w'] ∧ RelV x u ∧ RelV y w' := by
  cases r with
  | cons r1 r2 =>
    cases r2 with
    | cons r3 r4 => cases r4; exact ⟨_, _, rfl, r1, r3⟩
theorem call_abs : CallR X (.builtin "abs") (fun xs H Q => ∃ i, xs = [.int i] ∧ Q (.int (if i < 0 then -i else i)) H) := by
  intro pins s σ H xs us Q I r h
  obtain ⟨i, rfl, q⟩ := h
  obtain ⟨u, rfl, t, rfl⟩ := vals1 r
  exact call_abs_int fun u tk => ⟨.int (if i < 0 then -i else i), H, I.tok _, ⟨_, rfl⟩, q⟩
theorem call_max2 (hc : X.calm = true) : CallR X (.builtin "max") (fun xs H Q => ∃ i j, xs = [.int i, .int j] ∧ Q (.int (if j > i then j else i)) H) := by
  intro pins s σ H xs us Q I r h
  obtain ⟨i, j, rfl, q⟩ := h
  obtain ⟨u, w', rfl, ⟨t, rfl⟩, ⟨t', rfl⟩⟩ := vals2 r
  refine max_two_ints (I.ok.hd hc) fun h' tk k => ⟨_, H, I.kept k, ?_, q⟩
  by_cases hj : j > i
  · rw [if_pos hj, if_pos hj]; exact ⟨_, rfl⟩
  · rw [if_neg hj, if_neg hj]; exact ⟨_, rfl⟩
theorem call_min2 (hc : X.calm = true) : CallR X (.builtin "min") (fun xs H Q => ∃ i j, xs = [.int i, .int j] ∧ Q (.int (if j < i then j else i)) H) := by
  intro pins s σ H xs us Q I r h
  obtain ⟨i, j, rfl, q⟩ := h
  obtain ⟨u, w', rfl, ⟨t, rfl⟩, ⟨t', rfl⟩⟩ := vals2 r
  refine min_two_ints (I.ok.hd hc) fun h' tk k => ⟨_, H, I.kept k, ?_, q⟩
  by_cases hj : j < i
  · rw [if_pos hj, if_pos hj]; exact ⟨_, rfl⟩
  · rw [if_neg hj, if_neg hj]; exact ⟨_, rfl⟩
theorem call_int1 : CallR X (.type "int") (fun xs H Q => (∃ i, xs = [.int i] ∧ Q (.int i) H) ∨ ∃ k, xs = [.bl k] ∧ Q (.int (if k then 1 else 0)) H) := by
  intro pins s σ H xs us Q I r h
  rcases h with ⟨i, rfl, q⟩ | ⟨k, rfl, q⟩
  · obtain ⟨u, rfl, t, rfl⟩ := vals1 r
    exact call_int_int ⟨.int i, H, I, ⟨_, rfl⟩, q⟩
  · obtain ⟨u, rfl, r1⟩ := vals1 r
    cases r1
    exact call_int_bool ⟨.int (if k then 1 else 0), H, I.tok _, ⟨_, rfl⟩, q⟩
end
end L2
namespace L2
open PySem PySem.Spec PyProof.Rows
structure ObjM (h : Heap) (x dx C : Addr) (mA : Str → Option Value) : Prop where
  obj : h.get? x = some (PySem.W.instObj C dx)
  ns : h.Ns1 dx mA
  ne : dx ≠ x
theorem lookIn_ns {h : Heap} {dx : Addr} {mA : Str → Option Value} (n : h.Ns1 dx mA) : ∃ od, h.get? dx = some od ∧ ∀ name, PySem.W.lookIn name od = some (mA name) := by
  obtain ⟨o, es, ep, ho, hd, hk, _, hm⟩ := n
  refine ⟨o, ho, fun name => ?_⟩
  have e := hm name
  unfold nsFind findBy at e
  rw [← Array.find?_toList] at e
  unfold PySem.W.lookIn
  rw [hd]
  dsimp only
  split
  · rename_i y q
    rw [q] at e
    exact congrArg some e
  · rename_i q
    rw [q] at e
    have a : es.toList.any (·.refKey) = false := by
      rw [List.any_eq_false]
      intro y hy
      obtain ⟨z, t, hkey⟩ := hk y (Array.mem_toList_iff.mp hy)
      simp [DictEntry.refKey, hkey]
    have a' : ¬ es.toList.any (·.refKey) = true := by rw [a]; exact Bool.false_ne_true
    rw [if_neg a']
    exact congrArg some e
theorem ObjM.look {h : Heap} {x dx C : Addr} {mA : Str → Option Value} (I : ObjM h x dx C mA) : ∃ od, PySem.W.InstAt h x (PySem.W.instObj C dx) C (some od) ∧ ∀ name, PySem.W.lookIn name od = some (mA name) :=
  let ⟨od, ho, hl⟩ := lookIn_ns I.ns
  ⟨od, ⟨I.obj, rfl, rfl, ho⟩, hl⟩
section
variable {prog : Program} {w : World} {A : Around} {E : Value → Shared → Prop} {s : Shared} {K : PySem.W.Frag} {x dx C f : Addr} {mA : Str → Option Value} {name : Str} {v : Value}
theorem get_map {expr : Bool} {Q : Value → Shared → Prop} (X : K.In s.heap) (I : ObjM s.heap x dx C mA) (hg : PySem.W.plainGet K C name = true) (hh : PySem.W.hasDictIn K C = true)
    (ha : PySem.W.findIn K (.ref C) name = some none) (hv : mA name = some v) (hv' : PySem.W.handedIn v = true) (h : Q v { s with toks := s.toks + 1 }) :
    wpAny (model prog w) A (getAttr (.ref x) name expr) Q E s := by
  obtain ⟨od, J, hl⟩ := I.look
  exact PySem.W.get_value X J (PySem.W.plainGet_of hg).1 (PySem.W.findObj_own hh ha rfl (by rw [hl, hv])) hv' h
theorem get_meth {pl : Sem Bool} {Q : Value × List Value → Shared → Prop} (X : K.In s.heap) (I : ObjM s.heap x dx C mA) (hg : PySem.W.plainGet K C name = true)
    (hf : PySem.W.findIn K (.ref C) name = some (some (.ref f))) (ht : PySem.W.isFn K (.ref f) = true) (hv : mA name = none) (h : Q (.ref f, [.ref x]) s) :
    wpAny (model prog w) A (getMethod (.ref x) name pl) Q E s := by
  obtain ⟨od, J, hl⟩ := I.look
  exact PySem.W.method_fn X J (PySem.W.plainGet_of hg).1 (PySem.W.plainGet_of hg).2 hf (beq_iff_eq.mp ht) (by show (PySem.W.lookIn name od).map (·.isSome) = some false; rw [hl, hv]; rfl) h
theorem set_map {ns : List Str} {Q : Unit → Shared → Prop} (X : K.In s.heap) (I : ObjM s.heap x dx C mA)
    (hs : PySem.W.findIn K (.ref C) "__setattr__" = some (some (.builtin "object.__setattr__"))) (hp : PySem.W.plainOver K C = true) (ht : PySem.W.takerIn K C name = some none) (hh : PySem.W.hasDictIn K C = true)
    (hw : PySem.Within mA ns) (hsz : ns.length ≤ sizeLine)
    (h : ∀ h', ObjM h' x dx C (fun y => if y = name then some v else mA y) → Heap.SameBut dx s.heap h' → Q () { s with heap := h', toks := s.toks + 2 }) :
    wpAny (model prog w) A (setAttr (.ref x) name v) Q E s := by
  obtain ⟨od, J, hl⟩ := I.look
  refine PySem.W.set_plain X J hs (PySem.W.osa_open (s := { s with toks := s.toks + 1 }) (r := none) X J hp ht fun b => ?_)
  obtain ⟨cd, hc, hd'⟩ := PySem.W.any_some hh
  have hx : s.heap.get? x = some ⟨.ref C, some dx, .plain, #[]⟩ := I.obj
  refine wpAny_bind (wpAny_pure (wpAny_bind (wpAny_bind (wpAny_loadPart hx (wpAny_bind (PySem.W.Looks.here (s := { s with toks := s.toks + 1 }) (PySem.W.looks_clsIn X hc) ?_))))))
  rw [hd']
  refine wpAny_pure (a := some dx) (wpAny_bind (wpAny_pure (wpAny_bind ?_)))
  refine wpAny_nsSet1 (s := { s with toks := s.toks + 1 }) I.ns fun h' hn2 hs2 => ?_
  obtain ⟨oD, esD, epD, hoD, hdD, hcD⟩ := hn2.count (PySem.Within.cons name v hw)
  refine wpAny_bind (wpAny_lookBehind hoD (by rw [hdD]; exact pastItsLine_dict (Nat.le_trans hcD (by rw [List.length_cons]; omega))) ?_)
  exact wpAny_pure (h _ ⟨(hs2.2 _ (Ne.symm I.ne)).trans I.obj, hn2, I.ne⟩ hs2)
theorem make_map {R : Result → Shared → Prop} {vs : List Value} {kw : List (Str × Value)} (X : K.In s.heap) (hm : PySem.W.makesIn K C = true)
    (hi : PySem.W.findIn K (.ref C) "__init__" = some (some (.ref f))) (hf : PySem.W.typeIn K (.ref f) = some (.type "function"))
    (h : codeAny (model prog w) (A.under (.builtin "type.__call__" ⟨.ref C :: vs, kw⟩)) (.call (.ref f) ⟨.ref (s.heap.objs.size + 1) :: vs, kw⟩) (PySem.W.InitBack (s.heap.objs.size + 1) R)
      { s with heap := (s.heap.push PySem.W.emptyDict).push (PySem.W.instObj C s.heap.objs.size) }) :
    codeAny (model prog w) A (.call (.ref C) ⟨vs, kw⟩) R s := by
  obtain ⟨hh, g, d, t, os⟩ := s
  exact PySem.W.make_core (PySem.W.makes_of X hm) (PySem.W.looks_findIn X hi) (fun self => PySem.W.bind_fn X self hf) (.inl rfl) h
end
def putF (f : Str) (v : V) : List (Str × V) → List (Str × V)
  | [] => [(f, v)]
  | (g, x) :: r => if g = f then (g, v) :: r else (g, x) :: putF f v r
theorem lookup_putF (f g : Str) (v : V) : ∀ fs : List (Str × V), (putF f v fs).lookup g = if g = f then some v else fs.lookup g
  | [] => by
    show List.lookup g [(f, v)] = _
    by_cases h : g = f
    · have hb : (g == f) = true := beq_iff_eq.mpr h
      simp only [List.lookup, hb, if_pos h]
    · have hb : (g == f) = false := beq_eq_false_iff_ne.mpr h
      simp only [List.lookup, hb, if_neg h]
  | (k, x) :: r => by
    have ih := lookup_putF f g v r
    rw [show putF f v ((k, x) :: r) = (if k = f then (k, v) :: r else (k, x) :: putF f v r) from rfl]
    by_cases hk : k = f
    · rw [if_pos hk]
      by_cases h : g = k
      · have hb : (g == k) = true := beq_iff_eq.mpr h
        simp only [List.lookup, hb, if_pos (h.trans hk)]
      · have hb : (g == k) = false := beq_eq_false_iff_ne.mpr h
        simp only [List.lookup, hb, if_neg (fun e : g = f => h (e.trans hk.symm))]
    · rw [if_neg hk]
      by_cases h : g = k
      · have hb : (g == k) = true := beq_iff_eq.mpr h
        simp only [List.lookup, hb, if_neg (fun e : g = f => hk (h.symm.trans e))]
      · have hb : (g == k) = false := beq_eq_false_iff_ne.mpr h
        simp only [List.lookup, hb]
        exact ih
theorem keys_putF (f : Str) (v : V) : ∀ fs : List (Str × V), f ∈ (putF f v fs).map (·.1) ∧ ∀ g, g ∈ fs.map (·.1) → g ∈ (putF f v fs).map (·.1)
  | [] => ⟨by simp [putF], fun g h => by simp at h⟩
  | (k, x) :: r => by
    obtain ⟨i1, i2⟩ := keys_putF f v r
    rw [show putF f v ((k, x) :: r) = (if k = f then (k, v) :: r else (k, x) :: putF f v r) from rfl]
    by_cases hk : k = f
    · rw [if_pos hk]
      subst hk
      exact ⟨by simp, fun g h => by simpa using h⟩
    · rw [if_neg hk]
      refine ⟨?_, fun g h => ?_⟩
      · rw [List.map_cons]
        exact List.mem_cons_of_mem _ i1
      · rw [List.map_cons] at h ⊢
        rcases List.mem_cons.mp h with e | e
        · exact List.mem_cons.mpr (.inl e)
        · exact List.mem_cons_of_mem _ (i2 g e)
theorem length_putF (f : Str) (v : V) : ∀ fs : List (Str × V), (putF f v fs).length ≤ fs.length + 1
  | [] => by simp [putF]
  | (k, x) :: r => by
    have ih := length_putF f v r
    rw [show putF f v ((k, x) :: r) = (if k = f then (k, v) :: r else (k, x) :: putF f v r) from rfl]
    by_cases hk : k = f
    · rw [if_pos hk, List.length_cons, List.length_cons]; omega
    · rw [if_neg hk, List.length_cons, List.length_cons]; omega
theorem RelO.some_of {v : V} {o : Option Value} (r : RelO (some v) o) : ∃ u, o = some u ∧ RelV v u := by
  cases o with
  | none => exact (show False from r).elim
  | some u => exact ⟨u, rfl, r⟩
theorem RelO.none_of {o : Option Value} (r : RelO none o) : o = none := by
  cases o with
  | none => rfl
  | some u => exact (show False from r).elim
theorem handed_of {v : V} {u : Value} (r : RelV v u) : PySem.W.handedIn u = true := by
  cases v with
  | non => cases (show u = Value.none from r); rfl
  | bl b => cases (show u = Value.bool b from r); rfl
  | int i => obtain ⟨t, e⟩ := (show ∃ t, u = Value.int i t from r); cases e; rfl
  | str x => obtain ⟨t, e⟩ := (show ∃ t, u = Value.str x t from r); cases e; rfl
  | byt b => obtain ⟨t, e⟩ := (show ∃ t, u = Value.bytes b t from r); cases e; rfl
  | flt b => obtain ⟨t, e⟩ := (show ∃ t, u = Value.float b t from r); cases e; rfl
  | ref a => cases (show u = Value.ref a from r); rfl
  | ty n => cases (show u = Value.type n from r); rfl
section
variable {P : Program} {w : World} {H H' : Hp} {h h' : Heap} {a C dx : Addr} {fs fs' : List (Str × V)}
theorem ins_get (hok : HOk P w H h) (e : H a = some (.ins C dx fs)) : ∃ mA, ObjM h a dx C mA ∧ (∀ f, RelO (fs.lookup f) (mA f)) ∧ PySem.Within mA (fs.map (·.1)) ∧ fs.length ≤ 1000 ∧ H dx = some (.own a) := by
  obtain ⟨d, z, ne, ob, mA, n, r, q⟩ := (show ObjOk P w H h a (.ins C dx fs) from hok a _ e)
  exact ⟨mA, ⟨ob, n, ne⟩, r, q, z, d⟩
end
structure Cls (K : PySem.W.Frag) (C : Addr) : Prop where
  pg : PySem.W.plainGet K C Str.empty = true
  hd : PySem.W.hasDictIn K C = true
  po : PySem.W.plainOver K C = true
  sa : PySem.W.findIn K (.ref C) "__setattr__" = some (some (.builtin "object.__setattr__"))
theorem Cls.get {K : PySem.W.Frag} {C : Addr} (c : Cls K C) (f : Str) : PySem.W.plainGet K C f = true := c.pg
def NoAttr (K : PySem.W.Frag) (C : Addr) (f : Str) : Prop := PySem.W.findIn K (.ref C) f = some none
theorem NoAttr.taker {K : PySem.W.Frag} {C : Addr} {f : Str} (n : NoAttr K C f) : PySem.W.takerIn K C f = some none := by
  unfold PySem.W.takerIn
  rw [show PySem.W.findIn K (.ref C) f = some none from n]
  rfl
structure Con (K : PySem.W.Frag) (C : Addr) (f : Str) (v : V) (u : Value) : Prop where
  at_ : PySem.W.findIn K (.ref C) f = some (some u)
  rel : RelV v u
  get : PySem.W.specialIn K u "__get__" = some none
  cp : PySem.W.copiedNames.contains f = false
structure Meth (K : PySem.W.Frag) (C : Addr) (m : Str) (f : Addr) : Prop where
  at_ : PySem.W.findIn K (.ref C) m = some (some (.ref f))
  fn : PySem.W.isFn K (.ref f) = true
  kp : PySem.W.keepIn K (.ref f) = true
section
variable {X : Cx} {pins : List (Addr × Obj)} {σ : St} {H : Hp} {s : Shared} {a C dx : Addr} {fs : List (Str × V)} {f : Str} {v : V} {A : Around} {E : Value → Shared → Prop}
theorem getattr_ok {b : Bool} {Q : Value → Shared → Prop} (I : Inv X pins σ H s) (e : H a = some (.ins C dx fs)) (c : Cls X.K C) (n : NoAttr X.K C f) (l : fs.lookup f = some v)
    (h : ∀ u s', Inv X pins σ H s' → RelV v u → Q u s') : wpAny (model X.prog X.w) A (getAttr (.ref a) f b) Q E s := by
  obtain ⟨mA, O, r, _, _, _⟩ := ins_get I.hok e
  obtain ⟨u, hu, ru⟩ := RelO.some_of (v := v) (o := mA f) (by rw [← l]; exact r f)
  exact get_map I.kIn O (c.get f) c.hd n hu (handed_of ru) (h u _ (I.tok _) ru)
theorem getmeth_ok {m : Str} {g : Addr} {pl : Sem Bool} {Q : Value × List Value → Shared → Prop} (I : Inv X pins σ H s) (e : H a = some (.ins C dx fs)) (c : Cls X.K C) (k : Meth X.K C m g) (l : fs.lookup m = none)
    (h : Q (.ref g, [.ref a]) s) : wpAny (model X.prog X.w) A (getMethod (.ref a) m pl) Q E s := by
  obtain ⟨mA, O, r, _, _, _⟩ := ins_get I.hok e
  have hn : mA m = none := RelO.none_of (by rw [← l]; exact r m)
  exact get_meth I.kIn O (c.get m) k.at_ k.fn hn h
theorem setattr_ok {y : V} {u : Value} {Q : Unit → Shared → Prop} (I : Inv X pins σ H s) (e : H a = some (.ins C dx fs)) (c : Cls X.K C) (n : NoAttr X.K C f) (hl : fs.length < 1000) (ry : RelV y u)
    (h : ∀ s', Inv X pins σ (upd H a (.ins C dx (putF f y fs))) s' → Q () s') : wpAny (model X.prog X.w) A (setAttr (.ref a) f u) Q E s := by
  obtain ⟨mA, O, r, wi, _, ho⟩ := ins_get I.hok e
  have hz : (fs.map (·.1)).length ≤ sizeLine := by rw [List.length_map, sizeLine_eq]; omega
  refine set_map I.kIn O c.sa c.po n.taker c.hd wi hz fun h' O' sb => h _ ?_
  have hd : ∃ o, h'.get? dx = some o := let ⟨o, _, _, e', _⟩ := O'.ns; ⟨o, e'⟩
  refine I.write (x := a) (e := dx) (by rw [e]; exact True.intro) (.inr ho) (fun b q hb z => (sb.2 b hb).trans z) hd ?_
  refine ⟨by rw [upd_ne O.ne]; exact ho, ?_, O.ne, O'.obj, _, O'.ns, fun g => ?_, fun g hg => ?_⟩
  · have := length_putF f y fs; omega
  · show RelO ((putF f y fs).lookup g) (if g = f then some u else mA g)
    rw [lookup_putF]
    by_cases q : g = f
    · rw [if_pos q, if_pos q]; exact ry
    · rw [if_neg q, if_neg q]; exact r g
  · by_cases q : g = f
    · rw [q]; exact (keys_putF f y fs).1
    · refine (keys_putF f y fs).2 g (wi g fun z => hg ?_)
      show (if g = f then some u else mA g) = none
      rw [if_neg q]; exact z
theorem Inv.made (I : Inv X pins σ H s) : Inv X pins σ (upd (upd H s.heap.objs.size (.own (s.heap.objs.size + 1))) (s.heap.objs.size + 1) (.ins C s.heap.objs.size []))
    { s with heap := (s.heap.push PySem.W.emptyDict).push (PySem.W.instObj C s.heap.objs.size) } := by
  have e1 : (s.heap.push PySem.W.emptyDict).get? s.heap.objs.size = some PySem.W.emptyDict := Heap.get?_push_size s.heap rfl
  have e2 : ((s.heap.push PySem.W.emptyDict).push (PySem.W.instObj C s.heap.objs.size)).get? (s.heap.objs.size + 1) = some (PySem.W.instObj C s.heap.objs.size) := by
    have := Heap.get?_push_size (s.heap.push PySem.W.emptyDict) (o := PySem.W.instObj C s.heap.objs.size) rfl
    rwa [Heap.size_push] at this
  have e3 : (s.heap.push PySem.W.emptyDict).Ns s.heap.objs.size (fun _ => none) := ⟨PySem.W.emptyDict, #[], _, e1, rfl, (fun e he => absurd he (by simp)), fun _ => rfl⟩
  have I1 := I.laid (a := s.heap.objs.size) (o := .own (s.heap.objs.size + 1)) (h' := s.heap.push PySem.W.emptyDict) (t' := s.toks) (fun b u q => Heap.get?_push_of_some _ q) (Nat.le_refl _) ⟨_, e1⟩
  refine I1.laid (a := s.heap.objs.size + 1) (o := .ins C s.heap.objs.size []) (t' := s.toks) (fun b u q => Heap.get?_push_of_some _ q) (Nat.le_of_eq (Heap.size_push _ _)) ?_
  have ne : s.heap.objs.size ≠ s.heap.objs.size + 1 := Nat.ne_of_lt (Nat.lt_succ_self _)
  refine ⟨by rw [upd_ne ne, upd_same], Nat.zero_le _, ne, e2, fun _ => none, (Heap.Ns1.of_empty e3).at fun o q => Heap.get?_push_of_some _ q, fun _ => True.intro, fun y hy => absurd rfl hy⟩
theorem attr_of {prog : Program} {w : World} {env : Env} {e : Expr} {f : Str} {pos : Pos} {s : Shared} {Q : Value → Shared → Prop} (hb : attributeBase e f env (eval e env) = eval e env)
    (h : wpAny (model prog w) A (eval e env) (fun o s₁ => wpAny (model prog w) A (getAttr o f true) Q E s₁) E s) : wpAny (model prog w) A (eval (.Attribute e f pos) env) Q E s :=
  Attribute_any_ h (by rw [arm_eval_Attribute, hb])
end
def tFld (K : PySem.W.Frag) (ta : TE) (f : Str) : TE := fun σ H Q => ta σ H fun x H1 => ∃ a C dx fs v, x = .ref a ∧ H1 a = some (.ins C dx fs) ∧ Cls K C ∧ NoAttr K C f ∧ fs.lookup f = some v ∧ Q v H1
def sFld (K : PySem.W.Frag) (ta tv : TE) (f : Str) : TS := fun D σ H => tv σ H fun y H1 => ta σ H1 fun x H2 => ∃ a C dx fs, x = .ref a ∧ H2 a = some (.ins C dx fs) ∧ Cls K C ∧ NoAttr K C f ∧ fs.length < 1000 ∧
  D.nx σ (upd H2 a (.ins C dx (putF f y fs)))
section
variable {X : Cx} {o e value : Expr} {f : Str} {pos pos' tpos : Pos} {ta tv : TE}
theorem pe_fld (he : PE X e ta) (hb : attributeBase e f X.env (eval e X.env) = eval e X.env) : PE X (.Attribute e f pos) (tFld X.K ta f) := by
  intro pins s σ H Q I h
  refine attr_of hb (thn (he pins s σ H _ I h) fun u s1 ⟨x, H1, I1, rx, a, C, dx, fs, v, ex, ea, c, n, l, q⟩ => ?_)
  subst ex
  obtain rfl : u = Value.ref a := rx
  exact getattr_ok I1 ea c n l fun u' s2 I2 ru => ⟨v, H1, I2, ru, q⟩
theorem ps_fld (ha : PE X o ta) (hv : PE X value tv) (hs : swapsWith value (some (.Attribute o f pos')) pos.line X.env = pure false) : PS X (.Assign [.Attribute o f pos'] value pos) (sFld X.K ta tv f) := by
  intro pins s σ H D I h
  refine plainObj_wpAny_Assign_Attribute (thn (hv pins s σ H _ I h) fun u s1 ⟨y, H1, I1, ry, q⟩ => thn (ha pins s1 σ H1 _ I1 q) fun ov s2 ⟨x, H2, I2, rx, a, C, dx, fs, ex, ea, c, n, l, q2⟩ => ?_) hs
  subst ex
  obtain rfl : ov = Value.ref a := rx
  exact setattr_ok I2 ea c n l ry fun s3 I3 => ⟨σ, _, I3, q2⟩
end
section
variable {X : Cx} {pins : List (Addr × Obj)} {σ : St} {H : Hp} {s : Shared} {A : Around} {E : Value → Shared → Prop} {Q : Value → Shared → Prop} {c : Value} {b : Bool}
inductive TyOf (K : PySem.W.Frag) (H : Hp) : V → Value → Prop where
  | non : TyOf K H .non (.type "NoneType")
  | bl (x : Bool) : TyOf K H (.bl x) (.type "bool")
  | int (i : Int) : TyOf K H (.int i) (.type "int")
  | str (x : Str) : TyOf K H (.str x) (.type "str")
  | flt (x : UInt64) : TyOf K H (.flt x) (.type "float")
  | lst {a : Addr} {xs : List V} (e : H a = some (.lst xs)) : TyOf K H (.ref a) (.type "list")
  | frz {a : Addr} {o : Obj} {xs : List V} (e : H a = some (.frz o (.lst xs))) : TyOf K H (.ref a) (.type "list")
  | tup {a : Addr} {xs : List V} (e : H a = some (.tup xs)) : TyOf K H (.ref a) (.type "tuple")
  | dK {a : Addr} {kvs : List (Key × V)} (e : H a = some (.dK kvs)) : TyOf K H (.ref a) (.type "dict")
  | dT {a : Addr} {kvs : List (List Key × V)} (e : H a = some (.dT kvs)) : TyOf K H (.ref a) (.type "dict")
  | ins {a C dx : Addr} {fs : List (Str × V)} (e : H a = some (.ins C dx fs)) (cl : Cls K C) (ha : PySem.W.findIn K (.ref C) "__class__" = some (some (.builtin "object.__class__")))
      (hn : PySem.W.specialIn K (.builtin "object.__class__") "__get__" = some (some (.builtin "getset_descriptor.__get__"))) (htk : PySem.W.takesIn K (.builtin "object.__class__") = some true)
      (hm : PySem.W.mroIn K C (.type "object") = some true) : TyOf K H (.ref a) (.ref C)
theorem isinst_ok {x : V} {u t : Value} (I : Inv X pins σ H s) (rx : RelV x u) (ty : TyOf X.K H x t) (e : PySem.W.kitOne X.K t c = some b) (h : ∀ tk, Q (.bool b) { s with toks := tk }) :
    wpAny (model X.prog X.w) A (call (.builtin "isinstance") [u, c]) Q E s := by
  cases ty with
  | non => cases (show u = Value.none from rx); exact PySem.W.kia_one PySem.W.kitx_none I.kIn True.intro e (fun z => nomatch z) h
  | bl y => cases (show u = Value.bool y from rx); exact PySem.W.kia_one PySem.W.kitx_bool I.kIn True.intro e (fun z => nomatch z) h
  | int i => obtain ⟨t, q⟩ := (show ∃ t, u = Value.int i t from rx); cases q; exact PySem.W.kia_one PySem.W.kitx_int I.kIn True.intro e (fun z => nomatch z) h
  | str y => obtain ⟨t, q⟩ := (show ∃ t, u = Value.str y t from rx); cases q; exact PySem.W.kia_one PySem.W.kitx_str I.kIn True.intro e (fun z => nomatch z) h
  | flt y => obtain ⟨t, q⟩ := (show ∃ t, u = Value.float y t from rx); cases q; exact PySem.W.kia_one PySem.W.kitx_float I.kIn True.intro e (fun z => nomatch z) h
  | @lst a xs ea =>
    cases (show u = Value.ref a from rx)
    obtain ⟨_, _, n, _, h1⟩ := (show ObjOk X.prog X.w H s.heap a (.lst xs) from I.hok a _ ea)
    exact PySem.W.kia_one PySem.W.kitx_list I.kIn ⟨_, h1, rfl⟩ e (fun z => nomatch z) h
  | @frz a ob xs ea =>
    cases (show u = Value.ref a from rx)
    obtain ⟨_, _, _, n, _, h1⟩ := (show ObjOk X.prog X.w H s.heap a (.frz ob (.lst xs)) from I.hok a _ ea)
    exact PySem.W.kia_one PySem.W.kitx_list I.kIn ⟨_, h1, rfl⟩ e (fun z => nomatch z) h
  | @tup a xs ea =>
    cases (show u = Value.ref a from rx)
    obtain ⟨_, _, _, p⟩ := (show ObjOk X.prog X.w H s.heap a (.tup xs) from I.hok a _ ea)
    obtain ⟨o, h1, h2, _⟩ := p
    exact PySem.W.kia_one PySem.W.kitx_tuple I.kIn ⟨o, h1, h2⟩ e (fun z => nomatch z) h
  | @dK a kvs ea =>
    cases (show u = Value.ref a from rx)
    obtain ⟨_, _, vs, _, p⟩ := (show ObjOk X.prog X.w H s.heap a (.dK kvs) from I.hok a _ ea)
    obtain ⟨o, es, ep, h1, h2, _⟩ := p
    exact PySem.W.kia_one PySem.W.kitx_dict I.kIn ⟨o, h1, h2.1⟩ e (fun z => nomatch z) h
  | @dT a kvs ea =>
    cases (show u = Value.ref a from rx)
    obtain ⟨_, _, xs, _, o, es, ep, h1, h2, _⟩ := (show ObjOk X.prog X.w H s.heap a (.dT kvs) from I.hok a _ ea)
    exact PySem.W.kia_one PySem.W.kitx_dict I.kIn ⟨o, h1, h2.1⟩ e (fun z => nomatch z) h
  | @ins a C dx fs ea cl ha hn htk hm =>
    cases (show u = Value.ref a from rx)
    obtain ⟨mA, O, _⟩ := ins_get I.hok ea
    obtain ⟨od, J, _⟩ := O.look
    exact PySem.W.kia_one (PySem.W.kitx_own (cl.get _) cl.hd ha hn htk hm) I.kIn J e (fun z => nomatch z) h
end
end L2
namespace L2
open PySem PySem.Spec PyProof.Rows
structure Room (k : Nat) (A : Around) : Prop where
  hd : A.handled = none
  dp : A.depth + 3 * k + 5 < recursionLimit
  un : A.units + 16 * k + 200 < cLine
theorem Room.mono {j k : Nat} {A : Around} (r : Room k A) (h : j ≤ k) : Room j A := ⟨r.hd, by have := r.dp; omega, by have := r.un; omega⟩
theorem Room.deeper {k : Nat} {A : Around} (r : Room (k + 1) A) (env : Env) : Room k (A.deeper env) :=
  ⟨r.hd, by have := r.dp; show A.depth + 1 + 3 * k + 5 < _; omega, by have := r.un; show A.units + 3 + 16 * k + 200 < _; omega⟩
theorem Room.in1 {k : Nat} {A : Around} (r : Room (k + 1) A) : Room k A.in1 :=
  ⟨r.hd, by have := r.dp; show A.depth + 3 * k + 5 < _; omega, by have := r.un; show A.units + 1 + 16 * k + 200 < _; omega⟩
theorem make_depth {A : Around} {C : Addr} {us : List Value} {kw : List (Str × Value)} : (A.under (.builtin "type.__call__" ⟨.ref C :: us, kw⟩)).depth = A.depth + 1 := by
  first | rfl | simp [Around.under, Code.weight, Code.isCreation, Code.isGuard, Code.isCaller, Code.frames, Code.isFrame, guardIds]
theorem make_units {A : Around} {C : Addr} {us : List Value} {kw : List (Str × Value)} : (A.under (.builtin "type.__call__" ⟨.ref C :: us, kw⟩)).units = A.units + 1 := by
  first | rfl | simp [Around.under, Code.cUnits, Code.frames, Code.isFrame]
theorem Room.make {k : Nat} {A : Around} (r : Room (k + 1) A) (C : Addr) (us : List Value) (kw : List (Str × Value)) : Room k (A.under (.builtin "type.__call__" ⟨.ref C :: us, kw⟩)) :=
  ⟨r.hd, by have := r.dp; rw [make_depth]; omega, by have := r.un; rw [make_units]; omega⟩
theorem Room.depth {k : Nat} {A : Around} (r : Room k A) : A.depth < recursionLimit := by have := r.dp; omega
theorem Room.units {k : Nat} {A : Around} (r : Room k A) : A.units + 64 < cLine := by have := r.un; omega
theorem Room.units0 {k : Nat} {A : Around} (r : Room k A) : A.units < cLine := by have := r.un; omega
def tNil : TA := fun _ H Q => Q [] H
def tCons (ta : TE) (tr : TA) : TA := fun σ H Q => ta σ H fun x H1 => tr σ H1 fun xs H2 => Q (x :: xs) H2
section
variable {X : Cx} {e : Expr} {es : List Expr} {te : TE} {t : TA} {pos : Pos}
theorem pa_nil : PA X [] tNil := fun _ _ _ _ H Q I h => Calls.spliced_nil ⟨[], H, I, .nil, h⟩
theorem pa_cons (ha : PE X e te) (hr : PA X es t) (hs : starEach (e :: es) X.env = (false, eval e X.env) :: starEach es X.env := by rfl) : PA X (e :: es) (tCons te t) := by
  intro pos pins s σ H Q I h
  rw [hs]
  show wpAny _ _ (spliced ((false, eval e X.env) :: backTo pos (starEach es X.env))) _ _ s
  refine Calls.spliced_cons (thn (ha pins s σ H _ I h) fun u s1 ⟨x, H1, I1, r1, q1⟩ => ?_)
  exact thn (hr pos pins s1 σ H1 _ I1 q1) fun us s2 ⟨xs, H2, I2, r2, q2⟩ => ⟨x :: xs, H2, I2, .cons r1 r2, q2⟩
def tTup (t : TA) : TE := fun σ H Q => t σ H fun xs H1 => xs.length ≤ sizeLine ∧ ∀ p, H1 p = none → Q (.ref p) (upd H1 p (.tup xs))
def tLst (t : TA) : TE := fun σ H Q => t σ H fun xs H1 => xs.length ≤ sizeLine ∧ ∀ p, H1 p = none → Q (.ref p) (upd H1 p (.lst xs))
theorem pe_tup {x1} (h : PA X es t) : PE X (.Tuple es x1 pos) (tTup t) := by
  intro pins s σ H Q I hq
  refine wpAny_Tuple_spliced (thn (h pos pins s σ H _ I hq) fun us s1 ⟨xs, H1, I1, r, z, q⟩ => ⟨by rw [← r.length]; exact z, ?_⟩)
  have hf : H1 s1.heap.objs.size = none := I1.hok.fresh (Nat.le_refl _)
  refine ⟨.ref s1.heap.objs.size, upd H1 s1.heap.objs.size (.tup xs), I1.laid (t' := s1.toks) (fun b u e => Heap.get?_push_of_some _ e) (Nat.le_refl _) ?_, rfl, q _ hf⟩
  exact ⟨z, us, r, ⟨_, Heap.get?_push_size _ rfl, rfl, _, rfl⟩⟩
theorem pe_lst (h : PA X es t) : PE X (.List es pos) (tLst t) := by
  intro pins s σ H Q I hq
  refine wpAny_List_spliced (thn (h pos pins s σ H _ I hq) fun us s1 ⟨xs, H1, I1, r, z, q⟩ => ⟨by rw [← r.length]; exact z, ?_⟩)
  have hf : H1 s1.heap.objs.size = none := I1.hok.fresh (Nat.le_refl _)
  refine ⟨.ref s1.heap.objs.size, upd H1 s1.heap.objs.size (.lst xs), I1.laid (t' := s1.toks) (fun b u e => Heap.get?_push_of_some _ e) (Nat.le_refl _) ?_, rfl, q _ hf⟩
  exact ⟨z, us, 0, r, Heap.get?_push_size _ rfl⟩
end
abbrev Sp := List V → Hp → VK → XK → Prop
abbrev CXT := List Env → Hp → Shared → XK → Value → Shared → Prop
structure Env0 (P : Program) (w : World) (K : PySem.W.Frag) (mg : Str → Option Value) (base : Heap) (A : Around) (outer : List Env) (s : Shared) (H : Hp) : Prop where
  frames : A.frames = some outer
  mod : Mod K mg base
  bs : ∀ b o, base.get? b = some o → s.heap.get? b = some o ∧ H b = none
  bsz : base.objs.size ≤ s.heap.objs.size
  funs : s.heap.FunFrames base outer
  frf : ∀ b ∈ frs outer, H b = none
  hok : HOk P w H s.heap
  bare : AllBare s.gens
def CE (outer : List Env) (P : Program) (w : World) (H : Hp) (s : Shared) (Q : VK) (u : Value) (s' : Shared) : Prop :=
  ∃ v H', s'.os = s.os ∧ AllBare s'.gens ∧ Un (frs outer) [] H H' s.heap s'.heap ∧ HOk P w H' s'.heap ∧ RelV v u ∧ Q v H'
def CR (CX : CXT) (outer : List Env) (P : Program) (w : World) (H : Hp) (s : Shared) (Q : VK) (E : XK) (r : Result) (s' : Shared) : Prop :=
  match r with
  | .ok (.ret u) => CE outer P w H s Q u s'
  | .ok _ => False
  | .error e => CX outer H s E e s'
structure FnOk (P : Program) (w : World) (K : PySem.W.Frag) (mg : Str → Option Value) (base : Heap) (CX : CXT) (k : Nat) (f : Addr) (fd : FuncData) (ps : List Str) (sp : Sp) : Prop where
  len : ∀ vs H Q E, sp vs H Q E → vs.length = ps.length
  run : ∀ (A : Around) (outer : List Env) (s : Shared) (H : Hp) (args : Args) (us : List Value) (vs : List V) (Q : VK) (E : XK), Room k A → Env0 P w K mg base A outer s H → BindsTo s fd args (ps.zip us) → Vals vs us → sp vs H Q E →
    codeAny (model P w) A (.call (.ref f) args) (CR CX outer P w H s Q E) s
theorem FnOk.mono {P : Program} {w : World} {K : PySem.W.Frag} {mg : Str → Option Value} {base : Heap} {CX : CXT} {j k : Nat} {f : Addr} {fd : FuncData} {ps : List Str} {sp : Sp} (F : FnOk P w K mg base CX j f fd ps sp) (h : j ≤ k) :
    FnOk P w K mg base CX k f fd ps sp := ⟨F.len, fun A outer s H args us vs Q E hr => F.run A outer s H args us vs Q E (hr.mono h)⟩
theorem FnOk.imp {P : Program} {w : World} {K : PySem.W.Frag} {mg : Str → Option Value} {base : Heap} {CX : CXT} {k : Nat} {f : Addr} {fd : FuncData} {ps : List Str} {sp sp' : Sp} (F : FnOk P w K mg base CX k f fd ps sp)
    (h : ∀ vs H Q E, sp' vs H Q E → sp vs H Q E) : FnOk P w K mg base CX k f fd ps sp' :=
  ⟨fun vs H Q E q => F.len vs H Q E (h _ _ _ _ q), fun A outer s H args us vs Q E hr he hb hv hs => F.run A outer s H args us vs Q E hr he hb hv (h _ _ _ _ hs)⟩
theorem Env0.make {P : Program} {w : World} {K : PySem.W.Frag} {mg : Str → Option Value} {base : Heap} {A : Around} {outer : List Env} {s : Shared} {H : Hp} (e : Env0 P w K mg base A outer s H) (C : Addr) (us : List Value) (kw : List (Str × Value)) :
    Env0 P w K mg base (A.under (.builtin "type.__call__" ⟨.ref C :: us, kw⟩)) outer s H := ⟨by first | exact e.frames | (simpa [Around.under, Code.envs, Code.isFrame, pushEnvs] using e.frames), e.mod, e.bs, e.bsz, e.funs, e.frf, e.hok, e.bare⟩
theorem Env0.in1 {P : Program} {w : World} {K : PySem.W.Frag} {mg : Str → Option Value} {base : Heap} {A : Around} {outer : List Env} {s : Shared} {H : Hp} (e : Env0 P w K mg base A outer s H) :
    Env0 P w K mg base A.in1 outer s H := ⟨e.frames, e.mod, e.bs, e.bsz, e.funs, e.frf, e.hok, e.bare⟩
section
variable {X : Cx} {pins : List (Addr × Obj)} {σ : St} {H : Hp} {s s' : Shared}
theorem Inv.env0 (I : Inv X pins σ H s) : Env0 X.prog X.w X.K X.mg X.base X.A X.stack s H :=
  ⟨I.ok.frames, I.ok.mod, I.bs, Nat.le_trans I.ok.bsz I.sz, I.stack, I.stkFree, I.hok, I.bare⟩
theorem Inv.after {Q : VK} {u : Value} (I : Inv X pins σ H s) (h : CE X.stack X.prog X.w H s Q u s') : EP X pins σ Q u s' := by
  obtain ⟨v, H', os, bare, un, hok, r, q⟩ := h
  obtain ⟨hh, g, d, t, os'⟩ := s'
  obtain rfl : os' = s.os := os
  exact ⟨v, H', I.call (h' := hh) (g' := g) (d' := d) (t' := t) (ch := []) un hok bare (fun b z => absurd z (by simp)), r, q⟩
end
def tCall (sp : Sp) (dvs : List V) (E : XK) (t : TA) : TE := fun σ H Q => t σ H fun vs H1 => sp (vs ++ dvs) H1 Q E
def tMeth (C : Addr) (m : Str) (sp : Sp) (dvs : List V) (E : XK) (ta : TE) (t : TA) : TE := fun σ H Q => ta σ H fun x H1 => ∃ a dx fs, x = .ref a ∧ H1 a = some (.ins C dx fs) ∧ fs.lookup m = none ∧
  t σ H1 fun vs H2 => sp (x :: (vs ++ dvs)) H2 Q E
def tMake (C : Addr) (sp : Sp) (dvs : List V) (E : XK) (t : TA) : TE := fun σ H Q => t σ H fun vs H1 => ∀ x dx, H1 x = none → H1 dx = none → dx ≠ x →
  sp (.ref x :: (vs ++ dvs)) (upd (upd H1 dx (.own x)) x (.ins C dx [])) (fun v H2 => v = .non ∧ Q (.ref x) H2) E
def Binds (K : PySem.W.Frag) (fd : FuncData) (ps : List Str) (ds : List Value) : Prop :=
  ∀ (s : Shared) (us : List Value), K.In s.heap → (us ++ ds).length = ps.length → BindsTo s fd ⟨us, []⟩ (ps.zip (us ++ ds))
theorem Binds.all {K : PySem.W.Frag} {fd : FuncData} {ps : List Str} (h : ∀ us : List Value, us.length = ps.length → bindArgs fd ⟨us, []⟩ = pure (ps.zip us)) : Binds K fd ps [] := fun s us _ hl => by
  rw [List.append_nil] at hl ⊢
  exact .of_eq (h us hl)
def Passes (CX : CXT) (X : Cx) (E : XK) : Prop := ∀ (pins : List (Addr × Obj)) (σ : St) (H : Hp) (s : Shared) (e : Value) (s' : Shared), Inv X pins σ H s → CX X.stack H s E e s' → X.xe e s'
section
variable {X : Cx} {CX : CXT} {k : Nat} {f C : Addr} {fd : FuncData} {ps : List Str} {sp : Sp} {dvs : List V} {ds : List Value} {E : XK} {x m : Str} {p pos apos : Pos} {e o : Expr} {es : List Expr} {ta : TE} {t : TA}
theorem run_fn {pins : List (Addr × Obj)} {σ : St} {H : Hp} {s : Shared} {Q : VK} {us : List Value} {vs : List V} (F : FnOk X.prog X.w X.K X.mg X.base CX k f fd ps sp) (hr : Room k X.A) (hb : Binds X.K fd ps ds) (hd : Vals dvs ds) (hx : Passes CX X E)
    (I : Inv X pins σ H s) (r : Vals vs us) (h : sp (vs ++ dvs) H Q E) : wpAny (model X.prog X.w) X.A (call (.ref f) us) (EP X pins σ Q) X.xe s := by
  have r2 : Vals (vs ++ dvs) (us ++ ds) := r.append hd
  have hl : (us ++ ds).length = ps.length := by rw [← r2.length]; exact F.len _ _ _ _ h
  refine wpAny_call (codeAny_mono (F.run X.A X.stack s H ⟨us, []⟩ (us ++ ds) (vs ++ dvs) Q E hr I.env0 (hb s us I.kIn hl) r2 h) fun r s' hq => ?_)
  cases r with
  | error e => exact hx pins σ H s e s' I hq
  | ok fl =>
    cases fl with
    | ret u => exact I.after hq
    | next => exact False.elim hq
    | brk => exact False.elim hq
    | cont => exact False.elim hq
theorem pe_call (F : FnOk X.prog X.w X.K X.mg X.base CX k f fd ps sp) (hr : Room k X.A) (hg : Gl X x) (hm : X.mg x = some (.ref f)) (hk : PySem.W.keepIn X.K (.ref f) = true) (hb : Binds X.K fd ps ds) (hd : Vals dvs ds) (hx : Passes CX X E)
    (ha : PA X (e :: es) t) (hdb : (x == ("__debug__" : Str)) = false := by decide) (he : starEach (e :: es) X.env = (false, eval e X.env) :: starEach es X.env := by rfl) (hpl : (backTo pos (starEach es X.env)).any (·.1) = false := by rfl) :
    PE X (.Call (.Name x p) (e :: es) [] pos) (tCall sp dvs E t) := by
  intro pins s σ H Q I h
  refine wpAny_Call_Name_kw (ld_glob I hg hm ?_ hdb)
  refine PySem.W.callWith_K (h₀ := X.base) I.ok.mod.kin hk (thn (ha pos pins s σ H _ I h) fun us s1 ⟨vs, H1, I1, r, q⟩ => ⟨I1.kIn, ?_⟩) he hpl
  exact run_fn F hr hb hd hx I1 r q
theorem pe_meth {pl : Sem Bool} (he : PE X o ta) (c : Cls X.K C) (hm : Meth X.K C m f) (F : FnOk X.prog X.w X.K X.mg X.base CX k f fd ps sp) (hr : Room k X.A) (hb : Binds X.K fd ps ds) (hd : Vals dvs ds) (hx : Passes CX X E) (ha : PA X (e :: es) t)
    (hst : starEach (e :: es) X.env = (false, eval e X.env) :: starEach es X.env := by rfl) (hpl : (backTo pos (starEach es X.env)).any (·.1) = false := by rfl)
    (ht : eval (.Call (.Attribute o m apos) (e :: es) [] pos) X.env = (do
      let ov ← eval o X.env
      standAt apos.atName
      let (f, first) ← holding [ov] (getMethod ov m pl)
      callWith pos f first (backTo pos (starEach (e :: es) X.env)) (backToKw pos (keywordEach [] X.env))) := by rfl) :
    PE X (.Call (.Attribute o m apos) (e :: es) [] pos) (tMeth C m sp dvs E ta t) := by
  intro pins s σ H Q I h
  refine PySem.W.methodCall_KW (pl := pl) (thn (he pins s σ H _ I h) fun u s1 ⟨x, H1, I1, rx, a, dx, fs, ex, ea, l, q⟩ => ?_) ht
  subst ex
  obtain rfl : u = Value.ref a := rx
  refine getmeth_ok I1 ea c hm l ?_
  refine PySem.W.callWith_K (first := [.ref a]) (h₀ := X.base) I.ok.mod.kin hm.kp (thn (ha pos pins s1 σ H1 _ I1 q) fun us s2 ⟨vs, H2, I2, r, q2⟩ => ⟨I2.kIn, ?_⟩) hst hpl
  exact run_fn (us := .ref a :: us) (vs := .ref a :: vs) F hr hb hd hx I2 (.cons rfl r) q2
theorem pe_meth0 {pl : Sem Bool} (he : PE X o ta) (c : Cls X.K C) (hm : Meth X.K C m f) (F : FnOk X.prog X.w X.K X.mg X.base CX k f fd ps sp) (hr : Room k X.A) (hb : Binds X.K fd ps ds) (hd : Vals dvs ds) (hx : Passes CX X E)
    (ht : eval (.Call (.Attribute o m apos) [] [] pos) X.env = (do
      let ov ← eval o X.env
      standAt apos.atName
      let (f, first) ← holding [ov] (getMethod ov m pl)
      callWith pos f first (backTo pos (starEach [] X.env)) (backToKw pos (keywordEach [] X.env))) := by rfl) :
    PE X (.Call (.Attribute o m apos) [] [] pos) (tMeth C m sp dvs E ta tNil) := by
  intro pins s σ H Q I h
  refine PySem.W.methodCall_KW (pl := pl) (thn (he pins s σ H _ I h) fun u s1 ⟨x, H1, I1, rx, a, dx, fs, ex, ea, l, q⟩ => ?_) ht
  subst ex
  obtain rfl : u = Value.ref a := rx
  refine getmeth_ok I1 ea c hm l ?_
  exact PySem.W.callWith_K0 (first := [.ref a]) I1.kIn hm.kp (run_fn (us := [.ref a]) (vs := [.ref a]) F hr hb hd hx I1 (.cons rfl .nil) q)
structure Mk (K : PySem.W.Frag) (C f : Addr) : Prop where
  makes : PySem.W.makesIn K C = true
  init : PySem.W.findIn K (.ref C) "__init__" = some (some (.ref f))
  fn : PySem.W.isFn K (.ref f) = true
  kp : PySem.W.keepIn K (.ref C) = true
theorem run_make {pins : List (Addr × Obj)} {σ : St} {H : Hp} {s : Shared} {Q : VK} {us : List Value} {vs : List V} (M : Mk X.K C f) (F : FnOk X.prog X.w X.K X.mg X.base CX k f fd ps sp) (hr : Room (k + 1) X.A) (hb : Binds X.K fd ps ds) (hd : Vals dvs ds)
    (hx : Passes CX X E) (I : Inv X pins σ H s) (r : Vals vs us)
    (h : ∀ x dx, H x = none → H dx = none → dx ≠ x → sp (.ref x :: (vs ++ dvs)) (upd (upd H dx (.own x)) x (.ins C dx [])) (fun v H2 => v = .non ∧ Q (.ref x) H2) E) :
    wpAny (model X.prog X.w) X.A (call (.ref C) us) (EP X pins σ Q) X.xe s := by
  have hq := h (s.heap.objs.size + 1) s.heap.objs.size (I.hok.fresh (Nat.le_succ _)) (I.hok.fresh (Nat.le_refl _)) (Nat.ne_of_lt (Nat.lt_succ_self _))
  have I2 := Inv.made (C := C) I
  have r2 : Vals (V.ref (s.heap.objs.size + 1) :: (vs ++ dvs)) (Value.ref (s.heap.objs.size + 1) :: (us ++ ds)) := .cons rfl (r.append hd)
  have hl : (Value.ref (s.heap.objs.size + 1) :: us ++ ds).length = ps.length := by
    have e := r2.length
    rw [F.len _ _ _ _ hq] at e
    exact e.symm
  refine wpAny_call (make_map (f := f) I.kIn M.makes M.init (beq_iff_eq.mp M.fn) (codeAny_mono (F.run _ X.stack _ _ ⟨Value.ref (s.heap.objs.size + 1) :: us, []⟩ (Value.ref (s.heap.objs.size + 1) :: (us ++ ds)) _ _ E (hr.make C us [])
    (I2.env0.make C us []) (hb _ (Value.ref (s.heap.objs.size + 1) :: us) I2.kIn hl) r2 hq) fun r s' hq' => ?_))
  cases r with
  | error e => exact hx pins σ _ _ e s' I2 hq'
  | ok fl =>
    cases fl with
    | ret u =>
      obtain ⟨v, H', I3, rv, ev, q3⟩ := I2.after hq'
      subst ev
      exact ⟨rv, ⟨V.ref (s.heap.objs.size + 1), H', I3, rfl, q3⟩⟩
    | next => exact False.elim hq'
    | brk => exact False.elim hq'
    | cont => exact False.elim hq'
theorem pe_make (M : Mk X.K C f) (F : FnOk X.prog X.w X.K X.mg X.base CX k f fd ps sp) (hr : Room (k + 1) X.A) (hg : Gl X x) (hm : X.mg x = some (.ref C)) (hb : Binds X.K fd ps ds) (hd : Vals dvs ds) (hx : Passes CX X E)
    (ha : PA X (e :: es) t) (hdb : (x == ("__debug__" : Str)) = false := by decide) (he : starEach (e :: es) X.env = (false, eval e X.env) :: starEach es X.env := by rfl) (hpl : (backTo pos (starEach es X.env)).any (·.1) = false := by rfl) :
    PE X (.Call (.Name x p) (e :: es) [] pos) (tMake C sp dvs E t) := by
  intro pins s σ H Q I h
  refine wpAny_Call_Name_kw (ld_glob I hg hm ?_ hdb)
  refine PySem.W.callWith_K (h₀ := X.base) I.ok.mod.kin M.kp (thn (ha pos pins s σ H _ I h) fun us s1 ⟨vs, H1, I1, r, q⟩ => ⟨I1.kIn, ?_⟩) he hpl
  exact run_make M F hr hb hd hx I1 r q
theorem pe_make0 (M : Mk X.K C f) (F : FnOk X.prog X.w X.K X.mg X.base CX k f fd ps sp) (hr : Room (k + 1) X.A) (hg : Gl X x) (hm : X.mg x = some (.ref C)) (hb : Binds X.K fd ps ds) (hd : Vals dvs ds) (hx : Passes CX X E)
    (hdb : (x == ("__debug__" : Str)) = false := by decide) : PE X (.Call (.Name x p) [] [] pos) (tMake C sp dvs E tNil) := by
  intro pins s σ H Q I h
  refine wpAny_Call_Name_kw (ld_glob I hg hm ?_ hdb)
  exact PySem.W.callWith_K0 I.kIn M.kp (run_make (us := []) M F hr hb hd hx I .nil h)
end
section
variable {X : Cx} {CX : CXT} {k : Nat} {f C : Addr} {fd : FuncData} {ps ks : List Str} {sp : Sp} {E : XK} {x m : Str} {p pos apos kpos : Pos} {e o : Expr} {es : List Expr} {kws : List Keyword} {te ta : TE} {t tk : TA} {nm : Option Str}
structure KBinds (K : PySem.W.Frag) (fd : FuncData) (ps ks : List Str) (g : List Value → List Value → List Value) (gV : List V → List V → List V) : Prop where
  to : ∀ (s : Shared) (us ws : List Value), K.In s.heap → (g us ws).length = ps.length → BindsTo s fd ⟨us, ks.zip ws⟩ (ps.zip (g us ws))
  rel : ∀ {vs : List V} {us : List Value} {zs : List V} {ws : List Value}, Vals vs us → Vals zs ws → Vals (gV vs zs) (g us ws)
variable {g : List Value → List Value → List Value} {gV : List V → List V → List V}
end
structure FnScope (N P : List Str) (sc : Scope) : Prop where
  kind : sc.kind = .function
  co : sc.isCoroutine = false
  gen : sc.isGenerator = false
  nd : N.Nodup
  pre : N.take P.length = P
  par : ∀ x ∈ P, sc.names.lookup x = some .local ∨ sc.names.lookup x = some .cell
  nofree : ∀ y ∈ sc.names, y.2 ≠ .free
theorem bindL_out {kindOf : Str → Option NameKind} {x : Str} : ∀ {binds : List (Str × Value)} {m : Str → Option Value}, (∀ v, (x, v) ∉ binds) → bindL kindOf binds m x = m x
  | [], _, _ => rfl
  | (n, v) :: r, m, h => by
    unfold bindL
    rw [bindL_out fun w hw => h w (List.mem_cons_of_mem _ hw)]
    split
    · have : x ≠ n := by rintro rfl; exact h v List.mem_cons_self
      simp [this]
    · rfl
theorem bindC_out {kindOf : Str → Option NameKind} {x : Str} : ∀ {binds : List (Str × Value)} {m : Str → Option Value}, (∀ v, (x, v) ∉ binds) → bindC kindOf binds m x = m x
  | [], _, _ => rfl
  | (n, v) :: r, m, h => by
    unfold bindC
    rw [bindC_out fun w hw => h w (List.mem_cons_of_mem _ hw)]
    split
    · rfl
    · have : x ≠ n := by rintro rfl; exact h v List.mem_cons_self
      simp [this]
theorem bindL_get {kindOf : Str → Option NameKind} {x : Str} {v : Value} : ∀ {P : List Str} {vs : List Value} {i : Nat} {m : Str → Option Value}, P.Nodup → P[i]? = some x → vs[i]? = some v → kindOf x = some .local →
    bindL kindOf (P.zip vs) m x = some v
  | [], _, _, _, _, h, _, _ => by simp at h
  | _ :: _, [], _, _, _, _, h, _ => by simp at h
  | p :: P, w :: vs, 0, m, nd, h1, h2, hk => by
    simp at h1 h2; subst h1; subst h2
    show bindL kindOf ((p, w) :: P.zip vs) m p = _
    unfold bindL
    rw [bindL_out fun v hv => (List.nodup_cons.mp nd).1 (List.of_mem_zip hv).1, if_pos hk]
    simp
  | p :: P, w :: vs, i + 1, m, nd, h1, h2, hk => by
    show bindL kindOf ((p, w) :: P.zip vs) m x = _
    unfold bindL
    exact bindL_get (i := i) (List.nodup_cons.mp nd).2 (by simpa using h1) (by simpa using h2) hk
theorem bindC_get {kindOf : Str → Option NameKind} {x : Str} {v : Value} : ∀ {P : List Str} {vs : List Value} {i : Nat} {m : Str → Option Value}, P.Nodup → P[i]? = some x → vs[i]? = some v → kindOf x ≠ some .local →
    bindC kindOf (P.zip vs) m x = some v
  | [], _, _, _, _, h, _, _ => by simp at h
  | _ :: _, [], _, _, _, _, h, _ => by simp at h
  | p :: P, w :: vs, 0, m, nd, h1, h2, hk => by
    simp at h1 h2; subst h1; subst h2
    show bindC kindOf ((p, w) :: P.zip vs) m p = _
    unfold bindC
    rw [bindC_out fun v hv => (List.nodup_cons.mp nd).1 (List.of_mem_zip hv).1, if_neg hk]
    simp
  | p :: P, w :: vs, i + 1, m, nd, h1, h2, hk => by
    show bindC kindOf ((p, w) :: P.zip vs) m x = _
    unfold bindC
    exact bindC_get (i := i) (List.nodup_cons.mp nd).2 (by simpa using h1) (by simpa using h2) hk
def start (N : List Str) (vs : List V) : St := vs.map some ++ List.replicate (N.length - vs.length) none
def cxOf (CX : CXT) (P : Program) (w : World) (K : PySem.W.Frag) (mg : Str → Option Value) (base : Heap) (N : List Str) (qual : Str) (scope : Scope) (f : Addr) (cd : Value) (A : Around) (outer : List Env) (s : Shared) (H : Hp) (E : XK) : Cx where
  prog := P
  w := w
  K := K
  mg := mg
  base := base
  A := A.deeper (envOfC qual scope s.heap.objs.size f cd)
  N := N
  s₀ := s
  H₀ := H
  env := envOfC qual scope s.heap.objs.size f cd
  outer := outer
  stack := envOfC qual scope s.heap.objs.size f cd :: outer
  ex := []
  calm := true
  fn := fun _ => true
  pn := []
  xe := fun e s' => wpAny (model P w) (A.deeper (envOfC qual scope s.heap.objs.size f cd)) (leaving (envOfC qual scope s.heap.objs.size f cd) e) (fun _ s'' => CX outer H s E e s'') (fun e' s'' => CX outer H s E e' s'') s'
theorem cell_has {sc : Scope} {n : Nat} {x : Str} (h : sc.names.lookup x = some .cell) : ∃ c, (cellsFrom n sc.names []).lookup x = some c := by
  have q := PySem.W.cellsFrom_some sc.names n [] (.inl h)
  exact Option.isSome_iff_exists.mp q
theorem inv_start {CX : CXT} {P : Program} {w : World} {K : PySem.W.Frag} {mg : Str → Option Value} {base : Heap} {N ps : List Str} {qual : Str} {scope : Scope} {f : Addr} {cd : Value} {A : Around} {outer : List Env} {s s1 : Shared} {H : Hp} {E : XK} {us : List Value} {vs : List V}
    (S : FnScope N ps scope) (hd : A.handled = none) (e0 : Env0 P w K mg base A outer s H) (hl : vs.length = ps.length) (r : Vals vs us)
    (x : InCallC s s.heap.objs.size (bindL (envOfC qual scope s.heap.objs.size f cd).kindOf (ps.zip us) fun _ => none) (cellsFrom (s.heap.objs.size + 1) scope.names []) (bindC (envOfC qual scope s.heap.objs.size f cd).kindOf (ps.zip us) fun _ => none) s1) :
    Inv (cxOf CX P w K mg base N qual scope f cd A outer s H E) [] (start N vs) H s1 := by
  have hpl : ps.length ≤ N.length := by have := congrArg List.length S.pre; rw [List.length_take] at this; omega
  obtain ⟨h1, tk, rfl, hk⟩ := x.done
  have noA : ∀ b : Addr, b ∉ (cxOf CX P w K mg base N qual scope f cd A outer s H E).ex := fun b z => absurd (show b ∈ ([] : List Addr) from z) (by simp)
  refine ⟨⟨e0.mod, S.kind, rfl, rfl, Nat.le_refl _, fun y z c h1 h2 => ?_, fun y hy => ?_, fun y c _ h => ?_, fun _ => hd, Around.frames_deeper e0.frames, .inr ⟨rfl, rfl⟩, fun b z => absurd z (noA b), e0.bs, e0.bsz, fun b _ _ => noA b, fun b z => absurd z (noA b), e0.funs, e0.frf⟩,
    rfl, e0.bare, Un.kept hk, ⟨_, x.toInCall.ns, fun i y v h1 h2 h3 => ?_⟩, fun y c h => ⟨_, x.cell y c h⟩, e0.hok.fresh (Nat.le_refl _), fun y c h => ?_, fun p hp => absurd (show p ∈ ([] : List (Addr × Obj)) from hp) (by simp), e0.hok.kept hk, ?_⟩
  · exact name_of_addr x.apart (PySem.mem_of_lookup h1) (PySem.mem_of_lookup h2)
  · have hy : scope.names.lookup y = some .cell ∨ scope.names.lookup y = some .free := hy
    rcases hy with hy | hy
    · exact cell_has hy
    · exact absurd rfl (S.nofree _ (PySem.mem_of_lookup hy))
  · exact Nat.le_of_lt (x.above y c (PySem.mem_of_lookup h))
  · have hi : i < vs.length := by
      unfold start at h2
      by_cases hi : i < vs.length
      · exact hi
      · rw [List.getElem?_append_right (by simpa using hi)] at h2
        rw [List.getElem?_replicate] at h2
        split at h2 <;> cases h2
    have ha : vs[i]? = some v := by
      unfold start at h2
      rw [List.getElem?_append_left (by simpa using hi), List.getElem?_map] at h2
      cases e : vs[i]? with
      | none => rw [e] at h2; cases h2
      | some a => rw [e] at h2; cases h2; rfl
    obtain ⟨u, hu, rv⟩ := r.get ha
    have hp : ps[i]? = some y := by
      rw [← S.pre, List.getElem?_take_of_lt (by omega)]; exact h1
    have ndP : ps.Nodup := by rw [← S.pre]; exact S.nd.sublist (List.take_sublist _ _)
    refine ⟨u, rv, ?_⟩
    rcases S.par y (List.mem_of_getElem? hp) with k | k
    · exact .inl ⟨k, bindL_get ndP hp hu k⟩
    · obtain ⟨c, e⟩ := cell_has (n := s.heap.objs.size + 1) k
      refine .inr ⟨.inl k, c, e, ?_⟩
      have q := x.cell y c e
      rw [bindC_get ndP hp hu (by show scope.names.lookup y ≠ _; rw [k]; decide)] at q
      exact q
  · exact e0.hok.fresh (Nat.le_of_lt (x.above y c (PySem.mem_of_lookup h)))
  · unfold start
    show _ = N.length
    rw [List.length_append, List.length_map, List.length_replicate]
    omega
theorem fn_of {CX : CXT} {P : Program} {w : World} {K : PySem.W.Frag} {mg : Str → Option Value} {base : Heap} {k : Nat} {f : Addr} {name qual : Str} {params : Arguments} {body : List Stmt} {scope : Scope} {dV kV doc pm cdv ct oc : Value} {an od : Option Addr}
    {osl : Array (Option Value)} {N ps : List Str} {sp : Sp} (lk : K.lookup f = some ⟨oc, od, .func (PySem.W.fnOf name qual params body scope dV kV doc pm an cdv ct), osl⟩) (hcd : PySem.W.codeIn K cdv qual = true) (S : FnScope N ps scope)
    (len : ∀ vs H Q E, sp vs H Q E → vs.length = ps.length)
    (hbody : ∀ (A : Around) (outer : List Env) (s : Shared) (H : Hp) (vs : List V) (Q : VK) (E : XK), Room k (A.deeper (envOfC qual scope s.heap.objs.size f cdv)) → sp vs H Q E →
      ∃ t, PSs (cxOf CX P w K mg base N qual scope f cdv A outer s H E) body t ∧ t { nx := fun _ H' => Q .non H', rt := Q } (start N vs) H) :
    FnOk P w K mg base CX (k + 1) f (PySem.W.fnOf name qual params body scope dV kV doc pm an cdv ct) ps sp := by
  refine ⟨len, fun A outer s H args us vs Q E hr e0 hb r hsp => ?_⟩
  have hl := len _ _ _ _ hsp
  have KX : K.In s.heap := e0.mod.kin.keeps fun b o e => (e0.bs b o e).1
  have lim : s.heap.NoLimit := e0.mod.nolimit.keeps fun b o e => (e0.bs b o e).1
  have hkind : ∀ y ∈ ps.zip us, scope.names.lookup y.1 = some .local ∨ (scope.names.lookup y.1 = some .cell ∧ ((cellsFrom (s.heap.objs.size + 1) scope.names []).lookup y.1).isSome = true) := fun ⟨n, v⟩ hy => by
    rcases S.par n (List.of_mem_zip hy).1 with q | q
    · exact .inl q
    · exact .inr ⟨q, PySem.W.cellsFrom_some _ _ _ (.inl q)⟩
  refine codeAny_call_function hr.depth (KX _ _ lk) rfl S.co S.gen rfl (PySem.W.codeRec_of KX hcd) (hb _ _ _ _ ?_)
  refine wpAny_newFunctionEnv_cells S.kind hkind fun env he s1 x => ?_
  subst he
  refine ⟨lim.keeps x.toInCall.keep, codeAny_func ?_⟩
  obtain ⟨t, ht, hq⟩ := hbody A outer s H vs Q E (hr.deeper _) hsp
  have I : Inv (cxOf CX P w K mg base N qual scope f cdv A outer s H E) [] (start N vs) H s1 := inv_start S hr.hd e0 hl r x
  refine wpAny_mono (ht [] s1 (start N vs) H _ I hq) (fun fl s' hs => ?_) fun e s' hs => hs
  have fin : ∀ {σ' : St} {H' : Hp} {v : V} {u : Value}, Inv (cxOf CX P w K mg base N qual scope f cdv A outer s H E) [] σ' H' s' → RelV v u → Q v H' → CE outer P w H s Q u s' :=
    fun {σ' H' v u} J rv q => ⟨v, H', J.os, J.bare, J.base, J.hok, rv, q⟩
  cases fl with
  | ret u =>
    obtain ⟨v, σ', H', J, rv, q⟩ := hs
    exact fin J rv q
  | next =>
    obtain ⟨σ', H', J, q⟩ := hs
    exact fin (v := V.non) (u := Value.none) J rfl q
  | brk =>
    obtain ⟨_, _, _, q⟩ := hs
    exact False.elim q
  | cont =>
    obtain ⟨_, _, _, q⟩ := hs
    exact False.elim q
end L2
namespace L2
open PySem PySem.Spec PyProof.Rows
section
variable {X : Cx} {x : Str} {p pos : Pos} {e : Expr} {es : List Expr} {t : TA} {id T : String} {r : List V → Hp → VK → Prop}
def tCB (r : List V → Hp → VK → Prop) (t : TA) : TE := fun σ H Q => t σ H fun vs H1 => r vs H1 Q
theorem pe_callB (hc : CallR X (.builtin id) r) (hg : Gl X x) (hm : X.mg x = none) (hv : bootBuiltins x = some (.builtin id)) (ha : PA X (e :: es) t) (hn : x ≠ "__name__" := by decide) (hdb : (x == ("__debug__" : Str)) = false := by decide)
    (he : starEach (e :: es) X.env = (false, eval e X.env) :: starEach es X.env := by rfl) (hpl : (backTo pos (starEach es X.env)).any (·.1) = false := by rfl) : PE X (.Call (.Name x p) (e :: es) [] pos) (tCB r t) := by
  intro pins s σ H Q I h
  refine wpAny_Call_Name_kw (ld_blt I hg hm hv ?_ hn hdb)
  exact PyProof.Rows.callWith_builtin1 (thn (ha pos pins s σ H _ I h) fun us s1 ⟨vs, H1, I1, r1, q1⟩ => hc pins s1 σ H1 vs us Q I1 r1 q1) he hpl
theorem pe_callTy (hc : CallR X (.type T) r) (hg : Gl X x) (hm : X.mg x = none) (hv : bootBuiltins x = some (.type T)) (ha : PA X (e :: es) t) (hn : x ≠ "__name__" := by decide) (hdb : (x == ("__debug__" : Str)) = false := by decide)
    (he : starEach (e :: es) X.env = (false, eval e X.env) :: starEach es X.env := by rfl) (hpl : (backTo pos (starEach es X.env)).any (·.1) = false := by rfl) : PE X (.Call (.Name x p) (e :: es) [] pos) (tCB r t) := by
  intro pins s σ H Q I h
  refine wpAny_Call_Name_kw (ld_blt I hg hm hv ?_ hn hdb)
  exact PyProof.Rows.callWith_type1 (thn (ha pos pins s σ H _ I h) fun us s1 ⟨vs, H1, I1, r1, q1⟩ => hc pins s1 σ H1 vs us Q I1 r1 q1) he hpl
end
end L2
namespace HT
open PySem PyProof.Rows
section
open PySem.SeqAt
open PySem.AutoSeq1 (wpAny_loadPart')
open PySem.MeetsSeq PySem.MeetsSeq2 PySem.MeetsSeq3
end
section
variable {prog : Program} {w : World} {A : Around} {E : Value → Shared → Prop} {s : Shared}
theorem cat_tup {t b : Addr} {vs ws : List Value} {Q : Value → Shared → Prop} (ht : IsTup s.heap t vs.toArray) (hb : IsTup s.heap b ws.toArray) (hv : vs ≠ [])
    (h1 : ws = [] → Q (.ref t) s) (h2 : ws ≠ [] → Q (.ref s.heap.objs.size) { s with heap := s.heap.push { cls := .type "tuple", data := .seq (vs ++ ws).toArray } })
    (hsz : vs.length + ws.length ≤ sizeLine) : wpAny (model prog w) A (binaryOp .Add (.ref t) (.ref b)) Q E s := by
  obtain ⟨⟨cls, dd, data, sl⟩, ho, hc, n, hd⟩ := id ht
  obtain ⟨⟨cls2, dd2, data2, sl2⟩, ho2, hc2, n2, hd2⟩ := id hb
  simp only at hc hd hc2 hd2
  subst hc hd hc2 hd2
  have e : vs.toArray ++ ws.toArray = (vs ++ ws).toArray := by simp
  by_cases hw : ws = []
  · exact concat_meets ⟨_, ho, rfl⟩ ⟨_, ho2, rfl⟩ noFill_tuple_add seq_tuple_add PySem.F.slot_tuple_add PySem.F.entry_tuple_add (PySem.F.args_tuple_add_2 _ _)
      (tuple_addW1 t b vs.toArray ws.toArray n n2 dd dd2 sl sl2 (by simpa using hv) (by simp [hw])) ⟨ho, ho2, h1 hw⟩
  · refine concat_meets ⟨_, ho, rfl⟩ ⟨_, ho2, rfl⟩ noFill_tuple_add seq_tuple_add PySem.F.slot_tuple_add PySem.F.entry_tuple_add (PySem.F.args_tuple_add_2 _ _)
      (tuple_addW2 t b vs.toArray ws.toArray n n2 dd dd2 sl sl2 (by simpa using hv) (by simpa using hw) (by rw [List.size_toArray, List.size_toArray]; exact hsz)) ⟨ho, ho2, ?_⟩
    rw [e]
    exact h2 hw
def sIx (n d : Nat) : Option Int → Nat
  | none => d
  | some v => if v < 0 then (v + (n : Int)).toNat else min v.toNat n
theorem sIx_nat (n d k : Nat) : sIx n d (some (k : Int)) = min k n := by
  show (if (k : Int) < 0 then ((k : Int) + (n : Int)).toNat else min (k : Int).toNat n) = min k n
  rw [if_neg (by omega), Int.toNat_natCast]
theorem sIx_le (n d : Nat) (hd : d ≤ n) (o : Option Int) : sIx n d o ≤ n := by
  cases o with
  | none => exact hd
  | some v =>
    show (if v < 0 then (v + (n : Int)).toNat else min v.toNat n) ≤ n
    by_cases hv : v < 0
    · rw [if_pos hv]; omega
    · rw [if_neg hv]; exact Nat.min_le_right _ _
theorem clip_eq (v : Int) (n d : Nat) : (if v < 0 then max (v + (n : Int)) 0 else min v (n : Int)) = ((sIx n d (some v) : Nat) : Int) := by
  show (if v < 0 then max (v + (n : Int)) 0 else min v (n : Int)) = (((if v < 0 then (v + (n : Int)).toNat else min v.toNat n) : Nat) : Int)
  by_cases hv : v < 0
  · simp only [if_pos hv]; omega
  · simp only [if_neg hv]; omega
theorem adjust_gen (lo hi : Option Int) (n : Nat) : Builtin.Slice.sliceAdjust lo hi 1 (n : Int) = (((sIx n 0 lo : Nat) : Int), ((sIx n n hi : Nat) : Int)) := by
  have h1 : ¬ ((1 : Int) < 0) := by omega
  unfold Builtin.Slice.sliceAdjust
  simp only [h1, if_false]
  refine Prod.ext ?_ ?_
  · cases lo with
    | none => rfl
    | some v => exact clip_eq v n 0
  · cases hi with
    | none => rfl
    | some v => exact clip_eq v n n
theorem places_gen (i j : Nat) : Builtin.Slice.slicePlaces (i : Int) (j : Int) 1 = j - i := by
  unfold Builtin.Slice.slicePlaces
  have h1 : (1 : Int) > 0 := by omega
  simp only [h1, if_true, Int.ediv_one]
  split <;> omega
theorem slicePart_ {v : Value} {o : Option Int} {Q : Option Int → Shared → Prop} (p : IsPart v o) (h : Q o s) : wpAny (model prog w) A (Builtin.Slice.slicePartIndex v) Q E s := by
  cases p with
  | none => exact slicePart_none h
  | int i t => exact slicePart_int h
theorem sliceApplied_gen {sl : Addr} {vl vu : Value} {lo hi : Option Int} {n : Nat} {Q : Int × Int × Nat → Shared → Prop} (hs : s.heap.IsSliceOf sl vl vu .none) (pl : IsPart vl lo) (pu : IsPart vu hi)
    (h : Q (((sIx n 0 lo : Nat) : Int), 1, sIx n n hi - sIx n 0 lo) s) : wpAny (model prog w) A (Builtin.Slice.sliceApplied (.ref sl) (pure (n : Int))) Q E s := by
  obtain ⟨os, hos, hcs, hds⟩ := id hs
  unfold Builtin.Slice.sliceApplied Builtin.Slice.sliceFields
  refine wpAny_bind (wpAny_bind (wpAny_field hos hds (x := vl) rfl (wpAny_bind (wpAny_field hos hds (x := vu) rfl (wpAny_bind (wpAny_field hos hds (x := .none) rfl (wpAny_pure ?_)))))))
  refine wpAny_bind (slicePart_none ?_)
  show wpAny _ _ (if ((1 : Int) == 0) = true then _ else _) _ _ s
  rw [if_neg (by decide)]
  refine wpAny_bind (slicePart_ pl (wpAny_bind (slicePart_ pu (wpAny_bind (wpAny_pure ?_)))))
  show wpAny _ _ (match Builtin.Slice.sliceAdjust lo hi 1 (n : Int) with | (lo, hi) => pure (lo, (1 : Int), Builtin.Slice.slicePlaces lo hi 1)) _ _ s
  rw [adjust_gen lo hi n]
  show wpAny _ _ (pure (((sIx n 0 lo : Nat) : Int), (1 : Int), Builtin.Slice.slicePlaces ((sIx n 0 lo : Nat) : Int) ((sIx n n hi : Nat) : Int) 1)) _ _ s
  rw [places_gen]
  exact wpAny_pure h
theorem pick_gen (xs : Array Value) (i k : Nat) : ((List.range k).filterMap fun (m : Nat) => xs[((i : Int) + (m : Int) * 1).toNat]?).toArray = ((xs.toList.drop i).take k).toArray := by
  have e : (fun (m : Nat) => xs[((i : Int) + (m : Int) * 1).toNat]?) = fun m => xs[i + m]? := by
    funext m
    have : ((i : Int) + (m : Int) * 1).toNat = i + m := by omega
    rw [this]
  rw [e]
  have := pick_run xs i k
  rw [List.filterMap_map] at this
  have e2 : ((fun x => xs[x]?) ∘ fun x => i + x) = fun m => xs[i + m]? := rfl
  rw [e2] at this
  rw [this]
theorem getItem_tuple_cut {t sl : Addr} {items : Array Value} {vl vu : Value} {lo hi : Option Int} {Q : Value → Shared → Prop} (ht : IsTup s.heap t items) (hs : s.heap.IsSliceOf sl vl vu .none) (pl : IsPart vl lo) (pu : IsPart vu hi)
    (hw : ¬ (sIx items.size 0 lo = 0 ∧ sIx items.size items.size hi = items.size))
    (h : Q (.ref s.heap.objs.size) { s with heap := s.heap.push { cls := .type "tuple", data := .seq ((items.toList.drop (sIx items.size 0 lo)).take (sIx items.size items.size hi - sIx items.size 0 lo)).toArray } })
    (hsz : items.size ≤ sizeLine) : wpAny (model prog w) A (getItem (.ref t) (.ref sl)) Q E s := by
  have htake : sizeOk (.seq ((items.toList.drop (sIx items.size 0 lo)).take (sIx items.size items.size hi - sIx items.size 0 lo)).toArray) := by
    show ((items.toList.drop (sIx items.size 0 lo)).take (sIx items.size items.size hi - sIx items.size 0 lo)).toArray.size ≤ sizeLine
    rw [List.size_toArray, List.length_take, List.length_drop, Array.length_toList]
    omega
  have hj : sIx items.size items.size hi ≤ items.size := sIx_le _ _ (Nat.le_refl _) hi
  obtain ⟨os, hos, hcs, hds⟩ := id hs
  have hTs : s.TypeIs (.ref sl) "slice" := ⟨os, hos, hcs⟩
  unfold getItem
  try with_reducible refine wpAny_holding ?_
  first | refine wpAny_bind (wpAny_pure ?_) | skip
  refine wpAny_bind (wpAny_sequenceKey ht.typeIs (by decide) ?_)
  refine wpAny_bind (wpAny_callSpecial?_slot (name := Str.ofString "__getitem__") ht.typeIs PyProof.Rows.slot_tuple_getitem
    (wpAny_call_entry PyProof.Rows.slot_tuple_getitem ht.typeIs entry_tuple_getitem ?_ (args_tuple_getitem _ _)))
  show wpAny _ _ (Builtin.Tuple.tupleItemsOf (.ref t) >>= _) _ _ s
  refine wpAny_bind (tupleItemsOf_ ht ?_)
  refine wpAny_bind (wpAny_typeOf hTs ?_)
  rw [if_pos (by decide)]
  refine wpAny_bind (sliceApplied_gen hs pl pu ?_)
  have hno : ¬ ((((sIx items.size 0 lo : Nat) : Int) == 0 && (1 : Int) == 1 && (sIx items.size items.size hi - sIx items.size 0 lo) == items.size) = true) := by
    intro q
    rw [Bool.and_eq_true, Bool.and_eq_true] at q
    have q1 : ((sIx items.size 0 lo : Nat) : Int) = 0 := eq_of_beq q.1.1
    have q2 : sIx items.size items.size hi - sIx items.size 0 lo = items.size := eq_of_beq q.2
    exact hw ⟨by omega, by omega⟩
  show wpAny _ _ (if (((sIx items.size 0 lo : Nat) : Int) == 0 && (1 : Int) == 1 && (sIx items.size items.size hi - sIx items.size 0 lo) == items.size) = true then _ else _) _ _ s
  rw [if_neg hno, pick_gen]
  first
    | exact wpAny_bind (m := Builtin.Tuple.tupleExact _) (wpAny_newObj_type (wpAny_pure ⟨_, rfl, wpAny_pure h⟩) htake)
    | exact wpAny_bind (m := Builtin.Tuple.tupleExact _) (wpAny_newObj_type (wpAny_bind (wpAny_pure (wpAny_pure ⟨_, rfl, wpAny_pure h⟩))) htake)
    | exact wpAny_bind (wpAny_bind (m := Builtin.Tuple.tupleExact _) (wpAny_newObj_type (wpAny_pure (wpAny_pure ⟨_, rfl, wpAny_pure h⟩)) htake))
    | exact wpAny_bind (wpAny_bind (m := Builtin.Tuple.tupleExact _) (wpAny_newObj_type (wpAny_pure ⟨_, rfl, wpAny_pure h⟩) htake))
end
end HT
namespace L2
open PySem PySem.Spec PyProof.Rows
abbrev TO := St → Hp → (Option Int → Hp → Prop) → Prop
def PO (X : Cx) (e : Option Expr) (t : TO) : Prop :=
  ∀ (pins : List (Addr × Obj)) (s : Shared) (σ : St) (H : Hp) (Q : Option Int → Hp → Prop), Inv X pins σ H s → t σ H Q →
    wpAny (model X.prog X.w) X.A (evalPart e X.env) (fun u s' => ∃ o H', Inv X pins σ H' s' ∧ IsPart u o ∧ Q o H') X.xe s
def tNoPart : TO := fun _ H Q => Q none H
def tPart (t : TE) : TO := fun σ H Q => t σ H fun x H1 => ∃ i, x = .int i ∧ Q (some i) H1
section
variable {X : Cx} {e : Expr} {te : TE} {lo hi : Option Expr} {tl th : TO} {pos p2 : Pos}
theorem po_none : PO X none tNoPart := by
  intro pins s σ H Q I h
  rw [evalPart_none]
  exact wpAny_pure ⟨none, H, I, .none, h⟩
theorem po_some (h : PE X e te) : PO X (some e) (tPart te) := by
  intro pins s σ H Q I hw
  rw [evalPart_some]
  refine thn (h pins s σ H _ I hw) fun u s1 ⟨x, H1, I1, r1, q1⟩ => ?_
  obtain ⟨i, rfl, q⟩ := q1
  obtain ⟨t, rfl⟩ := r1
  exact ⟨some i, H1, I1, .int i t, q⟩
def SlR (X : Cx) (r : V → Option Int → Option Int → Hp → VK → Prop) : Prop :=
  ∀ (pins : List (Addr × Obj)) (s : Shared) (σ : St) (H : Hp) (x : V) (v vl vu : Value) (lo hi : Option Int) (sl : Addr) (Q : VK), Inv X pins σ H s → RelV x v → s.heap.IsSliceOf sl vl vu .none → IsPart vl lo → IsPart vu hi → r x lo hi H Q →
    ∃ T id, typeLookup (.type T) "__getitem__" = pure (some (.builtin id)) ∧ s.TypeIs v T ∧ wpAny (model X.prog X.w) X.A (getItem v (.ref sl)) (EP X pins σ Q) X.xe s
def tSl (r : V → Option Int → Option Int → Hp → VK → Prop) (te : TE) (tl th : TO) : TE := fun σ H Q => te σ H fun x H1 => tl σ H1 fun l H2 => th σ H2 fun u H3 => r x l u H3 Q
theorem pe_slice {r : V → Option Int → Option Int → Hp → VK → Prop} (hr : SlR X r) (he : PE X e te) (hl : PO X lo tl) (hu : PO X hi th) : PE X (.Subscript e (.Slice lo hi none p2) pos) (tSl r te tl th) := by
  intro pins s σ H Q I h
  refine Subscript_ (thn (he pins s σ H _ I h) fun v s1 ⟨x, H1, I1, r1, q1⟩ => ?_)
  refine wpAny_Slice (thn (hl pins s1 σ H1 _ I1 q1) fun vl s2 ⟨l, H2, I2, pl, q2⟩ => thn (hu pins s2 σ H2 _ I2 q2) fun vu s3 ⟨u, H3, I3, pu, q3⟩ => ?_)
  rw [evalPart_none]
  refine wpAny_pure ?_
  have I4 : Inv X pins σ H3 { s3 with heap := s3.heap.push { cls := .type "slice", data := .fields #[vl, vu, .none] } } := I3.kept (t' := s3.toks) fun b ob q => Heap.get?_push_of_some _ q
  obtain ⟨T, id, hT, ht, hg⟩ := hr pins { s3 with heap := s3.heap.push { cls := .type "slice", data := .fields #[vl, vu, .none] } } σ H3 x v vl vu l u s3.heap.objs.size Q I4 r1 (Heap.IsSliceOf.new ..) pl pu q3
  show wpAny (model X.prog X.w) X.A (subscriptTail e (.Slice lo hi none p2) v (.ref s3.heap.objs.size)) (EP X pins σ Q) X.xe { s3 with heap := s3.heap.push { cls := .type "slice", data := .fields #[vl, vu, .none] } }
  exact tail_any (ops := [.ref s3.heap.objs.size, v]) ht hT hg (by with_unfolding_all rfl)
def cutV (xs : List V) (lo hi : Option Int) : List V := (xs.drop (HT.sIx xs.length 0 lo)).take (HT.sIx xs.length xs.length hi - HT.sIx xs.length 0 lo)
theorem cutV_length (xs : List V) (lo hi : Option Int) : (cutV xs lo hi).length ≤ xs.length := by
  unfold cutV
  rw [List.length_take, List.length_drop]
  omega
def rSlT (K : PySem.W.Frag) : V → Option Int → Option Int → Hp → VK → Prop := fun x lo hi H Q => ∃ a xs, x = .ref a ∧ SqT K H a xs ∧
  ¬ (HT.sIx xs.length 0 lo = 0 ∧ HT.sIx xs.length xs.length hi = xs.length) ∧ ∀ p, H p = none → Q (.ref p) (upd H p (.tup (cutV xs lo hi)))
theorem sl_tup : SlR X (rSlT X.K) := by
  intro pins s σ H x v vl vu lo hi sl Q I rx hs pl pu h
  obtain ⟨a, xs, rfl, hx, hw, q⟩ := h
  cases rx
  obtain ⟨its, r, ht, hz⟩ := I.tuple hx
  have hlen : its.toArray.size = xs.length := by rw [List.size_toArray]; exact r.length.symm
  refine ⟨"tuple", _, PyProof.Rows.slot_tuple_getitem.lookup, ht.typeIs, ?_⟩
  refine HT.getItem_tuple_cut ht hs pl pu (by rw [hlen]; exact hw) ?_ (by rw [hlen]; exact hz)
  rw [hlen]
  refine ⟨.ref s.heap.objs.size, _, I.laid (t' := s.toks) (o := .tup (cutV xs lo hi)) (fun b ob q => Heap.get?_push_of_some _ q) (Nat.le_refl _) ?_, rfl, q _ (I.hok.fresh (Nat.le_refl _))⟩
  exact ⟨Nat.le_trans (cutV_length xs lo hi) hz, _, (r.drop (HT.sIx xs.length 0 lo)).take (HT.sIx xs.length xs.length hi - HT.sIx xs.length 0 lo), IsTup.new _ _⟩
def rCatT (K : PySem.W.Frag) : R2 := fun x y H Q => ∃ a b xs ys, x = .ref a ∧ y = .ref b ∧ SqT K H a xs ∧ SqT K H b ys ∧ xs ≠ [] ∧ xs.length + ys.length ≤ sizeLine ∧
  (ys = [] → Q (.ref a) H) ∧ (ys ≠ [] → ∀ p, H p = none → Q (.ref p) (upd H p (.tup (xs ++ ys))))
theorem Vals.nil_iff {xs : List V} {us : List Value} (r : Vals xs us) : us = [] ↔ xs = [] := by
  cases r with
  | nil => simp
  | cons _ _ => simp
theorem op_catT : OpR X (binaryOp .Add) (rCatT X.K) := by
  intro pins s σ H x y v u Q I rx ry h
  obtain ⟨a, b, xs, ys, rfl, rfl, ha, hb, hx, hz, q1, q2⟩ := h
  cases rx
  cases ry
  obtain ⟨its, r1, p1, _⟩ := I.tuple ha
  obtain ⟨its2, r2, p2, _⟩ := I.tuple hb
  refine HT.cat_tup p1 p2 (fun z => hx (r1.nil_iff.mp z)) (fun z => ⟨.ref a, H, I, rfl, q1 (r2.nil_iff.mp z)⟩) (fun z => ?_) (by rw [← r1.length, ← r2.length]; exact hz)
  refine ⟨.ref s.heap.objs.size, _, I.laid (t' := s.toks) (o := .tup (xs ++ ys)) (fun b ob q => Heap.get?_push_of_some _ q) (Nat.le_refl _) ?_, rfl, q2 (fun w => z (r2.nil_iff.mpr w)) _ (I.hok.fresh (Nat.le_refl _))⟩
  exact ⟨by rw [List.length_append]; exact hz, _, r1.append r2, IsTup.new _ _⟩
end
end L2
namespace L2
open PySem PySem.Spec PyProof.Rows
def ixN (n : Nat) (i : Int) : Option Nat := if 0 ≤ i then (if i < n then some i.toNat else none) else if -(n : Int) ≤ i then some (i + n).toNat else none
def atI {α : Type} (xs : List α) (i : Int) : Option α := (ixN xs.length i).bind fun j => xs[j]?
theorem ixN_seq {n : Nat} {i : Int} {j : Nat} (h : ixN n i = some j) : seqIndex? i n = some j ∧ j < n ∧ -(n : Int) ≤ i ∧ i < n := by
  unfold ixN at h
  by_cases h0 : 0 ≤ i
  · rw [if_pos h0] at h
    by_cases h1 : i < n
    · rw [if_pos h1] at h
      have e : i.toNat = j := Option.some.inj h
      exact ⟨by rw [seqIndex_of h0 h1, e], by omega, by omega, h1⟩
    · rw [if_neg h1] at h; cases h
  · rw [if_neg h0] at h
    by_cases h1 : -(n : Int) ≤ i
    · rw [if_pos h1] at h
      have e : (i + n).toNat = j := Option.some.inj h
      exact ⟨by rw [seqIndex_neg (by omega) h1, e], by omega, h1, by omega⟩
    · rw [if_neg h1] at h; cases h
theorem atI_get {α : Type} {xs : List α} {i : Int} {v : α} (h : atI xs i = some v) : ∃ j, seqIndex? i xs.length = some j ∧ xs[j]? = some v ∧ j < xs.length ∧ -(xs.length : Int) ≤ i ∧ i < xs.length := by
  unfold atI at h
  cases e : ixN xs.length i with
  | none => rw [e] at h; cases h
  | some j =>
    rw [e] at h
    obtain ⟨h1, h2, h3, h4⟩ := ixN_seq e
    exact ⟨j, h1, h, h2, h3, h4⟩
theorem atI_nat {α : Type} {xs : List α} {j : Nat} {v : α} (h : xs[j]? = some v) : atI xs (j : Int) = some v := by
  have hj : j < xs.length := (List.getElem?_eq_some_iff.mp h).1
  have e : ixN xs.length (j : Int) = some j := by
    unfold ixN
    rw [if_pos (by omega), if_pos (by omega)]; simp
  unfold atI; rw [e]; exact h
def PlainIx (b : Expr) : Prop := ∀ o i, subscripted b false o i = operate [o, i] (getItem o i)
def IxR (X : Cx) (r : R2) : Prop :=
  ∀ (value slice : Expr) (pins : List (Addr × Obj)) (s : Shared) (σ : St) (H : Hp) (x y : V) (v u : Value) (Q : VK), Inv X pins σ H s → RelV x v → RelV y u → r x y H Q →
    subscripted slice false v u = operate [v, u] (getItem v u) → wpAny (model X.prog X.w) X.A (subscriptTail value slice v u) (EP X pins σ Q) X.xe s
def MtR (X : Cx) (id : String) (r : V → List V → Hp → VK → Prop) : Prop :=
  ∀ (pins : List (Addr × Obj)) (s : Shared) (σ : St) (H : Hp) (x : V) (xs : List V) (v : Value) (us : List Value) (Q : VK), Inv X pins σ H s → RelV x v → Vals xs us → r x xs H Q →
    wpAny (model X.prog X.w) X.A (call (.builtin id) (v :: us)) (EP X pins σ Q) X.xe s
section
variable {X : Cx} {a b : Expr} {ta tb : TE} {pos : Pos}
theorem pe_ix {r : R2} (hr : IxR X r) (ha : PE X a ta) (hb : PE X b tb) (hs : PlainIx b) : PE X (.Subscript a b pos) (tOp r ta tb) := by
  intro pins s σ H Q I h
  exact Subscript_ (binT ha hb I h fun v u s2 x y H2 I2 rx ry q => hr a b pins s2 σ H2 x y v u Q I2 rx ry q (hs _ _))
def rIxL (K : PySem.W.Frag) : R2 := fun x y H Q => ∃ p xs i v, x = .ref p ∧ y = .int i ∧ SqL K H p xs ∧ atI xs i = some v ∧ Q v H
def rIxT (K : PySem.W.Frag) : R2 := fun x y H Q => ∃ p xs i v, x = .ref p ∧ y = .int i ∧ SqT K H p xs ∧ atI xs i = some v ∧ Q v H
def rIxS : R2 := fun x y H Q => ∃ z i c, x = .str z ∧ y = .int i ∧ z.length ≤ sizeLine ∧ atI z.cps.toList i = some c ∧ Q (.str ⟨#[c]⟩) H
theorem ix_list : IxR X (rIxL X.K) := by
  intro value slice pins s σ H x y v u Q I rx ry h hs
  obtain ⟨p, xs, i, z, rfl, rfl, hq, he, q⟩ := h
  cases rx
  obtain ⟨t, rfl⟩ := ry
  obtain ⟨its, r, pl, hz⟩ := I.list hq
  obtain ⟨j, h1, h2, h3, h4, h5⟩ := atI_get he
  obtain ⟨w, ew, rw'⟩ := r.get h2
  have hl := r.length
  have hn := line63
  have fin : EP X pins σ Q w s := ⟨z, H, I, rw', q⟩
  by_cases h0 : 0 ≤ i
  · have hj : i.toNat = j := by
      rw [seqIndex_of h0 h5] at h1
      exact Option.some.inj h1
    exact item_listR pl.isList h0 (by omega) (by rw [hj]; simpa using ew) fin hs
  · have hj : (i + (its.toArray.size : Int)).toNat = j := by
      rw [seqIndex_neg (by omega) h4] at h1
      rw [List.size_toArray, ← hl]
      exact Option.some.inj h1
    exact subscriptTail_builtinR (x := w) pl.isList.typeIs slot_list_getitem.lookup
      (wpAny_getItem_list_neg (Q := fun r s' => r = w ∧ EP X pins σ Q r s') pl.isList (by omega) (by rw [List.size_toArray] <;> omega) (by omega) (by rw [hj]; simpa using ew) ⟨rfl, fin⟩) hs
theorem ix_tup : IxR X (rIxT X.K) := by
  intro value slice pins s σ H x y v u Q I rx ry h hs
  obtain ⟨p, xs, i, z, rfl, rfl, hq, he, q⟩ := h
  cases rx
  obtain ⟨t, rfl⟩ := ry
  obtain ⟨its, r, pl, hz⟩ := I.tuple hq
  obtain ⟨j, h1, h2, h3, h4, h5⟩ := atI_get he
  obtain ⟨w, ew, rw'⟩ := r.get h2
  have hl := r.length
  have hn := line63
  have fin : EP X pins σ Q w s := ⟨z, H, I, rw', q⟩
  exact subscriptTail_builtinR (x := w) pl.typeIs slot_tuple_getitem.lookup
    (getItem_tuple (j := j) (Q := fun r s' => r = w ∧ EP X pins σ Q r s') pl (by omega) (by omega) (by rw [List.size_toArray, ← hl]; exact h1) (by simpa using ew) ⟨rfl, fin⟩) hs
theorem ix_str : IxR X rIxS := by
  intro value slice pins s σ H x y v u Q I rx ry h hs
  obtain ⟨z, i, c, rfl, rfl, hz, he, q⟩ := h
  obtain ⟨t, rfl⟩ := rx
  obtain ⟨t', rfl⟩ := ry
  obtain ⟨j, h1, h2, h3, h4, h5⟩ := atI_get he
  have hl : z.cps.toList.length = z.length := by simp [Str.length]
  rw [hl] at h1 h4 h5
  have hn := line63
  exact tail_any (typeIs_str s z t) slot_str_getitem.lookup (getItem_str (c := c) (by
    have e1 : decide (i < -(2 ^ 63 : Int)) = false := decide_eq_false (by omega)
    have e2 : decide (i ≥ 2 ^ 63) = false := decide_eq_false (by omega)
    rw [e1, e2, Bool.or_false]) (by rw [h1]; simpa using h2) ⟨.str ⟨#[c]⟩, H, I.tok _, ⟨_, rfl⟩, q⟩) hs
theorem Inv.lst {pins : List (Addr × Obj)} {σ : St} {H : Hp} {s : Shared} {p : Addr} {xs : List V} (I : Inv X pins σ H s) (h : H p = some (.lst xs)) :
    ∃ (its : List Value) (n : Nat), Vals xs its ∧ s.heap.get? p = some { cls := .type "list", data := .seq its.toArray n } ∧ xs.length ≤ sizeLine := by
  obtain ⟨z, its, n, r, e⟩ := I.hok p _ h
  exact ⟨its, n, r, e, z⟩
theorem slice_bounds (lo hi : Option Int) (n : Nat) : (sliceBounds lo hi none n).1 = ((HT.sIx n 0 lo : Nat) : Int) ∧ (sliceBounds lo hi none n).2.1 = ((HT.sIx n n hi : Nat) : Int) ∧ (sliceBounds lo hi none n).2.2 = 1 := by
  refine ⟨?_, ?_, rfl⟩
  · cases lo with
    | none => simp [sliceBounds, HT.sIx]
    | some i =>
      simp only [sliceBounds, HT.sIx, Option.getD_none, show (1 : Int) > 0 by decide, if_true]
      by_cases h : i < 0
      · simp only [h, if_true] <;> omega
      · simp only [h, if_false] <;> omega
  · cases hi with
    | none => simp [sliceBounds, HT.sIx]
    | some i =>
      simp only [sliceBounds, HT.sIx, Option.getD_none, show (1 : Int) > 0 by decide, if_true]
      by_cases h : i < 0
      · simp only [h, if_true] <;> omega
      · simp only [h, if_false] <;> omega
theorem slicePick_cut (its : List Value) (lo hi : Option Int) : slicePick its.toArray lo hi none = ((its.drop (HT.sIx its.length 0 lo)).take (HT.sIx its.length its.length hi - HT.sIx its.length 0 lo)).toArray := by
  obtain ⟨h1, h2, h3⟩ := slice_bounds lo hi its.toArray.size
  unfold slicePick
  rw [h1, h2, h3]
  simp only [sliceRange_one, pick_run, List.size_toArray] <;> rfl
def rSlL (K : PySem.W.Frag) : V → Option Int → Option Int → Hp → VK → Prop := fun x lo hi H Q => ∃ a xs, x = .ref a ∧ SqL K H a xs ∧ ∀ p, H p = none → Q (.ref p) (upd H p (.lst (cutV xs lo hi)))
theorem sl_list : SlR X (rSlL X.K) := by
  intro pins s σ H x v vl vu lo hi sl Q I rx hs pl pu h
  obtain ⟨a, xs, rfl, hx, q⟩ := h
  cases rx
  obtain ⟨its, r, ht, hz⟩ := I.list hx
  have hlen := r.length
  refine ⟨"list", _, slot_list_getitem.lookup, ht.isList.typeIs, ?_⟩
  refine wpAny_getItem_list_slice ht.isList hs pl pu .none (by simp) ?_ (by rw [List.size_toArray] <;> omega)
  rw [slicePick_cut, ← hlen]
  refine ⟨.ref s.heap.objs.size, _, I.laid (t' := s.toks) (o := .lst (cutV xs lo hi)) (fun b ob q => Heap.get?_push_of_some _ q) (Nat.le_refl _) ?_, rfl, q _ (I.hok.fresh (Nat.le_refl _))⟩
  exact ⟨Nat.le_trans (cutV_length xs lo hi) hz, _, 0, (r.drop (HT.sIx xs.length 0 lo)).take (HT.sIx xs.length xs.length hi - HT.sIx xs.length 0 lo), Heap.get?_push_size _ rfl⟩
def flatV : V → Bool
  | .non => true
  | .bl _ => true
  | .int _ => true
  | .str _ => true
  | _ => false
def eqV : V → V → Bool
  | .non, .non => true
  | .bl a, .bl b => a == b
  | .bl a, .int b => (if a then 1 else 0) == b
  | .int a, .bl b => a == (if b then 1 else 0)
  | .int a, .int b => a == b
  | .str a, .str b => a == b
  | _, _ => false
theorem eqAt_V {A : Around} {s : Shared} {y x : V} {u v : Value} (ry : RelV y u) (rx : RelV x v) (fy : flatV y = true) (fx : flatV x = true) : SeqAt.EqAt A s u v (eqV y x) := by
  cases y with
  | non =>
    cases ry
    cases x with
    | non => cases rx; exact SeqAt.EqAt.same _
    | bl b => cases rx; exact SeqAt.EqAt.none_bool b
    | int b => obtain ⟨t, rfl⟩ := rx; exact SeqAt.EqAt.none_int b t
    | str b => obtain ⟨t, rfl⟩ := rx; exact SeqAt.EqAt.none_str b t
    | _ => exact absurd (show false = true from fx) Bool.false_ne_true
  | bl a =>
    cases ry
    cases x with
    | non => cases rx; exact SeqAt.EqAt.bool_none a
    | bl b => cases rx; exact SeqAt.EqAt.bool_bool a b
    | int b => obtain ⟨t, rfl⟩ := rx; exact SeqAt.EqAt.bool_int a b t
    | str b => obtain ⟨t, rfl⟩ := rx; exact SeqAt.EqAt.bool_str a b t
    | _ => exact absurd (show false = true from fx) Bool.false_ne_true
  | int a =>
    obtain ⟨t', rfl⟩ := ry
    cases x with
    | non => cases rx; exact SeqAt.EqAt.int_none a t'
    | bl b => cases rx; exact SeqAt.EqAt.int_bool a t' b
    | int b => obtain ⟨t, rfl⟩ := rx; exact SeqAt.EqAt.int_int a t' b t
    | str b => obtain ⟨t, rfl⟩ := rx; exact SeqAt.EqAt.int_str a t' b t
    | _ => exact absurd (show false = true from fx) Bool.false_ne_true
  | str a =>
    obtain ⟨t', rfl⟩ := ry
    cases x with
    | non => cases rx; exact SeqAt.EqAt.str_none a t'
    | bl b => cases rx; exact SeqAt.EqAt.str_bool a t' b
    | int b => obtain ⟨t, rfl⟩ := rx; exact SeqAt.EqAt.str_int a t' b t
    | str b => obtain ⟨t, rfl⟩ := rx; exact SeqAt.EqAt.str_str a t' b t
    | _ => exact absurd (show false = true from fx) Bool.false_ne_true
  | _ => exact absurd (show false = true from fy) Bool.false_ne_true
def eqU (x : V) (u : Value) : Bool := match u with
  | .none => eqV .non x
  | .bool b => eqV (.bl b) x
  | .int i _ => eqV (.int i) x
  | .str z _ => eqV (.str z) x
  | _ => false
theorem eqU_of {x y : V} {u : Value} (r : RelV y u) (f : flatV y = true) : eqU x u = eqV y x := by
  cases y with
  | non => cases r; rfl
  | bl b => cases r; rfl
  | int i => obtain ⟨t, rfl⟩ := r; rfl
  | str z => obtain ⟨t, rfl⟩ := r; rfl
  | _ => exact absurd (show false = true from f) Bool.false_ne_true
theorem any_eqU {x : V} : ∀ {xs : List V} {us : List Value}, Vals xs us → xs.all flatV = true → us.any (eqU x) = xs.any fun y => eqV y x
  | _, _, .nil, _ => rfl
  | y :: xs, u :: us, .cons r t, f => by
    rw [List.all_cons, Bool.and_eq_true] at f
    rw [List.any_cons, List.any_cons, eqU_of r f.1, any_eqU t f.2]
theorem mem_eqAt {A : Around} {s : Shared} {x : V} {v : Value} (rx : RelV x v) (fx : flatV x = true) : ∀ {xs : List V} {us : List Value}, Vals xs us → xs.all flatV = true → ∀ u ∈ us, SeqAt.EqAt A s u v (eqU x u)
  | _, _, .nil, _ => fun u hu => by cases hu
  | y :: xs, u :: us, .cons r t, f => fun u' hu => by
    rw [List.all_cons, Bool.and_eq_true] at f
    rcases List.mem_cons.mp hu with rfl | hu
    · rw [eqU_of r f.1]; exact eqAt_V r rx f.1 fx
    · exact mem_eqAt rx fx t f.2 u' hu
def inV (x : V) (xs : List V) : Bool := xs.any fun y => eqV y x
def rIn (K : PySem.W.Frag) (neg : Bool) : R2 := fun x y H Q => ∃ p xs, y = .ref p ∧ (SqL K H p xs ∨ SqT K H p xs) ∧ flatV x = true ∧ xs.all flatV = true ∧ Q (.bl (if neg then !inV x xs else inV x xs)) H
theorem op_in_seq : OpR X (compareOp .In) (rIn X.K false) := by
  intro pins s σ H x y v u Q I rx ry h
  obtain ⟨p, xs, rfl, hq, fx, fs, q⟩ := h
  cases ry
  rcases hq with hq | hq
  · obtain ⟨its, r, pl, hz⟩ := I.list hq
    refine SeqAt.in_listAt (eqU x) pl.isList (fun w hw => mem_eqAt rx fx r fs w (by simpa using hw)) ⟨.bl _, H, I, rfl, ?_⟩
    rw [show its.toArray.any (eqU x) = its.any (eqU x) by simp, any_eqU r fs]
    exact q
  · obtain ⟨its, r, pl, hz⟩ := I.tuple hq
    refine SeqAt.in_tupleAt (eqU x) pl (fun w hw => mem_eqAt rx fx r fs w (by simpa using hw)) ⟨.bl _, H, I, rfl, ?_⟩
    rw [show its.toArray.any (eqU x) = its.any (eqU x) by simp, any_eqU r fs]
    exact q
theorem op_notIn_seq : OpR X (compareOp .NotIn) (rIn X.K true) := by
  intro pins s σ H x y v u Q I rx ry h
  obtain ⟨p, xs, rfl, hq, fx, fs, q⟩ := h
  cases ry
  rcases hq with hq | hq
  · obtain ⟨its, r, pl, hz⟩ := I.list hq
    refine SeqAt.notIn_listAt (eqU x) pl.isList (fun w hw => mem_eqAt rx fx r fs w (by simpa using hw)) ⟨.bl _, H, I, rfl, ?_⟩
    rw [show its.toArray.any (eqU x) = its.any (eqU x) by simp, any_eqU r fs]
    exact q
  · obtain ⟨its, r, pl, hz⟩ := I.tuple hq
    refine SeqAt.notIn_tupleAt (eqU x) pl (fun w hw => mem_eqAt rx fx r fs w (by simpa using hw)) ⟨.bl _, H, I, rfl, ?_⟩
    rw [show its.toArray.any (eqU x) = its.any (eqU x) by simp, any_eqU r fs]
    exact q
theorem call_len_seq : CallR X (.builtin "len") (fun xs H Q => ∃ p ys, xs = [.ref p] ∧ (SqL X.K H p ys ∨ SqT X.K H p ys) ∧ Q (.int ys.length) H) := by
  intro pins s σ H xs us Q I r h
  obtain ⟨p, ys, rfl, hq, q⟩ := h
  obtain ⟨u, rfl, rx⟩ := vals1 r
  cases rx
  have hn := line63
  rcases hq with hq | hq
  · obtain ⟨its, r', pl, hz⟩ := I.list hq
    have hlen := r'.length
    exact Calls.call_len_list pl.isList (by simp only [List.size_toArray] <;> omega) ⟨.int ys.length, H, I.tok _, ⟨s.toks + 1, by rw [List.size_toArray, hlen]⟩, q⟩
  · obtain ⟨its, r', pl, hz⟩ := I.tuple hq
    have hlen := r'.length
    exact len_tuple pl (by simp only [List.size_toArray] <;> omega) ⟨.int ys.length, H, I.tok _, ⟨s.toks + 1, by rw [List.size_toArray, hlen]⟩, q⟩
theorem call_len_str : CallR X (.builtin "len") (fun xs H Q => ∃ z, xs = [.str z] ∧ z.length ≤ sizeLine ∧ Q (.int z.length) H) := by
  intro pins s σ H xs us Q I r h
  obtain ⟨z, rfl, hz, q⟩ := h
  obtain ⟨u, rfl, t, rfl⟩ := vals1 r
  have hn := line63
  exact len_str (by omega) ⟨.int z.length, H, I.tok _, ⟨_, rfl⟩, q⟩
theorem call_list_of : CallR X (.type "list") (fun xs H Q => ∃ p ys, xs = [.ref p] ∧ (SqL X.K H p ys ∨ SqT X.K H p ys) ∧ ∀ l, H l = none → Q (.ref l) (upd H l (.lst ys))) := by
  intro pins s σ H xs us Q I r h
  obtain ⟨p, ys, rfl, hq, q⟩ := h
  obtain ⟨u, rfl, rx⟩ := vals1 r
  cases rx
  have fin : ∀ (its : List Value), Vals ys its → ys.length ≤ sizeLine → ∀ (h' : Heap) (c' : Nat), (∀ b o', s.heap.get? b = some o' → h'.get? b = some o') →
      h'.get? s.heap.objs.size = some { cls := .type "list", dict := none, data := .seq its.toArray c', slots := #[] } → EP X pins σ Q (.ref s.heap.objs.size) { s with heap := h' } := fun its r' hz h' c' kp e =>
    ⟨.ref s.heap.objs.size, _, I.laid (t' := s.toks) kp (Nat.le_refl _) (show ObjOk X.prog X.w _ h' _ (.lst ys) from ⟨hz, its, c', r', e⟩), rfl, q _ (I.hok.fresh (Nat.le_refl _))⟩
  rcases hq with hq | hq
  · obtain ⟨its, r', pl, hz⟩ := I.list hq
    have hlen := r'.length
    obtain ⟨o, ho, hc, n, hd⟩ := pl.isList
    exact call_list_seq p (.inl rfl) ho hc hd (fun h' c' kp e => fin its r' hz h' c' kp e) (by simp only [List.size_toArray] <;> omega)
  · obtain ⟨its, r', pl, hz⟩ := I.tuple hq
    have hlen := r'.length
    obtain ⟨o, ho, hc, n, hd⟩ := pl
    exact call_list_seq p (.inr rfl) ho hc hd (fun h' c' kp e => fin its r' hz h' c' kp e) (by simp only [List.size_toArray] <;> omega)
def tyV (K : PySem.W.Frag) (T : String) (x : V) (H : Hp) : Prop := match x with
  | .str _ => T = "str"
  | .int _ => T = "int"
  | .ref p => (T = "list" ∧ ∃ xs, SqL K H p xs) ∨ (T = "tuple" ∧ ∃ o, K.lookup p = some o ∧ o.cls = .type "tuple" ∧ o.dict = none) ∨
      (T = "dict" ∧ ((∃ kvs, H p = some (.dK kvs)) ∨ ∃ kvs, H p = some (.dT kvs))) ∨ (T = "set" ∧ ∃ S n, H p = some (.set S n))
  | _ => False
theorem tyV_is {pins : List (Addr × Obj)} {σ : St} {H : Hp} {s : Shared} {T : String} {x : V} {v : Value} (I : Inv X pins σ H s) (r : RelV x v) (ty : tyV X.K T x H) :
    s.TypeIs v T ∧ ∀ a, v = .ref a → ∃ ob, s.heap.get? a = some ob ∧ ob.dict = none := by
  cases x with
  | str z =>
    obtain ⟨t, rfl⟩ := r
    cases (show T = "str" from ty)
    exact ⟨typeIs_str s z t, fun _ e => nomatch e⟩
  | int i =>
    obtain ⟨t, rfl⟩ := r
    cases (show T = "int" from ty)
    exact ⟨typeIs_int s i t, fun _ e => nomatch e⟩
  | ref p =>
    cases r
    rcases ty with ⟨rfl, xs, hq⟩ | ⟨rfl, o, hk, hc, hd⟩ | ⟨rfl, hk⟩ | ⟨rfl, S, n, hk⟩
    · obtain ⟨its, _, pl, _⟩ := I.list hq
      refine ⟨pl.isList.typeIs, fun a e => ?_⟩
      cases e
      obtain ⟨o, n, e, c, hd, _⟩ := pl
      exact ⟨o, e, hd⟩
    · refine ⟨⟨o, I.kIn p o hk, hc⟩, fun a e => ?_⟩
      cases e
      exact ⟨o, I.kIn _ o hk, hd⟩
    · have z : ∃ o, s.heap.get? p = some o ∧ o.ExactDict := by
        rcases hk with ⟨kvs, hk⟩ | ⟨kvs, hk⟩
        · obtain ⟨_, _, _, _, o, _, _, e, ex, _⟩ := I.hok p _ hk
          exact ⟨o, e, ex⟩
        · obtain ⟨_, _, _, _, o, _, _, e, ex, _⟩ := I.hok p _ hk
          exact ⟨o, e, ex⟩
      obtain ⟨o, e, ex⟩ := z
      refine ⟨⟨o, e, ex.1⟩, fun a e2 => ?_⟩
      cases e2
      exact ⟨o, e, ex.2.1⟩
    · obtain ⟨o, _, _, _, e, ex, _⟩ := I.hok p _ hk
      refine ⟨⟨o, e, ex.1⟩, fun a e2 => ?_⟩
      cases e2
      exact ⟨o, e, ex.2.1⟩
  | _ => exact False.elim ty
def tBM (K : PySem.W.Frag) (T : String) (r : V → List V → Hp → VK → Prop) (to : TE) (t : TA) : TE := fun σ H Q => to σ H fun x H1 => tyV K T x H1 ∧ t σ H1 fun xs H2 => r x xs H2 Q
variable {o e : Expr} {es : List Expr} {to : TE} {t : TA} {name : Str} {apos cpos : Pos} {T id : String} {r : V → List V → Hp → VK → Prop}
theorem pe_bm (pa : PlainAttrs T) (slot : Slot T name id) (hty : typeOf (.builtin id) = pure (.type "method_descriptor")) (hm : MtR X id r) (ho : PE X o to) (ha : PA X (e :: es) t)
    (hbase : attributeBase o name X.env (eval o X.env) = eval o X.env := by rfl)
    (hfew : ((backTo cpos (starEach (e :: es) X.env)).all (fun x => !x.1) && (backToKw cpos (keywordEach [] X.env)).all (fun x => x.1.isSome)
      && decide ((e :: es).length + ([] : List Keyword).length + (if ([] : List Keyword).isEmpty then 0 else 1) < 30)) = true := by rfl)
    (hline : (apos.endLine == cpos.line) = true := by rfl) (hs : starEach (e :: es) X.env = (false, eval e X.env) :: starEach es X.env := by rfl) (hplain : (backTo cpos (starEach es X.env)).any (·.1) = false := by rfl) :
    PE X (.Call (.Attribute o name apos) (e :: es) [] cpos) (tBM X.K T r to t) := by
  intro pins s σ H Q I h
  refine wpAny_Call_method_late hbase hfew hline rfl (thn (ho pins s σ H _ I h) fun v s1 ⟨x, H1, I1, r1, ty, q1⟩ => ?_)
  obtain ⟨h1, h2⟩ := tyV_is I1 r1 ty
  refine ⟨T, id, pa, slot, hty, h1, h2, ?_⟩
  have hA := ha cpos pins s1 σ H1 _ I1 q1
  rw [hs] at hA ⊢
  refine Calls.callWith_builtin (by show (false || (backTo cpos (starEach es X.env)).any (·.1)) = false; rw [hplain] <;> rfl) (Calls.evalArgs_plain ?_)
  exact thn hA fun us s2 ⟨vs, H2, I2, r2, q2⟩ => hm pins s2 σ H2 x vs v us Q I2 r1 r2 q2
end
end L2
namespace L2
open PySem PySem.Spec PyProof.Rows
def MtM (X : Cx) (id : String) (r : V → List V → Hp → VK → Prop) : Prop :=
  ∀ (pins : List (Addr × Obj)) (s : Shared) (σ : St) (H : Hp) (x : V) (xs : List V) (v : Value) (us : List Value) (Q : VK), Inv X pins σ H s → RelV x v → Vals xs us → r x xs H Q →
    wpAny (model X.prog X.w) X.A (call (.builtin id) (v :: us)) (EP X pins σ Q) X.xe s
theorem Vals.one : ∀ {x : V} {us : List Value}, Vals [x] us → ∃ u, us = [u] ∧ RelV x u
  | _, _, .cons r .nil => ⟨_, rfl, r⟩
theorem Vals.two : ∀ {x y : V} {us : List Value}, Vals [x, y] us → ∃ u v, us = [u, v] ∧ RelV x u ∧ RelV y v
  | _, _, _, .cons r (.cons q .nil) => ⟨_, _, rfl, r, q⟩
theorem Vals.zero : ∀ {us : List Value}, Vals [] us → us = []
  | _, .nil => rfl
theorem Vals.reverse {xs : List V} {us : List Value} (h : Vals xs us) : Vals xs.reverse us.reverse := by
  induction h with
  | nil => exact .nil
  | cons r t ih => rw [List.reverse_cons, List.reverse_cons]; exact Vals.append ih (.cons r .nil)
theorem Vals.rep {xs : List V} {us : List Value} (h : Vals xs us) : ∀ k : Nat, Vals (List.replicate k xs).flatten (List.replicate k us).flatten
  | 0 => .nil
  | k + 1 => by
    rw [List.replicate_succ, List.replicate_succ, List.flatten_cons, List.flatten_cons]
    exact Vals.append h (Vals.rep h k)
theorem foldl_rep (its : List Value) : ∀ (k : Nat) (acc : List Value),
    List.foldl (fun x1 x2 => x1 ++ x2) acc.toArray (List.replicate k its.toArray) = (acc ++ (List.replicate k its).flatten).toArray
  | 0, acc => by simp
  | k + 1, acc => by
    have e : acc.toArray ++ its.toArray = (acc ++ its).toArray := by simp
    have e2 : (acc ++ its) ++ (List.replicate k its).flatten = acc ++ (List.replicate (k + 1) its).flatten := by
      rw [List.replicate_succ, List.flatten_cons, List.append_assoc]
    rw [← e2, ← foldl_rep its k (acc ++ its), ← e, List.replicate_succ, List.foldl_cons]
section
variable {X : Cx} {pins : List (Addr × Obj)} {σ : St} {H : Hp} {s : Shared} {l b : Addr} {xs ys zs : List V}
theorem Inv.lset {its its' : List Value} {n : Nat} {f : Array Value → Array Value} {t' : Nat} (I : Inv X pins σ H s) (hH : H l = some (.lst xs))
    (e : s.heap.get? l = some { cls := .type "list", data := .seq its.toArray n }) (hf : f its.toArray = its'.toArray) (hv : Vals ys its') (hz : ys.length ≤ sizeLine) :
    Inv X pins σ (upd H l (.lst ys)) { s with heap := s.heap.update l (Obj.mapSeq f), toks := t' } := by
  have q := PySem.IsL.update e f
  rw [hf] at q
  refine I.write (x := l) (e := l) (by rw [hH]; exact trivial) (.inl rfl) (fun b' u hb hu => (Heap.get?_update_other s.heap (Obj.mapSeq f) (Ne.symm hb)).trans hu) ⟨_, q⟩ ?_
  exact ⟨hz, its', _, hv, q⟩
theorem Inv.lnew {its : List Value} {t' : Nat} (I : Inv X pins σ H s) (hv : Vals ys its) (hz : ys.length ≤ sizeLine) :
    Inv X pins σ (upd H s.heap.objs.size (.lst ys)) { s with heap := s.heap.push { cls := .type "list", data := .seq its.toArray }, toks := t' } :=
  I.laid (fun _ _ q => Heap.get?_push_of_some _ q) (Nat.le_refl _) ⟨hz, its, 0, hv, Heap.get?_push_size _ rfl⟩
theorem Inv.fresh (I : Inv X pins σ H s) : H s.heap.objs.size = none := I.hok.fresh (Nat.le_refl _)
theorem Inv.lstM (I : Inv X pins σ H s) (hH : H l = some (.lst xs)) : xs.length ≤ sizeLine ∧ ∃ (its : List Value) (n : Nat), Vals xs its ∧ xs.length = its.length ∧ s.heap.get? l = some { cls := .type "list", data := .seq its.toArray n } := by
  obtain ⟨z, its, n, r, e⟩ := I.hok l _ hH
  exact ⟨z, its, n, r, r.length, e⟩
theorem notLongL {n : Nat} (h : n ≤ sizeLine) : Builtin.List.listTooLong n = false := by
  unfold Builtin.List.listTooLong
  exact decide_eq_false (by omega)
end
section
variable {X : Cx}
def rAppend : V → List V → Hp → VK → Prop := fun x vs H Q => ∃ l xs y, x = .ref l ∧ vs = [y] ∧ H l = some (.lst xs) ∧ xs.length < sizeLine ∧ Q .non (upd H l (.lst (xs ++ [y])))
theorem mt_append : MtM X "list.append" rAppend := by
  intro pins s σ H x vs v us Q I rx rv h
  obtain ⟨l, xs, y, rfl, rfl, hH, hz, q⟩ := h
  cases rx
  obtain ⟨u, rfl, ru⟩ := rv.one
  obtain ⟨z, its, n, r, hl, e⟩ := I.lstM hH
  refine call_meets F.slot_list_append ⟨_, e, rfl⟩ F.entry_list_append (F.args_list_append_2 _ _) (PySem.list_append l its.toArray n u (by rw [List.size_toArray]; omega)) ⟨e, ?_⟩
  refine ⟨.non, _, I.lset (its' := its ++ [u]) hH e (by simp) (r.append (.cons ru .nil)) ?_, rfl, q⟩
  rw [List.length_append, List.length_singleton]
  omega
def rExtend : V → List V → Hp → VK → Prop := fun x vs H Q => ∃ l b xs zs, x = .ref l ∧ vs = [.ref b] ∧ H l = some (.lst xs) ∧ H b = some (.lst zs) ∧ xs.length + zs.length ≤ sizeLine ∧ Q .non (upd H l (.lst (xs ++ zs)))
theorem mt_extend : MtM X "list.extend" rExtend := by
  intro pins s σ H x vs v us Q I rx rv h
  obtain ⟨l, b, xs, zs, rfl, rfl, hH, hB, hz, q⟩ := h
  cases rx
  obtain ⟨u, rfl, ru⟩ := rv.one
  cases ru
  obtain ⟨z, its, n, r, hl, e⟩ := I.lstM hH
  obtain ⟨z2, its2, n2, r2, hl2, e2⟩ := I.lstM hB
  have hsz : its.toArray.size + its2.toArray.size ≤ sizeLine := by rw [List.size_toArray, List.size_toArray]; omega
  have hlong : ¬ (!its.toArray.isEmpty && Builtin.List.listTooLong (its.toArray.size + its2.toArray.size)) = true := by
    rw [notLongL hsz, Bool.and_false]
    exact Bool.false_ne_true
  refine call_meets F.slot_list_extend ⟨_, e, rfl⟩ F.entry_list_extend (F.args_list_extend_2 _ _)
    (AutoSeq1.list_extend_list_list_0 l its.toArray n b its2.toArray n2 hlong (by rw [List.size_toArray]; omega) (by omega)) ⟨e, e2, ?_⟩
  refine ⟨.non, _, I.lset (its' := its ++ its2) hH e (by simp) (r.append r2) ?_, rfl, q⟩
  rw [List.length_append]
  omega
def rCat : R2 := fun x y H Q => ∃ l b xs zs, x = .ref l ∧ y = .ref b ∧ H l = some (.lst xs) ∧ H b = some (.lst zs) ∧ xs.length + zs.length ≤ sizeLine ∧ ∀ p, H p = none → Q (.ref p) (upd H p (.lst (xs ++ zs)))
theorem op_cat : OpR X (binaryOp .Add) rCat := by
  intro pins s σ H x y v u Q I rx ry h
  obtain ⟨l, b, xs, zs, rfl, rfl, hH, hB, hz, q⟩ := h
  cases rx
  cases ry
  obtain ⟨z, its, n, r, hl, e⟩ := I.lstM hH
  obtain ⟨z2, its2, n2, r2, hl2, e2⟩ := I.lstM hB
  refine PySem.P.add_list e e2 ?_ (by rw [List.size_toArray, List.size_toArray]; omega)
  have ea : its.toArray ++ its2.toArray = (its ++ its2).toArray := by simp
  rw [ea]
  exact ⟨.ref _, _, I.lnew (t' := s.toks) (r.append r2) (by rw [List.length_append]; omega), rfl, q _ I.fresh⟩
def rRep : R2 := fun x y H Q => ∃ l k xs, x = .ref l ∧ y = .int k ∧ H l = some (.lst xs) ∧ -(2 ^ 63) ≤ k ∧ k < 2 ^ 63 ∧ xs.length * k.toNat ≤ sizeLine ∧
  ∀ p, H p = none → Q (.ref p) (upd H p (.lst (List.replicate k.toNat xs).flatten))
theorem len_rep {α : Type} (xs : List α) (k : Nat) : (List.replicate k xs).flatten.length = k * xs.length := by
  induction k with
  | zero => simp
  | succ k ih => rw [List.replicate_succ, List.flatten_cons, List.length_append, ih, Nat.succ_mul, Nat.add_comm]
theorem op_rep : OpR X (binaryOp .Mult) rRep := by
  intro pins s σ H x y v u Q I rx ry h
  obtain ⟨l, k, xs, rfl, rfl, hH, h1, h2, hz, q⟩ := h
  cases rx
  obtain ⟨t, rfl⟩ := ry
  obtain ⟨z, its, n, r, hl, e⟩ := I.lstM hH
  have hlen : its.toArray.size * k.toNat ≤ sizeLine := by rw [List.size_toArray, ← hl]; exact hz
  have hcap : ¬ its.toArray.size * k.toNat > (2 ^ 63 - 1) / 8 := by
    have : (sizeLine : Nat) ≤ (2 ^ 63 - 1) / 8 := by decide
    omega
  have hfit : ¬ (!Builtin.List.listFitsIndex k) = true := by
    rw [fitsIndex_both h1 h2]
    exact Bool.false_ne_true
  have hlong : ¬ Builtin.List.listTooLong (its.toArray.size * k.toNat) = true := by
    rw [notLongL hlen]
    exact Bool.false_ne_true
  have hnew : List.foldl (fun x1 x2 => x1 ++ x2) #[] (List.replicate (if its.toArray.isEmpty = true then 0 else k.toNat) its.toArray) = (List.replicate k.toNat its).flatten.toArray := by
    have f0 : ∀ m : Nat, List.foldl (fun x1 x2 => x1 ++ x2) #[] (List.replicate m its.toArray) = (List.replicate m its).flatten.toArray := fun m => by
      have := foldl_rep its m []
      rw [List.nil_append] at this
      exact this
    rw [f0]
    cases its with
    | nil => simp
    | cons a r' => rw [if_neg (by simp)]
  refine wpAny_binaryOp_repeat_ref (T := "list") (U := "int") (by decide) ⟨_, e, rfl⟩ (fun s' => typeIs_int s' k t) noFill_list_mul F.fills_int_mul F.slot_int_rmul repeat_list F.slot_int_index.lookup
    (call_meets F.slot_int_rmul (typeIs_int s k t) F.entry_int_rmul (F.args_int_rmul_2 _ _) (int___rmul___int_list k t l its.toArray n)
      ⟨e, rfl, ⟨_, e, rfl⟩, call_meets F.slot_list_mul ⟨_, e, rfl⟩ F.entry_list_mul (F.args_list_mul_2 _ _) (AutoListH.list___mul___list_int_3 l its.toArray n k t hfit hcap hlong) ⟨e, ?_⟩⟩)
  rw [hnew]
  exact ⟨.ref _, _, I.lnew (t' := s.toks) (r.rep k.toNat) (by rw [len_rep, Nat.mul_comm]; exact hz), rfl, q _ I.fresh⟩
end
section
variable {prog : Program} {w : World} {A : Around} {E : Value → Shared → Prop} {s : Shared}
end
section
variable {X : Cx}
end
end L2
namespace L2
open PySem PySem.Spec PyProof.Rows
section
variable {κ : Type} [DecidableEq κ]
def valV (kvs : List (κ × V)) (k : κ) : Option V := (kvs.find? fun kv => decide (kv.1 = k)).map (·.2)
def putK (kvs : List (κ × V)) (k : κ) (v : V) : List (κ × V) :=
  if (kvs.any fun kv => decide (kv.1 = k)) = true then kvs.map (fun kv => if kv.1 = k then (kv.1, v) else kv) else kvs ++ [(k, v)]
def dropK (kvs : List (κ × V)) (k : κ) : List (κ × V) := kvs.filter fun kv => decide (kv.1 ≠ k)
theorem valV_pos {p : κ × V} {r : List (κ × V)} {k : κ} (e : p.1 = k) : valV (p :: r) k = some p.2 := by simp [valV, List.find?_cons, e]
theorem valV_neg {p : κ × V} {r : List (κ × V)} {k : κ} (e : ¬ p.1 = k) : valV (p :: r) k = valV r k := by simp [valV, List.find?_cons, e]
theorem valV_any (k : κ) : ∀ kvs : List (κ × V), (kvs.any fun kv => decide (kv.1 = k)) = (valV kvs k).isSome
  | [] => rfl
  | p :: r => by
    rw [List.any_cons]
    by_cases e : p.1 = k
    · simp only [valV_pos e, decide_eq_true e, Bool.true_or, Option.isSome_some]
    · rw [valV_neg e, decide_eq_false e, Bool.false_or]; exact valV_any k r
theorem valV_map (k j : κ) (y : V) : ∀ kvs : List (κ × V), valV (kvs.map fun kv => if kv.1 = k then (kv.1, y) else kv) j = (valV kvs j).map fun x => if j = k then y else x
  | [] => rfl
  | p :: r => by
    have ih := valV_map k j y r
    rw [List.map_cons]
    by_cases h : p.1 = k
    · rw [if_pos h]
      by_cases e : p.1 = j
      · rw [valV_pos (p := (p.1, y)) e, valV_pos e, Option.map_some, if_pos (e.symm.trans h)]
      · rw [valV_neg (p := (p.1, y)) e, valV_neg e, ih]
    · rw [if_neg h]
      by_cases e : p.1 = j
      · rw [valV_pos (p := p) e, valV_pos e, Option.map_some, if_neg (fun z => h (e.trans z))]
      · rw [valV_neg (p := p) e, valV_neg e, ih]
theorem valV_snoc (k j : κ) (y : V) : ∀ kvs : List (κ × V), valV kvs k = none → valV (kvs ++ [(k, y)]) j = if j = k then some y else valV kvs j
  | [], _ => by
    by_cases e : k = j
    · rw [if_pos e.symm]; exact valV_pos (p := (k, y)) e
    · rw [if_neg (fun z => e z.symm)]; exact valV_neg (p := (k, y)) e
  | p :: r, hn => by
    rw [List.cons_append]
    have hk : ¬ p.1 = k := fun z => by rw [valV_pos z] at hn; cases hn
    rw [valV_neg hk] at hn
    have ih := valV_snoc k j y r hn
    by_cases e : p.1 = j
    · rw [valV_pos e, valV_pos e, if_neg (fun z => hk (e.trans z))]
    · rw [valV_neg e, valV_neg e, ih]
theorem valV_put (kvs : List (κ × V)) (k j : κ) (y : V) : valV (putK kvs k y) j = if j = k then some y else valV kvs j := by
  unfold putK
  by_cases a : (kvs.any fun kv => decide (kv.1 = k)) = true
  · rw [if_pos a, valV_map]
    rw [valV_any] at a
    by_cases e : j = k
    · obtain ⟨x, hx⟩ := Option.isSome_iff_exists.mp a
      rw [if_pos e, e, hx, Option.map_some, if_pos rfl]
    · rw [if_neg e]
      cases valV kvs j with
      | none => rfl
      | some x => rw [Option.map_some, if_neg e]
  · rw [if_neg a]
    refine valV_snoc k j y kvs ?_
    rw [valV_any] at a
    cases q : valV kvs k with
    | none => rfl
    | some x => rw [q] at a; exact (a rfl).elim
theorem length_putK (kvs : List (κ × V)) (k : κ) (v : V) : (putK kvs k v).length ≤ kvs.length + 1 := by
  unfold putK
  split
  · rw [List.length_map]; omega
  · rw [List.length_append, List.length_cons, List.length_nil]; omega
theorem putK_new {kvs : List (κ × V)} {k : κ} (v : V) (h : valV kvs k = none) : putK kvs k v = kvs ++ [(k, v)] := by
  unfold putK
  rw [valV_any, h]
  exact if_neg (by decide)
theorem RelO.isSome_eq {o : Option V} {u : Option Value} (r : RelO o u) : o.isSome = u.isSome := by
  cases o with
  | none => cases u with
    | none => rfl
    | some _ => exact (show False from r).elim
  | some _ => cases u with
    | none => exact (show False from r).elim
    | some _ => rfl
theorem RelO.getD {o : Option V} {u : Option Value} {d : V} {d' : Value} (r : RelO o u) (rd : RelV d d') : RelV (o.getD d) (u.getD d') := by
  cases o with
  | none => cases u with
    | none => exact rd
    | some _ => exact (show False from r).elim
  | some _ => cases u with
    | none => exact (show False from r).elim
    | some _ => exact r
theorem KV.val {kvs : List (κ × V)} {vs : List (κ × Value)} (r : KV kvs vs) (k : κ) : RelO (valV kvs k) (valueAt vs k) := by
  unfold KV at r
  induction r with
  | nil => exact True.intro
  | @cons p q ps qs h t ih =>
    obtain ⟨h1, h2⟩ := h
    by_cases e : p.1 = k
    · have e' : q.1 = k := h1.symm.trans e
      have b : valueAt (q :: qs) k = some q.2 := by simp [valueAt, List.find?_cons, e']
      rw [valV_pos e, b]; exact h2
    · have e' : ¬ q.1 = k := fun z => e (h1.trans z)
      have b : valueAt (q :: qs) k = valueAt qs k := by simp [valueAt, List.find?_cons, e']
      rw [valV_neg e, b]; exact ih
theorem KV.any {kvs : List (κ × V)} {vs : List (κ × Value)} (r : KV kvs vs) (k : κ) : (kvs.any fun kv => decide (kv.1 = k)) = vs.any fun kv => decide (kv.1 = k) := by
  unfold KV at r
  induction r with
  | nil => rfl
  | cons h t ih => rw [List.any_cons, List.any_cons, ih, h.1]
theorem KV.repl {kvs : List (κ × V)} {vs : List (κ × Value)} (r : KV kvs vs) (k : κ) {y : V} {u : Value} (ry : RelV y u) :
    KV (kvs.map fun kv => if kv.1 = k then (kv.1, y) else kv) (vs.map fun kv => if kv.1 = k then (kv.1, u) else kv) := by
  unfold KV at r ⊢
  induction r with
  | nil => exact .nil
  | @cons p q ps qs h t ih =>
    rw [List.map_cons, List.map_cons]
    refine .cons ?_ ih
    obtain ⟨h1, h2⟩ := h
    by_cases e : p.1 = k
    · rw [if_pos e, if_pos (h1.symm.trans e)]; exact ⟨h1, ry⟩
    · rw [if_neg e, if_neg (fun z => e (h1.trans z))]; exact ⟨h1, h2⟩
theorem KV.put {kvs : List (κ × V)} {vs : List (κ × Value)} (r : KV kvs vs) (k : κ) {y : V} {u : Value} (ry : RelV y u) : KV (putK kvs k y) (stored vs k u) := by
  unfold putK stored
  rw [r.any k]
  by_cases e : (vs.any fun kv => decide (kv.1 = k)) = true
  · rw [if_pos e, if_pos e]; exact r.repl k ry
  · rw [if_neg e, if_neg e]; exact Paired.snoc r ⟨rfl, ry⟩
theorem KV.drop {kvs : List (κ × V)} {vs : List (κ × Value)} (r : KV kvs vs) (k : κ) : KV (dropK kvs k) (without vs k) := by
  unfold KV at r ⊢
  unfold dropK without
  induction r with
  | nil => exact .nil
  | @cons p q ps qs h t ih =>
    obtain ⟨h1, h2⟩ := h
    rw [List.filter_cons, List.filter_cons]
    by_cases e : p.1 = k
    · have a : ¬ decide (p.1 ≠ k) = true := by simp [e]
      have b : ¬ decide (q.1 ≠ k) = true := by simp [h1.symm.trans e]
      rw [if_neg a, if_neg b]; exact ih
    · have e' : ¬ q.1 = k := fun z => e (h1.trans z)
      have a : decide (p.1 ≠ k) = true := by simp [e]
      have b : decide (q.1 ≠ k) = true := by simp [e']
      rw [if_pos a, if_pos b]; exact .cons ⟨h1, h2⟩ ih
theorem KV.keys {kvs : List (κ × V)} {vs : List (κ × Value)} (r : KV kvs vs) : kvs.map (·.1) = vs.map (·.1) := by
  unfold KV at r
  induction r with
  | nil => rfl
  | cons h t ih => rw [List.map_cons, List.map_cons, ih, h.1]
theorem KV.length {kvs : List (κ × V)} {vs : List (κ × Value)} (r : KV kvs vs) : kvs.length = vs.length := Paired.length r
end
theorem kV_is {P : Program} {w : World} {k : Key} {u : Value} (r : RelV (kV k) u) : (mixKind P w).is k u = true := by
  cases k with
  | inl i => obtain ⟨t, e⟩ := (show ∃ t, u = Value.int i t from r); subst e; exact mixKind_int P w i t
  | inr x => obtain ⟨t, e⟩ := (show ∃ t, u = Value.str x t from r); subst e; exact mixKind_str P w x t
theorem items_are {P : Program} {w : World} : ∀ {ks : List Key} {us : List Value}, Vals (ks.map kV) us → ItemsAre (mixKind P w) ks us
  | [], _, r => by rw [List.map_nil] at r; cases r; exact .nil
  | k :: ks, _, r => by
    rw [List.map_cons] at r
    cases r with
    | cons h t => exact .cons (kV_is h) (items_are t)
abbrev KT (H : Hp) : List (List Key × V) → List (List Key × Addr × Value) → Prop := Paired fun p q => p.1 = q.1 ∧ H q.2.1 = some (.tup (p.1.map kV)) ∧ RelV p.2 q.2.2
theorem KT.val {H : Hp} {kvs : List (List Key × V)} {xs : List (List Key × Addr × Value)} (r : KT H kvs xs) (k : List Key) : RelO (valV kvs k) ((atKey xs k).map (·.2)) := by
  induction r with
  | nil => exact True.intro
  | @cons p q ps qs h t ih =>
    obtain ⟨h1, _, h2⟩ := h
    by_cases e : p.1 = k
    · have e' : q.1 = k := h1.symm.trans e
      have b : atKey (q :: qs) k = some q.2 := by simp [atKey, List.find?_cons, e']
      rw [valV_pos e, b]; exact h2
    · have e' : ¬ q.1 = k := fun z => e (h1.trans z)
      have b : atKey (q :: qs) k = atKey qs k := by simp [atKey, List.find?_cons, e']
      rw [valV_neg e, b]; exact ih
theorem KT.repl {H : Hp} {kvs : List (List Key × V)} {xs : List (List Key × Addr × Value)} (r : KT H kvs xs) (k : List Key) {y : V} {u : Value} (ry : RelV y u) :
    KT H (kvs.map fun kv => if kv.1 = k then (kv.1, y) else kv) (xs.map (putAt k u)) := by
  induction r with
  | nil => exact .nil
  | @cons p q ps qs h t ih =>
    rw [List.map_cons, List.map_cons]
    refine .cons ?_ ih
    obtain ⟨h1, h2, h3⟩ := h
    unfold putAt
    by_cases e : p.1 = k
    · rw [if_pos e, if_pos (h1.symm.trans e)]; exact ⟨h1, h2, ry⟩
    · rw [if_neg e, if_neg (fun z => e (h1.trans z))]; exact ⟨h1, h2, h3⟩
theorem KT.put {H : Hp} {kvs : List (List Key × V)} {xs : List (List Key × Addr × Value)} (r : KT H kvs xs) (k : List Key) {b : Addr} {y : V} {u : Value} (hb : H b = some (.tup (k.map kV))) (ry : RelV y u) :
    KT H (putK kvs k y) (storedH xs k b u) := by
  have e : (kvs.any fun kv => decide (kv.1 = k)) = (atKey xs k).isSome := by
    rw [valV_any, (r.val k).isSome_eq, Option.isSome_map]
  unfold putK storedH
  rw [e]
  by_cases q : (atKey xs k).isSome = true
  · rw [if_pos q, if_pos q]; exact r.repl k ry
  · rw [if_neg q, if_neg q]; exact Paired.snoc r ⟨rfl, hb, ry⟩
theorem KT.keeps {H H' : Hp} {kvs : List (List Key × V)} {xs : List (List Key × Addr × Value)} (r : KT H kvs xs) (ht : ∀ b ys, H b = some (.tup ys) → H' b = some (.tup ys)) : KT H' kvs xs :=
  Paired.mapP r fun _ _ z => ⟨z.1, ht _ _ z.2.1, z.2.2⟩
section
variable {P : Program} {w : World} {H : Hp} {h : Heap} {a : Addr}
theorem rd_of {u : HO} (ok : HOk P w H h) (e : Rd H a u) : ObjOk P w H h a u := e.ok ok
theorem dk_rd {kvs : List (Key × V)} (ok : HOk P w H h) (e : Rd H a (.dK kvs)) : kvs.length ≤ sizeLine ∧ (a == sysModules) = false ∧ ∃ vs, KV kvs vs ∧ h.DictOf (mixKind P w) a vs :=
  show ObjOk P w H h a (.dK kvs) from rd_of ok e
theorem dk_of {kvs : List (Key × V)} (ok : HOk P w H h) (e : H a = some (.dK kvs)) : kvs.length ≤ sizeLine ∧ (a == sysModules) = false ∧ ∃ vs, KV kvs vs ∧ h.DictOf (mixKind P w) a vs := dk_rd ok (.inl e)
theorem key_of {ks : List Key} (ok : HOk P w H h) (e : H a = some (.tup (ks.map kV))) : (tupleKind (mixKind P w)).is h ks a := by
  obtain ⟨_, its, r, o, h1, h2, n, h3⟩ := (show ObjOk P w H h a (.tup (ks.map kV)) from ok a _ e)
  exact ⟨o, its.toArray, n, h1, h2, h3, by simpa using items_are r⟩
theorem dt_rd {kvs : List (List Key × V)} (ok : HOk P w H h) (e : Rd H a (.dT kvs)) : kvs.length ≤ sizeLine ∧ (a == sysModules) = false ∧
    ∃ xs, KT H kvs xs ∧ h.DictOfH (tupleKind (mixKind P w)) a xs := by
  obtain ⟨z, y, xs, r, o, es, ep, h1, h2, h3, h4, h5⟩ := (show ObjOk P w H h a (.dT kvs) from rd_of ok e)
  refine ⟨z, y, xs, r, o, es, ep, h1, h2, h3, h4, fun x hx => ?_, h5⟩
  have all : ∀ {l : List (List Key × V)} {m : List (List Key × Addr × Value)}, KT H l m → ∀ x ∈ m, (tupleKind (mixKind P w)).is h x.1 x.2.1 := by
    intro l m q
    induction q with
    | nil => intro x hx; exact nomatch hx
    | @cons p q ps qs hq t ih =>
      intro x hx
      rcases List.mem_cons.mp hx with e | hx
      · subst e
        exact key_of ok (by rw [← hq.1]; exact hq.2.1)
      · exact ih x hx
  exact all r x hx
theorem dt_of {kvs : List (List Key × V)} (ok : HOk P w H h) (e : H a = some (.dT kvs)) : kvs.length ≤ sizeLine ∧ (a == sysModules) = false ∧
    ∃ xs, KT H kvs xs ∧ h.DictOfH (tupleKind (mixKind P w)) a xs := dt_rd ok (.inl e)
end
def DGet (H : Hp) (a : Addr) (y : V) (r : Option V) : Prop :=
  (∃ kvs k, Rd H a (.dK kvs) ∧ y = kV k ∧ r = valV kvs k) ∨ ∃ kvs k b, Rd H a (.dT kvs) ∧ y = .ref b ∧ H b = some (.tup (k.map kV)) ∧ r = valV kvs k
def DPut (H : Hp) (a : Addr) (y v : V) (H' : Hp) : Prop :=
  (∃ kvs k, H a = some (.dK kvs) ∧ y = kV k ∧ kvs.length < sizeLine ∧ H' = upd H a (.dK (putK kvs k v))) ∨
  ∃ kvs k b, H a = some (.dT kvs) ∧ y = .ref b ∧ H b = some (.tup (k.map kV)) ∧ kvs.length < sizeLine ∧ H' = upd H a (.dT (putK kvs k v))
theorem DGet.k {H : Hp} {a : Addr} {kvs : List (Key × V)} {k : Key} (e : H a = some (.dK kvs)) : DGet H a (kV k) (valV kvs k) := .inl ⟨kvs, k, .inl e, rfl, rfl⟩
theorem DGet.t {H : Hp} {a b : Addr} {kvs : List (List Key × V)} {k : List Key} (e : H a = some (.dT kvs)) (eb : H b = some (.tup (k.map kV))) : DGet H a (.ref b) (valV kvs k) := .inr ⟨kvs, k, b, .inl e, rfl, eb, rfl⟩
theorem DPut.k {H : Hp} {a : Addr} {kvs : List (Key × V)} {k : Key} {v : V} (e : H a = some (.dK kvs)) (hl : kvs.length < sizeLine) : DPut H a (kV k) v (upd H a (.dK (putK kvs k v))) := .inl ⟨kvs, k, e, rfl, hl, rfl⟩
theorem DPut.t {H : Hp} {a b : Addr} {kvs : List (List Key × V)} {k : List Key} {v : V} (e : H a = some (.dT kvs)) (eb : H b = some (.tup (k.map kV))) (hl : kvs.length < sizeLine) :
    DPut H a (.ref b) v (upd H a (.dT (putK kvs k v))) := .inr ⟨kvs, k, b, e, rfl, eb, hl, rfl⟩
section
variable {X : Cx} {pins : List (Addr × Obj)} {σ : St} {H : Hp} {s : Shared} {a : Addr} {y v : V} {u r : Value} {o : Option V} {A : Around} {E : Value → Shared → Prop}
theorem Inv.big (I : Inv X pins σ H s) : sysModules < s.heap.objs.size := by
  have h : mainGlobals < s.heap.objs.size := (I.mod.glob.keeps I.bk).lt
  exact Nat.lt_trans (by decide) h
theorem d_getItem {Q : Value → Shared → Prop} (hu : A.units + 1 < cLine) (I : Inv X pins σ H s) (g : DGet H a y (some v)) (ry : RelV y u) (h : ∀ w' s', Inv X pins σ H s' → RelV v w' → Q w' s') :
    wpAny (model X.prog X.w) A (getItem (.ref a) u) Q E s := by
  rcases g with ⟨kvs, k, e, ey, l⟩ | ⟨kvs, k, b, e, ey, eb, l⟩
  · subst ey
    obtain ⟨z, hd, vs, rel, dd⟩ := dk_rd I.hok e
    obtain ⟨w', hw, rw'⟩ := RelO.some_of (v := v) (o := valueAt vs k) (by rw [l]; exact rel.val k)
    exact wpAny_getItem_of (kV_is ry) dd.mapOf hw (h w' _ (I.tok _) rw')
  · subst ey
    cases (show u = Value.ref b from ry)
    obtain ⟨z, hd, xs, rel, dd⟩ := dt_rd I.hok e
    obtain ⟨w', hw, rw'⟩ := RelO.some_of (v := v) (o := (atKey xs k).map (·.2)) (by rw [l]; exact rel.val k)
    obtain ⟨p, hp, hp2⟩ := Option.map_eq_some_iff.mp hw
    refine wpAny_getItem_heap (tupleKind_room_in1 hu) (key_of I.hok eb) dd hp ?_
    rw [hp2]
    exact h w' _ (I.tok _) rw'
theorem d_notIn {Q : Value → Shared → Prop} (hu : A.units + 1 < cLine) (I : Inv X pins σ H s) (g : DGet H a y o) (ry : RelV y u) (h : ∀ s', Inv X pins σ H s' → Q (.bool (!o.isSome)) s') :
    wpAny (model X.prog X.w) A (compareOp .NotIn u (.ref a)) Q E s := by
  rcases g with ⟨kvs, k, e, ey, l⟩ | ⟨kvs, k, b, e, ey, eb, l⟩
  · subst ey
    obtain ⟨z, hd, vs, rel, dd⟩ := dk_rd I.hok e
    refine wpAny_notIn_of (kV_is ry) hd dd.mapOf ?_
    rw [← (rel.val k).isSome_eq, ← l]
    exact h _ (I.tok _)
  · subst ey
    cases (show u = Value.ref b from ry)
    obtain ⟨z, hd, xs, rel, dd⟩ := dt_rd I.hok e
    refine wpAny_notIn_heap (tupleKind_room_in1 hu) (key_of I.hok eb) hd dd ?_
    have q := (rel.val k).isSome_eq
    rw [Option.isSome_map] at q
    rw [← q, ← l]
    exact h _ (I.tok _)
theorem d_write {h' : Heap} {t' : Nat} {ob : HO} (I : Inv X pins σ H s) (mu : Mut (H a)) (hs : Heap.SameBut a s.heap h') (he : ∃ q, h'.get? a = some q) (new : ObjOk X.prog X.w (upd H a ob) h' a ob) :
    Inv X pins σ (upd H a ob) { s with heap := h', toks := t' } :=
  I.write (x := a) (e := a) mu (.inl rfl) (fun b q hb z => (hs.2 b hb).trans z) he new
theorem dk_new {P : Program} {w : World} {H' : Hp} {h' : Heap} {kvs : List (Key × V)} {vs : List (Key × Value)} (z : kvs.length ≤ sizeLine) (hd : (a == sysModules) = false) (rel : KV kvs vs) (dd : h'.DictOf (mixKind P w) a vs) :
    ObjOk P w H' h' a (.dK kvs) := ⟨z, hd, vs, rel, dd⟩
theorem d_setItem {H' : Hp} {Q : Unit → Shared → Prop} (hu : A.units + 1 < cLine) (I : Inv X pins σ H s) (g : DPut H a y v H') (ry : RelV y u) (rv : RelV v r) (h : ∀ s', Inv X pins σ H' s' → Q () s') :
    wpAny (model X.prog X.w) A (setItem (.ref a) u r) Q E s := by
  rcases g with ⟨kvs, k, e, ey, l, eH⟩ | ⟨kvs, k, b, e, ey, eb, l, eH⟩
  · subst ey eH
    obtain ⟨z, hd, vs, rel, dd⟩ := dk_of I.hok e
    have hz : vs.length ≤ sizeLine := by rw [← rel.length]; exact z
    have hl : (putK kvs k v).length ≤ sizeLine := by have := length_putK kvs k v; omega
    refine wpAny_setItem_pairs (hsz := hz) (kV_is ry) dd fun h' dd' hs => h _ ?_
    have he : ∃ q, h'.get? a = some q := let ⟨q, _, _, hq, _⟩ := dd'; ⟨q, hq⟩
    exact d_write I (by rw [e]; exact True.intro) hs he (dk_new hl hd (rel.put k rv) dd')
  · subst ey eH
    cases (show u = Value.ref b from ry)
    obtain ⟨z, hd, xs, rel, dd⟩ := dt_of I.hok e
    have hz : xs.length ≤ sizeLine := by rw [← Paired.length rel]; exact z
    have hl : (putK kvs k v).length ≤ sizeLine := by have := length_putK kvs k v; omega
    refine wpAny_setItem_heap (hsz := hz) (tupleKind_room_in1 hu) (key_of I.hok eb) dd fun h' dd' hs => h _ ?_
    obtain ⟨q, es, ep, hq, h2, h3, h4, _, h5⟩ := dd'
    refine d_write I (by rw [e]; exact True.intro) hs ⟨q, hq⟩ ⟨hl, hd, _, (rel.put k eb rv).keeps fun c ys ec => ?_, q, es, ep, hq, h2, h3, h4, h5⟩
    rw [upd_ne (ne_of ec e (fun z => nomatch z))]
    exact ec
end
section
variable {X : Cx} {pins : List (Addr × Obj)} {σ : St} {H : Hp} {s : Shared} {a : Addr} {kvs : List (Key × V)} {k : Key} {u : Value} {A : Around} {E : Value → Shared → Prop}
theorem d_len {Q : Value → Shared → Prop} (I : Inv X pins σ H s) (e : Rd H a (.dK kvs)) (h : ∀ t s', Inv X pins σ H s' → Q (.int kvs.length t) s') : wpAny (model X.prog X.w) A (call (.builtin "len") [.ref a]) Q E s := by
  obtain ⟨z, hd, vs, rel, dd⟩ := dk_rd I.hok e
  refine call_len_dict hd dd (by rw [← rel.length]; rw [sizeLine_eq] at z; omega) ?_
  rw [← rel.length]
  exact h _ _ (I.tok _)
end
def NoSl (i : Expr) : Prop := ∀ ov iv, subscripted i false ov iv = operate [ov, iv] (getItem ov iv)
theorem subD_of {prog : Program} {w : World} {A : Around} {E : Value → Shared → Prop} {s : Shared} {env : Env} {value slice : Expr} {pos : Pos} {T id : String} {Q : Value → Shared → Prop}
    (hl : typeLookup (.type T) "__getitem__" = pure (some (.builtin id))) (hs : NoSl slice)
    (h : wpAny (model prog w) A (eval value env) (fun o s₁ => wpAny (model prog w) A (eval slice env) (fun i s₂ => s₂.TypeIs o T ∧ wpAny (model prog w) A (getItem o i) Q E s₂) E s₁) E s) :
    wpAny (model prog w) A (eval (.Subscript value slice pos) env) Q E s := by
  refine Subscript_ (wpAny_mono h (fun o s₁ h₁ => wpAny_mono h₁ (fun i s₂ h₂ => ?_) fun _ _ x => x) fun _ _ x => x)
  obtain ⟨hT, h₂⟩ := h₂
  unfold subscriptTail
  refine wpAny_bind ?_
  rw [getitemInPython_of_ne hT.not_modules]
  refine wpAny_bind (wpAny_specialOf hT hl ?_)
  have fin : wpAny (model prog w) A (subscripted slice false o i) (fun r s₃ => wpAny (model prog w) A (letTemporaryGo value o r >>= fun _ => pure r) Q E s₃) E s₂ := by
    rw [hs o i]
    exact wpAny_operating (wpAny_mono h₂ (fun r s₃ h₃ => wpAny_bind (wpAny_letTemporaryGo (wpAny_pure h₃))) fun _ _ x => x)
  first
    | exact wpAny_pure (wpAny_bind fin)
    | exact wpAny_bind (wpAny_pure (wpAny_bind fin))
    | exact wpAny_bind fin
theorem dict_typeIs {X : Cx} {pins : List (Addr × Obj)} {σ : St} {H : Hp} {s : Shared} {a : Addr} {y : V} {o : Option V} (I : Inv X pins σ H s) (g : DGet H a y o) : s.TypeIs (.ref a) "dict" := by
  rcases g with ⟨kvs, k, e, _, _⟩ | ⟨kvs, k, b, e, _, _, _⟩
  · obtain ⟨_, _, vs, _, dd⟩ := dk_rd I.hok e
    exact dd.typeIs
  · obtain ⟨_, _, xs, _, dd⟩ := dt_rd I.hok e
    exact dd.typeIs
def tDGet (td ty : TE) : TE := fun σ H Q => td σ H fun x H1 => ty σ H1 fun y H2 => ∃ a v, x = .ref a ∧ DGet H2 a y (some v) ∧ Q v H2
def tDNotIn (ty td : TE) : TE := fun σ H Q => ty σ H fun y H1 => td σ H1 fun x H2 => ∃ a o, x = .ref a ∧ DGet H2 a y o ∧ Q (.bl (!o.isSome)) H2
def sDPut (td ty tv : TE) : TS := fun D σ H => tv σ H fun v H1 => td σ H1 fun x H2 => ty σ H2 fun y H3 => ∃ a H4, x = .ref a ∧ DPut H3 a y v H4 ∧ D.nx σ H4
section
variable {X : Cx} {o i e value : Expr} {pos pos' tpos : Pos} {td ty tv : TE}
theorem pe_dget (hu : X.A.units + 1 < cLine) (ho : PE X o td) (hi : PE X i ty) (hs : NoSl i) : PE X (.Subscript o i pos) (tDGet td ty) := by
  intro pins s σ H Q I h
  refine subD_of PySem.F.slot_dict_getitem.lookup hs (thn (ho pins s σ H _ I h) fun u s1 ⟨x, H1, I1, rx, q1⟩ => thn (hi pins s1 σ H1 _ I1 q1) fun iv s2 ⟨y, H2, I2, ry, a, v, ex, g, q2⟩ => ?_)
  subst ex
  obtain rfl : u = Value.ref a := rx
  exact ⟨dict_typeIs I2 g, d_getItem hu I2 g ry fun w' s3 I3 rw' => ⟨v, H2, I3, rw', q2⟩⟩
theorem pc_dnotin (hu : X.A.units + 1 < cLine) (hi : PE X i ty) (ho : PE X o td) : PC X .NotIn i o (tDNotIn ty td) := by
  intro pins s σ H Q I h
  refine thn (hi pins s σ H _ I h) fun iv s1 ⟨y, H1, I1, ry, q1⟩ => thn (ho pins s1 σ H1 _ I1 q1) fun u s2 ⟨x, H2, I2, rx, a, ov, ex, g, q2⟩ => ?_
  subst ex
  obtain rfl : u = Value.ref a := rx
  exact d_notIn hu I2 g ry fun s3 I3 => ⟨.bl (!ov.isSome), H2, I3, rfl, q2⟩
theorem ps_dput (hu : X.A.units + 1 < cLine) (ho : PE X o td) (hi : PE X i ty) (hv : PE X value tv) (hs : swapsWith value (some (.Subscript o i pos')) pos.line X.env = pure false) :
    PS X (.Assign [.Subscript o i pos'] value pos) (sDPut td ty tv) := by
  intro pins s σ H D I h
  refine wpAny_Assign_Subscript (thn (hv pins s σ H _ I h) fun r s1 ⟨v, H1, I1, rv, q1⟩ => thn (ho pins s1 σ H1 _ I1 q1) fun u s2 ⟨x, H2, I2, rx, q2⟩ => thn (hi pins s2 σ H2 _ I2 q2) fun iv s3 ⟨y, H3, I3, ry, a, H4, ex, g, q3⟩ => ?_) hs
  subst ex
  obtain rfl : u = Value.ref a := rx
  exact d_setItem hu I3 g ry rv fun s4 I4 => ⟨σ, H4, I4, q3⟩
end
theorem dk_empty {P : Program} {w : World} {H : Hp} (h : Heap) (hb : sysModules < h.objs.size) : ObjOk P w H (h.push { cls := .type "dict", data := .dict #[] }) h.objs.size (.dK []) :=
  ⟨Nat.zero_le _, beq_eq_false_iff_ne.mpr (Ne.symm (Nat.ne_of_lt hb)), [], .nil, Heap.DictOf.new h⟩
def tDNewK : TE := fun _ H Q => ∀ p, H p = none → Q (.ref p) (upd H p (.dK []))
section
variable {X : Cx} {pos : Pos}
theorem pe_dnewK : PE X (.Dict [] [] pos) tDNewK := fun pins s σ H Q I h =>
  wpAny_Dict_empty ⟨.ref s.heap.objs.size, _, I.laid (a := s.heap.objs.size) (o := .dK []) (t' := s.toks) (fun _ _ q => Heap.get?_push_of_some _ q) (Nat.le_refl _) (dk_empty s.heap I.big), rfl, h _ (I.hok.fresh (Nat.le_refl _))⟩
end
def tPairs : List (TE × TE) → St → Hp → (List (V × V) → Hp → Prop) → Prop
  | [], _, H, Q => Q [] H
  | (tk, tv) :: r, σ, H, Q => tk σ H fun x H1 => tv σ H1 fun y H2 => tPairs r σ H2 fun ps H3 => Q ((x, y) :: ps) H3
abbrev VV : List (V × V) → List (Value × Value) → Prop := Paired fun p q => RelV p.1 q.1 ∧ RelV p.2 q.2
def PPs (X : Cx) (pos : Pos) (keys : List (Option Expr)) (values : List Expr) (trs : List (TE × TE)) : Prop :=
  ∀ (pins : List (Addr × Obj)) (s : Shared) (σ : St) (H : Hp) (Q : List (V × V) → Hp → Prop), Inv X pins σ H s → tPairs trs σ H Q →
    wpAny (model X.prog X.w) X.A (evalPairs (pairTrees keys values X.env pos)) (fun vs s' => ∃ ps H', Inv X pins σ H' s' ∧ VV ps vs ∧ Q ps H') X.xe s
theorem pps_nil {X : Cx} {pos : Pos} : PPs X pos [] [] [] := fun pins s σ H Q I h => pairTrees_nil_walk ⟨[], H, I, .nil, h⟩
theorem pps_cons {X : Cx} {pos : Pos} {k v : Expr} {ks : List (Option Expr)} {vs : List Expr} {tk tv : TE} {trs : List (TE × TE)} (hk : PE X k tk) (hv : PE X v tv) (hr : PPs X pos ks vs trs) :
    PPs X pos (some k :: ks) (v :: vs) ((tk, tv) :: trs) := fun pins s σ H Q I h =>
  pairTrees_cons_walk (thn (hk pins s σ H _ I h) fun u s1 ⟨x, H1, I1, rx, q1⟩ => thn (hv pins s1 σ H1 _ I1 q1) fun w2 s2 ⟨y, H2, I2, ry, q2⟩ =>
    thn (hr pins s2 σ H2 _ I2 q2) fun ws s3 ⟨ps, H3, I3, rel, q3⟩ => ⟨(x, y) :: ps, H3, I3, .cons ⟨rx, ry⟩ rel, q3⟩)
def mergeK (kvs more : List (Key × V)) : List (Key × V) := more.foldl (fun acc kv => putK acc kv.1 kv.2) kvs
theorem KV.merge : ∀ {more : List (Key × V)} {rs : List (Key × Value)} {kvs : List (Key × V)} {vs : List (Key × Value)}, KV more rs → KV kvs vs → KV (mergeK kvs more) (merged vs rs) := by
  intro more rs kvs vs r
  unfold KV at r
  induction r generalizing kvs vs with
  | nil => intro q; exact q
  | @cons p q ps qs h t ih =>
    intro r0
    have e : KV (putK kvs p.1 p.2) (stored vs q.1 q.2) := by
      have := r0.put p.1 h.2
      rw [← h.1]; exact this
    exact ih e
theorem length_mergeK : ∀ (more kvs : List (Key × V)), (mergeK kvs more).length ≤ kvs.length + more.length
  | [], kvs => by show kvs.length ≤ kvs.length + 0; omega
  | p :: r, kvs => by
    have h1 := length_mergeK r (putK kvs p.1 p.2)
    have h2 := length_putK kvs p.1 p.2
    show (mergeK (putK kvs p.1 p.2) r).length ≤ _
    rw [List.length_cons]; omega
theorem carries_of {P : Program} {w : World} : ∀ {kvs : List (Key × V)} {ws : List (Value × Value)}, VV (kvs.map fun kv => (kV kv.1, kv.2)) ws → ∃ rs, Carries (mixKind P w) ws rs ∧ KV kvs rs
  | [], _, r => by rw [List.map_nil] at r; cases r; exact ⟨[], True.intro, .nil⟩
  | p :: kvs, _, r => by
    rw [List.map_cons] at r
    cases r with
    | @cons a b as bs h t =>
      obtain ⟨rs, c, q⟩ := carries_of (P := P) (w := w) t
      obtain ⟨b1, b2⟩ := b
      exact ⟨(p.1, b2) :: rs, ⟨kV_is h.1, rfl, c⟩, .cons ⟨rfl, h.2⟩ q⟩
def tDisp (trs : List (TE × TE)) : TE := fun σ H Q => ∀ p, H p = none → tPairs trs σ (upd H p (.dK [])) fun ps H2 => H2 p = some (.dK []) ∧ ∃ kvs : List (Key × V), ps = kvs.map (fun kv => (kV kv.1, kv.2)) ∧ kvs.length ≤ 15 ∧ Q (.ref p) (upd H2 p (.dK (mergeK [] kvs)))
theorem pe_disp {X : Cx} {pos : Pos} {keys : List (Option Expr)} {values : List Expr} {trs : List (TE × TE)} (h : PPs X pos keys values trs) (hall : keys.all (·.isSome) = true) (hl : keys.length = values.length) (h0 : keys ≠ [])
    (h15 : keys.length ≤ 15) : PE X (.Dict keys values pos) (tDisp trs) := by
  intro pins s σ H Q I q
  have hn := I.hok.fresh (Nat.le_refl s.heap.objs.size)
  have I1 := I.laid (a := s.heap.objs.size) (o := .dK []) (h' := s.heap.push { cls := .type "dict", data := .dict #[] }) (t' := s.toks) (fun _ _ q => Heap.get?_push_of_some _ q) (Nat.le_refl _) (dk_empty s.heap I.big)
  refine wpAny_Dict_walk (knd := mixKind X.prog X.w) hall hl h0 h15 (thn (h pins _ σ _ _ I1 (q _ hn)) fun ws s2 ⟨ps, H2, I2, rel, e, kvs, ep, lk, q2⟩ => ?_)
  subst ep
  obtain ⟨rs, c, rk⟩ := carries_of (P := X.prog) (w := X.w) rel
  obtain ⟨z, hd, vs0, r0, dd⟩ := dk_of I2.hok e
  cases r0
  refine ⟨rs, c, dd, fun h' dd' hs => ⟨.ref s.heap.objs.size, _, ?_, rfl, q2⟩⟩
  have hz : (mergeK [] kvs).length ≤ sizeLine := by
    have h1 := length_mergeK kvs []
    rw [List.length_nil] at h1
    rw [sizeLine_eq]; omega
  have he : ∃ q, h'.get? s.heap.objs.size = some q := let ⟨q, _, _, hq, _⟩ := dd'; ⟨q, hq⟩
  exact d_write I2 (by rw [e]; exact True.intro) hs he (dk_new hz hd (rk.merge .nil) dd')
structure M1 (X : Cx) (o : Expr) (m : Str) (apos : Pos) (e : Expr) (cpos : Pos) : Prop where
  base : attributeBase o m X.env (eval o X.env) = eval o X.env
  few : ((backTo cpos (starEach [e] X.env)).all (fun x => !x.1) && (backToKw cpos (keywordEach [] X.env)).all (fun x => x.1.isSome)
    && decide (([e] : List Expr).length + ([] : List Keyword).length + (if ([] : List Keyword).isEmpty then 0 else 1) < 30)) = true
  line : (apos.endLine == cpos.line) = true
  trees : backTo cpos (starEach [e] X.env) = [(false, eval e X.env)]
structure M2 (X : Cx) (o : Expr) (m : Str) (apos : Pos) (e f : Expr) (cpos : Pos) : Prop where
  base : attributeBase o m X.env (eval o X.env) = eval o X.env
  few : ((backTo cpos (starEach [e, f] X.env)).all (fun x => !x.1) && (backToKw cpos (keywordEach [] X.env)).all (fun x => x.1.isSome)
    && decide (([e, f] : List Expr).length + ([] : List Keyword).length + (if ([] : List Keyword).isEmpty then 0 else 1) < 30)) = true
  line : (apos.endLine == cpos.line) = true
  trees : backTo cpos (starEach [e, f] X.env) = [(false, eval e X.env), (false, eval f X.env)]
def IsD (H : Hp) (a : Addr) : Prop := (∃ kvs, Rd H a (.dK kvs)) ∨ ∃ kvs, Rd H a (.dT kvs)
theorem isD_at {X : Cx} {pins : List (Addr × Obj)} {σ : St} {H : Hp} {s : Shared} {a : Addr} (I : Inv X pins σ H s) (d : IsD H a) :
    s.TypeIs (.ref a) "dict" ∧ (∀ b, Value.ref a = .ref b → ∃ ob, s.heap.get? b = some ob ∧ ob.dict = none) ∧ (a == sysModules) = false := by
  rcases d with ⟨kvs, e⟩ | ⟨kvs, e⟩
  · obtain ⟨_, hd, vs, _, dd⟩ := dk_rd I.hok e
    refine ⟨dd.typeIs, fun b q => ?_, hd⟩
    cases q
    obtain ⟨ob, _, _, h1, h2, _⟩ := dd
    exact ⟨ob, h1, h2.2.1⟩
  · obtain ⟨_, hd, xs, _, dd⟩ := dt_rd I.hok e
    refine ⟨dd.typeIs, fun b q => ?_, hd⟩
    cases q
    obtain ⟨ob, _, _, h1, h2, _⟩ := dd
    exact ⟨ob, h1, h2.2.1⟩
section
variable {X : Cx} {pins : List (Addr × Obj)} {σ : St} {H : Hp} {s : Shared} {a : Addr} {y d : V} {u r : Value} {o : Option V} {A : Around} {E : Value → Shared → Prop}
theorem d_get2 {Q : Value → Shared → Prop} (hu : A.units + 1 < cLine) (I : Inv X pins σ H s) (g : DGet H a y o) (ry : RelV y u) (rd : RelV d r) (h : ∀ w' s', Inv X pins σ H s' → RelV (o.getD d) w' → Q w' s') :
    wpAny (model X.prog X.w) A (call (.builtin "dict.get") [.ref a, u, r]) Q E s := by
  rcases g with ⟨kvs, k, e, ey, l⟩ | ⟨kvs, k, b, e, ey, eb, l⟩
  · subst ey
    obtain ⟨z, hd, vs, rel, dd⟩ := dk_rd I.hok e
    refine call_meetsIn PySem.F.slot_dict_get dd.typeIs PySem.F.entry_dict_get (PySem.F.args_dict_get_3 _ _ _) (meets_dict_get_default (mixKind X.prog X.w) a (kV_is ry) hd r) ⟨_, dd.mapOf, h _ _ (I.tok _) ?_⟩
    rw [l]
    exact (rel.val k).getD rd
  · subst ey
    cases (show u = Value.ref b from ry)
    obtain ⟨z, hd, xs, rel, dd⟩ := dt_rd I.hok e
    refine call_meetsIn PySem.F.slot_dict_get dd.typeIs PySem.F.entry_dict_get (PySem.F.args_dict_get_3 _ _ _) (meetsH_dict_get_default (tupleKind (mixKind X.prog X.w)) a b hd r) ⟨tupleKind_room_in1 hu, k, xs, key_of I.hok eb, dd, h _ _ (I.tok _) ?_⟩
    rw [l]
    exact (rel.val k).getD rd
end
def tDGet2 (td ty tx : TE) : TE := fun σ H Q => td σ H fun x H1 => ∃ a, x = .ref a ∧ IsD H1 a ∧ ty σ H1 fun y H2 => tx σ H2 fun z H3 => ∃ o, DGet H3 a y o ∧ Q (o.getD z) H3
section
variable {X : Cx} {o e f : Expr} {apos cpos : Pos} {td ty tx : TE}
theorem pe_dget2 (hu : X.A.units + 1 < cLine) (ho : PE X o td) (he : PE X e ty) (hf : PE X f tx) (m : M2 X o "get" apos e f cpos) : PE X (.Call (.Attribute o "get" apos) [e, f] [] cpos) (tDGet2 td ty tx) := by
  intro pins s σ H Q I h
  refine wpAny_Call_method m.base m.few m.line PySem.F.plainAttrs_dict PySem.F.slot_dict_get PySem.F.type_dict_get (thn (ho pins s σ H _ I h) fun u s1 ⟨x, H1, I1, rx, a, ex, d, q1⟩ => ?_)
  subst ex
  obtain rfl : u = Value.ref a := rx
  obtain ⟨t1, t2, _⟩ := isD_at I1 d
  refine ⟨t1, t2, ?_⟩
  rw [m.trees]
  refine Calls.callWith_builtin rfl (Calls.evalArgs_plain (Calls.spliced_cons (thn (he pins s1 σ H1 _ I1 q1) fun iv s2 ⟨y, H2, I2, ry, q2⟩ =>
    Calls.spliced_cons (thn (hf pins s2 σ H2 _ I2 q2) fun fv s3 ⟨z, H3, I3, rz, ov, g, q3⟩ => Calls.spliced_nil ?_))))
  exact d_get2 hu I3 g ry rz fun w' s4 I4 rw' => ⟨_, H3, I4, rw', q3⟩
end
section
variable {X : Cx} {pins : List (Addr × Obj)} {σ : St} {H : Hp} {s : Shared} {a : Addr} {kvs : List (Key × V)} {A : Around} {E : Value → Shared → Prop}
end
section
variable {X : Cx} {pins : List (Addr × Obj)} {σ : St} {H : Hp} {s : Shared} {a : Addr} {y : V} {u : Value} {A : Around} {E : Value → Shared → Prop}
end
end L2
namespace Att
open PySem PySem.W PySem.Calls PyProof.Rows
theorem ints_of_wellAll {P : Params} {h : Heap} : ∀ (ns : List Int) (vs : List Value), WellAll P h vs (ns.map WData.int) → IntsAre vs ns := by
  intro ns
  induction ns with
  | nil =>
    intro vs w
    rw [List.map_nil] at w
    cases w
    exact .nil
  | cons n ns ih =>
    intro vs w
    rw [List.map_cons] at w
    cases w with
    | cons a b =>
      cases a
      exact .cons _ _ (ih _ b)
theorem script_of {l : OpenLaw} {n : Nat} (hn : l.most = some n) {P : Params} {h : Heap} {args : List WData} {vals : List Value}
    (hpre : l.row.toRowW.claim.pre args = true) (hwl : WellAll P h vals args) :
    ∃ a vs ns, vals = [Value.ref a] ∧ args = [WData.list (ns.map WData.int)] ∧ h.get? a = some { cls := .type "list", data := .seq vs.toArray } ∧ IntsAre vs ns ∧ ns.length ≤ n := by
  have hsh : WShape.hasAll [] args [.list .int] = true := (pre_splitW hpre).1
  have hc : l.pre.holds [] { args := args } = true := (pre_splitW hpre).2
  obtain ⟨d, r, rfl, h1, h2⟩ := hasAllW_cons hsh
  obtain rfl := hasAllW_nil h2
  obtain ⟨xs, rfl, h3⟩ := hasW_list h1
  obtain ⟨ns, rfl⟩ := items_int h3
  have hlen : ns.length ≤ n := by
    unfold OpenLaw.pre at hc
    have h4 : (WTm.not (.lt (.lit (.int (n : Int))) (.len (.arg 0)))).holds [] { args := [.list (ns.map .int)] } = true := by
      have h4 := (holds_andW hc).1
      rw [hn] at h4
      exact h4
    have h5 := condW_of h4 (w_not (w_lt w_lit (w_len_list (w_arg rfl))))
    rw [List.length_map] at h5
    refine Nat.le_of_not_lt fun q => ?_
    have q' : (n : Int) < ((ns.length : Nat) : Int) := by omega
    first
      | (rw [decide_eq_true q'] at h5; exact absurd h5 (by decide))
      | (simp at h5; omega)
  cases hwl with
  | cons w1 w2 =>
    cases w2
    cases w1 with
    | list ho hall => exact ⟨_, _, ns, rfl, rfl, ho, ints_of_wellAll ns _ hall, hlen⟩
theorem post_true (l : OpenLaw) (args : List WData) : l.row.toRowW.claim.post args (.bool true) args = true :=
  postW_of (r := l.row.toRowW) (X := (true == true))
    (show WShape.has [] (.bool true) .bool = true by first | rfl | decide | simp [WShape.has, WShape.arms, WShape.armsAll])
    (show (WTm.eq .res (.lit (.bool true))).value [] { args := args, res := some (.bool true), after := args } = some (.bool (true == true)) from w_eq_bool (w_res rfl) w_lit) rfl
theorem attach_call {l : OpenLaw} {n : Nat} {q : Program} {loose : List Str} {XP : (Str → Option Value) → Heap → Prop} {YP : World → Heap → Prop} {d : DefRec}
    (hn : l.most = some n) (hdf : d.params.defaults = [])
    (call : ∀ (w : World) (s₀ s₁ : Shared) (mg mb : Str → Option Value) (fa : Addr) (o : Obj) (pm cd doc : Value) (a : Addr) (vs : List Value) (ns : List Int),
      Ground q loose [] XP w s₀ mg mb s₁.heap → YP w s₁.heap →
      s₁.heap.get? fa = some o → o.data = .func (docDef d.name d.params d.body d.scope pm cd doc) → s₁.heap.CodeRec cd d.name → mg d.name = some (.ref fa) →
      s₁.heap.get? a = some { cls := .type "list", data := .seq vs.toArray } → IntsAre vs ns → ns.length ≤ n → s₁.gens = #[] →
      codeAny (model l.prog w) callerA (.call (.ref fa) ⟨[.ref a], []⟩) (fun r s' => r = .ok (.ret (.bool true)) ∧ OldK s₁.heap s'.heap ∧ s'.os = s₁.os ∧ AllBare s'.gens) s₁) :
    WalkO q loose XP YP l.row.toRowW d [] (fun f vs => PySem.call f vs) := by
  intro w s₀ s₁ mg mb G Y fa o pm cd doc dV kV ho hd hcd hD hmg hg args vals as hpre hlay hrd hwl hlo
  obtain rfl : dV = .none := Dflts.none hD hdf
  obtain rfl : kV = .none := Dflts.noKw hD
  obtain ⟨a, vs, ns, rfl, rfl, hobj, hints, hlen⟩ := script_of hn hpre hwl
  refine enter_call (codeAny_mono (call w s₀ s₁ mg mb fa o pm cd doc a vs ns G Y ho (fd_plain hd) hcd hmg hobj hints hlen hg) fun r s' hq => ?_)
  obtain ⟨rfl, h2, h3, h4⟩ := hq
  exact ⟨.inl ⟨.bool true, .bool true, [], rfl, fun _ => rfl, .bool true, post_true l _, fun _ => ⟨List.Pairwise.nil, fun _ hm => (nomatch hm)⟩⟩, h2, h3, h4⟩
section
variable {prog : Program} {w : World} {A : Around} {E : Value → Shared → Prop} {s : Shared} {K : Frag}
end
end Att
namespace L2
open PySem PySem.Spec PyProof.Rows
theorem vals_ints : ∀ {vs : List Value} {ns : List Int}, IntsAre vs ns → Vals (ns.map V.int) vs
  | _, _, .nil => .nil
  | _, _, .cons n t h => .cons ⟨t, rfl⟩ (vals_ints h)
def Only (H : Hp) : Prop := ∀ b, H b = none ∨ ∃ o xs, H b = some (.frz o (.lst xs))
theorem law_call {P : Program} {w : World} {K : PySem.W.Frag} {mg mb : Str → Option Value} {CX : CXT} {k : Nat} {fa a : Addr} {fd : FuncData} {x : Str} {sp : Sp} {s₁ : Shared} {vs : List Value} {ns : List Int}
    (KX : K.In s₁.heap) (hns : s₁.heap.Ns mainGlobals mg) (hb : s₁.heap.Ns builtinsNs mb) (hbb : ∀ x : Str, x ≠ "__name__" → mb x = bootBuiltins x) (hlim : s₁.heap.NoLimit) (hg : s₁.gens = #[])
    (ha : s₁.heap.get? a = some { cls := .type "list", data := .seq vs.toArray }) (hi : IntsAre vs ns) (hl : ns.length ≤ sizeLine) (hr : Room k callerA)
    (F : ∀ base : Heap, K.In base → base.Ns mainGlobals mg → FnOk P w K mg base CX k fa fd [x] sp) (hbind : ∀ (s : Shared) (u : Value), BindsTo s fd ⟨[u], []⟩ [(x, u)])
    (hsp : ∀ H : Hp, Only H → SqL K H a (ns.map V.int) → sp [.ref a] H (fun v _ => v = .bl true) fun _ _ _ => False)
    (hCX : ∀ H e s', CX [] H s₁ (fun _ _ _ => False) e s' → False) :
    codeAny (model P w) callerA (.call (.ref fa) ⟨[.ref a], []⟩) (fun r s' => r = .ok (.ret (.bool true)) ∧ OldK s₁.heap s'.heap ∧ s'.os = s₁.os ∧ AllBare s'.gens) s₁ := by
  have rv := vals_ints hi
  have lenV := hi.length
  have core : ∀ H : Hp, Only H → SqL K H a (ns.map V.int) → HOk P w H s₁.heap → (∀ b, H b ≠ none → b = a) → (H a ≠ none → K.lookup a = none) →
      codeAny (model P w) callerA (.call (.ref fa) ⟨[.ref a], []⟩) (fun r s' => r = .ok (.ret (.bool true)) ∧ OldK s₁.heap s'.heap ∧ s'.os = s₁.os ∧ AllBare s'.gens) s₁ := by
    intro H hO hS hok hA hK
    have base_of : ∀ {b : Addr} {o : Obj}, s₁.heap.get? b = some o → H b = none → (hidT s₁.heap H).get? b = some o := fun e n => hidT_get e n
    have noA : ∀ {b : Addr} {o : Obj} {es : Array DictEntry} {ep : Nat}, s₁.heap.get? b = some o → o.data = .dict es ep → H b = none := fun {b o es ep} e d => by
      cases q : H b with
      | none => rfl
      | some u =>
        have e' : b = a := hA b (by rw [q]; simp)
        subst e'
        rw [ha] at e; cases e
        have d' : Data.seq vs.toArray _ = Data.dict es ep := d
        cases d'
    have nsK : ∀ {b : Addr} {m : Str → Option Value}, s₁.heap.Ns b m → (hidT s₁.heap H).Ns b m := fun {b m} ⟨o, es, ep, e, d, r⟩ => ⟨o, es, ep, base_of e (noA e d), d, r⟩
    have hKb : K.In (hidT s₁.heap H) := fun b o e => base_of (KX b o e) (by
      cases q : H b with
      | none => rfl
      | some u =>
        have e' : b = a := hA b (by rw [q]; simp)
        subst e'
        rw [hK (by rw [q]; simp)] at e; cases e)
    have hM : Mod K mg (hidT s₁.heap H) := ⟨hKb, nsK hns, ⟨mb, nsK hb, hbb⟩, let ⟨mc, h1, h2⟩ := hlim; ⟨mc, nsK h1, h2⟩⟩
    have e0 : Env0 P w K mg (hidT s₁.heap H) callerA [] s₁ H := ⟨rfl, hM, fun b o e => of_hidT e, Nat.le_of_eq (hidT_size _ _), trivial, fun b hb => absurd (show b ∈ ([] : List Addr) from hb) (by simp), hok, .of_eq hg⟩
    refine codeAny_mono ((F _ hKb (nsK hns)).run callerA [] s₁ H ⟨[.ref a], []⟩ [.ref a] [.ref a] _ _ hr e0 (hbind s₁ (.ref a)) (.cons rfl .nil) (hsp H hO hS)) fun r s' h => ?_
    cases r with
    | error e => exact (hCX H e s' h).elim
    | ok fl =>
      cases fl with
      | next => exact False.elim h
      | brk => exact False.elim h
      | cont => exact False.elim h
      | ret u =>
        obtain ⟨v, H', os, bare, un, hok', r', q⟩ := h
        have q' : v = .bl true := q
        subst q'
        obtain rfl : u = Value.bool true := r'
        refine ⟨rfl, OldK.of_keep fun b o e => ?_, os, bare⟩
        cases q : H b with
        | none => exact un.keep b o e q (by intro z; exact absurd (show b ∈ ([] : List Addr) from z) (by simp)) (by simp)
        | some u =>
          rcases hO b with z | ⟨ob, xs, z⟩
          · rw [q] at z; cases z
          · have z2 := un.frzs b ob _ z
            obtain ⟨e1, _⟩ := hok b _ z
            obtain ⟨e2, _⟩ := hok' b _ z2
            rw [e] at e1; cases e1
            exact e2
  cases hk : K.lookup a with
  | some o =>
    have e := KX a o hk
    rw [ha] at e
    cases e
    refine core (fun _ => none) (fun _ => .inl rfl) (.inr ⟨_, vs.toArray, _, hk, rfl, rfl, rfl, by rw [List.size_toArray, lenV]; exact hl, by simpa using rv⟩) (fun b u z => by have z' : (none : Option HO) = some u := z; cases z') (fun b z => absurd rfl z) fun z => absurd rfl z
  | none =>
    refine core (fun b => if b = a then some (.frz { cls := .type "list", data := .seq vs.toArray } (.lst (ns.map V.int))) else none) (fun b => ?_) (.inl (.inr ⟨{ cls := .type "list", data := .seq vs.toArray }, if_pos rfl⟩)) (fun b u z => ?_) (fun b z => ?_) fun _ => hk
    · by_cases hb : b = a
      · exact .inr ⟨_, _, if_pos hb⟩
      · exact .inl (if_neg hb)
    · by_cases hb : b = a
      · have z' := (if_pos hb).symm.trans z
        cases z'
        subst hb
        exact ⟨ha, by rw [List.length_map]; exact hl, vs, _, rv, ha⟩
      · have z' := (if_neg hb).symm.trans z
        cases z'
    · by_cases hb : b = a
      · exact hb
      · exact absurd (if_neg hb) z
end L2
namespace L2
open PySem PySem.Spec PyProof.Rows
theorem walk_of {l : PySem.W.OpenLaw} {n k : Nat} {q : Program} {loose : List Str} {XP : (Str → Option Value) → Heap → Prop} {YP : World → Heap → Prop} {d : DefRec} {K : Params → PySem.W.Frag} {CX : World → CXT} {sp : World → Sp} {x : Str}
    (hn : l.most = some n) (hn2 : n ≤ sizeLine) (hdf : d.params.defaults = []) (hr : Room k callerA)
    (hY : ∀ (w : World) (h : Heap), YP w h → (K w.params).In h)
    (F : ∀ (w : World) (mg : Str → Option Value) (fa : Addr) (h : Heap), (K w.params).In h → h.Ns mainGlobals mg → mg d.name = some (.ref fa) →
      ∃ fd : FuncData, (∀ (s : Shared) (u : Value), BindsTo s fd ⟨[u], []⟩ [(x, u)]) ∧
        ∀ base : Heap, (K w.params).In base → base.Ns mainGlobals mg → FnOk l.prog w (K w.params) mg base (CX w) k fa fd [x] (sp w))
    (hsp : ∀ (w : World) (H : Hp) (a : Addr) (ns : List Int), ns.length ≤ n → Only H → SqL (K w.params) H a (ns.map V.int) → sp w [.ref a] H (fun v _ => v = .bl true) fun _ _ _ => False)
    (hCX : ∀ (w : World) (H : Hp) (s : Shared) (e : Value) (s' : Shared), CX w [] H s (fun _ _ _ => False) e s' → False) :
    PySem.W.WalkO q loose XP YP l.row.toRowW d [] (fun f vs => PySem.call f vs) := by
  refine Att.attach_call hn hdf fun w s₀ s₁ mg mb fa o pm cd doc a vs ns G Y ho hd hcd hmg hobj hints hlen hg => ?_
  have KX := hY w _ Y
  obtain ⟨fd, hb, hF⟩ := F w mg fa _ KX G.T.g hmg
  exact law_call KX G.T.g G.T.b G.T.builtins G.T.nolimit hg hobj hints (Nat.le_trans hlen hn2) hr hF hb (fun H hO hS => hsp w H a ns hlen hO hS) fun H e s' => hCX w H s₁ e s'
theorem walk_ofK {l : PySem.W.OpenLaw} {n k : Nat} {q : Program} {loose : List Str} {XP : (Str → Option Value) → Heap → Prop} {YP : World → Heap → Prop} {d : DefRec} {K : Params → PySem.W.Frag} {CX : CXT} {sp : PySem.W.Frag → Sp} {x : Str}
    (hn : l.most = some n) (hn2 : n ≤ sizeLine) (hdf : d.params.defaults = []) (hr : Room k callerA)
    (hY : ∀ (w : World) (h : Heap), YP w h → (K w.params).In h)
    (F : ∀ (w : World) (mg : Str → Option Value) (fa : Addr) (h : Heap), (K w.params).In h → h.Ns mainGlobals mg → mg d.name = some (.ref fa) →
      ∃ fd : FuncData, (∀ (s : Shared) (u : Value), BindsTo s fd ⟨[u], []⟩ [(x, u)]) ∧
        ∀ base : Heap, (K w.params).In base → base.Ns mainGlobals mg → FnOk l.prog w (K w.params) mg base CX k fa fd [x] (sp (K w.params)))
    (hsp : ∀ (K : PySem.W.Frag) (H : Hp) (a : Addr) (ns : List Int), ns.length ≤ n → Only H → SqL K H a (ns.map V.int) → sp K [.ref a] H (fun v _ => v = .bl true) fun _ _ _ => False)
    (hCX : ∀ (H : Hp) (s : Shared) (e : Value) (s' : Shared), CX [] H s (fun _ _ _ => False) e s' → False) :
    PySem.W.WalkO q loose XP YP l.row.toRowW d [] (fun f vs => PySem.call f vs) :=
  walk_of (K := K) (CX := fun _ => CX) (sp := fun w => sp (K w.params)) hn hn2 hdf hr hY F (fun w H a ns h1 h2 h3 => hsp (K w.params) H a ns h1 h2 h3) fun _ H s e s' => hCX H s e s'
end L2
namespace L2
open PySem PySem.Spec PyProof.Rows
def inClass (s : Stmt) (j : Nat) : Stmt := match s with
  | .ClassDef _ _ _ body _ _ _ _ _ _ _ => body.getD j (.Pass ⟨0, 0, 0, 0⟩)
  | _ => .Pass ⟨0, 0, 0, 0⟩
def defArgs (s : Stmt) : Arguments := match s with
  | .FunctionDef _ a _ _ _ _ _ _ _ _ => a
  | _ => { posonlyargs := [], args := [], vararg := none, kwonlyargs := [], kw_defaults := [], kwarg := none, defaults := [] }
def defBody (s : Stmt) : List Stmt := match s with
  | .FunctionDef _ _ b _ _ _ _ _ _ _ => b
  | _ => []
def defScope (s : Stmt) : Scope := match s with
  | .FunctionDef _ _ _ _ _ _ sc _ _ _ => sc
  | _ => { kind := .function, names := [], isGenerator := false, isCoroutine := false }
abbrev CX0 : CXT := fun _ _ _ _ _ _ => False
abbrev E0 : XK := fun _ _ _ => False
theorem pass0 {X : Cx} : Passes CX0 X E0 := fun _ _ _ _ _ _ _ h => h.elim
structure Fun (K : PySem.W.Frag) (x qual : Str) (st : Stmt) (f : Addr) (fd : FuncData) : Prop where
  ex : ∃ (oc : Value) (od : Option Addr) (kV doc pm : Value) (an : Option Addr) (cdv ct : Value) (osl : Array (Option Value)),
    fd = PySem.W.fnOf x qual (defArgs st) (defBody st) (defScope st) .none kV doc pm an cdv ct ∧ K.lookup f = some ⟨oc, od, .func fd, osl⟩ ∧ PySem.W.codeIn K cdv qual = true
  kp : PySem.W.keepIn K (.ref f) = true
section
variable {P : Program} {w : World} {K : PySem.W.Frag} {mg : Str → Option Value} {base : Heap}
theorem Fun.ok {x qual : Str} {st : Stmt} {f : Addr} {fd : FuncData} {N ps : List Str} {k : Nat} {sp : Sp} (F : Fun K x qual st f fd) (S : FnScope N ps (defScope st)) (len : ∀ vs H Q E, sp vs H Q E → vs.length = ps.length)
    (hbody : ∀ (cdv : Value) (A : Around) (outer : List Env) (s : Shared) (H : Hp) (vs : List V) (Q : VK) (E : XK), Room k (A.deeper (envOfC qual (defScope st) s.heap.objs.size f cdv)) → sp vs H Q E →
      ∃ t, PSs (cxOf CX0 P w K mg base N qual (defScope st) f cdv A outer s H E).nox (defBody st) t ∧ t { nx := fun _ H' => Q .non H', rt := Q } (start N vs) H) : FnOk P w K mg base CX0 (k + 1) f fd ps sp := by
  obtain ⟨oc, od, kV, doc, pm, an, cdv, ct, osl, rfl, lk, hcd⟩ := F.ex
  refine fn_of lk hcd S len fun A outer s H vs Q E hr hsp => ?_
  obtain ⟨t, h, q⟩ := hbody cdv A outer s H vs Q E hr hsp
  exact ⟨t, h.nox, q⟩
theorem Fun.binds {x qual : Str} {st : Stmt} {f : Addr} {fd : FuncData} {ps : List Str} (F : Fun K x qual st f fd)
    (h : ∀ (kV doc pm : Value) (an : Option Addr) (cdv ct : Value) (us : List Value), us.length = ps.length → bindArgs (PySem.W.fnOf x qual (defArgs st) (defBody st) (defScope st) .none kV doc pm an cdv ct) ⟨us, []⟩ = pure (ps.zip us)) : Binds K fd ps [] := by
  obtain ⟨oc, od, kV, doc, pm, an, cdv, ct, osl, rfl, lk, hcd⟩ := F.ex
  exact .all (h kV doc pm an cdv ct)
theorem fun_mk {x qual : Str} {st : Stmt} {f : Addr} {oc : Value} {od an : Option Addr} {osl : Array (Option Value)} {kV doc pm cdv ct : Value} (l : K.lookup f = some ⟨oc, od, .func (PySem.W.fnOf x qual (defArgs st) (defBody st) (defScope st) .none kV doc pm an cdv ct), osl⟩)
    (c : PySem.W.codeIn K cdv qual = true) (k : PySem.W.keepIn K (.ref f) = true) : Fun K x qual st f (PySem.W.fnOf x qual (defArgs st) (defBody st) (defScope st) .none kV doc pm an cdv ct) := ⟨⟨oc, od, kV, doc, pm, an, cdv, ct, osl, rfl, l, c⟩, k⟩
end
section
variable {X : Cx}
theorem pv (i : Nat) {x : Str} {pos : Pos} (hN : X.N[i]? = some x := by rfl) (hv : Vis X.env.scope x := by first | exact Or.inl rfl | exact Or.inr (Or.inl rfl) | exact Or.inr (Or.inr rfl)) (hd : (x == ("__debug__" : Str)) = false := by decide)
    (hcd : (x == ("__classdict__" : Str)) = false := by decide) : PE X (.Name x pos) (tVar i) := pe_var hN hv hd hcd
end
section
variable {X : Cx}
end
theorem iteF {A B : Prop} (h : B) : if false = true then A else B := by
  rw [if_neg Bool.false_ne_true]
  exact h
theorem iteT {A B : Prop} (h : A) : if true = true then A else B := by
  rw [if_pos rfl]
  exact h
def Same (H H' : Hp) : Prop := ∀ b o, H b = some o → H' b = some o
theorem Same.refl (H : Hp) : Same H H := fun _ _ h => h
theorem Same.trans {H H1 H2 : Hp} (a : Same H H1) (b : Same H1 H2) : Same H H2 := fun c o h => b c o (a c o h)
theorem Same.free {H H' : Hp} (e : Same H H') {l : Addr} (h : H' l = Option.none) : H l = Option.none := by
  cases q : H l with
  | none => rfl
  | some o =>
    rw [e l o q] at h
    cases h
theorem Same.seq {K : PySem.W.Frag} {H H' : Hp} {a : Addr} {xs : List V} (e : Same H H') (h : SqL K H a xs) : SqL K H' a xs := by
  rcases h with (h | ⟨o, h⟩) | h
  · exact .inl (.inl (e _ _ h))
  · exact .inl (.inr ⟨o, e _ _ h⟩)
  · exact .inr h
section
variable {κ : Type} [DecidableEq κ]
theorem valV_not {kvs : List (κ × V)} {k : κ} (h : valV kvs k = none) : ¬ k ∈ kvs.map (·.1) := by
  intro m
  obtain ⟨p, hp, e⟩ := List.mem_map.mp m
  have q : (kvs.any fun kv => decide (kv.1 = k)) = true := List.any_eq_true.mpr ⟨p, hp, decide_eq_true e⟩
  rw [valV_any, h] at q
  exact absurd q (by simp)
theorem nd_snoc : ∀ {l : List κ} {k : κ}, l.Nodup → ¬ k ∈ l → (l ++ [k]).Nodup
  | [], k, _, _ => by simp
  | a :: r, k, h, hk => by
    obtain ⟨h1, h2⟩ := List.nodup_cons.mp h
    show (a :: (r ++ [k])).Nodup
    refine List.nodup_cons.mpr ⟨fun m => ?_, nd_snoc h2 fun m => hk (List.mem_cons.mpr (Or.inr m))⟩
    rcases List.mem_append.mp m with q | q
    · exact h1 q
    · exact hk (List.mem_cons.mpr (Or.inl (List.mem_singleton.mp q).symm))
end
end L2
namespace L2
open PySem PySem.Spec PyProof.Rows
theorem HOk.track {P : Program} {w : World} {H : Hp} {h : Heap} {a : Addr} {o : HO} (x : HOk P w H h) (hn : H a = none) (new : ObjOk P w (upd H a o) h a o) : HOk P w (upd H a o) h := by
  intro b u e
  by_cases hb : b = a
  · subst hb
    rw [upd_same] at e
    cases e
    exact new
  · rw [upd_ne hb] at e
    refine (x b u e).stay (fun _ _ _ q => q) (fun c q => ?_) fun c xs q => ?_
    · rw [upd_ne (ne_of_none q hn)]; exact q
    · rw [upd_ne (ne_of_none q hn)]; exact q
theorem HOk.other {P : Program} {w : World} {H : Hp} {h h' : Heap} {a : Addr} (x : HOk P w H h) (hn : H a = none) (k : ∀ b u, b ≠ a → h.get? b = some u → h'.get? b = some u) : HOk P w H h' := by
  intro b u e
  refine (x b u e).stay (fun c v hc q => k c v ?_ q) (fun _ q => q) fun _ _ q => q
  rcases hc with z | z
  · rw [z]; exact ne_of_none e hn
  · exact ne_of_none z hn
def closStep (env : Env) (cs : List (Str × Addr)) (x : Str × NameKind) : List (Str × Addr) := if x.2 = .free then (x.1, (env.cells.lookup x.1).getD 0) :: cs else cs
def closOf (env : Env) (names : List (Str × NameKind)) : List (Str × Addr) := names.foldl (closStep env) []
theorem forIn_fold {α β : Type} {f : α → β → Sem (ForInStep β)} {g : β → α → β} : ∀ (l : List α) (acc : β), (∀ x ∈ l, ∀ c, f x c = pure (.yield (g c x))) → forIn l acc f = pure (l.foldl g acc)
  | [], acc, _ => rfl
  | x :: l, acc, h => by
    rw [List.forIn_cons, h x List.mem_cons_self acc]
    show forIn l (g acc x) f = _
    rw [forIn_fold l (g acc x) fun y hy => h y (List.mem_cons_of_mem _ hy)]
    rfl
theorem closureFor_of {scope : Scope} {env : Env} (h : ∀ y ∈ scope.names, y.2 = .free → ∃ c, env.cells.lookup y.1 = some c) : closureFor scope env = pure (closOf env scope.names) := by
  simp only [closureFor]
  rw [forIn_fold (g := closStep env) scope.names [] fun x hx c => by
    obtain ⟨n, kind⟩ := x
    by_cases hk : kind = .free
    · subst hk
      obtain ⟨a, ha⟩ := h _ hx rfl
      have ha' : env.cells.lookup n = some a := ha
      simp only [beq_self_eq_true, if_true, closStep, cellOf, ha', Option.getD_some]
      rfl
    · have hb : (kind == NameKind.free) = false := by simpa using hk
      simp only [hb, Bool.false_eq_true, if_false, closStep, hk]]
  rfl
theorem clos_some {env : Env} {y : Str} {c : Addr} : ∀ (names : List (Str × NameKind)) (acc : List (Str × Addr)), (names.foldl (closStep env) acc).lookup y = some c →
    acc.lookup y = some c ∨ ((y, NameKind.free) ∈ names ∧ (env.cells.lookup y).getD 0 = c)
  | [], acc, h => .inl h
  | (n, k) :: r, acc, h => by
    rw [List.foldl_cons] at h
    rcases clos_some r _ h with q | ⟨q, z⟩
    · unfold closStep at q
      by_cases hk : k = .free
      · rw [if_pos hk, List.lookup_cons] at q
        cases hy : y == n with
        | true =>
          rw [hy] at q
          have e : y = n := eq_of_beq hy
          subst e hk
          exact .inr ⟨List.mem_cons_self, Option.some.inj q⟩
        | false =>
          rw [hy] at q
          exact .inl q
      · rw [if_neg hk] at q
        exact .inl q
    · exact .inr ⟨List.mem_cons_of_mem _ q, z⟩
theorem clos_has {env : Env} {y : Str} : ∀ (names : List (Str × NameKind)) (acc : List (Str × Addr)), ((y, NameKind.free) ∈ names ∨ ∃ c, acc.lookup y = some c) → ∃ c, (names.foldl (closStep env) acc).lookup y = some c
  | [], acc, h => by
    rcases h with h | h
    · cases h
    · exact h
  | (n, k) :: r, acc, h => by
    rw [List.foldl_cons]
    refine clos_has r _ ?_
    by_cases hy : (y, NameKind.free) ∈ r
    · exact .inl hy
    · refine .inr ?_
      rcases h with h | ⟨c, h⟩
      · rcases List.mem_cons.mp h with e | e
        · cases e
          exact ⟨_, by unfold closStep; rw [if_pos rfl, List.lookup_cons_self]⟩
        · exact absurd e hy
      · unfold closStep
        by_cases hk : k = .free
        · rw [if_pos hk, List.lookup_cons]
          cases y == n with
          | true => exact ⟨_, rfl⟩
          | false => exact ⟨c, h⟩
        · rw [if_neg hk]
          exact ⟨c, h⟩
theorem compLoop_gen {prog : Program} {w : World} {A : Around} {R : Result → Shared → Prop} {s : Shared} {elt target iter : Expr} {ifs : List Expr} {scope : Scope} {pos : Pos} {it acc : Value} {env : Env} (I : Nat → Shared → Prop)
    (turn : ∀ n s, I n s → wpAny (model prog w) A (pyNext it) (fun r s₁ => match r with
      | none => R (.ok .next) s₁
      | some v => wpAny (model prog w) A (letOwnedTupleGo target it v) (fun _ s₁' => wpAny (model prog w) A (assign target env v) (fun _ s₂ =>
          wpAny (model prog w) A (forIn ifs true fun c r => if r = true then do let ok ← isTrue c env (eval c env); pure (ForInStep.yield ok) else pure (ForInStep.yield r)) (fun ok s₃ =>
            if ok = true then wpAny (model prog w) A (eval elt env) (fun x s₄ =>
              wpAny (model prog w) A (call (.builtin "list.append") [acc, x]) (fun _ s₅ => ∃ m, m < n ∧ I m s₅) (fun _ _ => False) s₄) (fun _ _ => False) s₃
            else ∃ m, m < n ∧ I m s₃) (fun _ _ => False) s₂) (fun _ _ => False) s₁') (fun _ _ => False) s₁) (fun _ _ => False) s)
    (n : Nat) (h : I n s) :
    codeAny (model prog w) A (.compLoop (.ListComp elt [⟨target, iter, ifs, 0⟩] scope pos) 0 it acc env) R s := by
  refine codeAny_loop rfl I (fun n s hI => ?_) n h
  show wpAny _ A ((compTurn (.ListComp elt [⟨target, iter, ifs, 0⟩] scope pos) 0 it acc env).onRaise (fun x => do noteFrame x env; theTreesLotGoes x)) _ _ s
  refine wpAny_noted ?_
  rw [compTurn_list]
  refine wpAny_bind (wpAny_standAt (wpAny_bind (wpAny_mono (turn n s hI) (fun r s₁ h₁ => ?_) fun _ _ h' => h'.elim)))
  cases r with
  | none => exact wpAny_pure h₁
  | some v =>
    refine wpAny_bind (wpAny_mono h₁ (fun _ s₁' h₁' => ?_) fun _ _ h' => h'.elim)
    refine wpAny_bind (wpAny_mono h₁' (fun _ s₂ h₂ => wpAny_bind (wpAny_mono h₂ (fun ok s₃ h₃ => ?_) fun _ _ h' => h'.elim)) fun _ _ h' => h'.elim)
    cases ok with
    | false => exact wpAny_pure ⟨rfl, h₃⟩
    | true =>
      exact wpAny_bind (wpAny_bind (wpAny_mono h₃ (fun x s₄ h₄ => wpAny_bind (wpAny_mono h₄ (fun _ s₅ h₅ => wpAny_pure (wpAny_pure ⟨rfl, h₅⟩)) fun _ _ h' => h'.elim)) fun _ _ h' => h'.elim))
def PTs (X : Cx) (ifs : List Expr) (t : TT) : Prop :=
  ∀ (pins : List (Addr × Obj)) (s : Shared) (σ : St) (H : Hp) (Q : Bool → Hp → Prop), Inv X pins σ H s → t σ H Q →
    wpAny (model X.prog X.w) X.A (forIn ifs true fun c r => if r = true then do let ok ← isTrue c X.env (eval c X.env); pure (ForInStep.yield ok) else pure (ForInStep.yield r)) (TP X pins σ Q) X.xe s
def tYes : TT := fun _ H Q => Q true H
theorem pts_nil {X : Cx} : PTs X [] tYes := fun pins s σ H Q I h => wpAny_tests_nil ⟨H, I, h⟩
theorem pts_one {X : Cx} {c : Expr} {t : TT} (h : PT X c t) : PTs X [c] t := fun pins s σ H Q I hw => wpAny_tests_one (h pins s σ H Q I hw)
def cxComp (X : Cx) (scope : Scope) (N : List Str) (C : Addr) (s : Shared) (H : Hp) (ex : List Addr) : Cx :=
  { X with N := N, s₀ := s, H₀ := H, env := compEnvC scope (closOf X.env scope.names) C X.env, outer := X.stack, stack := X.stack, ex := ex, fn := fun _ => false, pn := [], xe := fun _ _ => False }
def pick (σ : St) (j : Nat) : Option V := (σ[j]?).getD none
def CompG (n0 : Nat) (fr : List Nat) (g : TG) (tt : TT) (te : TE) (σ : St) (Q : VK) (J : It) (H1 : Hp) : Prop := ∃ W : Nat → Nat → St → List V → Hp → Prop,
  (∃ m, W 0 m (List.replicate n0 none ++ fr.map (pick σ)) [] H1) ∧ ∀ i m τ acc H, W i m τ acc H →
    (J.stop i H ∧ ∀ D, H D = none → Q (.ref D) (upd H D (.lst acc))) ∨
    (J.go i H ∧ acc.length < sizeLine ∧ ∀ x H', J.yld i H x H' → g x τ H' fun τ1 H1 => tt τ1 H1 fun b H2 =>
      if b = true then te τ1 H2 fun y H3 => ∃ m', m' < m ∧ W (i + 1) m' τ1 (acc ++ [y]) H3 else ∃ m', m' < m ∧ W (i + 1) m' τ1 acc H2)
def tComp (n0 : Nat) (fr : List Nat) (wi : TI) (g : TG) (tt : TT) (te : TE) : TE := fun σ H Q => wi σ H (CompG n0 fr g tt te σ Q)
theorem relabel_cell {env : Env} : ∀ {names : List (Str × NameKind)} {y : Str}, (∀ z ∈ names, z.2 ≠ .cell) →
    ((names.map fun (n, k) => if (k == NameKind.free && env.scope.kind == .function && env.kindOf n == some .cell) then (n, NameKind.cell) else (n, k)).lookup y = some .cell ∨
     (names.map fun (n, k) => if (k == NameKind.free && env.scope.kind == .function && env.kindOf n == some .cell) then (n, NameKind.cell) else (n, k)).lookup y = some .free) → (y, NameKind.free) ∈ names
  | [], y, _, h => by simp at h
  | (n, k) :: r, y, hc, h => by
    have ih := @relabel_cell env r y fun z hz => hc z (List.mem_cons_of_mem _ hz)
    by_cases hy : y = n
    · subst hy
      by_cases hk : k = .free
      · subst hk; exact List.mem_cons_self
      · have hkb : (k == NameKind.free) = false := by simpa using hk
        simp only [List.map_cons, hkb, Bool.false_and, Bool.false_eq_true, if_false, List.lookup_cons_self, Option.some.injEq] at h
        rcases h with h | h
        · exact absurd h (hc _ List.mem_cons_self)
        · exact absurd h hk
    · have hyb : (y == n) = false := by simpa using hy
      refine List.mem_cons_of_mem _ (ih ?_)
      simp only [List.map_cons] at h
      by_cases hcnd : (k == NameKind.free && env.scope.kind == .function && env.kindOf n == some .cell) = true
      · rw [if_pos hcnd] at h
        simp only [List.lookup_cons, hyb] at h
        exact h
      · rw [if_neg hcnd] at h
        simp only [List.lookup_cons, hyb] at h
        exact h
theorem lookup_relabel_free {env : Env} : ∀ {names : List (Str × NameKind)} {y : Str}, names.lookup y = some .free →
    (names.map fun (n, k) => if (k == NameKind.free && env.scope.kind == .function && env.kindOf n == some .cell) then (n, NameKind.cell) else (n, k)).lookup y = some .cell ∨
     (names.map fun (n, k) => if (k == NameKind.free && env.scope.kind == .function && env.kindOf n == some .cell) then (n, NameKind.cell) else (n, k)).lookup y = some .free
  | [], y, h => by simp at h
  | (n, k) :: r, y, h => by
    have ih := @lookup_relabel_free env r y
    simp only [List.map_cons]
    cases hy : y == n with
    | true =>
      simp only [List.lookup_cons, hy] at h
      cases h
      by_cases hcnd : (NameKind.free == NameKind.free && env.scope.kind == .function && env.kindOf n == some .cell) = true
      · rw [if_pos hcnd]; simp [List.lookup_cons, hy]
      · rw [if_neg hcnd]; simp [List.lookup_cons, hy]
    | false =>
      simp only [List.lookup_cons, hy] at h
      by_cases hcnd : (k == NameKind.free && env.scope.kind == .function && env.kindOf n == some .cell) = true
      · rw [if_pos hcnd]; simp only [List.lookup_cons, hy]; exact ih h
      · rw [if_neg hcnd]; simp only [List.lookup_cons, hy]; exact ih h
def FrOk (X : Cx) (scope : Scope) : List (Str × Nat) → Prop
  | [] => True
  | p :: r => X.N[p.2]? = some p.1 ∧ scope.names.lookup p.1 = some .free ∧ FrOk X scope r
theorem FrOk.all {X : Cx} {scope : Scope} : ∀ {fr : List (Str × Nat)}, FrOk X scope fr → ∀ p ∈ fr, X.N[p.2]? = some p.1 ∧ scope.names.lookup p.1 = some .free
  | p :: r, h, q, hq => by
    rcases List.mem_cons.mp hq with e | e
    · subst e; exact ⟨h.1, h.2.1⟩
    · exact FrOk.all h.2.2 q e
section
variable {X : Cx}
theorem pe_comp {tg iter elt : Expr} {ifs : List Expr} {scope : Scope} {wi : TI} {g : TG} {tt : TT} {te : TE} {own : List Str} {fr : List (Str × Nat)} {pos : Pos}
    (hc : X.calm = true) (hi : PI X tg iter wi)
    (hk : scope.kind = .function) (hcell : ∀ y ∈ scope.names, y.2 ≠ .cell) (hnames : ∀ y ∈ scope.names, y.2 = .local → scope.names.lookup y.1 = some .local)
    (hfree : ∀ y ∈ scope.names, y.2 = .free → X.env.kindOf y.1 = some .cell ∨ X.env.kindOf y.1 = some .free) (hfr : FrOk X scope fr)
    (hg : ∀ C s H ex, PG (cxComp X scope (own ++ fr.map (·.1)) C s H ex) tg g)
    (ht : ∀ C s H ex, PTs (cxComp X scope (own ++ fr.map (·.1)) C s H ex) ifs tt)
    (he : ∀ C s H ex, PE (cxComp X scope (own ++ fr.map (·.1)) C s H ex) elt te)
    (hs : ∀ x, foldedSetIterable iter X.env x = pure x := by intro _; rfl) :
    PE X (.ListComp elt [⟨tg, iter, ifs, 0⟩] scope pos) (tComp own.length (fr.map (·.2)) wi g tt te) := by
  intro pins s σ H Q I h
  rw [eval_ListComp]
  have hcl : ∀ y c, (closOf X.env scope.names).lookup y = some c → X.env.cells.lookup y = some c := fun y c e => by
    rcases clos_some scope.names [] e with q | ⟨q, z⟩
    · simp at q
    · obtain ⟨c', e'⟩ := I.ok.has y (hfree _ q rfl)
      rw [e'] at z
      rw [e', ← z]
      rfl
  have hclos : closureFor scope X.env = pure (closOf X.env scope.names) := closureFor_of fun y hy e => I.ok.has y.1 (hfree y hy e)
  refine wpAny_comprehension_free (use := none) (cl := closOf X.env scope.names) rfl hs hclos hk hnames ?_
  refine thn (hi pins s σ H _ I h) fun v s1 h1 => thn h1 fun itv s2 h2 => ?_
  obtain ⟨it, fp, tn, J, H2, e, I2, T, st2, f2, W, ⟨m0, w0⟩, turn⟩ := h2
  subst e
  refine wpAny_newObj_type (wpAny_newFunctionEnv hcell (by intro y hy; simp at hy) (fun h₁ hns₁ hsb₁ => ?_) hk)
  dsimp only at hns₁ hsb₁ ⊢
  generalize hH2 : s2.heap.push { cls := .type "list", dict := none, data := .seq ([] : List Value).toArray } = HL at hns₁ hsb₁ ⊢
  have hC : HL.objs.size = s2.heap.objs.size + 1 := by rw [← hH2, Heap.size_push]
  generalize hCC : HL.objs.size = C at hns₁ hsb₁ hC ⊢
  have hDC : s2.heap.objs.size ≠ C := by rw [hC]; exact Nat.ne_of_lt (Nat.lt_succ_self _)
  have below : ∀ b, b < s2.heap.objs.size → b ≠ C ∧ b ≠ s2.heap.objs.size := fun b hb => ⟨by rw [hC]; exact Nat.ne_of_lt (Nat.lt_succ_of_lt hb), Nat.ne_of_lt hb⟩
  have old : ∀ b o, s2.heap.get? b = some o → h₁.get? b = some o := fun b o e => hsb₁.extBut b o (below b (Heap.lt_size e)).1 (Heap.get?_push_of_some _ (hH2 ▸ Heap.get?_push_of_some _ e))
  have eD0 : h₁.get? s2.heap.objs.size = some { cls := .type "list", data := .seq ([] : List Value).toArray } := hsb₁.extBut _ _ hDC (Heap.get?_push_of_some _ (hH2 ▸ Heap.get?_push_size _ rfl))
  have fpLt : ∀ b ∈ fp, b < s2.heap.objs.size := fun b hb => by
    obtain ⟨o, e, _⟩ := T.obj _ _ st2 b hb
    exact Heap.lt_size e
  generalize hD : s2.heap.objs.size = D at hDC below eD0 fpLt hC
  have hDfp : D ∉ fp := fun z => Nat.lt_irrefl _ (fpLt D z)
  have okY : (cxComp X scope (own ++ fr.map (·.1)) C s2 H2 fp).Ok := by
    refine ⟨I2.ok.mod, hk, I2.ok.glob, I2.ok.blt, by show s2.heap.objs.size ≤ C; omega, fun x y c e1 e2 => I2.ok.inj x y c (hcl x c e1) (hcl y c e2), fun y hy => ?_, fun x c z _ => (by cases z), I2.ok.hd, I2.ok.frames, .inl rfl, fun b hb => ⟨(below b (fpLt b hb)).1, fun y c e => ?_⟩, I2.bs,
      Nat.le_trans I2.ok.bsz I2.sz, fun b o e hb => ?_, fun b hb z => ?_, I2.stack, I2.stkFree⟩
    · exact clos_has scope.names [] (.inl (relabel_cell (env := X.env) hcell hy))
    · exact (f2 b hb).2.2.2.2.1 y c (hcl y c e)
    · rcases (f2 b hb).2.2.2.1 with z | z
      · exact I2.ok.noex b o e z
      · exact absurd (Nat.lt_of_lt_of_le (Heap.lt_size e) (Nat.le_trans I2.ok.bsz z)) (Nat.lt_irrefl _)
    · rcases List.mem_cons.mp (I2.stkSub b z) with q | q
      · exact (f2 b hb).2.1 q
      · exact (f2 b hb).2.2.1 q
  have cellLt : ∀ y c, X.env.cells.lookup y = some c → c < D := fun y c e => by
    obtain ⟨v, z⟩ := I2.cell y c e
    exact Nat.lt_of_lt_of_le z.lt (Nat.le_of_eq hD)
  have stkLt : ∀ b ∈ frs X.stack, b < D := fun b hb => by
    rcases List.mem_cons.mp (I2.stkSub b hb) with q | q
    · rw [q]; exact Nat.lt_of_lt_of_le I2.lt (Nat.le_of_eq hD)
    · obtain ⟨_, o, ho, _⟩ := I2.ok.funs.mem q
      exact Nat.lt_of_lt_of_le (Heap.lt_size ho) (Nat.le_trans I2.sz (Nat.le_of_eq hD))
  have fresh : ∀ a, D ≤ a → H2 a = none := fun a ha => I2.hok.fresh (Nat.le_trans (Nat.le_of_eq hD) ha)
  have IY : Inv (cxComp X scope (own ++ fr.map (·.1)) C s2 H2 fp) [] (List.replicate own.length none ++ (fr.map (·.2)).map (pick σ)) H2 { s2 with heap := h₁, toks := s2.toks + ([] : List (Str × Value)).length } := by
    refine ⟨okY, rfl, I2.bare, Un.kept old, ⟨_, hns₁, fun i y v e1 e2 e3 => ?_⟩, fun y c e => ?_, fresh C (by omega), fun y c e => I2.freeC y c (hcl y c e), fun p hp => absurd (show p ∈ ([] : List (Addr × Obj)) from hp) (by simp), I2.hok.kept old, ?_⟩
    · have e1 : (own ++ fr.map (·.1))[i]? = some y := e1
      have hi' : own.length ≤ i := by
        by_cases hlt : i < own.length
        · rw [List.getElem?_append_left (by simpa using hlt), List.getElem?_replicate, if_pos hlt] at e2
          cases e2
        · omega
      rw [List.getElem?_append_right hi', List.getElem?_map] at e1
      rw [List.getElem?_append_right (by simpa using hi'), List.getElem?_map, List.getElem?_map, List.length_replicate] at e2
      cases hp : fr[i - own.length]? with
      | none => rw [hp] at e1; cases e1
      | some p =>
        rw [hp] at e1 e2
        have ey : p.1 = y := Option.some.inj e1
        have ev : pick σ p.2 = some v := Option.some.inj e2
        obtain ⟨a1, a3⟩ := hfr.all p (List.mem_of_getElem? hp)
        have es : σ[p.2]? = some (some v) := by
          unfold pick at ev
          cases q : σ[p.2]? with
          | none => rw [q] at ev; cases ev
          | some z => rw [q] at ev; exact congrArg some ev
        have hfk : X.env.kindOf p.1 = some .cell ∨ X.env.kindOf p.1 = some .free := hfree (p.1, .free) (PySem.mem_of_lookup a3) rfl
        obtain ⟨m, hn, hl⟩ := I2.loc
        obtain ⟨u, r, l⟩ := hl p.2 p.1 v a1 es (hfk.elim (fun z => .inr (.inl z)) fun z => .inr (.inr z))
        refine ⟨u, r, .inr ?_⟩
        rcases l with ⟨z, _⟩ | ⟨_, c, ec, zc⟩
        · rcases hfk with q | q <;> rw [z] at q <;> cases q
        · obtain ⟨c', ec'⟩ := clos_has (env := X.env) (y := p.1) scope.names [] (.inl (PySem.mem_of_lookup a3))
          have : c' = c := Option.some.inj ((hcl _ _ ec').symm.trans ec)
          subst this
          rw [← ey]
          obtain ⟨o, ho, hdd⟩ := zc
          exact ⟨lookup_relabel_free (env := X.env) a3, c', ec', o, old _ o ho, hdd⟩
    · obtain ⟨v, z⟩ := I2.cell y c (hcl y c e)
      obtain ⟨o, ho, hdd⟩ := z
      exact ⟨v, o, old _ o ho, hdd⟩
    · show (List.replicate own.length (none : Option V) ++ (fr.map (fun p => p.2)).map (pick σ)).length = (own ++ fr.map (fun p => p.1)).length
      simp
  have fpY : ∀ {H3 : Hp} {ob : Obj}, (∀ b ∈ fp, H3 b = none) → ∀ b ∈ fp, FpOk (cxComp X scope (own ++ fr.map (·.1)) C s2 H2 fp) [(D, ob)] H3 b := fun {H3 ob} hn b hb =>
    ⟨hn b hb, (below b (fpLt b hb)).1, fun z => okY.exfs b hb z, .inl hb, fun y c e => (okY.exf b hb).2 y c e, fun p hp => by
      have e : p = (D, ob) := by simpa [cxComp] using hp
      rw [e]
      show D ≠ b
      exact fun z => hDfp (z ▸ hb)⟩
  have noC : ∀ (xs : Array Value) (k : Nat) (v : Option Value), ({ cls := .type "list", data := .seq xs k } : Obj).data ≠ .cell v := fun xs k v z => by cases z
  have loop : ∀ s₃ : Shared, s₃ = { s2 with heap := h₁, toks := s2.toks + ([] : List (Str × Value)).length } →
      codeAny (model X.prog X.w) X.A (.compLoop (.ListComp elt [⟨tg, iter, ifs, 0⟩] scope pos) 0 (.ref it) (.ref D) (compEnvC scope (closOf X.env scope.names) C X.env))
        (compPost (model X.prog X.w) X.A X.xe none (EP X pins σ Q) (.ref D) C) s₃ := by
    rintro s₃ rfl
    refine compLoop_gen (fun n s' => ∃ (i : Nat) (τ : St) (acc : List V) (H' : Hp) (its : List Value) (k : Nat), Inv (cxComp X scope (own ++ fr.map (·.1)) C s2 H2 fp) [] τ H' s' ∧ tn i s'.heap ∧ (∀ b ∈ fp, H' b = none) ∧ H' D = none ∧ Vals acc its ∧
      s'.heap.get? D = some { cls := .type "list", data := .seq its.toArray k } ∧ acc.length ≤ sizeLine ∧ W i n τ acc H') ?_ m0
      ⟨0, _, [], H2, [], 0, IY, T.keep _ _ _ st2 fun b _ o e => old b o e, fun b hb => (f2 b hb).1, fresh D (Nat.le_refl _), .nil, eD0, Nat.zero_le _, w0⟩
    rintro n s3 ⟨i, τ, acc, H3, its, k, I3, st3, fr3, fD, rv, eD, hz, w3⟩
    have I3' : Inv (cxComp X scope (own ++ fr.map (·.1)) C s2 H2 fp) [(D, { cls := .type "list", data := .seq its.toArray k })] τ H3 s3 := I3.pins_of fun p hp => by
      have e : p = (D, { cls := .type "list", data := .seq its.toArray k }) := by simpa using hp
      subst e
      exact ⟨eD, fD, hDC, fun z => Nat.lt_irrefl _ (stkLt D z), noC _ _⟩
    rcases turn i n τ acc H3 w3 with ⟨stop, qn⟩ | ⟨go, hlt, step⟩
    · refine thn (T.done (cxComp X scope (own ++ fr.map (·.1)) C s2 H2 fp) rfl rfl rfl hc i _ s3 τ H3 (fun _ _ => False) I3' (fpY fr3) st3 stop) fun r s4 ⟨hr, I4⟩ => ?_
      subst hr
      obtain ⟨m, hn4, _⟩ := I4.loc
      obtain ⟨eD4, fD4, _⟩ := I4.pin (D, { cls := .type "list", data := .seq its.toArray k }) (List.mem_append_right _ (List.mem_singleton.mpr rfl))
      refine ⟨m, hn4, fun h' sb => ?_⟩
      have b4 : Un (frs X.stack) fp H2 H3 s2.heap s4.heap := I4.base
      have lt2 : ∀ b o, s2.heap.get? b = some o → b ≠ C ∧ b ≠ D := fun b o e => below b (Nat.lt_of_lt_of_le (Heap.lt_size e) (Nat.le_of_eq hD))
      have tr2 : ∀ b o, H2 b = some o → b ≠ D := fun b o e z => by
        have := fresh D (Nat.le_refl _)
        rw [z, this] at e
        cases e
      have un : Un (frs X.stack) fp H2 (upd H3 D (.lst acc)) s2.heap h' := by
        refine ⟨fun b o e n hb hx => (sb.2 b (lt2 b o e).1).trans (b4.keep b o e n hb hx), fun b o e n hb hx => ?_, fun b o e n hx => ?_, fun b o e hx => ?_, fun b xs e => ?_, fun b o u e => ?_, fun b ps e => ?_⟩
        · obtain ⟨sl, q⟩ := b4.slot b o e n hb hx
          exact ⟨sl, (sb.2 b (lt2 b o e).1).trans q⟩
        · rw [upd_ne (lt2 b o e).2]; exact b4.free b o e n hx
        · obtain ⟨o', q⟩ := b4.there b o e hx
          exact ⟨o', (sb.2 b (lt2 b o e).1).trans q⟩
        · rw [upd_ne (tr2 _ _ e)]; exact b4.tups b xs e
        · rw [upd_ne (tr2 _ _ e)]; exact b4.frzs b o u e
        · rw [upd_ne (tr2 _ _ e)]; exact b4.tbls b ps e
      have hok' : HOk X.prog X.w (upd H3 D (.lst acc)) h' := by
        have q : HOk X.prog X.w H3 h' := HOk.other (a := C) I4.hok I4.free fun b u hb e => (sb.2 b hb).trans e
        exact q.track fD4 ⟨hz, its, k, rv, (sb.2 D hDC).trans eD4⟩
      refine ⟨.ref D, upd H3 D (.lst acc), I2.call' (s' := { s4 with heap := h' }) (ch := fp) I4.os un hok' I4.bare fun b hb => ⟨(f2 b hb).2.2.2.1, (f2 b hb).2.1, (f2 b hb).2.2.2.2.1, (f2 b hb).2.2.2.2.2⟩, rfl, qn D fD4⟩
    · refine thn (T.item (cxComp X scope (own ++ fr.map (·.1)) C s2 H2 fp) rfl rfl rfl hc i _ s3 τ H3 (fun _ _ => False) I3' (fpY fr3) st3 go) fun r s4 ⟨u, hr, h4⟩ => ?_
      subst hr
      refine thn h4 fun _ s5 ⟨x, H5, I5, r5, y5, st5, fr5⟩ => ?_
      have I5' := I5.pinned (fpY fr5) (T.obj _ _ st5)
      refine thn (hg _ _ _ _ _ s5 τ H5 x u _ I5' r5 (step x H5 y5)) fun _ s6 ⟨τ6, H6, I6, q6⟩ => ?_
      refine thn (ht _ _ _ _ _ s6 τ6 H6 _ I6 q6) fun b s7 ⟨H7, I7, q7⟩ => ?_
      have facts : ∀ {s8 : Shared} {H8 : Hp} {τ8 : St}, Inv (cxComp X scope (own ++ fr.map (·.1)) C s2 H2 fp) ([(D, { cls := .type "list", data := .seq its.toArray k })] ++ pinsAt fp s5.heap) τ8 H8 s8 →
          tn (i + 1) s8.heap ∧ (∀ b ∈ fp, H8 b = none) ∧ H8 D = none ∧ s8.heap.get? D = some { cls := .type "list", data := .seq its.toArray k } := fun {s8 H8 τ8} I8 => by
        have hp : ∀ b ∈ fp, ∀ o, s5.heap.get? b = some o → s8.heap.get? b = some o ∧ H8 b = none := fun b hb o e => by
          have q := I8.pin (b, o) (List.mem_append_right _ (List.mem_append_right _ (mem_pinsAt hb e)))
          exact ⟨q.1, q.2.1⟩
        have qD := I8.pin (D, { cls := .type "list", data := .seq its.toArray k }) (List.mem_append_right _ (List.mem_append_left _ (List.mem_singleton.mpr rfl)))
        refine ⟨T.keep _ _ _ st5 fun b hb o e => (hp b hb o e).1, fun b hb => ?_, qD.2.1, qD.1⟩
        obtain ⟨o, e, _⟩ := T.obj _ _ st5 b hb
        exact (hp b hb o e).2
      cases b with
      | false =>
        have q7 : ∃ m', m' < n ∧ W (i + 1) m' τ6 acc H7 := q7
        obtain ⟨m', hm, w7⟩ := q7
        obtain ⟨z1, z2, z3, z4⟩ := facts I7
        exact ⟨m', hm, i + 1, τ6, acc, H7, its, k, I7.pins_of fun p hp => absurd hp (by simp), z1, z2, z3, rv, z4, hz, w7⟩
      | true =>
        refine thn (he _ _ _ _ _ s7 τ6 H7 _ I7 q7) fun u8 s8 ⟨y, H8, I8, r8, m', hm, w8⟩ => ?_
        obtain ⟨z1, z2, z3, z4⟩ := facts I8
        have hl := rv.length
        refine call_meets F.slot_list_append ⟨_, z4, rfl⟩ F.entry_list_append (F.args_list_append_2 _ _) (PySem.list_append D its.toArray k u8 (by rw [List.size_toArray]; omega)) ⟨z4, ?_⟩
        have z5 := PySem.IsL.update z4 (·.push u8)
        have z6 : its.toArray.push u8 = (its ++ [u8]).toArray := by simp
        rw [z6] at z5
        have kk : ∀ b o, b ≠ D → s8.heap.get? b = some o → (s8.heap.update D (Obj.mapSeq (·.push u8))).get? b = some o := fun b o hb e => (Heap.get?_update_other s8.heap (Obj.mapSeq (·.push u8)) (Ne.symm hb)).trans e
        have I8' : Inv (cxComp X scope (own ++ fr.map (·.1)) C s2 H2 fp) [] τ6 H8 s8 := I8.pins_of fun p hp => absurd hp (by simp)
        refine ⟨m', hm, i + 1, τ6, acc ++ [y], H8, its ++ [u8], _, I8'.turned (it := D) kk z3 hDC (.inr (by show s2.heap.objs.size ≤ D; omega)) (fun y c e => Nat.ne_of_lt (cellLt y c (hcl y c e))) (fun p hp => absurd (show p ∈ ([] : List (Addr × Obj)) from hp) (by simp)), ?_, z2, z3,
          rv.append (.cons r8 .nil), z5, ?_, w8⟩
        · exact T.keep _ _ _ z1 fun b hb o e => kk b o (fun z => hDfp (z ▸ hb)) e
        · rw [List.length_append, List.length_singleton]; omega
  exact codeAny_compStart_list (loop _ rfl) (T.self X.A 0 _ _ _ (T.keep _ _ _ st2 fun b _ o e => old b o e) (loop _ rfl))
end
section
variable {X : Cx}
theorem pe_comp1 {iter elt : Expr} {ifs : List Expr} {scope osc : Scope} {wi : TI} {tt : TT} {te : TE} {x : Str} {px : Pos} {pos : Pos} (fr : List (Str × Nat))
    (hc : X.calm = true) (hi : PI X (.Name x px) iter wi) (ho : X.env.scope = osc)
    (hk : scope.kind = .function) (hcell : ∀ y ∈ scope.names, y.2 ≠ .cell) (hnames : ∀ y ∈ scope.names, y.2 = .local → scope.names.lookup y.1 = some .local)
    (hfree : ∀ y ∈ scope.names, y.2 = .free → osc.names.lookup y.1 = some .cell ∨ osc.names.lookup y.1 = some .free) (hfr : FrOk X scope fr)
    (hx : scope.names.lookup x = some .local) (hnd : (x :: fr.map (·.1)).Nodup)
    (ht : ∀ C s H ex, PTs (cxComp X scope (x :: fr.map (·.1)) C s H ex) ifs tt)
    (he : ∀ C s H ex, PE (cxComp X scope (x :: fr.map (·.1)) C s H ex) elt te)
    (hs : ∀ x, foldedSetIterable iter X.env x = pure x := by intro _; rfl) :
    PE X (.ListComp elt [⟨.Name x px, iter, ifs, 0⟩] scope pos) (tComp 1 (fr.map (·.2)) wi (gName 0) tt te) :=
  pe_comp (own := [x]) hc hi hk hcell hnames (fun y hy e => by show X.env.scope.names.lookup y.1 = _ ∨ X.env.scope.names.lookup y.1 = _; rw [ho]; exact hfree y hy e) hfr
    (fun C s H ex => pg_name (i := 0) hnd rfl (.inl (lookup_relabel_local hx)) (.inr (lookup_relabel_local hx))) ht he hs
end
def Its (z : Str) : It := ⟨fun i _ => i < z.cps.size, fun i H x H' => H' = H ∧ ∃ c, z.cps[i]? = some c ∧ x = .str ⟨#[c]⟩, fun i _ => z.cps.size ≤ i⟩
section
variable {X : Cx} {tg : Expr}
end
section
variable {X : Cx}
def rSlS : V → Option Int → Option Int → Hp → VK → Prop := fun x lo hi H Q => ∃ z, x = .str z ∧ z.length ≤ sizeLine ∧ Q (.str (Txt.slice z lo hi)) H
theorem part_of {v : Value} {o : Option Int} (p : IsPart v o) : ∃ l : Option (Int × Tok), v = partValue l ∧ l.map (·.1) = o := by
  cases p with
  | none => exact ⟨none, rfl, rfl⟩
  | int i t => exact ⟨some (i, t), rfl, rfl⟩
theorem sl_str : SlR X rSlS := by
  intro pins s σ H x v vl vu lo hi sl Q I rx hs pl pu h
  obtain ⟨z, rfl, hz, q⟩ := h
  obtain ⟨t, rfl⟩ := rx
  obtain ⟨l, rfl, rfl⟩ := part_of pl
  obtain ⟨u, rfl, rfl⟩ := part_of pu
  exact ⟨"str", _, F.slot_str_getitem.lookup, typeIs_str _ _ _, wpAny_getItem_str_slice (l := l) (u := u) (st := none) hs rfl
    (post_val_or_str ⟨Nat.le_trans (Txt.slice_le z _ _) hz, fun t' k => ⟨.str _, H, I.tok _, ⟨_, rfl⟩, q⟩⟩)⟩
theorem call_isinst {K : PySem.W.Frag} (hK : X.K = K := by rfl) : CallR X (.builtin "isinstance") (fun xs H Q => ∃ x n t b, xs = [x, .ty n] ∧ TyOf K H x t ∧ PySem.W.kitOne K t (.type n) = some b ∧ Q (.bl b) H) := by
  subst hK
  intro pins s σ H xs us Q I r h
  obtain ⟨x, n, t, b, rfl, ty, e, q⟩ := h
  obtain ⟨u, w', rfl, rx, rn⟩ := vals2 r
  cases (show w' = Value.type n from rn)
  exact isinst_ok I rx ty e fun tk => ⟨.bl b, H, I.tok _, rfl, q⟩
end
mutual
inductive Dv (K : PySem.W.Frag) (H : Hp) : V → PyData → Prop where
  | non : Dv K H .non .none
  | bl (b : Bool) : Dv K H (.bl b) (.bool b)
  | int (i : Int) : Dv K H (.int i) (.int i)
  | str (x : Str) : Dv K H (.str x) (.str x)
  | lst {a : Addr} {xs : List V} {ds : List PyData} : SqL K H a xs → Dvs K H xs ds → Dv K H (.ref a) (.list ds)
  | tup {a : Addr} {xs : List V} {ds : List PyData} : SqT K H a xs → Dvs K H xs ds → Dv K H (.ref a) (.tuple ds)
inductive Dvs (K : PySem.W.Frag) (H : Hp) : List V → List PyData → Prop where
  | nil : Dvs K H [] []
  | cons {x : V} {d : PyData} {xs : List V} {ds : List PyData} : Dv K H x d → Dvs K H xs ds → Dvs K H (x :: xs) (d :: ds)
end
section
variable {X : Cx} {pins : List (Addr × Obj)} {σ : St} {H : Hp} {s : Shared}
mutual
theorem Dv.reads (I : Inv X pins σ H s) : ∀ {x : V} {d : PyData} {u : Value}, Dv X.K H x d → RelV x u → ∃ as, Reads s.heap u d as
  | _, _, _, .non, r => by cases (show _ = Value.none from r); exact ⟨_, .none⟩
  | _, _, _, .bl b, r => by cases (show _ = Value.bool b from r); exact ⟨_, .bool b⟩
  | _, _, _, .int i, r => by obtain ⟨t, rfl⟩ := r; exact ⟨_, .int i t⟩
  | _, _, _, .str x, r => by obtain ⟨t, rfl⟩ := r; exact ⟨_, .str x t⟩
  | _, _, _, .lst hq ds, r => by
    cases r
    obtain ⟨its, rv, pl, _⟩ := I.list hq
    obtain ⟨as, q⟩ := Dvs.reads I ds rv
    obtain ⟨o, e, c, n, d⟩ := pl.isList
    exact ⟨_, .list e c d (by simpa using q)⟩
  | _, _, _, .tup hq ds, r => by
    cases r
    obtain ⟨its, rv, pl, _⟩ := I.tuple hq
    obtain ⟨as, q⟩ := Dvs.reads I ds rv
    obtain ⟨o, e, c, n, d⟩ := pl
    exact ⟨_, .tuple e c d (by simpa using q)⟩
theorem Dvs.reads (I : Inv X pins σ H s) : ∀ {xs : List V} {ds : List PyData} {us : List Value}, Dvs X.K H xs ds → Vals xs us → ∃ as, ReadsAll s.heap us ds as
  | _, _, _, .nil, r => by cases r; exact ⟨_, .nil⟩
  | _, _, _, .cons d ds, r => by
    cases r with
    | cons r1 r2 =>
      obtain ⟨as, q⟩ := Dv.reads I d r1
      obtain ⟨bs, p⟩ := Dvs.reads I ds r2
      exact ⟨_, .cons q p⟩
end
end
section
variable {X : Cx}
def rNeD (K : PySem.W.Frag) : R2 := fun x y H Q => ∃ d e, Dv K H x d ∧ Dv K H y e ∧ SeqAt.shaped d = true ∧ SeqAt.shaped e = true ∧ Q (.bl (!PyData.eqv d e)) H
theorem op_neD {K : PySem.W.Frag} (hu : X.A.units + 64 < cLine) (hK : X.K = K := by rfl) : OpR X (compareOp .NotEq) (rNeD K) := by
  subst hK
  intro pins s σ H x y v u Q I rx ry h
  obtain ⟨d, e, hd, he, sd, se, q⟩ := h
  obtain ⟨as, r1⟩ := hd.reads I rx
  obtain ⟨bs, r2⟩ := he.reads I ry
  exact ne_dataH r1 r2 sd se hu ⟨.bl _, H, I, rfl, q⟩
theorem dvs_ints {K : PySem.W.Frag} {H : Hp} : ∀ ys : List Int, Dvs K H (ys.map V.int) (ys.map PyData.int)
  | [] => .nil
  | y :: r => .cons (.int y) (dvs_ints r)
end
section
variable {X : Cx}
end
theorem atI_mod {α : Type} (xs : List α) (n : Int) (hn : (xs.length : Int) = n) (h0 : 0 < n) (c : Int) : ∃ v, atI xs (c % n) = some v ∧ v ∈ xs := by
  have h1 : 0 ≤ c % n := Int.emod_nonneg _ (by omega)
  have h2 : c % n < n := Int.emod_lt_of_pos _ h0
  obtain ⟨j, hj⟩ := Int.eq_ofNat_of_zero_le h1
  have hlt : j < xs.length := by omega
  refine ⟨xs[j], ?_, List.getElem_mem hlt⟩
  rw [hj]
  exact atI_nat (List.getElem?_eq_getElem hlt)
theorem iteB {c : Bool} {A B : Prop} (h1 : c = true → A) (h2 : c = false → B) : if c = true then A else B := by
  cases c with
  | true => exact iteT (h1 rfl)
  | false => exact iteF (h2 rfl)
theorem Same.upd {H H' : Hp} {a : Addr} {o : HO} (e : Same H H') (h : H' a = none) : Same H (upd H' a o) := fun b u q => by
  rw [upd_ne (ne_of_none (e b u q) h)]
  exact e b u q
section
variable {X : Cx} {K : PySem.W.Frag}
theorem ix_listK (hK : X.K = K := by rfl) : IxR X (rIxL K) := by subst hK; exact ix_list
theorem ix_tupK (hK : X.K = K := by rfl) : IxR X (rIxT K) := by subst hK; exact ix_tup
theorem sl_listK (hK : X.K = K := by rfl) : SlR X (rSlL K) := by subst hK; exact sl_list
theorem sl_tupK (hK : X.K = K := by rfl) : SlR X (rSlT K) := by subst hK; exact sl_tup
theorem op_in_seqK (hK : X.K = K := by rfl) : OpR X (compareOp .In) (rIn K false) := by subst hK; exact op_in_seq
theorem op_notIn_seqK (hK : X.K = K := by rfl) : OpR X (compareOp .NotIn) (rIn K true) := by subst hK; exact op_notIn_seq
theorem op_catTK (hK : X.K = K := by rfl) : OpR X (binaryOp .Add) (rCatT K) := by subst hK; exact op_catT
theorem call_len_seqK (hK : X.K = K := by rfl) : CallR X (.builtin "len") (fun xs H Q => ∃ p ys, xs = [.ref p] ∧ (SqL K H p ys ∨ SqT K H p ys) ∧ Q (.int ys.length) H) := by subst hK; exact call_len_seq
theorem call_list_ofK (hK : X.K = K := by rfl) : CallR X (.type "list") (fun xs H Q => ∃ p ys, xs = [.ref p] ∧ (SqL K H p ys ∨ SqT K H p ys) ∧ ∀ l, H l = none → Q (.ref l) (upd H l (.lst ys))) := by subst hK; exact call_list_of
theorem pi_listK {tg l : Expr} {tl : TE} (hl : PE X l tl) (hK : X.K = K := by rfl) : PI X tg l (iList K tl) := by subst hK; exact pi_list hl
theorem pe_bmK {o e : Expr} {es : List Expr} {to : TE} {t : TA} {name : Str} {apos cpos : Pos} {T id : String} {r : V → List V → Hp → VK → Prop} (pa : PlainAttrs T) (slot : Slot T name id) (hty : typeOf (.builtin id) = pure (.type "method_descriptor")) (hm : MtR X id r) (ho : PE X o to) (ha : PA X (e :: es) t)
    (hK : X.K = K := by rfl) (hbase : attributeBase o name X.env (eval o X.env) = eval o X.env := by rfl)
    (hfew : ((backTo cpos (starEach (e :: es) X.env)).all (fun x => !x.1) && (backToKw cpos (keywordEach [] X.env)).all (fun x => x.1.isSome)
      && decide ((e :: es).length + ([] : List Keyword).length + (if ([] : List Keyword).isEmpty then 0 else 1) < 30)) = true := by rfl)
    (hline : (apos.endLine == cpos.line) = true := by rfl) (hs : starEach (e :: es) X.env = (false, eval e X.env) :: starEach es X.env := by rfl) (hplain : (backTo cpos (starEach es X.env)).any (·.1) = false := by rfl) :
    PE X (.Call (.Attribute o name apos) (e :: es) [] cpos) (tBM K T r to t) := by
  subst hK; exact pe_bm pa slot hty hm ho ha hbase hfew hline hs hplain
end
section
variable {X : Cx} {K : PySem.W.Frag}
end
end L2
namespace Rev
open PySem PySem.Builtin PySem.Builtin.Str PySem.Builtin.Int
section
variable {prog : Program} {w : World} {A : Around} {R : Result → Shared → Prop} {I : Addr} {fp wr : List Addr} {G : Array GenState → Array GenState → Prop} {n : Nat} {P : Nat → Value → Prop} {St : Nat → Shared → Prop} {Live : Shared → Prop}
end
section
variable {prog : Program} {w : World} {A : Around} {E : Value → Shared → Prop} {s : Shared}
end
section
variable {prog : Program} {w : World} {A : Around} {E : Value → Shared → Prop} {s : Shared} {I : Addr} {fp wr : List Addr} {G : Array GenState → Array GenState → Prop} {n : Nat} {P : Nat → Value → Prop} {St : Nat → Shared → Prop} {Live : Shared → Prop}
end
end Rev
namespace Rev
open PySem PySem.Builtin PySem.Builtin.Str PySem.Builtin.Int
section
variable {prog : Program} {w : World} {A : Around} {E : Value → Shared → Prop} {s : Shared} {x : Str} {t : Tok} {Q : Value → Shared → Prop} {I : Addr} {fp wr : List Addr} {G : Array GenState → Array GenState → Prop} {n : Nat} {P : Nat → Value → Prop} {St : Nat → Shared → Prop} {Live : Shared → Prop}
end
end Rev
namespace L2
open PySem PySem.Spec PyProof.Rows
section
variable {X : Cx} {K : PySem.W.Frag}
end
end L2
namespace Att
open PySem PySem.W PySem.Calls PyProof.Rows
end Att
namespace L2
open PySem PySem.Spec PyProof.Rows
end L2
namespace L2
open PySem PySem.Spec PyProof.Rows
section
variable {X : Cx} {K : PySem.W.Frag}
def rNeNil (K : PySem.W.Frag) : R2 := fun x y H Q => ∃ a b xs, x = .ref a ∧ y = .ref b ∧ SqL K H a xs ∧ SqL K H b [] ∧ Q (.bl (!xs.isEmpty)) H
theorem op_neNil (hu : X.A.units < cLine) (hK : X.K = K := by rfl) : OpR X (compareOp .NotEq) (rNeNil K) := by
  subst hK
  intro pins s σ H x y v u Q I rx ry h
  obtain ⟨a, b, xs, rfl, rfl, ha, hb, q⟩ := h
  cases rx
  cases ry
  obtain ⟨its, r1, p1, _⟩ := I.list ha
  obtain ⟨its2, r2, p2, _⟩ := I.list hb
  cases r2
  have hl := r1.length
  cases xs with
  | nil =>
    cases r1
    exact SeqAt.RcNeAt.lists (e := fun _ => true) p1.isList p2.isList rfl hu (fun j h1 _ => absurd h1 (by simp)) _ _ _ _ ⟨.bl false, H, I, rfl, q⟩
  | cons x r =>
    refine SeqAt.RcNeAt.lists_lengths p1.isList p2.isList ?_ hu _ _ _ _ ⟨.bl true, H, I, rfl, q⟩
    rw [List.size_toArray, ← hl]
    rfl
end
end L2
namespace Fig
open PySem
end Fig
namespace L2
end L2
namespace L2
open PySem PySem.Spec PyProof.Rows
def FzD (w : World) (K : PySem.W.Frag) (a : Addr) (kvs : List (Key × V)) : Prop :=
  (a == sysModules) = false ∧ ∃ (o : Obj) (es : Array DictEntry) (ep : Nat), K.lookup a = some o ∧ o.ExactDict ∧ o.data = .dict es ep ∧
    Paired (fun (p : Key × V) (e : DictEntry) => keyIs p.1 e.key = true ∧ e.hash = keyH w p.1 ∧ RelV p.2 e.val) kvs es.toList ∧ (kvs.map (·.1)).Nodup
theorem fz_pairs {P : Program} {w : World} : ∀ {kvs : List (Key × V)} {es : List DictEntry}, Paired (fun (p : Key × V) (e : DictEntry) => keyIs p.1 e.key = true ∧ e.hash = keyH w p.1 ∧ RelV p.2 e.val) kvs es →
    ∃ vs : List (Key × Value), KV kvs vs ∧ Pairs (mixKind P w) es vs ∧ vs.map (·.1) = kvs.map (·.1) ∧ ∀ e ∈ es, ∃ k, (mixKind P w).is k e.key = true ∧ e.hash = (mixKind P w).hash k
  | [], _, r => by cases r; exact ⟨[], .nil, .nil, rfl, fun e h => nomatch h⟩
  | p :: kvs, _, r => by
    cases r with
    | @cons a b as bs h t =>
      obtain ⟨vs, q1, q2, q3, q4⟩ := fz_pairs (P := P) t
      refine ⟨(p.1, b.val) :: vs, .cons ⟨rfl, h.2.2⟩ q1, .cons h.1 rfl q2, by rw [List.map_cons, List.map_cons, q3], fun e he => ?_⟩
      rcases List.mem_cons.mp he with rfl | he
      · exact ⟨p.1, h.1, h.2.1⟩
      · exact q4 e he
theorem Inv.fz {X : Cx} {pins : List (Addr × Obj)} {σ : St} {H : Hp} {s : Shared} {a : Addr} {kvs : List (Key × V)} (I : Inv X pins σ H s) (d : FzD X.w X.K a kvs) :
    (a == sysModules) = false ∧ ∃ vs, KV kvs vs ∧ s.heap.DictOf (mixKind X.prog X.w) a vs := by
  obtain ⟨hd, o, es, ep, hk, hx, he, hp, hn⟩ := d
  obtain ⟨vs, q1, q2, q3, q4⟩ := fz_pairs (P := X.prog) hp
  exact ⟨hd, vs, q1, o, es, ep, I.kIn a o hk, hx, he, fun e hm => q4 e (Array.mem_toList_iff.mpr hm), q2, by rw [q3]; exact hn⟩
section
variable {X : Cx} {K : PySem.W.Frag} {w : World} {o i : Expr} {pos : Pos} {td ty : TE}
end
end L2
namespace L2
open PySem PySem.Spec PyProof.Rows
inductive F2 (Pr : V → V → Prop) : List V → List V → Prop where
  | nil : F2 Pr [] []
  | cons {x y : V} {xs ys : List V} (h : Pr x y) (t : F2 Pr xs ys) : F2 Pr (x :: xs) (y :: ys)
theorem F2.snoc {Pr : V → V → Prop} : ∀ {xs ys : List V} {x y : V}, F2 Pr xs ys → Pr x y → F2 Pr (xs ++ [x]) (ys ++ [y])
  | [], _, _, _, h, p => by cases h; exact .cons p .nil
  | a :: xs, _, _, _, h, p => by
    cases h with
    | cons q t => exact .cons q (t.snoc p)
theorem F2.len {Pr : V → V → Prop} : ∀ {xs ys : List V}, F2 Pr xs ys → xs.length = ys.length
  | [], _, h => by cases h; rfl
  | a :: xs, _, h => by
    cases h with
    | cons q t => simp [t.len]
theorem F2.map {f : V → V} : ∀ {xs ys : List V}, F2 (fun x y => y = f x) xs ys → ys = xs.map f
  | [], _, h => by cases h; rfl
  | a :: xs, _, h => by
    cases h with
    | cons q t => rw [q, t.map]; rfl
theorem Room.u1 {k : Nat} {A : Around} (r : Room k A) : A.units + 1 < cLine := by have := r.un; omega
def Itd (lo d : Int) (n : Nat) : It := ⟨fun i _ => i < n, fun i H x H' => H' = H ∧ x = .int (lo + (i : Int) * d), fun i _ => n ≤ i⟩
theorem turn_rangeD {P : Program} {w : World} {K : PySem.W.Frag} {tg : Expr} (it : Addr) (lo d : Int) (n : Nat) : Turn P w K tg (Itd lo d n) [it] it (fun i h => IsRangeIter h it (lo + (i : Nat) * d) ((n : Int) - (i : Nat)) d) where
  mem := by simp
  obj := fun i h st b hb => by
    have e : b = it := by simpa using hb
    subst e
    exact ⟨_, st, fun v z => by
      have z' : Data.fields _ = Data.cell v := z
      cases z'⟩
  keep := fun i h h' st k => k it (by simp) _ st
  item := by
    intro X hP hw hK hc i pins s σ H E I hf st hg
    subst hP hw hK
    obtain ⟨f0, f1, f2, f3, f4, f5⟩ := hf it (by simp)
    have W := Walks.range (prog := X.prog) (w := X.w) (I.ok.hd hc) it lo d n
    refine W.item i s _ _ hg st fun v h' tk hv st' kk => ?_
    obtain ⟨t, rfl⟩ := hv
    have I1 : Inv X pins σ H { s with heap := h', toks := tk } := I.turned (fun b o hb e => kk b o (by simpa using hb) e) f0 f1 f3 f4 f5
    exact ⟨_, rfl, go_of (s := { s with heap := h', toks := tk }) (n := "range_iterator") st' rfl rfl (by decide) ⟨.int (lo + (i : Int) * d), H, I1, ⟨t, rfl⟩, ⟨rfl, rfl⟩, st', fun b hb => (hf b hb).1⟩⟩
  done := by
    intro X hP hw hK hc i pins s σ H E I hf st hg
    subst hP hw hK
    obtain ⟨f0, f1, f2, f3, f4, f5⟩ := hf it (by simp)
    exact wpAny_pyNext_range_end (I.ok.hd hc) st (by have : n ≤ i := hg; omega) fun h' eb => ⟨rfl, I.turned (t' := s.toks) (fun b o hb e => eb b o hb e) f0 f1 f3 f4 f5⟩
  self := fun _ _ _ _ _ st h => wpAny_pyIter_rangeiter st h
def turnsD (lo hi d : Int) : Nat := if lo < hi then ((hi - lo - 1) / d + 1).toNat else 0
theorem sizeD {lo hi d : Int} (hd : 1 ≤ d) : Builtin.Range.rangeSize lo hi d = (turnsD lo hi d : Int) := by
  unfold Builtin.Range.rangeSize turnsD
  rw [if_pos (by omega)]
  split
  · have : 0 ≤ (hi - lo - 1) / d := Int.ediv_nonneg (by omega) (by omega)
    omega
  · rfl
theorem turnsD_le {lo hi d : Int} (hd : 1 ≤ d) : (turnsD lo hi d : Int) ≤ (if lo < hi then hi - lo else 0) := by
  unfold turnsD
  split
  · have h1 : 0 ≤ (hi - lo - 1) / d := Int.ediv_nonneg (by omega) (by omega)
    have h2 : (hi - lo - 1) / d ≤ hi - lo - 1 := Int.ediv_le_self _ (by omega)
    omega
  · exact Int.le_refl 0
theorem smallD {a b c : Int} (hc1 : 1 ≤ c) (hc2 : c < 1000000) (ha : -(2 ^ 40) ≤ a) (ha' : a < 2 ^ 40) (hb : -(2 ^ 40) ≤ b) (hb' : b < 2 ^ 40) : Builtin.Range.small a b c = true := by
  have h := turnsD_le (lo := a) (hi := b) hc1
  have hs := sizeD (lo := a) (hi := b) hc1
  unfold Builtin.Range.small
  have h2 : (turnsD a b c : Int) ≤ 2 ^ 42 := by split at h <;> omega
  have h3 : (turnsD a b c : Int) * c ≤ 2 ^ 42 * 1000000 := Int.mul_le_mul h2 (by omega) (by omega) (by omega)
  have h4 : 0 ≤ (turnsD a b c : Int) * c := Int.mul_nonneg (by omega) (by omega)
  have h5 : 0 ≤ c * (turnsD a b c : Int) := Int.mul_nonneg (by omega) (by omega)
  have h6 : c * (turnsD a b c : Int) ≤ 2 ^ 42 * 1000000 := by rw [Int.mul_comm]; exact h3
  rw [hs]
  simp only [Builtin.Range.rangeFitsLong, Bool.and_eq_true, Bool.or_eq_true, decide_eq_true_eq, beq_iff_eq, show c > 0 by omega, if_true]
  generalize (turnsD a b c : Int) * c = A at *
  generalize c * (turnsD a b c : Int) = B at *
  refine ⟨?_, ?_⟩ <;> omega
section
variable {X : Cx} {tg : Expr}
theorem range_itD {pins : List (Addr × Obj)} {σ : St} {H : Hp} {s : Shared} {R : It → Hp → Prop} {E : Value → Shared → Prop} {lo hi d : Int} {t u v : Tok} {tk : Nat} (I : Inv X pins σ H s) (d1 : 1 ≤ d) (d2 : d < 1000000) (h1 : -(2 ^ 40) ≤ lo) (h2 : lo < 2 ^ 40) (h3 : -(2 ^ 40) ≤ hi) (h4 : hi < 2 ^ 40)
    (q : R (Itd lo d (turnsD lo hi d)) H) : wpAny (model X.prog X.w) X.A (pyIter (.ref s.heap.objs.size)) (PIE X pins σ tg R) E { s with heap := s.heap.push { cls := .type "range", data := .fields #[.int lo t, .int hi u, .int d v] }, toks := tk } := by
  refine wpAny_pyIter_range (IsRange.new ..) (smallD d1 d2 h1 h2 h3 h4) ?_
  have I1 : Inv X pins σ H { s with heap := s.heap.push { cls := .type "range", data := .fields #[.int lo t, .int hi u, .int d v] }, toks := tk } := I.kept fun b o e => Heap.get?_push_of_some _ e
  refine ⟨(s.heap.push { cls := .type "range", data := .fields #[.int lo t, .int hi u, .int d v] }).objs.size, [(s.heap.push { cls := .type "range", data := .fields #[.int lo t, .int hi u, .int d v] }).objs.size], _, _, H, rfl,
    I1.kept (t' := tk) fun b o e => Heap.get?_push_of_some _ e, turn_rangeD _ lo d (turnsD lo hi d), ?_, fun b hb => ?_, q⟩
  · have e1 : lo + ((0 : Nat) : Int) * d = lo := by simp
    have e2 : ((turnsD lo hi d : Nat) : Int) - ((0 : Nat) : Int) = Builtin.Range.rangeSize lo hi d := by rw [sizeD d1]; omega
    show IsRangeIter _ _ (lo + ((0 : Nat) : Int) * d) (((turnsD lo hi d : Nat) : Int) - ((0 : Nat) : Int)) d
    rw [e1, e2]
    exact Heap.get?_push_size _ rfl
  · have e : b = (s.heap.push { cls := .type "range", data := .fields #[.int lo t, .int hi u, .int d v] }).objs.size := by simpa using hb
    subst e
    exact I1.fpOk (Nat.le_refl _) (I1.hok.fresh (Nat.le_refl _))
def iRng3 (ta : TA) : TI := fun σ H R => ta σ H fun vs H1 => ∃ i j d : Int, vs = [.int i, .int j, .int d] ∧ (1 ≤ d ∧ d < 1000000 ∧ -(2 ^ 40) ≤ i ∧ i < 2 ^ 40 ∧ -(2 ^ 40) ≤ j ∧ j < 2 ^ 40) ∧ R (Itd i d (turnsD i j d)) H1
theorem pi_range3 {a b c : Expr} {ta : TA} {p pos : Pos} (hg : Gl X "range") (hm : X.mg "range" = none) (ha : PA X [a, b, c] ta) (hs : starEach [a, b, c] X.env = [(false, eval a X.env), (false, eval b X.env), (false, eval c X.env)] := by rfl) (hs2 : starEach [b, c] X.env = [(false, eval b X.env), (false, eval c X.env)] := by rfl) :
    PI X tg (.Call (.Name "range" p) [a, b, c] [] pos) (iRng3 ta) := by
  intro pins s σ H R I h
  refine Call_ (ld_blt I hg hm boot_range (PyProof.Rows.callWith_type1 (thn (ha pos pins s σ H _ I h) fun us s1 ⟨vs, H1, I1, r1, q1⟩ => ?_) (by rw [hs, hs2]) (by rw [hs2]; rfl)))
  obtain ⟨i, j, d, e, ⟨d1, d2, q1, q2, q3, q4⟩, q⟩ := q1
  subst e
  cases r1 with
  | cons r rr =>
    cases rr with
    | cons r' rr =>
      cases rr with
      | cons r2 rr =>
        cases rr
        obtain ⟨t, rfl⟩ := r
        obtain ⟨t', rfl⟩ := r'
        obtain ⟨t2, rfl⟩ := r2
        exact call_range_3 (by omega) (range_itD I1 d1 d2 q1 q2 q3 q4 q) (.inl (PyProof.noPylong_small (by omega)))
end
theorem for_rangeD {lo d : Int} {n : Nat} {g : TG} {tb : TS} {D : Ends} {σ : St} {H : Hp} (Pv : Nat → St → Hp → Prop) (h0 : Pv 0 σ H)
    (hs : ∀ i σ H, i < n → Pv i σ H → g (.int (lo + (i : Int) * d)) σ H fun σ2 H2 => tb { D with nx := Pv (i + 1), ct := Pv (i + 1), bk := D.nx } σ2 H2) (hd : ∀ σ H, Pv n σ H → D.nx σ H) :
    ∃ W : Nat → Nat → St → Hp → Prop, (∃ m, W 0 m σ H) ∧ ∀ i m σ H, W i m σ H →
      ((Itd lo d n).stop i H ∧ D.nx σ H) ∨ ((Itd lo d n).go i H ∧ ∃ N : St → Hp → Prop, (∀ σ' H', N σ' H' → ∃ m', m' < m ∧ W (i + 1) m' σ' H') ∧ ∀ x H', (Itd lo d n).yld i H x H' → g x σ H' fun σ2 H2 => tb { D with nx := N, ct := N, bk := D.nx } σ2 H2) := by
  refine ⟨fun i m σ H => m = n - i ∧ i ≤ n ∧ Pv i σ H, ⟨n, by simp, Nat.zero_le _, h0⟩, ?_⟩
  rintro i m σ H ⟨rfl, hi, p⟩
  by_cases hlt : i < n
  · refine .inr ⟨hlt, Pv (i + 1), fun σ' H' p' => ⟨n - (i + 1), by omega, rfl, hlt, p'⟩, fun x H' y => ?_⟩
    obtain ⟨e, y⟩ := y
    subst e y
    exact hs i σ _ hlt p
  · have e : i = n := by omega
    subst e
    exact .inl ⟨Nat.le_refl _, hd σ H p⟩
section
variable {X : Cx}
end
end L2
namespace L2
open PySem PySem.Spec PyProof.Rows
section
variable {X : Cx}
theorem ps_compU {tg iter elt : Expr} {ifs : List Expr} {scope : Scope} {wi : TI} {g : TG} {tt : TT} {te : TE} {own : List Str} {fr : List (Str × Nat)} {pos spos py : Pos} {iy : Nat} {y : Str}
    (hN : X.N.Nodup) (hiy : X.N[iy]? = some y) (hxy : Loc X.env.scope y) (hfy : X.fn y = true ∨ X.env.scope.names.lookup y = some .local)
    (hc : X.calm = true) (hi : PI X tg iter wi)
    (hk : scope.kind = .function) (hcell : ∀ y ∈ scope.names, y.2 ≠ .cell) (hnames : ∀ y ∈ scope.names, y.2 = .local → scope.names.lookup y.1 = some .local)
    (hfree : ∀ y ∈ scope.names, y.2 = .free → X.env.kindOf y.1 = some .cell ∨ X.env.kindOf y.1 = some .free) (hfr : FrOk X scope fr)
    (hg : ∀ C s H ex, PG (cxComp X scope (own ++ fr.map (·.1)) C s H ex) tg g)
    (ht : ∀ C s H ex, PTs (cxComp X scope (own ++ fr.map (·.1)) C s H ex) ifs tt)
    (he : ∀ C s H ex, PE (cxComp X scope (own ++ fr.map (·.1)) C s H ex) elt te)
    (hsw : swapsWith (.ListComp elt [⟨tg, iter, ifs, 0⟩] scope pos) (some (.Name y py)) spos.line X.env = pure true)
    (hs : ∀ x, foldedSetIterable iter X.env x = pure x := by intro _; rfl) :
    PS X (.Assign [.Name y py] (.ListComp elt [⟨tg, iter, ifs, 0⟩] scope pos) spos) (tAsg (tComp own.length (fr.map (·.2)) wi g tt te) (gName iy)) := by
  intro pins s σ H D0 I h
  let Q : VK := fun v H1 => D0.nx (σ.set iy (some v)) H1
  have h : tComp own.length (fr.map (·.2)) wi g tt te σ H Q := h
  rw [exec_Assign_Name_used _ _ _ _ hsw]
  refine wpAny_bind (wpAny_standAt (wpAny_bind ?_))
  show wpAny _ X.A (do let _ ← comprehension (.ListComp elt [⟨tg, iter, ifs, 0⟩] scope pos) scope X.env _ (newList []) false (eval iter X.env) (some (assign (.Name y py) X.env))) _ _ s
  have hcl : ∀ y c, (closOf X.env scope.names).lookup y = some c → X.env.cells.lookup y = some c := fun y c e => by
    rcases clos_some scope.names [] e with q | ⟨q, z⟩
    · simp at q
    · obtain ⟨c', e'⟩ := I.ok.has y (hfree _ q rfl)
      rw [e'] at z
      rw [e', ← z]
      rfl
  have hclos : closureFor scope X.env = pure (closOf X.env scope.names) := closureFor_of fun y hy e => I.ok.has y.1 (hfree y hy e)
  refine wpAny_bind (wpAny_mono (wpAny_comprehension_free (use := some (assign (.Name y py) X.env)) (cl := closOf X.env scope.names) (Q := fun _ s' => SP X pins D0 .next s') rfl hs hclos hk hnames ?_) (fun _ s' hq => wpAny_pure (wpAny_pure hq)) fun _ _ e => e)
  refine thn (hi pins s σ H _ I h) fun v s1 h1 => thn h1 fun itv s2 h2 => ?_
  obtain ⟨it, fp, tn, J, H2, e, I2, T, st2, f2, W, ⟨m0, w0⟩, turn⟩ := h2
  subst e
  refine wpAny_newObj_type (wpAny_newFunctionEnv hcell (by intro y hy; simp at hy) (fun h₁ hns₁ hsb₁ => ?_) hk)
  dsimp only at hns₁ hsb₁ ⊢
  generalize hH2 : s2.heap.push { cls := .type "list", dict := none, data := .seq ([] : List Value).toArray } = HL at hns₁ hsb₁ ⊢
  have hC : HL.objs.size = s2.heap.objs.size + 1 := by rw [← hH2, Heap.size_push]
  generalize hCC : HL.objs.size = C at hns₁ hsb₁ hC ⊢
  have hDC : s2.heap.objs.size ≠ C := by rw [hC]; exact Nat.ne_of_lt (Nat.lt_succ_self _)
  have below : ∀ b, b < s2.heap.objs.size → b ≠ C ∧ b ≠ s2.heap.objs.size := fun b hb => ⟨by rw [hC]; exact Nat.ne_of_lt (Nat.lt_succ_of_lt hb), Nat.ne_of_lt hb⟩
  have old : ∀ b o, s2.heap.get? b = some o → h₁.get? b = some o := fun b o e => hsb₁.extBut b o (below b (Heap.lt_size e)).1 (Heap.get?_push_of_some _ (hH2 ▸ Heap.get?_push_of_some _ e))
  have eD0 : h₁.get? s2.heap.objs.size = some { cls := .type "list", data := .seq ([] : List Value).toArray } := hsb₁.extBut _ _ hDC (Heap.get?_push_of_some _ (hH2 ▸ Heap.get?_push_size _ rfl))
  have fpLt : ∀ b ∈ fp, b < s2.heap.objs.size := fun b hb => by
    obtain ⟨o, e, _⟩ := T.obj _ _ st2 b hb
    exact Heap.lt_size e
  generalize hD : s2.heap.objs.size = D at hDC below eD0 fpLt hC
  have hDfp : D ∉ fp := fun z => Nat.lt_irrefl _ (fpLt D z)
  have okY : (cxComp X scope (own ++ fr.map (·.1)) C s2 H2 fp).Ok := by
    refine ⟨I2.ok.mod, hk, I2.ok.glob, I2.ok.blt, by show s2.heap.objs.size ≤ C; omega, fun x y c e1 e2 => I2.ok.inj x y c (hcl x c e1) (hcl y c e2), fun y hy => ?_, fun x c z _ => (by cases z), I2.ok.hd, I2.ok.frames, .inl rfl, fun b hb => ⟨(below b (fpLt b hb)).1, fun y c e => ?_⟩, I2.bs,
      Nat.le_trans I2.ok.bsz I2.sz, fun b o e hb => ?_, fun b hb z => ?_, I2.stack, I2.stkFree⟩
    · exact clos_has scope.names [] (.inl (relabel_cell (env := X.env) hcell hy))
    · exact (f2 b hb).2.2.2.2.1 y c (hcl y c e)
    · rcases (f2 b hb).2.2.2.1 with z | z
      · exact I2.ok.noex b o e z
      · exact absurd (Nat.lt_of_lt_of_le (Heap.lt_size e) (Nat.le_trans I2.ok.bsz z)) (Nat.lt_irrefl _)
    · rcases List.mem_cons.mp (I2.stkSub b z) with q | q
      · exact (f2 b hb).2.1 q
      · exact (f2 b hb).2.2.1 q
  have cellLt : ∀ y c, X.env.cells.lookup y = some c → c < D := fun y c e => by
    obtain ⟨v, z⟩ := I2.cell y c e
    exact Nat.lt_of_lt_of_le z.lt (Nat.le_of_eq hD)
  have stkLt : ∀ b ∈ frs X.stack, b < D := fun b hb => by
    rcases List.mem_cons.mp (I2.stkSub b hb) with q | q
    · rw [q]; exact Nat.lt_of_lt_of_le I2.lt (Nat.le_of_eq hD)
    · obtain ⟨_, o, ho, _⟩ := I2.ok.funs.mem q
      exact Nat.lt_of_lt_of_le (Heap.lt_size ho) (Nat.le_trans I2.sz (Nat.le_of_eq hD))
  have fresh : ∀ a, D ≤ a → H2 a = none := fun a ha => I2.hok.fresh (Nat.le_trans (Nat.le_of_eq hD) ha)
  have IY : Inv (cxComp X scope (own ++ fr.map (·.1)) C s2 H2 fp) [] (List.replicate own.length none ++ (fr.map (·.2)).map (pick σ)) H2 { s2 with heap := h₁, toks := s2.toks + ([] : List (Str × Value)).length } := by
    refine ⟨okY, rfl, I2.bare, Un.kept old, ⟨_, hns₁, fun i y v e1 e2 e3 => ?_⟩, fun y c e => ?_, fresh C (by omega), fun y c e => I2.freeC y c (hcl y c e), fun p hp => absurd (show p ∈ ([] : List (Addr × Obj)) from hp) (by simp), I2.hok.kept old, ?_⟩
    · have e1 : (own ++ fr.map (·.1))[i]? = some y := e1
      have hi' : own.length ≤ i := by
        by_cases hlt : i < own.length
        · rw [List.getElem?_append_left (by simpa using hlt), List.getElem?_replicate, if_pos hlt] at e2
          cases e2
        · omega
      rw [List.getElem?_append_right hi', List.getElem?_map] at e1
      rw [List.getElem?_append_right (by simpa using hi'), List.getElem?_map, List.getElem?_map, List.length_replicate] at e2
      cases hp : fr[i - own.length]? with
      | none => rw [hp] at e1; cases e1
      | some p =>
        rw [hp] at e1 e2
        have ey : p.1 = y := Option.some.inj e1
        have ev : pick σ p.2 = some v := Option.some.inj e2
        obtain ⟨a1, a3⟩ := hfr.all p (List.mem_of_getElem? hp)
        have es : σ[p.2]? = some (some v) := by
          unfold pick at ev
          cases q : σ[p.2]? with
          | none => rw [q] at ev; cases ev
          | some z => rw [q] at ev; exact congrArg some ev
        have hfk : X.env.kindOf p.1 = some .cell ∨ X.env.kindOf p.1 = some .free := hfree (p.1, .free) (PySem.mem_of_lookup a3) rfl
        obtain ⟨m, hn, hl⟩ := I2.loc
        obtain ⟨u, r, l⟩ := hl p.2 p.1 v a1 es (hfk.elim (fun z => .inr (.inl z)) fun z => .inr (.inr z))
        refine ⟨u, r, .inr ?_⟩
        rcases l with ⟨z, _⟩ | ⟨_, c, ec, zc⟩
        · rcases hfk with q | q <;> rw [z] at q <;> cases q
        · obtain ⟨c', ec'⟩ := clos_has (env := X.env) (y := p.1) scope.names [] (.inl (PySem.mem_of_lookup a3))
          have : c' = c := Option.some.inj ((hcl _ _ ec').symm.trans ec)
          subst this
          rw [← ey]
          obtain ⟨o, ho, hdd⟩ := zc
          exact ⟨lookup_relabel_free (env := X.env) a3, c', ec', o, old _ o ho, hdd⟩
    · obtain ⟨v, z⟩ := I2.cell y c (hcl y c e)
      obtain ⟨o, ho, hdd⟩ := z
      exact ⟨v, o, old _ o ho, hdd⟩
    · show (List.replicate own.length (none : Option V) ++ (fr.map (fun p => p.2)).map (pick σ)).length = (own ++ fr.map (fun p => p.1)).length
      simp
  have fpY : ∀ {H3 : Hp} {ob : Obj}, (∀ b ∈ fp, H3 b = none) → ∀ b ∈ fp, FpOk (cxComp X scope (own ++ fr.map (·.1)) C s2 H2 fp) [(D, ob)] H3 b := fun {H3 ob} hn b hb =>
    ⟨hn b hb, (below b (fpLt b hb)).1, fun z => okY.exfs b hb z, .inl hb, fun y c e => (okY.exf b hb).2 y c e, fun p hp => by
      have e : p = (D, ob) := by simpa [cxComp] using hp
      rw [e]
      show D ≠ b
      exact fun z => hDfp (z ▸ hb)⟩
  have noC : ∀ (xs : Array Value) (k : Nat) (v : Option Value), ({ cls := .type "list", data := .seq xs k } : Obj).data ≠ .cell v := fun xs k v z => by cases z
  have loop : ∀ s₃ : Shared, s₃ = { s2 with heap := h₁, toks := s2.toks + ([] : List (Str × Value)).length } →
      codeAny (model X.prog X.w) X.A (.compLoop (.ListComp elt [⟨tg, iter, ifs, 0⟩] scope pos) 0 (.ref it) (.ref D) (compEnvC scope (closOf X.env scope.names) C X.env))
        (compPost (model X.prog X.w) X.A X.xe (some (assign (.Name y py) X.env)) (fun _ s' => SP X pins D0 .next s') (.ref D) C) s₃ := by
    rintro s₃ rfl
    refine compLoop_gen (fun n s' => ∃ (i : Nat) (τ : St) (acc : List V) (H' : Hp) (its : List Value) (k : Nat), Inv (cxComp X scope (own ++ fr.map (·.1)) C s2 H2 fp) [] τ H' s' ∧ tn i s'.heap ∧ (∀ b ∈ fp, H' b = none) ∧ H' D = none ∧ Vals acc its ∧
      s'.heap.get? D = some { cls := .type "list", data := .seq its.toArray k } ∧ acc.length ≤ sizeLine ∧ W i n τ acc H') ?_ m0
      ⟨0, _, [], H2, [], 0, IY, T.keep _ _ _ st2 fun b _ o e => old b o e, fun b hb => (f2 b hb).1, fresh D (Nat.le_refl _), .nil, eD0, Nat.zero_le _, w0⟩
    rintro n s3 ⟨i, τ, acc, H3, its, k, I3, st3, fr3, fD, rv, eD, hz, w3⟩
    have I3' : Inv (cxComp X scope (own ++ fr.map (·.1)) C s2 H2 fp) [(D, { cls := .type "list", data := .seq its.toArray k })] τ H3 s3 := I3.pins_of fun p hp => by
      have e : p = (D, { cls := .type "list", data := .seq its.toArray k }) := by simpa using hp
      subst e
      exact ⟨eD, fD, hDC, fun z => Nat.lt_irrefl _ (stkLt D z), noC _ _⟩
    rcases turn i n τ acc H3 w3 with ⟨stop, qn⟩ | ⟨go, hlt, step⟩
    · refine thn (T.done (cxComp X scope (own ++ fr.map (·.1)) C s2 H2 fp) rfl rfl rfl hc i _ s3 τ H3 (fun _ _ => False) I3' (fpY fr3) st3 stop) fun r s4 ⟨hr, I4⟩ => ?_
      subst hr
      obtain ⟨m, hn4, _⟩ := I4.loc
      obtain ⟨eD4, fD4, _⟩ := I4.pin (D, { cls := .type "list", data := .seq its.toArray k }) (List.mem_append_right _ (List.mem_singleton.mpr rfl))
      have b4 : Un (frs X.stack) fp H2 H3 s2.heap s4.heap := I4.base
      have lt2 : ∀ b o, s2.heap.get? b = some o → b ≠ C ∧ b ≠ D := fun b o e => below b (Nat.lt_of_lt_of_le (Heap.lt_size e) (Nat.le_of_eq hD))
      have tr2 : ∀ b o, H2 b = some o → b ≠ D := fun b o e z => by
        have := fresh D (Nat.le_refl _)
        rw [z, this] at e
        cases e
      have un : Un (frs X.stack) fp H2 (upd H3 D (.lst acc)) s2.heap s4.heap := by
        refine ⟨fun b o e n hb hx => b4.keep b o e n hb hx, fun b o e n hb hx => ?_, fun b o e n hx => ?_, fun b o e hx => ?_, fun b xs e => ?_, fun b o u e => ?_, fun b ps e => ?_⟩
        · obtain ⟨sl, q⟩ := b4.slot b o e n hb hx
          exact ⟨sl, q⟩
        · rw [upd_ne (lt2 b o e).2]; exact b4.free b o e n hx
        · obtain ⟨o', q⟩ := b4.there b o e hx
          exact ⟨o', q⟩
        · rw [upd_ne (tr2 _ _ e)]; exact b4.tups b xs e
        · rw [upd_ne (tr2 _ _ e)]; exact b4.frzs b o u e
        · rw [upd_ne (tr2 _ _ e)]; exact b4.tbls b ps e
      have hok' : HOk X.prog X.w (upd H3 D (.lst acc)) s4.heap := I4.hok.track fD4 ⟨hz, its, k, rv, eD4⟩
      have IX : Inv X pins σ (upd H3 D (.lst acc)) s4 := I2.call' (s' := s4) (ch := fp) I4.os un hok' I4.bare fun b hb => ⟨(f2 b hb).2.2.2.1, (f2 b hb).2.1, (f2 b hb).2.2.2.2.1, (f2 b hb).2.2.2.2.2⟩
      have hHC : H3 C = none := I4.free
      have noCD : ∀ b : Addr, b < D → C ≠ b := fun b hb z => by
        rw [← z, hC] at hb
        exact Nat.lt_irrefl D (Nat.lt_of_succ_lt hb)
      have hCL : C ≠ X.env.locals := noCD _ (Nat.lt_of_lt_of_le I2.lt (Nat.le_of_eq hD))
      show wpAny (model X.prog X.w) X.A (assign (.Name y py) X.env (.ref D)) _ X.xe s4
      refine wpAny_assign_Name (store_ok2 IX hN hiy hxy (v := .ref D) rfl (fun s5 I5 ⟨a, sb5, ha⟩ => ?_) hfy)
      have hCa : C ≠ a := by
        rcases ha with z | z
        · rw [z]; exact hCL
        · exact noCD _ (cellLt _ _ z)
      refine ⟨m, Heap.Ns.sameBut hn4 sb5 hCa, fun h' sb => ⟨_, _, I5.turned (it := C) (t' := s5.toks) (fun b o hb e => (sb.2 b hb).trans e) (by rw [upd_ne hDC.symm]; exact hHC) hCL (.inr ?_) (fun z c e q => ?_) (fun p hp q => ?_), qn D fD4⟩⟩
      · exact Nat.le_trans I2.sz (by omega)
      · exact noCD _ (cellLt z c e) q.symm
      · exact noCD _ (Nat.lt_of_lt_of_le (Heap.lt_size (I2.pin p hp).1) (Nat.le_of_eq hD)) q.symm
    · refine thn (T.item (cxComp X scope (own ++ fr.map (·.1)) C s2 H2 fp) rfl rfl rfl hc i _ s3 τ H3 (fun _ _ => False) I3' (fpY fr3) st3 go) fun r s4 ⟨u, hr, h4⟩ => ?_
      subst hr
      refine thn h4 fun _ s5 ⟨x, H5, I5, r5, y5, st5, fr5⟩ => ?_
      have I5' := I5.pinned (fpY fr5) (T.obj _ _ st5)
      refine thn (hg _ _ _ _ _ s5 τ H5 x u _ I5' r5 (step x H5 y5)) fun _ s6 ⟨τ6, H6, I6, q6⟩ => ?_
      refine thn (ht _ _ _ _ _ s6 τ6 H6 _ I6 q6) fun b s7 ⟨H7, I7, q7⟩ => ?_
      have facts : ∀ {s8 : Shared} {H8 : Hp} {τ8 : St}, Inv (cxComp X scope (own ++ fr.map (·.1)) C s2 H2 fp) ([(D, { cls := .type "list", data := .seq its.toArray k })] ++ pinsAt fp s5.heap) τ8 H8 s8 →
          tn (i + 1) s8.heap ∧ (∀ b ∈ fp, H8 b = none) ∧ H8 D = none ∧ s8.heap.get? D = some { cls := .type "list", data := .seq its.toArray k } := fun {s8 H8 τ8} I8 => by
        have hp : ∀ b ∈ fp, ∀ o, s5.heap.get? b = some o → s8.heap.get? b = some o ∧ H8 b = none := fun b hb o e => by
          have q := I8.pin (b, o) (List.mem_append_right _ (List.mem_append_right _ (mem_pinsAt hb e)))
          exact ⟨q.1, q.2.1⟩
        have qD := I8.pin (D, { cls := .type "list", data := .seq its.toArray k }) (List.mem_append_right _ (List.mem_append_left _ (List.mem_singleton.mpr rfl)))
        refine ⟨T.keep _ _ _ st5 fun b hb o e => (hp b hb o e).1, fun b hb => ?_, qD.2.1, qD.1⟩
        obtain ⟨o, e, _⟩ := T.obj _ _ st5 b hb
        exact (hp b hb o e).2
      cases b with
      | false =>
        have q7 : ∃ m', m' < n ∧ W (i + 1) m' τ6 acc H7 := q7
        obtain ⟨m', hm, w7⟩ := q7
        obtain ⟨z1, z2, z3, z4⟩ := facts I7
        exact ⟨m', hm, i + 1, τ6, acc, H7, its, k, I7.pins_of fun p hp => absurd hp (by simp), z1, z2, z3, rv, z4, hz, w7⟩
      | true =>
        refine thn (he _ _ _ _ _ s7 τ6 H7 _ I7 q7) fun u8 s8 ⟨y, H8, I8, r8, m', hm, w8⟩ => ?_
        obtain ⟨z1, z2, z3, z4⟩ := facts I8
        have hl := rv.length
        refine call_meets F.slot_list_append ⟨_, z4, rfl⟩ F.entry_list_append (F.args_list_append_2 _ _) (PySem.list_append D its.toArray k u8 (by rw [List.size_toArray]; omega)) ⟨z4, ?_⟩
        have z5 := PySem.IsL.update z4 (·.push u8)
        have z6 : its.toArray.push u8 = (its ++ [u8]).toArray := by simp
        rw [z6] at z5
        have kk : ∀ b o, b ≠ D → s8.heap.get? b = some o → (s8.heap.update D (Obj.mapSeq (·.push u8))).get? b = some o := fun b o hb e => (Heap.get?_update_other s8.heap (Obj.mapSeq (·.push u8)) (Ne.symm hb)).trans e
        have I8' : Inv (cxComp X scope (own ++ fr.map (·.1)) C s2 H2 fp) [] τ6 H8 s8 := I8.pins_of fun p hp => absurd hp (by simp)
        refine ⟨m', hm, i + 1, τ6, acc ++ [y], H8, its ++ [u8], _, I8'.turned (it := D) kk z3 hDC (.inr (by show s2.heap.objs.size ≤ D; omega)) (fun y c e => Nat.ne_of_lt (cellLt y c (hcl y c e))) (fun p hp => absurd (show p ∈ ([] : List (Addr × Obj)) from hp) (by simp)), ?_, z2, z3,
          rv.append (.cons r8 .nil), z5, ?_, w8⟩
        · exact T.keep _ _ _ z1 fun b hb o e => kk b o (fun z => hDfp (z ▸ hb)) e
        · rw [List.length_append, List.length_singleton]; omega
  exact codeAny_compStart_list (loop _ rfl) (T.self X.A 0 _ _ _ (T.keep _ _ _ st2 fun b _ o e => old b o e) (loop _ rfl))
theorem ps_setC {i : Nat} {y : Str} {iter elt : Expr} {ifs : List Expr} {scope osc : Scope} {wi : TI} {tt : TT} {te : TE} {x : Str} {px py pos spos : Pos} (fr : List (Str × Nat))
    (hN : X.N.Nodup) (hiy : X.N[i]? = some y) (hxy : Loc X.env.scope y)
    (hc : X.calm = true) (hi : PI X (.Name x px) iter wi) (ho : X.env.scope = osc)
    (hk : scope.kind = .function) (hcell : ∀ y ∈ scope.names, y.2 ≠ .cell) (hnames : ∀ y ∈ scope.names, y.2 = .local → scope.names.lookup y.1 = some .local)
    (hfree : ∀ y ∈ scope.names, y.2 = .free → osc.names.lookup y.1 = some .cell ∨ osc.names.lookup y.1 = some .free) (hfr : FrOk X scope fr)
    (hx : scope.names.lookup x = some .local) (hnd : (x :: fr.map (·.1)).Nodup)
    (ht : ∀ C s H ex, PTs (cxComp X scope (x :: fr.map (·.1)) C s H ex) ifs tt)
    (he : ∀ C s H ex, PE (cxComp X scope (x :: fr.map (·.1)) C s H ex) elt te)
    (hsw : swapsWith (.ListComp elt [⟨.Name x px, iter, ifs, 0⟩] scope pos) (some (.Name y py)) spos.line X.env = pure true := by rfl)
    (hf : X.fn y = true ∨ X.env.scope.names.lookup y = some .local := by first | exact .inl rfl | exact .inr rfl | assumption)
    (hs : ∀ x, foldedSetIterable iter X.env x = pure x := by intro _; rfl) :
    PS X (.Assign [.Name y py] (.ListComp elt [⟨.Name x px, iter, ifs, 0⟩] scope pos) spos) (tAsg (tComp 1 (fr.map (·.2)) wi (gName 0) tt te) (gName i)) :=
  ps_compU (own := [x]) hN hiy hxy hf hc hi hk hcell hnames (fun y hy e => by show X.env.scope.names.lookup y.1 = _ ∨ X.env.scope.names.lookup y.1 = _; rw [ho]; exact hfree y hy e) hfr
    (fun C s H ex => pg_name (i := 0) hnd rfl (.inl (lookup_relabel_local hx)) (.inr (lookup_relabel_local hx))) ht he hsw hs
end
end L2
namespace L2
open PySem PySem.Spec PyProof.Rows
open Sem (wp)
def Kd {α : Type} : Sem α → Prop
  | .pure _ => True
  | .raise _ => True
  | .unsupported _ => True
  | .finish _ => True
  | .rule _ k => Kd (k ())
  | .at _ k => Kd (k ())
  | .load _ _ k => ∀ o, Kd (k o)
  | .update _ _ f k => (∀ o, (f o).dict = o.dict) ∧ Kd (k ())
  | .loadIfAlive _ k => ∀ o, Kd (k o)
  | .point _ k => Kd (k ())
  | .alloc _ k => ∀ a, Kd (k a)
  | .fresh k => ∀ t, Kd (k t)
  | .ask k => ∀ t, Kd (k t)
  | .stack k => ∀ l, Kd (k l)
  | _ => False
theorem Kd.bind {α β : Type} {t : Sem α} {f : α → Sem β} (h : Kd t) (g : ∀ a, Kd (f a)) : Kd (t >>= f) := by
  show Kd (Sem.bind t f)
  induction t with
  | pure a => exact g a
  | raise e => trivial
  | unsupported w => trivial
  | finish e => trivial
  | rule t k ih => exact ih () h
  | «at» p k ih => exact ih () h
  | load a p k ih => exact fun o => ih o (h o)
  | update a p f k ih => exact ⟨h.1, ih () h.2⟩
  | alloc o k ih => exact fun a => ih a (h a)
  | loadIfAlive a k ih => exact fun o => ih o (h o)
  | point l k ih => exact ih () h
  | fresh k ih => exact fun o => ih o (h o)
  | ask k ih => exact fun o => ih o (h o)
  | stack k ih => exact fun o => ih o (h o)
  | _ => exact h.elim
def DictAt (e : Addr) (d : Option Addr) (h : Heap) : Prop := ∃ o, h.objs[e]? = some o ∧ o.dict = d
theorem DictAt.push {e : Addr} {d : Option Addr} {h : Heap} (x : DictAt e d h) (o : Obj) : DictAt e d (h.push o) := by
  obtain ⟨u, hu, hd⟩ := x
  refine ⟨u, ?_, hd⟩
  have hl : e < h.objs.size := (Array.getElem?_eq_some_iff.mp hu).1
  cases h with
  | mk objs l =>
    show (objs.push o)[e]? = some u
    rw [Array.getElem?_push_lt hl]
    exact (Array.getElem?_eq_getElem hl).symm.trans hu
theorem DictAt.update {e : Addr} {d : Option Addr} {h : Heap} (x : DictAt e d h) (a : Addr) {f : Obj → Obj} (hf : ∀ o, (f o).dict = o.dict) : DictAt e d (h.update a f) := by
  obtain ⟨u, hu, hd⟩ := x
  cases h with
  | mk objs l =>
    have hu : objs[e]? = some u := hu
    unfold DictAt
    show ∃ o, (objs.modify a f)[e]? = some o ∧ o.dict = d
    rw [Array.getElem?_modify]
    by_cases q : a = e
    · rw [if_pos q, hu]
      exact ⟨f u, rfl, (hf u).trans hd⟩
    · rw [if_neg q]
      exact ⟨u, hu, hd⟩
theorem DictAt.get {e : Addr} {d : Option Addr} {h : Heap} {o : Obj} (x : DictAt e d h) (g : h.get? e = some o) : o.dict = d := by
  obtain ⟨u, hu, hd⟩ := x
  have := (Heap.get?_some_iff.mp g).1
  rw [hu] at this
  cases this
  exact hd
theorem DictAt.of {e : Addr} {h : Heap} {o : Obj} (g : h.get? e = some o) : DictAt e o.dict h := ⟨o, (Heap.get?_some_iff.mp g).1, rfl⟩
theorem Kd.wp {α : Type} {M : Model} {Γ : PySem.Ctx} {e : Addr} {d : Option Addr} {t : Sem α} : ∀ {Q : α → Pos → Shared → Prop} {E : Value → Pos → Shared → Prop} {p : Pos} {s : Shared}, Kd t → DictAt e d s.heap → Sem.wp M Γ t Q E p s →
    Sem.wp M Γ t (fun a p s => Q a p s ∧ DictAt e d s.heap) (fun a p s => E a p s ∧ DictAt e d s.heap) p s := by
  induction t with
  | pure a => intro Q E p s h x q; rw [Sem.wp] at q ⊢; exact ⟨q, x⟩
  | raise v => intro Q E p s h x q; rw [Sem.wp] at q ⊢; exact ⟨q, x⟩
  | unsupported w => intro Q E p s h x q; rw [Sem.wp] at q; exact q.elim
  | finish v => intro Q E p s h x q; rw [Sem.wp] at q; exact q.elim
  | rule t k ih => intro Q E p s h x q; rw [Sem.wp] at q ⊢; exact ih () h x q
  | «at» p' k ih => intro Q E p s h x q; rw [Sem.wp] at q ⊢; exact ih () h x q
  | load a pt k ih => intro Q E p s h x q; rw [Sem.wp] at q ⊢; obtain ⟨o, e1, q⟩ := q; exact ⟨o, e1, ih o (h o) x q⟩
  | update a pt f k ih => intro Q E p s h x q; rw [Sem.wp] at q ⊢; exact ⟨q.1, ih () h.2 (x.update a h.1) q.2⟩
  | alloc o k ih => intro Q E p s h x q; rw [Sem.wp] at q ⊢; exact ih _ (h _) (x.push o) q
  | loadIfAlive a k ih => intro Q E p s h x q; rw [Sem.wp] at q ⊢; exact ih _ (h _) x q
  | point l k ih => intro Q E p s h x q; rw [Sem.wp] at q ⊢; exact ih () h x q
  | fresh k ih => intro Q E p s h x q; rw [Sem.wp] at q ⊢; exact ih _ (h _) x q
  | ask k ih => intro Q E p s h x q; rw [Sem.wp] at q ⊢; exact ih _ (h _) x q
  | stack k ih => intro Q E p s h x q; rw [Sem.wp] at q ⊢; exact ih _ (h _) x q
  | _ => intro Q E p s h; exact h.elim
theorem Kd.any {α : Type} {M : Model} {A : Around} {e : Addr} {d : Option Addr} {t : Sem α} {Q : α → Shared → Prop} {E : Value → Shared → Prop} {s : Shared} (h : Kd t) (x : DictAt e d s.heap) (q : wpAny M A t Q E s) :
    wpAny M A t (fun a s' => Q a s' ∧ DictAt e d s'.heap) (fun v s' => E v s' ∧ DictAt e d s'.heap) s := fun Γ p hΓ => h.wp x (q Γ p hΓ)
section
variable {M : Model} {A : Around} {E : Value → Shared → Prop} {s : Shared} {base : Heap} {env : Env} {outer l : List Env} {L e : Addr} {cls a0 : Value} {dd : Option Addr} {Q : Unit → Shared → Prop}
end
end L2
namespace L2
open PySem PySem.Spec PyProof.Rows
section
variable {P : Program} {w : World} {K : PySem.W.Frag} {mg : Str → Option Value} {base : Heap} {N : List Str} {qual : Str} {scope : Scope} {f : Addr} {cd : Value} {A : Around} {outer : List Env} {s₀ : Shared} {H₀ : Hp} {E E' : XK}
structure ExC (K : PySem.W.Frag) (C : Addr) (bm : List Value) : Prop where
  obj : ∃ (nm q : Str) (NS : Addr) (bs : List Value) (hdct : Bool) (sn : List Str) (sub : List Value) (ab : Bool) (col : Option Bool) (dd : Option Addr) (k0 k1 k2 k3 k5 : Option Value) (mN : Str → Option Value),
    K.lookup C = some (excClassObj nm q C NS bs bm hdct sn sub ab col dd k0 k1 k2 k3 k5 "ValueError.__new__") ∧ mN "__init__" = none ∧ ∀ h : Heap, K.In h → h.Ns NS mN ∧ OwnTail h [.type "ValueError", .type "Exception", .type "BaseException", .type "object"] bm
  base : bm.contains (.type "BaseException") = true
end
end L2
namespace L2
open PySem PySem.Spec PyProof.Rows
section
variable {X : Cx} {pins : List (Addr × Obj)} {σ : St} {H H' : Hp} {s s' : Shared} {B h' : Heap}
end
end L2
namespace L2
open PySem PySem.Spec PyProof.Rows
section
variable {X : Cx} {pins : List (Addr × Obj)} {σ : St} {H : Hp} {s : Shared}
end
end L2
namespace L2
open PySem PySem.Spec PyProof.Rows
end L2
namespace L2
open PySem PySem.Spec PyProof.Rows
end L2
namespace L2
open PySem PySem.Spec PyProof.Rows
theorem paired_of_get {α β : Type} {F : α → β → Prop} : ∀ {l₁ : List α} {l₂ : List β}, l₁.length = l₂.length → (∀ (i : Nat) a b, l₁[i]? = some a → l₂[i]? = some b → F a b) → Paired F l₁ l₂
  | [], [], _, _ => .nil
  | a :: l₁, b :: l₂, hl, h => .cons (h 0 a b rfl rfl) (paired_of_get (by simpa using hl) fun i x y hx hy => h (i + 1) x y (by simpa using hx) (by simpa using hy))
section
variable {X : Cx}
end
theorem lay_ints : ∀ ys : List Int, PyData.canLayAll0 (ys.map PyData.int) = true ∧ PyData.depthAll (ys.map PyData.int) = 0
  | [] => ⟨rfl, rfl⟩
  | y :: r => by
    obtain ⟨a, b⟩ := lay_ints r
    simp [PyData.canLayAll0, PyData.canLay0, PyData.depthAll, PyData.depth, a, b]
theorem shaped_ints (ys : List Int) : SeqAt.shaped (.list (ys.map PyData.int)) = true := by
  obtain ⟨a, b⟩ := lay_ints ys
  simp [SeqAt.shaped, PyData.canLay0, PyData.depth, a, b]
theorem neD_same {K : PySem.W.Frag} {H : Hp} {x y : V} {d : PyData} {Q : VK} (h1 : Dv K H x d) (h2 : Dv K H y d) (hs : SeqAt.shaped d = true) (q : Q (.bl false) H) : rNeD K x y H Q :=
  ⟨d, d, h1, h2, hs, hs, by rw [PySem.SeqAt.eqv_refl d (SeqAt.canLay_of_shaped hs)]; exact q⟩
end L2
namespace L2
open PySem PySem.Spec PyProof.Rows
theorem HOk.others {P : Program} {w : World} {H : Hp} {h h' : Heap} (l : List Addr) (x : HOk P w H h) (hn : ∀ a ∈ l, H a = none) (k : ∀ b u, b ∉ l → h.get? b = some u → h'.get? b = some u) : HOk P w H h' := by
  intro b u e
  refine (x b u e).stay (fun c v hc q => k c v ?_ q) (fun _ q => q) fun _ _ q => q
  intro hm
  rcases hc with z | z
  · rw [z] at hm; rw [hn _ hm] at e; cases e
  · rw [hn _ hm] at z; cases z
def Ite (K : PySem.W.Frag) (a : Addr) : It :=
  ⟨fun i H => ∃ xs x, SqL K H a xs ∧ xs[i]? = some x, fun i H x H' => ∃ p y, x = .ref p ∧ H p = none ∧ H' = upd H p (.tup [.int (i : Int), y]) ∧ ∀ xs, SqL K H a xs → xs[i]? = some y, fun i H => ∃ xs, SqL K H a xs ∧ xs.length ≤ i⟩
theorem turn_enum {P : Program} {w : World} {K : PySem.W.Frag} {elts : List Expr} {x1} {tpos : Pos} (a e it : Addr) (hne : e ≠ it) :
    Turn P w K (.Tuple elts x1 tpos) (Ite K a) [e, it] e (fun i h => (∃ old, IsEnum h e it i old) ∧ h.IsListIter it a i) where
  mem := by simp
  obj := fun i h st b hb => by
    obtain ⟨⟨old, he⟩, o, e2, c, d⟩ := st
    rcases List.mem_cons.mp hb with z | z
    · subst z
      exact ⟨_, he, fun v z => by
        have z' : Data.fields _ = Data.cell v := z
        cases z'⟩
    · have z : b = it := by simpa using z
      subst z
      exact ⟨o, e2, fun v z => by rw [d] at z; cases z⟩
  keep := fun i h h' st k => by
    obtain ⟨⟨old, he⟩, st⟩ := st
    exact ⟨⟨old, k e (by simp) _ he⟩, st.at fun o q => k it (by simp) o q⟩
  item := by
    intro X hP hw hK hc i pins s σ H E I hf st hg
    subst hP hw hK
    obtain ⟨xs, x, hq, hx⟩ := hg
    obtain ⟨its, rv, p, hz⟩ := I.list hq
    obtain ⟨u, hu, ru⟩ := rv.get hx
    obtain ⟨⟨old, he⟩, hit⟩ := st
    obtain ⟨f0, f1, f2, f3, f4, f5⟩ := hf e (by simp)
    obtain ⟨g0, g1, g2, g3, g4, g5⟩ := hf it (by simp)
    have elt : e < s.heap.objs.size := Heap.lt_size he
    have ilt : it < s.heap.objs.size := by obtain ⟨o, q, _⟩ := id hit; exact Heap.lt_size q
    refine wpAny_pyNext_enum_item he hit p.isList (x := u) (by simpa using hu) hne fun h' eo hit' ht hsz kk => ⟨_, rfl, wpAny_letOwnedTupleGo_enum eo fun h2 he2 sb => ?_⟩
    have hp : H s.heap.objs.size = none := I.hok.fresh (Nat.le_refl _)
    have pe : s.heap.objs.size ≠ e := Nat.ne_of_gt elt
    have pit : s.heap.objs.size ≠ it := Nat.ne_of_gt ilt
    have kk2 : ∀ b o, b ∉ [e, it] → s.heap.get? b = some o → h2.get? b = some o := fun b o hb q => by
      have b1 : b ≠ e := fun z => hb (by simp [z])
      have b2 : b ≠ it := fun z => hb (by simp [z])
      exact (sb.2 b b1).trans (kk b o b1 b2 q)
    have hit2 : h2.IsListIter it a (i + 1) := by
      obtain ⟨o, q, c, d⟩ := id hit'
      exact ⟨o, (sb.2 it (fun z => hne z.symm)).trans q, c, d⟩
    have ht2 : h2.get? s.heap.objs.size = some { cls := .type "tuple", data := .seq #[.int i s.toks, u] } := (sb.2 _ pe).trans ht
    have hok : HOk X.prog X.w (upd H s.heap.objs.size (.tup [.int (i : Int), x])) h2 := by
      refine (I.hok.others [e, it] (fun b hb => (hf b hb).1) kk2).track hp ?_
      exact ⟨show 2 ≤ sizeLine by decide, [.int i s.toks, u], .cons ⟨_, rfl⟩ (.cons ru .nil), ⟨_, ht2, rfl, _, rfl⟩⟩
    have un : Un (frs X.stack) [e, it] H (upd H s.heap.objs.size (.tup [.int (i : Int), x])) s.heap h2 := by
      refine ⟨fun b o q n hb hx => kk2 b o hx q, fun b o q n hb hx => ⟨o.slots, kk2 b o hx q⟩, fun b o q n hx => ?_, fun b o q hx => ⟨o, kk2 b o hx q⟩, fun b ys q => ?_, fun b o u q => ?_, fun b ps q => ?_⟩
      · rw [upd_ne (Nat.ne_of_lt (Heap.lt_size q))]; exact n
      · rw [upd_ne (ne_of_none q hp)]; exact q
      · rw [upd_ne (ne_of_none q hp)]; exact q
      · exact ⟨#[], by rw [upd_ne (ne_of_none q hp), Array.append_empty]; exact q⟩
    have I2 : Inv X pins σ (upd H s.heap.objs.size (.tup [.int (i : Int), x])) { s with heap := h2, toks := s.toks + 1 } :=
      I.call' (s' := { s with heap := h2, toks := s.toks + 1 }) (ch := [e, it]) rfl un hok I.bare fun b hb => by
        obtain ⟨q0, q1, q2, q3, q4, q5⟩ := hf b hb
        exact ⟨q3, q1, q4, q5⟩
    refine ⟨.ref s.heap.objs.size, _, I2, rfl, ⟨_, x, rfl, hp, rfl, fun ys hy => by rw [I.list_inj hy hq]; exact hx⟩, ⟨⟨u, ?_⟩, hit2⟩, fun b hb => ?_⟩
    · have : ((i + 1 : Nat) : Int) = (i : Int) + 1 := by omega
      rw [this]
      exact he2
    · have hb' : b ≠ s.heap.objs.size := fun z => by
        rcases List.mem_cons.mp hb with q | q
        · exact pe (z.symm.trans q)
        · exact pit (z.symm.trans (by simpa using q))
      rw [upd_ne hb']
      exact (hf b hb).1
  done := by
    intro X hP hw hK hc i pins s σ H E I hf st hg
    subst hP hw hK
    obtain ⟨xs, hq, hx⟩ := hg
    obtain ⟨its, rv, p, hz⟩ := I.list hq
    obtain ⟨⟨old, he⟩, hit⟩ := st
    obtain ⟨f0, f1, f2, f3, f4, f5⟩ := hf it (by simp)
    have hl := rv.length
    exact wpAny_pyNext_enum_end (I.ok.hd hc) he hit p.isList (by simp; omega) fun h' eb => ⟨rfl, I.turned (t' := s.toks) (fun b o hb e => eb b o hb e) f0 f1 f3 f4 f5⟩
  self := fun _ _ _ _ _ st h => by
    obtain ⟨⟨old, he⟩, _⟩ := st
    exact wpAny_pyIter_enum he h
section
variable {X : Cx}
def iEnum (K : PySem.W.Frag) (tl : TE) : TI := fun σ H R => tl σ H fun x H1 => ∃ a, x = .ref a ∧ (∃ xs, SqL K H1 a xs) ∧ R (Ite K a) H1
theorem pi_enum {K : PySem.W.Frag} {l : Expr} {tl : TE} {elts : List Expr} {x1} {tpos p pos : Pos} (hg : Gl X "enumerate") (hm : X.mg "enumerate" = none) (hl : PE X l tl) (hK : X.K = K := by rfl)
    (hs : starEach [l] X.env = [(false, eval l X.env)] := by rfl) : PI X (.Tuple elts x1 tpos) (.Call (.Name "enumerate" p) [l] [] pos) (iEnum K tl) := by
  subst hK
  intro pins s σ H R I h
  refine Call_ (ld_blt I hg hm boot_enumerate (PyProof.Rows.callWith_type1 ?_ hs rfl))
  rw [hs]
  refine Calls.spliced_cons (thn (hl pins s σ H _ I h) fun v s1 ⟨x, H1, I1, r1, q1⟩ => ?_)
  refine Calls.spliced_nil ?_
  obtain ⟨a, e, ⟨xs, hq⟩, q⟩ := q1
  subst e
  cases r1
  obtain ⟨its, rv, p, hz⟩ := I1.list hq
  refine call_enumerate_list p.isList fun h' he hit hsz kk => ?_
  have I2 : Inv X pins σ H1 { s1 with heap := h' } := I1.kept (t' := s1.toks) kk
  refine wpAny_pyIter_enum he ?_
  refine ⟨s1.heap.objs.size + 1, [s1.heap.objs.size + 1, s1.heap.objs.size], _, _, H1, rfl, I2, turn_enum a _ _ (Nat.succ_ne_self _), ⟨⟨_, he⟩, hit⟩, fun b hb => ?_, q⟩
  rcases List.mem_cons.mp hb with z | z
  · subst z
    exact I1.fpOk (Nat.le_succ _) (I1.hok.fresh (Nat.le_succ _))
  · have z : b = s1.heap.objs.size := by simpa using z
    subst z
    exact I1.fpOk (Nat.le_refl _) (I1.hok.fresh (Nat.le_refl _))
end
section
variable {X : Cx}
end
theorem for_enum {K : PySem.W.Frag} {a : Addr} {xs : List V} {g : TG} {tb : TS} {D : Ends} {σ : St} {H : Hp} (Pv : Nat → St → Hp → Prop) (h0 : Pv 0 σ H) (hl : ∀ i σ H, i ≤ xs.length → Pv i σ H → SqL K H a xs)
    (hs : ∀ (i : Nat) x σ H p, xs[i]? = some x → Pv i σ H → H p = none → g (.ref p) σ (upd H p (.tup [.int (i : Int), x])) fun σ2 H2 => tb { D with nx := Pv (i + 1), ct := Pv (i + 1), bk := D.nx } σ2 H2) (hd : ∀ σ H, Pv xs.length σ H → D.nx σ H) :
    ∃ W : Nat → Nat → St → Hp → Prop, (∃ m, W 0 m σ H) ∧ ∀ i m σ H, W i m σ H →
      ((Ite K a).stop i H ∧ D.nx σ H) ∨ ((Ite K a).go i H ∧ ∃ N : St → Hp → Prop, (∀ σ' H', N σ' H' → ∃ m', m' < m ∧ W (i + 1) m' σ' H') ∧ ∀ x H', (Ite K a).yld i H x H' → g x σ H' fun σ2 H2 => tb { D with nx := N, ct := N, bk := D.nx } σ2 H2) := by
  refine ⟨fun i m σ H => m = xs.length - i ∧ i ≤ xs.length ∧ Pv i σ H, ⟨xs.length, by simp, Nat.zero_le _, h0⟩, ?_⟩
  rintro i m σ H ⟨rfl, hi, p⟩
  have q := hl i σ H hi p
  by_cases hlt : i < xs.length
  · refine .inr ⟨⟨xs, xs[i], q, by simp [hlt]⟩, Pv (i + 1), fun σ' H' p' => ⟨xs.length - (i + 1), by omega, rfl, hlt, p'⟩, fun x H' y => ?_⟩
    obtain ⟨r, z, rfl, hr, rfl, hy⟩ := y
    exact hs i z σ H r (hy xs q) p hr
  · have e : i = xs.length := by omega
    subst e
    exact .inl ⟨⟨xs, q, Nat.le_refl _⟩, hd σ H p⟩
end L2
namespace L2
open PySem PySem.Spec PyProof.Rows
abbrev TX := St → Hp → VK → XK → Prop
section
variable {X : Cx} {k : Nat} {f C : Addr} {fd : FuncData} {ps : List Str} {sp : Sp} {x : Str} {p pos : Pos} {e : Expr} {es : List Expr} {t : TA} {te : TE}
end
section
variable {X : Cx} {cn n : Str} {rpos np hpos pos : Pos} {e0 : Expr} {tx : TX} {CF : Addr} {b₀ : Stmt} {suite : List Stmt} {th : Addr → TS} {i : Nat}
end
structure ExD (K : PySem.W.Frag) (C : Addr) (bm : List Value) : Prop where
  obj : ∃ (nm q : Str) (NS : Addr) (bs : List Value) (hdct : Bool) (sn : List Str) (sub : List Value) (ab : Bool) (col : Option Bool) (dd : Option Addr) (k0 k1 k2 k3 k5 : Option Value),
    K.lookup C = some (excClassObj nm q C NS bs bm hdct sn sub ab col dd k0 k1 k2 k3 k5 "ValueError.__new__") ∧
      ∀ h : Heap, K.In h → (∃ mN, h.Ns NS mN ∧ mN "__init__" = none) ∧ OwnTail h [.type "ValueError", .type "Exception", .type "BaseException", .type "object"] bm
theorem exc_of {K : PySem.W.Frag} {C : Addr} (q : PySem.W.excIn K C [.type "ValueError", .type "Exception", .type "BaseException", .type "object"] "ValueError.__new__" = true) : ∃ bm, ExD K C bm := by
  unfold PySem.W.excIn at q
  split at q
  · rename_i dd cd sl ho
    split at q
    · rename_i C2 bm k0 k1 k2 k3 nn k5 hm hs
      simp only [Bool.and_eq_true, beq_iff_eq, Bool.not_eq_true'] at q
      obtain ⟨⟨⟨⟨⟨e1, e2⟩, e3⟩, e4⟩, e5⟩, e6⟩ := q
      have hsl : sl = #[k0, k1, k2, k3, some (.builtin nn), k5] := by rw [← Array.toArray_toList (xs := sl), hs]
      cases cd with
      | mk a1 a2 a3 a4 a5 a6 a7 a8 a9 a10 a11 =>
        have hm : a3 = .ref C2 :: bm := hm
        have e3 : a11 = false := e3
        subst hsl e1 e2 e3 hm
        exact ⟨bm, ⟨a1, a5, a4, a2, a6, a7, a8, a9, a10, dd, k0, k1, k2, k3, k5, ho, fun h X => ⟨⟨_, .of_isNs (PySem.W.isNs_of_in X e5), PySem.W.nsMap_none_of_in X e5 e6⟩, PySem.W.tail_of_in X e4⟩⟩⟩
    · cases q
  · cases q
section
variable {P : Program} {w : World} {K : PySem.W.Frag} {mg : Str → Option Value} {base : Heap} {N : List Str} {qual : Str} {scope : Scope} {f : Addr} {cd : Value} {A : Around} {outer : List Env} {s₀ : Shared} {H₀ : Hp} {E' : XK}
end
end L2
namespace L2
open PySem PySem.Spec PyProof.Rows
open AutoSeq1 (wpAny_loadPart')
open MeetsSeq
section
variable {X : Cx}
end
theorem iteE0 {b : Bool} {A B : Prop} (hb : b = false) (h : B) : if b = true then A else B := by rw [hb]; exact iteF h
end L2
namespace L2
open PySem PySem.Spec PyProof.Rows
structure ExI (K : PySem.W.Frag) (C : Addr) : Prop where
  ga : PySem.W.findIn K (.ref C) "__getattribute__" = some (some (.builtin "BaseException.__getattribute__"))
  gt : PySem.W.findIn K (.ref C) "__getattr__" = some none
  ck : PySem.W.findIn K (.ref C) "__class__" = some (some (.builtin "object.__class__"))
  sb : PySem.W.subIn K (.ref C) (.type "BaseException") = some true
  so : PySem.W.subIn K (.ref C) (.type "object") = some true
  cl : (PySem.W.clsIn K C).isSome = true
section
variable {prog : Program} {w : World} {A : Around} {E : Value → Shared → Prop} {K : PySem.W.Frag} {h : Heap} {g : Array GenState} {d : Drawn} {t : Nat} {os : OsState} {a C : Addr} {o : Obj}
end
section
variable {X : Cx}
end
theorem Same.updN {H H' : Hp} {b : Addr} {o : HO} (e : Same H H') (h : H b = none) : Same H (L2.upd H' b o) := fun c u q => by
  rw [upd_ne (ne_of_none q h)]
  exact e c u q
end L2
namespace L2
open PySem PySem.Spec PyProof.Rows
section
variable {X : Cx} {k : Nat} {f C : Addr} {fd : FuncData} {ps : List Str} {sp : Sp} {m : Str} {apos pos : Pos} {e o : Expr} {es : List Expr} {t : TA} {ta te : TE}
abbrev TSX := Ends → (St → XK) → St → Hp → Prop
variable {st : Stmt} {sts a b : List Stmt} {c0 : Expr} {tx : TX} {u v : TSX} {tc : TT} {x : Str} {px : Pos} {i : Nat}
variable {cn n : Str} {np hpos : Pos} {CF : Addr} {b₀ : Stmt} {suite : List Stmt} {th : Addr → TS}
end
section
variable {X : Cx}
end
end L2
namespace L2
open PySem Builtin Builtin.Str
section
variable {X : Cx}
end
theorem str_ext {a b : Str} (h : a.cps.toList = b.cps.toList) : a = b := by
  cases a; cases b
  congr 1
  exact Array.toList_inj.mp h
end L2
namespace L2
open PySem PySem.Spec PyProof.Rows
open MeetsSeq
section
variable {X : Cx}
theorem pair_get {α β : Type} {F : α → β → Prop} : ∀ {l₁ : List α} {l₂ : List β}, Paired F l₁ l₂ → ∀ {i : Nat} {a : α} {b : β}, l₁[i]? = some a → l₂[i]? = some b → F a b
  | _, _, .nil, i, a, b, h, _ => by simp at h
  | _, _, .cons h _, 0, a, b, h1, h2 => by
    have e1 := Option.some.inj h1
    have e2 := Option.some.inj h2
    subst e1 e2
    exact h
  | _, _, .cons _ r, i + 1, a, b, h1, h2 => pair_get r (i := i) (by simpa using h1) (by simpa using h2)
theorem key_val {k : Key} {v : Value} (h : keyIs k v = true) : RelV (kV k) v := by
  rcases keyIs_shape h with ⟨i, t, rfl, rfl⟩ | ⟨x, t, rfl, rfl⟩
  · exact ⟨t, rfl⟩
  · exact ⟨t, rfl⟩
theorem keys_vals {kvs : List (Key × V)} {vs : List (Key × Value)} {acc : List Value} (rel : KV kvs vs) (hl : acc.length = vs.length) (h : ∀ (j : Nat) (v : Value), acc[j]? = some v → ∃ (k : Key) (x : Value), vs[j]? = some (k, x) ∧ keyIs k v = true) : Vals (kvs.map fun p => kV p.1) acc := by
  refine paired_of_get ?_ ?_
  · rw [List.length_map, hl]; exact Paired.length rel
  · intro i a b ha hb
    obtain ⟨k, x, hv, hk⟩ := h i b hb
    rw [List.getElem?_map] at ha
    obtain ⟨p, hp, rfl⟩ := Option.map_eq_some_iff.mp ha
    have q := pair_get rel hp hv
    rw [q.1]
    exact key_val hk
theorem call_listD {K : PySem.W.Frag} (hc : X.calm = true) : CallR X (.type "list") (fun xs H Q => ∃ (a : Addr) (kvs : List (Key × V)), xs = [.ref a] ∧ H a = some (.dK kvs) ∧ ∀ l, H l = none → Q (.ref l) (upd H l (.lst (kvs.map fun p => kV p.1)))) := by
  intro pins s σ H xs us Q I r h
  obtain ⟨a, kvs, rfl, e, q⟩ := h
  obtain ⟨u, rfl, rx⟩ := vals1 r
  cases rx
  obtain ⟨z, lo, vs, rel, dd⟩ := dk_of I.hok e
  obtain ⟨ep, hat⟩ := dd.dictAt
  have hlen : kvs.length = vs.length := Paired.length rel
  refine PySem.W.kdl_call (PySem.W.kdl_dict (knd := mixKind X.prog X.w) (kvs := vs) (ep := ep) lo) (I.ok.hd hc) hat (by omega) fun h' tk acc c' kp e' it => ?_
  refine ⟨.ref s.heap.objs.size, _, I.laid (t' := tk) kp (Nat.le_refl _) (show ObjOk X.prog X.w _ h' _ (.lst (kvs.map fun p => kV p.1)) from ⟨by rw [List.length_map]; exact z, acc.toList, c', ?_, by simpa using e'⟩), rfl, q _ (I.hok.fresh (Nat.le_refl _))⟩
  exact keys_vals rel (by rw [Array.length_toList]; exact it.1) fun j v hv => it.2 j v (by rw [← Array.getElem?_toList]; exact hv)
end
end L2
namespace L2
open PySem
section
variable {prog : Program} {w : World} {A : Around} {E : Value → Shared → Prop} {s : Shared}
end
end L2
set_option maxRecDepth 100000
namespace L2
open PySem PySem.Spec PyProof.Rows
open MeetsSeq
section
variable {X : Cx} {o i value : Expr} {pos pos' : Pos} {td ty tv : TE}
end
end L2
namespace L2
open PySem PySem.Spec PyProof.Rows
structure ExF (K : PySem.W.Frag) (C : Addr) (f : Str) : Prop where
  ex : ExI K C
  hd : PySem.W.hasDictIn K C = true
  na : PySem.W.findIn K (.ref C) f = some none
  sa : PySem.W.findIn K (.ref C) "__setattr__" = some (some (.builtin "object.__setattr__"))
section
variable {prog : Program} {w : World} {A : Around} {E : Value → Shared → Prop} {K : PySem.W.Frag} {h : Heap} {g : Array GenState} {d : Drawn} {t : Nat} {os : OsState} {a C dx : Addr} {o : Obj} {f : Str} {v : Value}
end
abbrev VB : List Value := [.type "ValueError", .type "Exception", .type "BaseException", .type "object"]
structure ExP (K : PySem.W.Frag) (C cF fI : Addr) (f : Str) : Prop where
  lk : ∃ (nm q : Str) (NS : Addr) (bs : List Value) (hdct : Bool) (sn : List Str) (sub : List Value) (ab : Bool) (col : Option Bool) (dd : Option Addr) (k0 k1 k2 k3 k5 : Option Value),
    K.lookup C = some (excClassObj nm q C NS bs (.ref cF :: VB) hdct sn sub ab col dd k0 k1 k2 k3 k5 "ValueError.__new__")
  tl : PySem.W.excIn K cF VB "ValueError.__new__" = true
  init : PySem.W.findIn K (.ref C) "__init__" = some (some (.ref fI))
  fn : PySem.W.isFn K (.ref fI) = true
  fl : ExF K C f
theorem ExP.tail {K : PySem.W.Frag} {C cF fI : Addr} {f : Str} (X : ExP K C cF fI f) {h : Heap} (kin : K.In h) : OwnTail h VB (.ref cF :: VB) := by
  obtain ⟨bm, ⟨nm, q, NS, bs, hdct, sn, sub, ab, col, dd, k0, k1, k2, k3, k5, lk, more⟩⟩ := exc_of X.tl
  obtain ⟨⟨mN, hN, hni⟩, _⟩ := more h kin
  exact .own (kin _ _ lk) hN hni .base
section
variable {X : Cx} {o e value : Expr} {f : Str} {pos pos' : Pos} {ta tv : TE}
end
section
variable {prog : Program} {w : World} {A : Around} {E : Value → Shared → Prop} {K : PySem.W.Frag} {h : Heap} {g : Array GenState} {d : Drawn} {t : Nat} {os : OsState} {C cF fI : Addr} {f : Str}
end
section
variable {P : Program} {w : World} {K : PySem.W.Frag} {mg : Str → Option Value} {base : Heap} {N : List Str} {qual : Str} {scope : Scope} {f : Addr} {cd : Value} {A : Around} {outer : List Env} {s₀ : Shared} {H₀ : Hp} {E' : XK} {fl : Str}
end
end L2
namespace L2
open PySem PySem.Spec PyProof.Rows
theorem iteVI {a b : Int} {A B : Prop} (h1 : a = b → A) (h2 : ¬ a = b → B) : if decide (V.int a = V.int b) = true then A else B :=
  iteB (fun e => h1 (V.int.inj (of_decide_eq_true e))) fun e => h2 fun z => of_decide_eq_false e (congrArg V.int z)
theorem iteVS {a b : Str} {A B : Prop} (h1 : a = b → A) (h2 : ¬ a = b → B) : if decide (V.str a = V.str b) = true then A else B :=
  iteB (fun e => h1 (V.str.inj (of_decide_eq_true e))) fun e => h2 fun z => of_decide_eq_false e (congrArg V.str z)
theorem iteP {c : Prop} [Decidable c] {A B : Prop} (h1 : c → A) (h2 : ¬ c → B) : if decide c = true then A else B :=
  iteB (fun e => h1 (of_decide_eq_true e)) fun e => h2 (of_decide_eq_false e)
def tCut (t : TS) : TS := fun D σ H => ∃ N : St → Hp → Prop, t { D with nx := N } σ H ∧ ∀ σ' H', N σ' H' → D.nx σ' H'
theorem ps_cut {X : Cx} {st : PySem.Stmt} {t : TS} (h : PS X st t) : PS X st (tCut t) := fun pins s σ H D I ⟨N, q, k⟩ => by
  refine thn (h pins s σ H { D with nx := N } I q) fun f s' z => ?_
  cases f with
  | next => obtain ⟨σ', H', I', n⟩ := z; exact ⟨σ', H', I', k _ _ n⟩
  | brk => exact z
  | cont => exact z
  | ret u => exact z
theorem cutBy {t : TS} {D : Ends} {σ : St} {H : Hp} (N : St → Hp → Prop) (h : t { D with nx := N } σ H) (k : ∀ σ' H', N σ' H' → D.nx σ' H') : tCut t D σ H := ⟨N, h, k⟩
theorem Same.upd' {H : Hp} {a : Addr} {o : HO} (h : H a = none) : Same H (L2.upd H a o) := (Same.refl H).upd h
end L2
namespace Srt
open PySem PyProof.Rows
structure Cmp (prog : Program) (w : World) (A : Around) (s : Shared) (κ : SortKind) (O : KeyOrd) (kf : Value → O.α) (a₀ : Array Keyed) : Prop where
  ask : ∀ p ∈ a₀.toList, ∀ q ∈ a₀.toList, ∀ (Q : Bool → Shared → Prop) (E : Value → Shared → Prop), Q (O.blt (kf p.1) (kf q.1)) s → wpAny (model prog w) A (keyLt' κ p.1 q.1) Q E s
structure SB (κ : SortKind) (a₀ : Array Keyed) (st : SortSt) : Prop where
  perm : (arrOf st).Perm a₀
  kind : kindOf st = κ
  failed : failedOf st = none
def KX {O : KeyOrd} (kf : Value → O.α) (xs : Array Keyed) (i : Nat) : O.α := kf ((xs[i]?.map (·.1)).getD .none)
def Up {O : KeyOrd} (kf : Value → O.α) (xs : Array Keyed) (lo hi : Nat) : Prop := ∀ i j, lo ≤ i → i ≤ j → j < hi → O.kle (KX kf xs i) (KX kf xs j)
theorem kx_congr {O : KeyOrd} {kf : Value → O.α} {xs ys : Array Keyed} {i j : Nat} (h : xs[i]? = ys[j]?) : KX kf xs i = KX kf ys j := by unfold KX; rw [h]
section
variable {prog : Program} {w : World} {A : Around} {E : Value → Shared → Prop} {s : Shared} {κ : SortKind} {O : KeyOrd} {kf : Value → O.α} {a₀ : Array Keyed} {st : SortSt}
theorem SB.size (B : SB κ a₀ st) : (arrOf st).size = a₀.size := B.perm.size_eq
theorem SB.put (B : SB κ a₀ st) {xs : Array Keyed} (h : xs.Perm (arrOf st)) : SB κ a₀ (setArr st xs) := ⟨h.trans B.perm, B.kind, B.failed⟩
theorem SB.at (B : SB κ a₀ st) {i : Nat} (hi : i < a₀.size) : ∃ p, (arrOf st)[i]? = some p ∧ p ∈ a₀.toList ∧ KX kf (arrOf st) i = kf p.1 := by
  have hi' : i < (arrOf st).size := by rw [B.size]; exact hi
  refine ⟨(arrOf st)[i], getElem?_pos _ i hi', (Array.perm_iff_toList_perm.mp B.perm).mem_iff.mp (by simp), ?_⟩
  unfold KX
  rw [getElem?_pos _ i hi']
  rfl
theorem q_lt (C : Cmp prog w A s κ O kf a₀) (B : SB κ a₀ st) {p q : Keyed} (hp : p ∈ a₀.toList) (hq : q ∈ a₀.toList) {Q : Option Bool → SortSt → Prop} (h : Q (some (O.blt (kf p.1) (kf q.1))) st) : wpS (model prog w) A E s (lt' p q) Q st := by
  rw [lt'_eq]
  refine wpS_bind (wpS_get ?_)
  rw [B.kind]
  exact wpS_bind (wpS_lift (wpAny_attempt (C.ask p hp q hq _ _ ⟨rfl, wpS_pure h⟩)))
theorem q_ltAt (C : Cmp prog w A s κ O kf a₀) (B : SB κ a₀ st) {i j : Nat} (hi : i < a₀.size) (hj : j < a₀.size) {Q : Option Bool → SortSt → Prop} (h : Q (some (O.blt (KX kf (arrOf st) i) (KX kf (arrOf st) j))) st) : wpS (model prog w) A E s (ltAt' i j) Q st := by
  obtain ⟨p, ep, mp, kp⟩ := B.at (kf := kf) hi
  obtain ⟨q, eq, mq, kq⟩ := B.at (kf := kf) hj
  rw [kp, kq] at h
  rw [ltAt'_eq]
  refine wpS_bind (wpS_get ?_)
  show wpS _ _ _ _ (elem' (arrOf st) i >>= fun x => elem' (arrOf st) j >>= fun y => lt' x y) Q st
  rw [elem'_eq, elem'_eq, ep, eq]
  exact wpS_bind (wpS_pure (wpS_bind (wpS_pure (q_lt C B mp mq h))))
theorem kx_mirror {xs : Array Keyed} {i j : Nat} (hj : j ≤ xs.size) (k : Nat) : KX kf (mirror xs i j ((j - i) / 2)) k = if i ≤ k ∧ k < j then KX kf xs (i + j - 1 - k) else KX kf xs k := by
  have e := getElem?_mirror_all (xs := xs) (i := i) hj k
  by_cases h : i ≤ k ∧ k < j
  · rw [if_pos h] at e ⊢; exact kx_congr e
  · rw [if_neg h] at e ⊢; exact kx_congr e
theorem kx_bubble {xs : Array Keyed} {src d : Nat} (hs : src < xs.size) (hd : d ≤ src) (k : Nat) : KX kf (bubble xs src d) k = if k = src - d then KX kf xs src else if src - d < k ∧ k ≤ src then KX kf xs (k - 1) else KX kf xs k := by
  have e := getElem?_bubble hs d hd k
  by_cases h1 : k = src - d
  · rw [if_pos h1] at e ⊢; exact kx_congr e
  · rw [if_neg h1] at e ⊢
    by_cases h2 : src - d < k ∧ k ≤ src
    · rw [if_pos h2] at e ⊢; exact kx_congr e
    · rw [if_neg h2] at e ⊢; exact kx_congr e
structure Keep (lo : Nat) (st st' : SortSt) : Prop where
  pend : pendingOf st' = pendingOf st
  low : ∀ k, k < lo → (arrOf st')[k]? = (arrOf st)[k]?
theorem Keep.refl (lo : Nat) (st : SortSt) : Keep lo st st := ⟨rfl, fun _ _ => rfl⟩
theorem Keep.trans {lo : Nat} {a b c : SortSt} (x : Keep lo a b) (y : Keep lo b c) : Keep lo a c := ⟨y.pend.trans x.pend, fun k h => (y.low k h).trans (x.low k h)⟩
theorem q_binary (C : Cmp prog w A s κ O kf a₀) {lo n ok : Nat} (hn : lo + n ≤ a₀.size) (hok : ok ≤ n) (B : SB κ a₀ st) (hs : Up kf (arrOf st) lo (lo + ok)) {Q : Bool → SortSt → Prop}
    (h : ∀ st', SB κ a₀ st' → Keep lo st st' → Up kf (arrOf st') lo (lo + n) → Q true st') : wpS (model prog w) A E s (binarySort' lo n ok) Q st := by
  rw [binarySort'_eq]
  refine wpS_bind (wpS_mono (wpS_forRange (I := fun k c st' => c = (none, ()) ∧ SB κ a₀ st' ∧ Keep lo st st' ∧ Up kf (arrOf st') lo (lo + min k n))
    (Q := fun c st' => c = (none, ()) ∧ SB κ a₀ st' ∧ Keep lo st st' ∧ Up kf (arrOf st') lo (lo + n)) ?step ?fin ?init) ?post)
  case post =>
    rintro c st' ⟨rfl, B', K', u⟩
    exact wpS_pure (h st' B' K' u)
  case init =>
    refine ⟨rfl, B, Keep.refl _ _, fun i j h1 h2 h3 => ?_⟩
    by_cases z : ok = 0
    · obtain rfl : i = j := by omega
      exact KeyOrd.kle_refl _
    · exact hs i j h1 h2 (by omega)
  case fin =>
    rintro c st' ⟨hc, B', K', u⟩
    rw [show min (max (max ok 1) n) n = n by omega] at u
    exact ⟨hc, B', K', u⟩
  case step =>
    rintro k c st' hk1 hk2 ⟨rfl, B', K', u⟩
    rw [show min k n = k by omega] at u
    refine wpS_bind (wpS_mono (wpS_forRange (I := fun x c st2 => st2 = st' ∧ ∃ l r, c = (none, l, r) ∧ l ≤ r ∧ r ≤ k ∧ r - l ≤ k - x ∧
        (∀ i, i < l → O.kle (KX kf (arrOf st') (lo + i)) (KX kf (arrOf st') (lo + k))) ∧ (∀ i, r ≤ i → i < k → O.klt (KX kf (arrOf st') (lo + k)) (KX kf (arrOf st') (lo + i))))
      (Q := fun c st2 => st2 = st' ∧ ∃ l r, c = (none, l, r) ∧ l ≤ k ∧ (∀ i, i < l → O.kle (KX kf (arrOf st') (lo + i)) (KX kf (arrOf st') (lo + k))) ∧ (∀ i, l ≤ i → i < k → O.klt (KX kf (arrOf st') (lo + k)) (KX kf (arrOf st') (lo + i)))) ?i1 ?i2 ?i3) ?i4)
    case i3 => exact ⟨rfl, 0, k, rfl, by omega, by omega, by omega, fun i q => by omega, fun i q1 q2 => by omega⟩
    case i2 =>
      rintro c st2 ⟨rfl, l, r, rfl, h1, h2, h3, h4, h5⟩
      obtain rfl : l = r := by omega
      exact ⟨rfl, l, l, rfl, h2, h4, h5⟩
    case i1 =>
      rintro x c st2 _ hx ⟨rfl, l, r, rfl, h1, h2, h3, h4, h5⟩
      dsimp only
      by_cases g : l ≥ r
      · rw [if_pos g]
        obtain rfl : l = r := by omega
        exact wpS_pure ⟨rfl, l, l, rfl, h2, h4, h5⟩
      · rw [if_neg g]
        refine wpS_bind (q_ltAt C B' (by omega) (by omega) ?_)
        cases e : O.blt (KX kf (arrOf st2) (lo + k)) (KX kf (arrOf st2) (lo + (l + r) / 2)) with
        | true =>
          refine wpS_pure ⟨rfl, l, (l + r) / 2, rfl, by omega, by omega, by omega, h4, fun i q1 q2 => ?_⟩
          exact KeyOrd.klt_of_klt_of_kle e (u _ _ (by omega) (by omega) (by omega))
        | false =>
          refine wpS_pure ⟨rfl, (l + r) / 2 + 1, r, rfl, by omega, by omega, by omega, fun i q1 => ?_, h5⟩
          exact KeyOrd.kle_trans (u (lo + i) (lo + (l + r) / 2) (by omega) (by omega) (by omega)) (show O.kle _ _ from e)
    case i4 =>
      rintro c st2 ⟨rfl, l, r, rfl, h1, h4, h5⟩
      show wpS _ _ _ _ (moveDown' (lo + k) (lo + l) >>= fun _ => pure (ForInStep.yield (none, ()))) _ _
      rw [moveDown'_eq]
      have hks : lo + k < (arrOf st2).size := by rw [B'.size]; omega
      have hd : lo + k - (lo + l) ≤ lo + k := by omega
      refine wpS_bind (wpS_modify (wpS_pure ⟨rfl, B'.put (bubble_perm _ _ _), K'.trans ⟨rfl, fun z hz => ?_⟩, ?_⟩))
      · show (bubble (arrOf st2) (lo + k) (lo + k - (lo + l)))[z]? = _
        rw [getElem?_bubble hks _ hd, if_neg (by omega), if_neg (by omega)]
      · rw [show min (k + 1) n = k + 1 by omega]
        intro i j q1 q2 q3
        show O.kle (KX kf (bubble (arrOf st2) (lo + k) (lo + k - (lo + l))) i) (KX kf (bubble (arrOf st2) (lo + k) (lo + k - (lo + l))) j)
        rw [kx_bubble hks hd, kx_bubble hks hd, show lo + k - (lo + k - (lo + l)) = lo + l by omega]
        have lowv : ∀ z, lo ≤ z → z < lo + l → O.kle (KX kf (arrOf st2) z) (KX kf (arrOf st2) (lo + k)) := fun z z1 z2 => by
          have := h4 (z - lo) (by omega)
          rwa [show lo + (z - lo) = z by omega] at this
        have hiv : ∀ z, lo + l ≤ z → z < lo + k → O.klt (KX kf (arrOf st2) (lo + k)) (KX kf (arrOf st2) z) := fun z z1 z2 => by
          have := h5 (z - lo) (by omega) (by omega)
          rwa [show lo + (z - lo) = z by omega] at this
        repeat' split
        all_goals first
          | (exfalso; omega)
          | exact KeyOrd.kle_refl _
          | exact lowv _ (by omega) (by omega)
          | exact KeyOrd.kle_of_klt (hiv _ (by omega) (by omega))
          | exact u _ _ (by omega) (by omega) (by omega)
end
end Srt
namespace Srt
open PySem PyProof.Rows
section
variable {prog : Program} {w : World} {A : Around} {E : Value → Shared → Prop} {s : Shared} {κ : SortKind} {O : KeyOrd} {kf : Value → O.α} {a₀ : Array Keyed} {st : SortSt}
theorem Up.grow {xs : Array Keyed} {lo n : Nat} (u : Up kf xs lo (lo + n)) (h1 : 1 ≤ n) (h : O.kle (KX kf xs (lo + n - 1)) (KX kf xs (lo + n))) : Up kf xs lo (lo + (n + 1)) := fun i j q1 q2 q3 => by
  by_cases z : j = lo + n
  · subst z
    by_cases z2 : i = lo + n
    · subst z2; exact KeyOrd.kle_refl _
    · exact KeyOrd.kle_trans (u i (lo + n - 1) q1 (by omega) (by omega)) h
  · exact u i j q1 q2 (by omega)
def Dn (kf : Value → O.α) (xs : Array Keyed) (lo hi : Nat) : Prop := ∀ i j, lo ≤ i → i ≤ j → j < hi → O.kle (KX kf xs j) (KX kf xs i)
theorem Dn.grow {xs : Array Keyed} {lo n : Nat} (u : Dn kf xs lo (lo + n)) (h1 : 1 ≤ n) (h : O.kle (KX kf xs (lo + n)) (KX kf xs (lo + n - 1))) : Dn kf xs lo (lo + (n + 1)) := fun i j q1 q2 q3 => by
  by_cases z : j = lo + n
  · subst z
    by_cases z2 : i = lo + n
    · subst z2; exact KeyOrd.kle_refl _
    · exact KeyOrd.kle_trans h (u i (lo + n - 1) q1 (by omega) (by omega))
  · exact u i j q1 q2 (by omega)
theorem keep_mirror (B : SB κ a₀ st) {lo i j : Nat} (hi : lo ≤ i) (hj : j ≤ a₀.size) : SB κ a₀ (setArr st (mirror (arrOf st) i j ((j - i) / 2))) ∧ Keep lo st (setArr st (mirror (arrOf st) i j ((j - i) / 2))) := by
  refine ⟨B.put (mirror_perm _ _ _ _), rfl, fun k hk => ?_⟩
  show (mirror (arrOf st) i j ((j - i) / 2))[k]? = _
  rw [getElem?_mirror_all (by rw [B.size]; exact hj), if_neg (by omega)]
theorem mirror_eq (B : SB κ a₀ st) {i j : Nat} (hj : j ≤ a₀.size) (h : ∀ k, i ≤ k → k < j → KX kf (arrOf st) k = KX kf (arrOf st) (j - 1)) (k : Nat) : KX kf (mirror (arrOf st) i j ((j - i) / 2)) k = KX kf (arrOf st) k := by
  rw [kx_mirror (by rw [B.size]; exact hj)]
  split
  · rw [h _ (by omega) (by omega), h k (by omega) (by omega)]
  · rfl
theorem q_rise (C : Cmp prog w A s κ O kf a₀) {lo nrem n0 : Nat} (hn : lo + nrem ≤ a₀.size) (h0 : 1 ≤ n0) (h1 : n0 ≤ nrem) (B : SB κ a₀ st) (u : Up kf (arrOf st) lo (lo + n0)) {Q : Option (Option Nat) × Nat → SortSt → Prop}
    (h : ∀ n, n0 ≤ n → n ≤ nrem → Up kf (arrOf st) lo (lo + n) → (n < nrem → O.klt (KX kf (arrOf st) (lo + n)) (KX kf (arrOf st) (lo + n - 1))) → Q (none, n) st)
    {f : Nat → Option (Option Nat) × Nat → StateT SortSt Sem (ForInStep (Option (Option Nat) × Nat))} (hf : ∀ x c, f x c = (do
      match (← ltAt' (lo + c.2) (lo + c.2 - 1)) with
      | some b => if b = true then pure (.done (none, c.2)) else pure (.yield (none, c.2 + 1))
      | none => pure (.done (some none, c.2)))) : wpS (model prog w) A E s (forIn [n0:nrem] (none, n0) f) Q st := by
  refine wpS_forRange (I := fun x c st' => st' = st ∧ c = (none, x) ∧ n0 ≤ x ∧ x ≤ nrem ∧ Up kf (arrOf st) lo (lo + x)) ?_ ?_ ⟨rfl, rfl, Nat.le_refl _, h1, u⟩
  · rintro x c st' hx1 hx2 ⟨rfl, rfl, h2, h3, u'⟩
    rw [hf]
    refine wpS_bind (q_ltAt C B (by omega) (by omega) ?_)
    cases e : O.blt (KX kf (arrOf st') (lo + x)) (KX kf (arrOf st') (lo + x - 1)) with
    | true => exact wpS_pure (h x h2 h3 u' fun _ => e)
    | false => exact wpS_pure ⟨rfl, rfl, by omega, by omega, u'.grow (by omega) e⟩
  · rintro c st' ⟨rfl, rfl, h2, h3, u'⟩
    rw [show max n0 nrem = nrem by omega] at u' ⊢
    exact h nrem h1 (Nat.le_refl _) u' fun q => absurd q (Nat.lt_irrefl _)
end
section
variable {prog : Program} {w : World} {A : Around} {E : Value → Shared → Prop} {s : Shared} {κ : SortKind} {O : KeyOrd} {kf : Value → O.α} {a₀ : Array Keyed} {st : SortSt}
abbrev RSt := Option (Option Nat) × Nat
def riseB (lo : Nat) (c : RSt) : StateT SortSt Sem (ForInStep RSt) := ltAt' (lo + c.2) (lo + c.2 - 1) >>= fun o => match o with
  | some b => if b = true then pure (.done (none, c.2)) else pure (.yield (none, c.2 + 1))
  | _ => pure (.done (some none, c.2))
def tl3 (lo nrem n : Nat) : StateT SortSt Sem (Option Nat) := reverseSlice' lo (lo + n) >>= fun _ => forIn [n:nrem] ((none, n) : RSt) (fun _ c => riseB lo c) >>= fun c => match c.1 with
  | some r => pure r
  | none => pure (some c.2)
abbrev DSt := Option (Option Nat) × Nat × Nat
def fallB (lo : Nat) (c : DSt) : StateT SortSt Sem (ForInStep DSt) := ltAt' (lo + c.2.1) (lo + c.2.1 - 1) >>= fun o => match o with
  | some b => if b = true then (if c.2.2 > 0 then reverseSlice' (lo + c.2.1 - (c.2.2 + 1)) (lo + c.2.1) >>= fun _ => pure (.yield (none, c.2.1 + 1, 0)) else pure (.yield (none, c.2.1 + 1, 0)))
      else ltAt' (lo + c.2.1 - 1) (lo + c.2.1) >>= fun o2 => match o2 with
        | some b2 => if b2 = true then pure (.done (none, c.2.1, c.2.2)) else pure (.yield (none, c.2.1 + 1, c.2.2 + 1))
        | _ => pure (.done (some none, c.2.1, c.2.2))
  | _ => pure (.done (some none, c.2.1, c.2.2))
def dsc (lo nrem n : Nat) : StateT SortSt Sem (Option Nat) := liftM (rule "list.sort.descending-run") >>= fun _ => forIn [n + 1:nrem] ((none, n + 1, 0) : DSt) (fun _ c => fallB lo c) >>= fun c => match c.1 with
  | some r => pure r
  | none => if c.2.2 > 0 then reverseSlice' (lo + c.2.1 - (c.2.2 + 1)) (lo + c.2.1) >>= fun _ => tl3 lo nrem c.2.1 else tl3 lo nrem c.2.1
theorem q_tl3 (C : Cmp prog w A s κ O kf a₀) {lo nrem n : Nat} (hn : lo + nrem ≤ a₀.size) (h0 : 1 ≤ n) (h1 : n ≤ nrem) (B : SB κ a₀ st) (dn : Dn kf (arrOf st) lo (lo + n)) {Q : Option Nat → SortSt → Prop}
    (h : ∀ m st', SB κ a₀ st' → Keep lo st st' → 1 ≤ m → m ≤ nrem → Up kf (arrOf st') lo (lo + m) → Q (some m) st') : wpS (model prog w) A E s (tl3 lo nrem n) Q st := by
  unfold tl3
  rw [reverseSlice'_eq]
  refine wpS_bind (wpS_modify ?_)
  obtain ⟨B1, K1⟩ := keep_mirror B (Nat.le_refl lo) (show lo + n ≤ a₀.size by omega)
  have u : Up kf (mirror (arrOf st) lo (lo + n) ((lo + n - lo) / 2)) lo (lo + n) := fun i j q1 q2 q3 => by
    rw [kx_mirror (by rw [B.size]; omega), kx_mirror (by rw [B.size]; omega), if_pos (by omega), if_pos (by omega)]
    exact dn _ _ (by omega) (by omega) (by omega)
  refine wpS_bind (q_rise C hn h0 h1 B1 u (fun m m1 m2 u2 _ => ?_) fun x c => congrArg (ltAt' _ _ >>= ·) (funext fun o => by cases o <;> rfl))
  exact wpS_pure (h m _ B1 K1 (by omega) m2 u2)
theorem q_dsc (C : Cmp prog w A s κ O kf a₀) {lo nrem n : Nat} (hn : lo + nrem ≤ a₀.size) (h0 : 1 ≤ n) (h1 : n < nrem) (B : SB κ a₀ st) (eq : ∀ k, lo ≤ k → k < lo + n → KX kf (arrOf st) k = KX kf (arrOf st) (lo + n - 1)) (lt : O.klt (KX kf (arrOf st) (lo + n)) (KX kf (arrOf st) (lo + n - 1))) {Q : Option Nat → SortSt → Prop}
    (h : ∀ m st', SB κ a₀ st' → Keep lo st st' → 1 ≤ m → m ≤ nrem → Up kf (arrOf st') lo (lo + m) → Q (some m) st') : wpS (model prog w) A E s (dsc lo nrem n) Q st := by
  unfold dsc
  refine wpS_bind (wpS_lift (wpAny_rule ⟨rfl, ?_⟩))
  have dn0 : Dn kf (arrOf st) lo (lo + (n + 1)) := Dn.grow (fun i j q1 q2 q3 => by rw [eq i q1 (by omega), eq j (by omega) q3]; exact KeyOrd.kle_refl _) h0 (KeyOrd.kle_of_klt lt)
  refine wpS_bind (wpS_mono (wpS_forRange (I := fun x c st' => ∃ e, c = (none, x, e) ∧ n + 1 ≤ x ∧ x ≤ nrem ∧ e + 1 ≤ x ∧ SB κ a₀ st' ∧ Keep lo st st' ∧ Dn kf (arrOf st') lo (lo + x) ∧ ∀ k, lo + x - (e + 1) ≤ k → k < lo + x → KX kf (arrOf st') k = KX kf (arrOf st') (lo + x - 1))
    (Q := fun c st' => ∃ x e, c = (none, x, e) ∧ n + 1 ≤ x ∧ x ≤ nrem ∧ e + 1 ≤ x ∧ SB κ a₀ st' ∧ Keep lo st st' ∧ Dn kf (arrOf st') lo (lo + x) ∧ ∀ k, lo + x - (e + 1) ≤ k → k < lo + x → KX kf (arrOf st') k = KX kf (arrOf st') (lo + x - 1)) ?step ?fin ?init) ?post)
  case init => exact ⟨0, rfl, Nat.le_refl _, h1, by omega, B, Keep.refl _ _, dn0, fun k q1 q2 => by rw [show k = lo + (n + 1) - 1 by omega]⟩
  case fin =>
    rintro c st' ⟨e, rfl, x1, x2, r⟩
    exact ⟨_, e, rfl, x1, x2, r⟩
  case step =>
    rintro x c st' hx1 hx2 ⟨e, rfl, x1, x2, e1, B', K', dn, eqs⟩
    unfold fallB
    dsimp only
    refine wpS_bind (q_ltAt C B' (by omega) (by omega) ?_)
    cases b : O.blt (KX kf (arrOf st') (lo + x)) (KX kf (arrOf st') (lo + x - 1)) with
    | true =>
      dsimp only
      rw [if_pos rfl]
      have dn2 : ∀ ys : Array Keyed, (∀ k, KX kf ys k = KX kf (arrOf st') k) → Dn kf ys lo (lo + (x + 1)) := fun ys hk => by
        have := dn.grow (by omega) (KeyOrd.kle_of_klt b)
        intro i j q1 q2 q3
        rw [hk, hk]
        exact this i j q1 q2 q3
      by_cases he : e > 0
      · rw [if_pos he, reverseSlice'_eq]
        refine wpS_bind (wpS_modify (wpS_pure ?_))
        obtain ⟨B1, K1⟩ := keep_mirror B' (show lo ≤ lo + x - (e + 1) by omega) (show lo + x ≤ a₀.size by omega)
        exact ⟨0, rfl, by omega, by omega, by omega, B1, K'.trans K1, dn2 _ (mirror_eq B' (by omega) eqs), fun k q1 q2 => by rw [show k = lo + (x + 1) - 1 by omega]⟩
      · rw [if_neg he]
        exact wpS_pure ⟨0, rfl, by omega, by omega, by omega, B', K', dn2 _ (fun _ => rfl), fun k q1 q2 => by rw [show k = lo + (x + 1) - 1 by omega]⟩
    | false =>
      dsimp only
      rw [if_neg Bool.false_ne_true]
      refine wpS_bind (q_ltAt C B' (by omega) (by omega) ?_)
      cases b2 : O.blt (KX kf (arrOf st') (lo + x - 1)) (KX kf (arrOf st') (lo + x)) with
      | true => exact wpS_pure ⟨x, e, rfl, x1, x2, e1, B', K', dn, eqs⟩
      | false =>
        have ek : KX kf (arrOf st') (lo + x - 1) = KX kf (arrOf st') (lo + x) := O.total _ _ b2 b
        refine wpS_pure ⟨e + 1, rfl, by omega, by omega, by omega, B', K', dn.grow (by omega) b2, fun k q1 q2 => ?_⟩
        rw [show lo + (x + 1) - 1 = lo + x by omega]
        by_cases z : k = lo + x
        · rw [z]
        · rw [eqs k (by omega) (by omega), ek]
  case post =>
    rintro c st' ⟨x, e, rfl, x1, x2, e1, B', K', dn, eqs⟩
    dsimp only
    by_cases he : e > 0
    · rw [if_pos he, reverseSlice'_eq]
      refine wpS_bind (wpS_modify ?_)
      obtain ⟨B1, K1⟩ := keep_mirror B' (show lo ≤ lo + x - (e + 1) by omega) (show lo + x ≤ a₀.size by omega)
      refine q_tl3 C hn (by omega) x2 B1 (fun i j q1 q2 q3 => ?_) fun m st2 B2 K2 => h m st2 B2 ((K'.trans K1).trans K2)
      show O.kle (KX kf (mirror (arrOf st') _ _ _) j) (KX kf (mirror (arrOf st') _ _ _) i)
      rw [mirror_eq B' (by omega) eqs, mirror_eq B' (by omega) eqs]
      exact dn i j q1 q2 q3
    · rw [if_neg he]
      exact q_tl3 C hn (by omega) x2 B' dn fun m st2 B2 K2 => h m st2 B2 (K'.trans K2)
theorem wpS_eq {M : Model} {α σ : Type} {m m' : StateT σ Sem α} {Q : α → σ → Prop} {t : σ} (e : m' = m) (h : wpS M A E s m Q t) : wpS M A E s m' Q t := by rw [e]; exact h
theorem q_count (C : Cmp prog w A s κ O kf a₀) {lo nrem : Nat} (hn : lo + nrem ≤ a₀.size) (h1 : 1 ≤ nrem) (B : SB κ a₀ st) {Q : Option Nat → SortSt → Prop}
    (h : ∀ n st', SB κ a₀ st' → Keep lo st st' → 1 ≤ n → n ≤ nrem → Up kf (arrOf st') lo (lo + n) → Q (some n) st') : wpS (model prog w) A E s (countRun' lo nrem) Q st := by
  rw [countRun'_eq]
  have u1 : Up kf (arrOf st) lo (lo + 1) := fun i j q1 q2 q3 => by
    obtain rfl : i = j := by omega
    exact KeyOrd.kle_refl _
  refine wpS_bind (q_rise C hn (Nat.le_refl _) h1 B u1 (fun n n1 n2 u kl => ?_) fun x c => congrArg (ltAt' _ _ >>= ·) (funext fun o => by cases o <;> rfl))
  dsimp only
  by_cases hnr : n = nrem
  · subst hnr
    rw [if_pos (beq_self_eq_true n)]
    exact wpS_pure (h n st B (Keep.refl _ _) n1 n2 u)
  · rw [if_neg (by simpa using hnr)]
    by_cases hg : n > 1
    · rw [if_pos hg]
      refine wpS_bind (q_ltAt C B (by omega) (by omega) ?_)
      cases b : O.blt (KX kf (arrOf st) lo) (KX kf (arrOf st) (lo + n - 1)) with
      | true => exact wpS_pure (h n st B (Keep.refl _ _) n1 n2 u)
      | false =>
        have eqk : ∀ k, lo ≤ k → k < lo + n → KX kf (arrOf st) k = KX kf (arrOf st) (lo + n - 1) := fun k q1 q2 => by
          refine KeyOrd.kle_antisymm (u k (lo + n - 1) q1 (by omega) (by omega)) (KeyOrd.kle_trans (show O.kle _ _ from b) (u lo k (Nat.le_refl _) q1 q2))
        dsimp only
        rw [if_neg Bool.false_ne_true]
        refine wpS_bind ?_
        rw [reverseSlice'_eq]
        refine wpS_modify ?_
        refine wpS_eq (m := dsc lo nrem n) ?same ?_
        case same =>
          exact (by
            unfold dsc
            refine congrArg (liftM (rule _) >>= ·) (funext fun _ => congr (congrArg _ (congrArg (forIn _ _) (funext fun _ => funext fun c => ?_))) (funext fun c => ?_))
            · unfold fallB
              refine congrArg (ltAt' _ _ >>= ·) (funext fun o => ?_)
              cases o with
              | none => rfl
              | some b =>
                cases b with
                | true => rfl
                | false => exact congrArg (ltAt' _ _ >>= ·) (funext fun o2 => by cases o2 <;> rfl)
            · obtain ⟨c1, c2⟩ := c
              have t3 : ∀ n, tl3 lo nrem n = (reverseSlice' lo (lo + n) >>= fun _ => forIn [n:nrem] ((none, n) : RSt) (fun _ c => riseB lo c) >>= fun c => match c.1 with
                | some r => pure r
                | none => pure (some c.2)) := fun _ => rfl
              have t4 : ∀ n (X : Nat → RSt → StateT SortSt Sem (ForInStep RSt)) (Y : RSt → StateT SortSt Sem (Option Nat)), (∀ x c, X x c = riseB lo c) → (∀ c, Y c = match c.1 with
                | some r => pure r
                | none => pure (some c.2)) → (reverseSlice' lo (lo + n) >>= fun _ => forIn [n:nrem] ((none, n) : RSt) X >>= Y) = tl3 lo nrem n := fun n X Y h1 h2 => by
                rw [t3, show X = fun _ c => riseB lo c from funext fun x => funext fun c => h1 x c, show Y = _ from funext h2]
              cases c1 with
              | some r => rfl
              | none =>
                dsimp only
                by_cases z : c2.2 > 0
                · rw [if_pos z, if_pos z]
                  refine congrArg (reverseSlice' _ _ >>= ·) (funext fun _ => ?_)
                  exact t4 _ _ _ (fun x c => congrArg (ltAt' _ _ >>= ·) (funext fun o => by cases o <;> rfl)) (fun c => by obtain ⟨d1, d2⟩ := c; cases d1 <;> rfl)
                · rw [if_neg z, if_neg z]
                  exact t4 _ _ _ (fun x c => congrArg (ltAt' _ _ >>= ·) (funext fun o => by cases o <;> rfl)) (fun c => by obtain ⟨d1, d2⟩ := c; cases d1 <;> rfl))
        obtain ⟨B1, K1⟩ := keep_mirror B (Nat.le_refl lo) (show lo + n ≤ a₀.size by omega)
        have me := mirror_eq B (i := lo) (j := lo + n) (by omega) eqk
        refine q_dsc C hn n1 (by omega) B1 (fun k q1 q2 => ?_) ?_ fun m st2 B2 K2 => h m st2 B2 (K1.trans K2)
        · show KX kf (mirror (arrOf st) _ _ _) k = KX kf (mirror (arrOf st) _ _ _) _
          rw [me, me]
          exact eqk k q1 q2
        · show O.klt (KX kf (mirror (arrOf st) _ _ _) _) (KX kf (mirror (arrOf st) _ _ _) _)
          rw [me, me]
          exact kl (by omega)
    · rw [if_neg hg]
      refine wpS_eq (m := dsc lo nrem n) ?same ?_
      case same =>
          exact (by
            unfold dsc
            refine congrArg (liftM (rule _) >>= ·) (funext fun _ => congr (congrArg _ (congrArg (forIn _ _) (funext fun _ => funext fun c => ?_))) (funext fun c => ?_))
            · unfold fallB
              refine congrArg (ltAt' _ _ >>= ·) (funext fun o => ?_)
              cases o with
              | none => rfl
              | some b =>
                cases b with
                | true => rfl
                | false => exact congrArg (ltAt' _ _ >>= ·) (funext fun o2 => by cases o2 <;> rfl)
            · obtain ⟨c1, c2⟩ := c
              have t3 : ∀ n, tl3 lo nrem n = (reverseSlice' lo (lo + n) >>= fun _ => forIn [n:nrem] ((none, n) : RSt) (fun _ c => riseB lo c) >>= fun c => match c.1 with
                | some r => pure r
                | none => pure (some c.2)) := fun _ => rfl
              have t4 : ∀ n (X : Nat → RSt → StateT SortSt Sem (ForInStep RSt)) (Y : RSt → StateT SortSt Sem (Option Nat)), (∀ x c, X x c = riseB lo c) → (∀ c, Y c = match c.1 with
                | some r => pure r
                | none => pure (some c.2)) → (reverseSlice' lo (lo + n) >>= fun _ => forIn [n:nrem] ((none, n) : RSt) X >>= Y) = tl3 lo nrem n := fun n X Y h1 h2 => by
                rw [t3, show X = fun _ c => riseB lo c from funext fun x => funext fun c => h1 x c, show Y = _ from funext h2]
              cases c1 with
              | some r => rfl
              | none =>
                dsimp only
                by_cases z : c2.2 > 0
                · rw [if_pos z, if_pos z]
                  refine congrArg (reverseSlice' _ _ >>= ·) (funext fun _ => ?_)
                  exact t4 _ _ _ (fun x c => congrArg (ltAt' _ _ >>= ·) (funext fun o => by cases o <;> rfl)) (fun c => by obtain ⟨d1, d2⟩ := c; cases d1 <;> rfl)
                · rw [if_neg z, if_neg z]
                  exact t4 _ _ _ (fun x c => congrArg (ltAt' _ _ >>= ·) (funext fun o => by cases o <;> rfl)) (fun c => by obtain ⟨d1, d2⟩ := c; cases d1 <;> rfl))
      obtain rfl : n = 1 := by omega
      exact q_dsc C hn n1 (by omega) B (fun k q1 q2 => by rw [show k = lo + 1 - 1 by omega]) (kl (by omega)) h
end
end Srt
namespace Srt
open PySem PyProof.Rows
def gallop' : Bool → Keyed → Array Keyed → Nat → Nat → Nat → StateT SortSt Sem (Option Nat) := sortPriv% PySem.Builtin.gallop
def mergeLo' : Array Keyed → Array Keyed → StateT SortSt Sem (Array Keyed) := sortPriv% PySem.Builtin.mergeLo
def mergeHi' : Array Keyed → Array Keyed → StateT SortSt Sem (Array Keyed) := sortPriv% PySem.Builtin.mergeHi
section
variable {prog : Program} {w : World} {A : Around} {E : Value → Shared → Prop} {s : Shared} {κ : SortKind} {O : KeyOrd} {kf : Value → O.α} {a₀ : Array Keyed} {st : SortSt}
theorem q_elem {arr : Array Keyed} {i : Nat} (hi : i < arr.size) {Q : Keyed → SortSt → Prop} (h : Q arr[i] st) : wpS (model prog w) A E s (elem' arr i) Q st := by
  rw [elem'_eq, getElem?_pos arr i hi]
  exact wpS_pure h
def bey (kf : Value → O.α) (left : Bool) (key : Keyed) (arr : Array Keyed) (base i : Nat) : Bool := if left = true then O.blt (KX kf arr (base + i)) (kf key.1) else !O.blt (kf key.1) (KX kf arr (base + i))
theorem kx_at {arr : Array Keyed} {i : Nat} (hi : i < arr.size) : KX kf arr i = kf arr[i].1 := by
  unfold KX
  rw [getElem?_pos arr i hi]
  rfl
theorem q_bey (C : Cmp prog w A s κ O kf a₀) (B : SB κ a₀ st) {left : Bool} {key : Keyed} {arr : Array Keyed} {base i : Nat} (hk : key ∈ a₀.toList) (ha : ∀ p ∈ arr.toList, p ∈ a₀.toList) (hi : base + i < arr.size) {Q : Option Bool → SortSt → Prop} (h : Q (some (bey kf left key arr base i)) st) :
    wpS (model prog w) A E s (elem' arr (base + i) >>= fun x => if left = true then lt' x key else lt' key x >>= fun o => pure (o.map fun b => !b)) Q st := by
  refine wpS_bind (q_elem hi ?_)
  have hm : arr[base + i] ∈ a₀.toList := ha _ (by simp)
  unfold bey at h
  rw [kx_at hi] at h
  cases left with
  | true =>
    rw [if_pos rfl] at h ⊢
    exact q_lt C B hm hk h
  | false =>
    rw [if_neg Bool.false_ne_true] at h ⊢
    exact wpS_bind (q_lt C B hk hm (wpS_pure h))
theorem bey_mono {left : Bool} {key : Keyed} {arr : Array Keyed} {base n i j : Nat} (u : Up kf arr base (base + n)) (hij : i ≤ j) (hj : j < n) (h : bey kf left key arr base j = true) : bey kf left key arr base i = true := by
  have uu := u (base + i) (base + j) (by omega) (by omega) (by omega)
  unfold bey at h ⊢
  cases left with
  | true =>
    rw [if_pos rfl] at h ⊢
    exact KeyOrd.klt_of_kle_of_klt uu h
  | false =>
    rw [if_neg Bool.false_ne_true] at h ⊢
    have h : O.kle (KX kf arr (base + j)) (kf key.1) := by show O.blt _ _ = false; simpa using h
    have : O.blt (kf key.1) (KX kf arr (base + i)) = false := KeyOrd.kle_trans uu h
    rw [this]
    rfl
theorem q_gallop (C : Cmp prog w A s κ O kf a₀) (B : SB κ a₀ st) {left : Bool} {key : Keyed} {arr : Array Keyed} {base n hint : Nat} (hk : key ∈ a₀.toList) (ha : ∀ p ∈ arr.toList, p ∈ a₀.toList) (hb : base + n ≤ arr.size) (hh : hint < n) (u : Up kf arr base (base + n)) {Q : Option Nat → SortSt → Prop}
    (h : ∀ k, k ≤ n → (∀ i, i < k → bey kf left key arr base i = true) → (∀ i, k ≤ i → i < n → bey kf left key arr base i = false) → Q (some k) st) : wpS (model prog w) A E s (gallop' left key arr base n hint) Q st := by
  have bq : ∀ {i : Nat} {Q : Option Bool → SortSt → Prop}, i < n → Q (some (bey kf left key arr base i)) st → wpS (model prog w) A E s (elem' arr (base + i) >>= fun x => if left = true then lt' x key else lt' key x >>= fun o => pure (o.map fun b => !b)) Q st := fun hi q => q_bey C B hk ha (by omega) q
  have up : ∀ i j, i ≤ j → j < n → bey kf left key arr base j = true → bey kf left key arr base i = true := fun i j q1 q2 q3 => bey_mono u q1 q2 q3
  refine wpS_bind (bq hh ?_)
  have fin : ∀ lo hi, lo ≤ hi → hi ≤ n → (∀ i, i < lo → bey kf left key arr base i = true) → (∀ i, hi ≤ i → i < n → bey kf left key arr base i = false) → ∀ {f : Nat → Option (Option Nat) × Nat × Nat → StateT SortSt Sem (ForInStep (Option (Option Nat) × Nat × Nat))} {g : Option (Option Nat) × Nat × Nat → StateT SortSt Sem (Option Nat)},
      (∀ x c, f x c = if c.2.1 ≥ c.2.2 then pure (.done (none, c.2.1, c.2.2)) else (elem' arr (base + (c.2.1 + (c.2.2 - c.2.1) / 2)) >>= fun x => if left = true then lt' x key else lt' key x >>= fun o => pure (o.map fun b => !b)) >>= fun o => match o with
        | some b => if b = true then pure (.yield (none, c.2.1 + (c.2.2 - c.2.1) / 2 + 1, c.2.2)) else pure (.yield (none, c.2.1, c.2.1 + (c.2.2 - c.2.1) / 2))
        | none => pure (.done (some none, c.2.1, c.2.2))) → (∀ c, g (none, c) = pure (some c.2)) → wpS (model prog w) A E s (forIn [:n] ((none, lo, hi) : Option (Option Nat) × Nat × Nat) f >>= g) Q st := by
    intro lo hi h1 h2 h3 h4 f g hf hg
    refine wpS_bind (wpS_mono (wpS_forRange (I := fun x c st' => st' = st ∧ ∃ l r, c = (none, l, r) ∧ l ≤ r ∧ r ≤ n ∧ r - l ≤ n - x ∧ (∀ i, i < l → bey kf left key arr base i = true) ∧ (∀ i, r ≤ i → i < n → bey kf left key arr base i = false))
      (Q := fun c st' => st' = st ∧ ∃ l, c = (none, l, l) ∧ l ≤ n ∧ (∀ i, i < l → bey kf left key arr base i = true) ∧ (∀ i, l ≤ i → i < n → bey kf left key arr base i = false)) ?_ ?_ ⟨rfl, lo, hi, rfl, h1, h2, by omega, h3, h4⟩) ?_)
    · rintro x c st' _ hx ⟨rfl, l, r, rfl, q1, q2, q3, q4, q5⟩
      rw [hf]
      dsimp only
      by_cases g : l ≥ r
      · rw [if_pos g]
        obtain rfl : l = r := by omega
        exact wpS_pure ⟨rfl, l, rfl, q2, q4, q5⟩
      · rw [if_neg g]
        refine wpS_bind (bq (by omega) ?_)
        cases e : bey kf left key arr base (l + (r - l) / 2) with
        | true => exact wpS_pure ⟨rfl, _, r, rfl, by omega, q2, by omega, fun i z => up i _ (by omega) (by omega) e, q5⟩
        | false => exact wpS_pure ⟨rfl, l, _, rfl, by omega, by omega, by omega, q4, fun i z1 z2 => by
            cases z : bey kf left key arr base i with
            | false => rfl
            | true => rw [up _ i z1 z2 z] at e; cases e⟩
    · rintro c st' ⟨rfl, l, r, rfl, q1, q2, q3, q4, q5⟩
      obtain rfl : l = r := by omega
      exact ⟨rfl, l, rfl, q2, q4, q5⟩
    · rintro c st' ⟨rfl, l, rfl, q2, q4, q5⟩
      rw [hg]
      exact wpS_pure (h l q2 q4 q5)
  cases e : bey kf left key arr base hint with
  | true =>
    refine wpS_bind (wpS_mono (wpS_forRange (I := fun x c st' => st' = st ∧ ∃ l o, c = (none, l, o) ∧ l < o ∧ hint + l < n ∧ x + 1 ≤ o ∧ bey kf left key arr base (hint + l) = true)
      (Q := fun c st' => st' = st ∧ ∃ l o, c = (none, l, o) ∧ l < o ∧ hint + l < n ∧ bey kf left key arr base (hint + l) = true ∧ (o ≥ n - hint ∨ (hint + o < n ∧ bey kf left key arr base (hint + o) = false))) ?_ ?_ ⟨rfl, 0, 1, rfl, by omega, by omega, by omega, e⟩) ?_)
    · rintro x c st' _ hx ⟨rfl, l, o, rfl, q1, q2, q3, q4⟩
      dsimp only
      by_cases g : o ≥ n - hint
      · rw [if_pos g]
        exact wpS_pure ⟨rfl, l, o, rfl, q1, q2, q4, .inl g⟩
      · rw [if_neg g]
        refine wpS_bind (bq (by omega) ?_)
        cases e2 : bey kf left key arr base (hint + o) with
        | true => exact wpS_pure ⟨rfl, o, _, rfl, by omega, by omega, by omega, e2⟩
        | false => exact wpS_pure ⟨rfl, l, o, rfl, q1, q2, q4, .inr ⟨by omega, e2⟩⟩
    · rintro c st' ⟨rfl, l, o, rfl, q1, q2, q3, q4⟩
      exact ⟨rfl, l, o, rfl, q1, q2, q4, .inl (by omega)⟩
    · rintro c st' ⟨rfl, l, o, rfl, q1, q2, q4, q5⟩
      refine fin (hint + l + 1) (hint + min o (n - hint)) (by omega) (by omega) (fun i z => up i _ (by omega) q2 q4) (fun i z1 z2 => ?_) (fun x c => ?_) (fun c => rfl)
      · rcases q5 with q5 | ⟨q5, q6⟩
        · omega
        · cases z : bey kf left key arr base i with
          | false => rfl
          | true => rw [up (hint + o) i (by omega) z2 z] at q6; cases q6
      · dsimp only
        split
        · rfl
        · exact congrArg (_ >>= ·) (funext fun o => by cases o <;> rfl)
  | false =>
    refine wpS_bind (wpS_mono (wpS_forRange (I := fun x c st' => st' = st ∧ ∃ l o, c = (none, l, o) ∧ l < o ∧ l ≤ hint ∧ x + 1 ≤ o ∧ bey kf left key arr base (hint - l) = false)
      (Q := fun c st' => st' = st ∧ ∃ l o, c = (none, l, o) ∧ l < o ∧ l ≤ hint ∧ bey kf left key arr base (hint - l) = false ∧ (o ≥ hint + 1 ∨ (o ≤ hint ∧ bey kf left key arr base (hint - o) = true))) ?_ ?_ ⟨rfl, 0, 1, rfl, by omega, by omega, by omega, e⟩) ?_)
    · rintro x c st' _ hx ⟨rfl, l, o, rfl, q1, q2, q3, q4⟩
      dsimp only
      by_cases g : o ≥ hint + 1
      · rw [if_pos g]
        exact wpS_pure ⟨rfl, l, o, rfl, q1, q2, q4, .inl g⟩
      · rw [if_neg g]
        refine wpS_bind (bq (by omega) ?_)
        cases e2 : bey kf left key arr base (hint - o) with
        | false => exact wpS_pure ⟨rfl, o, _, rfl, by omega, by omega, by omega, e2⟩
        | true => exact wpS_pure ⟨rfl, l, o, rfl, q1, q2, q4, .inr ⟨by omega, e2⟩⟩
    · rintro c st' ⟨rfl, l, o, rfl, q1, q2, q3, q4⟩
      exact ⟨rfl, l, o, rfl, q1, q2, q4, .inl (by omega)⟩
    · rintro c st' ⟨rfl, l, o, rfl, q1, q2, q4, q5⟩
      refine fin (hint + 1 - min o (hint + 1)) (hint - l) (by omega) (by omega) (fun i z => ?_) (fun i z1 z2 => ?_) (fun x c => ?_) (fun c => rfl)
      · rcases q5 with q5 | ⟨q5, q6⟩
        · omega
        · exact up i _ (by omega) (by omega) q6
      · cases z : bey kf left key arr base i with
        | false => rfl
        | true => rw [up (hint - l) i (by omega) z2 z] at q4; cases q4
      · dsimp only
        split
        · rfl
        · exact congrArg (_ >>= ·) (funext fun o => by cases o <;> rfl)
end
structure J (R : Keyed → Keyed → Prop) (la lb lo : List Keyed) (i j : Nat) : Prop where
  perm : lo.Perm (la.take i ++ lb.take j)
  srt : lo.Pairwise R
  a : ∀ x ∈ lo, ∀ y ∈ la.drop i, R x y
  b : ∀ x ∈ lo, ∀ y ∈ lb.drop j, R x y
section
variable {R : Keyed → Keyed → Prop} {la lb lo : List Keyed} {i j k : Nat}
theorem J.swap (h : J R la lb lo i j) : J R lb la lo j i := ⟨h.perm.trans List.perm_append_comm, h.srt, h.b, h.a⟩
theorem J.moveA (h : J R la lb lo i j) (pa : la.Pairwise R) (hx : ∀ x ∈ (la.drop i).take k, ∀ y ∈ lb.drop j, R x y) : J R la lb (lo ++ (la.drop i).take k) (i + k) j := by
  have pd : ((la.drop i).take k ++ (la.drop i).drop k).Pairwise R := by rw [List.take_append_drop]; exact pa.sublist (List.drop_sublist _ _)
  obtain ⟨p1, _, p3⟩ := List.pairwise_append.mp pd
  have ed : la.drop (i + k) = (la.drop i).drop k := by rw [List.drop_drop]
  refine ⟨?_, List.pairwise_append.mpr ⟨h.srt, p1, fun x hx y hy => h.a x hx y (List.mem_of_mem_take hy)⟩, fun x hx' y hy => ?_, fun x hx' y hy => ?_⟩
  · rw [List.take_add, List.append_assoc]
    refine (h.perm.append_right _).trans ?_
    rw [List.append_assoc]
    exact List.Perm.append_left _ List.perm_append_comm
  · rw [ed] at hy
    rcases List.mem_append.mp hx' with q | q
    · exact h.a x q y (List.mem_of_mem_drop hy)
    · exact p3 x q y hy
  · rcases List.mem_append.mp hx' with q | q
    · exact h.b x q y hy
    · exact hx x q y hy
theorem J.moveB (h : J R la lb lo i j) (pb : lb.Pairwise R) (hx : ∀ x ∈ (lb.drop j).take k, ∀ y ∈ la.drop i, R x y) : J R la lb (lo ++ (lb.drop j).take k) i (j + k) := (h.swap.moveA pb hx).swap
def Fin (R : Keyed → Keyed → Prop) (la lb l : List Keyed) : Prop := l.Perm (la ++ lb) ∧ l.Pairwise R
theorem J.finA (h : J R la lb lo i j) (pa : la.Pairwise R) (pb : lb.Pairwise R) (hx : ∀ x ∈ la.drop i, ∀ y ∈ lb.drop j, R x y) : Fin R la lb (lo ++ la.drop i ++ lb.drop j) := by
  refine ⟨?_, List.pairwise_append.mpr ⟨List.pairwise_append.mpr ⟨h.srt, pa.sublist (List.drop_sublist _ _), h.a⟩, pb.sublist (List.drop_sublist _ _), fun x hx' y hy => ?_⟩⟩
  · refine ((h.perm.append_right _).append_right _).trans ?_
    have e1 : la = la.take i ++ la.drop i := (List.take_append_drop _ _).symm
    have e2 : lb = lb.take j ++ lb.drop j := (List.take_append_drop _ _).symm
    conv => rhs; rw [e1, e2]
    rw [List.append_assoc, List.append_assoc, List.append_assoc]
    refine List.Perm.append_left _ ?_
    rw [← List.append_assoc, ← List.append_assoc]
    exact List.Perm.append_right _ List.perm_append_comm
  · rcases List.mem_append.mp hx' with q | q
    · exact h.b x q y hy
    · exact hx x q y hy
theorem Fin.swap {l : List Keyed} (h : Fin R lb la l) : Fin R la lb l := ⟨h.1.trans List.perm_append_comm, h.2⟩
end
theorem toL_run {out a : Array Keyed} {i k : Nat} : (out ++ a.extract i (i + k)).toList = out.toList ++ (a.toList.drop i).take k := by
  simp [List.extract_eq_take_drop]
theorem toL_rest {a : Array Keyed} {i : Nat} : (a.extract i).toList = a.toList.drop i := by
  simp only [Array.toList_extract, List.extract_eq_take_drop]
  exact List.take_of_length_le (by simp)
theorem one_run {a : Array Keyed} {i : Nat} (hi : i < a.size) : (a.toList.drop i).take 1 = [a[i]] := by
  rw [List.drop_eq_getElem_cons (by simpa using hi)]
  simp
theorem toL_push {out a : Array Keyed} {i : Nat} (hi : i < a.size) : (out.push a[i]).toList = out.toList ++ (a.toList.drop i).take 1 := by
  rw [one_run hi]
  simp
section
variable {prog : Program} {w : World} {A : Around} {E : Value → Shared → Prop} {s : Shared} {κ : SortKind} {O : KeyOrd} {kf : Value → O.α} {a₀ : Array Keyed} {st : SortSt}
def RK (kf : Value → O.α) : Keyed → Keyed → Prop := fun p q => O.kle (kf p.1) (kf q.1)
theorem up_of {a : Array Keyed} (h : a.toList.Pairwise (RK kf)) {lo hi : Nat} (hh : hi ≤ a.size) : Up kf a lo hi := fun i j q1 q2 q3 => by
  by_cases z : i = j
  · rw [z]; exact KeyOrd.kle_refl _
  · rw [kx_at (by omega : i < a.size), kx_at (by omega : j < a.size)]
    have := List.pairwise_iff_getElem.mp h i j (by simp; omega) (by simp; omega) (by omega)
    simpa [RK] using this
theorem mem_drop_at {a : Array Keyed} {i : Nat} {p : Keyed} (h : p ∈ a.toList.drop i) : ∃ k, ∃ (hk : i + k < a.size), p = a[i + k] := by
  obtain ⟨k, hk, e⟩ := List.mem_iff_getElem.mp h
  rw [List.length_drop, Array.length_toList] at hk
  refine ⟨k, by omega, ?_⟩
  rw [← e, List.getElem_drop]
  simp
theorem mem_take_at {a : Array Keyed} {i k : Nat} {p : Keyed} (h : p ∈ (a.toList.drop i).take k) : ∃ m, m < k ∧ ∃ (hk : i + m < a.size), p = a[i + m] := by
  obtain ⟨m, hm, e⟩ := List.mem_iff_getElem.mp h
  rw [List.length_take, List.length_drop, Array.length_toList] at hm
  refine ⟨m, by omega, by omega, ?_⟩
  rw [← e, List.getElem_take, List.getElem_drop]
  simp
structure Still (κ : SortKind) (a₀ : Array Keyed) (st st' : SortSt) : Prop where
  sb : SB κ a₀ st'
  arr : arrOf st' = arrOf st
  pend : pendingOf st' = pendingOf st
theorem Still.gal {st st' : SortSt} (x : Still κ a₀ st st') (g : Nat) : Still κ a₀ st (SortSt.mk' (kindOf st') (arrOf st') (pendingOf st') g (failedOf st')) := ⟨⟨x.sb.perm, x.sb.kind, x.sb.failed⟩, x.arr, x.pend⟩
theorem q_mergeLo (C : Cmp prog w A s κ O kf a₀) (B : SB κ a₀ st) {a b : Array Keyed} (ha : ∀ p ∈ a.toList, p ∈ a₀.toList) (hb : ∀ p ∈ b.toList, p ∈ a₀.toList) (a1 : 1 ≤ a.size) (b1 : 1 ≤ b.size) (pa : a.toList.Pairwise (RK kf)) (pb : b.toList.Pairwise (RK kf))
    (first : ∀ p ∈ a.toList, RK kf b[0] p) (last : ∀ p ∈ b.toList, RK kf p a[a.size - 1]) {Q : Array Keyed → SortSt → Prop}
    (h : ∀ m st', Still κ a₀ st st' → Fin (RK kf) a.toList b.toList m.toList → Q m st') : wpS (model prog w) A E s (mergeLo' a b) Q st := by
  have fDone : ∀ {out : Array Keyed} {ia ib : Nat}, J (RK kf) a.toList b.toList out.toList ia ib → (ib = b.size ∨ ia = a.size) → Fin (RK kf) a.toList b.toList (out ++ a.extract ia ++ b.extract ib).toList := fun {out ia ib} j e => by
    rw [Array.toList_append, Array.toList_append, toL_rest, toL_rest]
    refine j.finA pa pb fun x hx y hy => ?_
    rcases e with rfl | rfl
    · rw [List.drop_of_length_le (by simp)] at hy; cases hy
    · rw [List.drop_of_length_le (by simp)] at hx; cases hx
  have fLast : ∀ {out : Array Keyed} {ia ib : Nat}, J (RK kf) a.toList b.toList out.toList ia ib → ia + 1 = a.size → Fin (RK kf) a.toList b.toList (out ++ b.extract ib ++ a.extract ia).toList := fun {out ia ib} j e => by
    rw [Array.toList_append, Array.toList_append, toL_rest, toL_rest]
    refine (j.swap.finA pb pa fun x hx y hy => ?_).swap
    obtain ⟨k, hk, rfl⟩ := mem_drop_at hy
    have : k = 0 := by omega
    subst this
    have := last x (List.mem_of_mem_drop hx)
    simpa [show a.size - 1 = ia by omega] using this
  have am : ∀ {i : Nat} (hi : i < a.size), a[i] ∈ a₀.toList := fun hi => ha _ (by simp)
  have bm : ∀ {i : Nat} (hi : i < b.size), b[i] ∈ a₀.toList := fun hi => hb _ (by simp)
  have la : ∀ {i k : Nat} (hk : i + k < a.size), RK kf (a[i]'(by omega)) a[i + k] := fun {i k} hk => by
    have := up_of pa (lo := 0) (Nat.le_refl _) i (i + k) (by omega) (by omega) hk
    rw [kx_at (by omega : i < a.size), kx_at hk] at this
    exact this
  have lb : ∀ {i k : Nat} (hk : i + k < b.size), RK kf (b[i]'(by omega)) b[i + k] := fun {i k} hk => by
    have := up_of pb (lo := 0) (Nat.le_refl _) i (i + k) (by omega) (by omega) hk
    rw [kx_at (by omega : i < b.size), kx_at hk] at this
    exact this
  have oneB : ∀ {out : Array Keyed} {ia ib : Nat} (h1 : ia < a.size) (h2 : ib < b.size), J (RK kf) a.toList b.toList out.toList ia ib → RK kf b[ib] a[ia] → J (RK kf) a.toList b.toList (out.push b[ib]).toList ia (ib + 1) := fun {out ia ib} h1 h2 j r => by
    rw [toL_push h2]
    refine j.moveB pb fun x hx y hy => ?_
    rw [one_run h2, List.mem_singleton] at hx
    obtain ⟨k, hk, rfl⟩ := mem_drop_at hy
    rw [hx]
    exact KeyOrd.kle_trans r (la hk)
  have oneA : ∀ {out : Array Keyed} {ia ib : Nat} (h1 : ia < a.size) (h2 : ib < b.size), J (RK kf) a.toList b.toList out.toList ia ib → RK kf a[ia] b[ib] → J (RK kf) a.toList b.toList (out.push a[ia]).toList (ia + 1) ib := fun {out ia ib} h1 h2 j r => by
    rw [toL_push h1]
    refine j.moveA pa fun x hx y hy => ?_
    rw [one_run h1, List.mem_singleton] at hx
    obtain ⟨k, hk, rfl⟩ := mem_drop_at hy
    rw [hx]
    exact KeyOrd.kle_trans r (lb hk)
  refine wpS_bind (wpS_lift (wpAny_rule ⟨rfl, ?_⟩))
  refine wpS_bind (q_elem (by omega : 0 < b.size) ?_)
  have j0 : J (RK kf) a.toList b.toList (#[b[0]] : Array Keyed).toList 0 1 := by
    refine ⟨?_, by simp, fun x hx y hy => ?_, fun x hx y hy => ?_⟩
    · rw [← one_run (by omega : 0 < b.size)]
      simp
    · simp at hx hy; subst hx; exact first y (by simpa using hy)
    · simp only [List.mem_singleton] at hx
      obtain ⟨k, hk, rfl⟩ := mem_drop_at hy
      rw [hx]
      have := lb (i := 0) (k := 1 + k) (by omega)
      simpa using this
  dsimp only
  by_cases e1 : 1 = b.size
  · rw [if_pos (by simpa using e1)]
    exact wpS_pure (h _ st ⟨B, rfl, rfl⟩ (fDone j0 (.inl e1)))
  rw [if_neg (by simpa using e1)]
  by_cases e2 : 0 + 1 = a.size
  · rw [if_pos (by simpa using e2)]
    exact wpS_pure (h _ st ⟨B, rfl, rfl⟩ (fLast j0 e2))
  rw [if_neg (by simpa using e2)]
  refine wpS_bind (wpS_get ?_)
  refine wpS_bind (wpS_mono (wpS_forRange
    (I := fun x c st' => Still κ a₀ st st' ∧ ∃ out ia ib g, c = (none, out, ia, ib, g) ∧ J (RK kf) a.toList b.toList out.toList ia ib ∧ ia + 1 < a.size ∧ ib < b.size ∧ x + 1 ≤ ia + ib)
    (Q := fun c st' => Still κ a₀ st st' ∧ ∃ r, c.1 = some r ∧ Fin (RK kf) a.toList b.toList r.toList) ?step ?fin ?init) ?post)
  case init => exact ⟨⟨B, rfl, rfl⟩, _, 0, 1, _, rfl, j0, by omega, by omega, by omega⟩
  case fin =>
    rintro c st' ⟨S, out, ia, ib, g, rfl, j, h1, h2, h3⟩
    omega
  case post =>
    rintro c st' ⟨S, r, e, f⟩
    obtain ⟨c1, c2⟩ := c
    obtain rfl : c1 = some r := e
    exact wpS_pure (h r st' S f)
  case step =>
    rintro x c st1 _ hx ⟨S, out, ia, ib, g, rfl, j, h1, h2, h3⟩
    dsimp only
    refine wpS_bind (wpS_mono (wpS_forRange
      (I := fun y c st' => st' = st1 ∧ ∃ out' ia' ib' p q, c = (none, out', ia', ib', p, q) ∧ J (RK kf) a.toList b.toList out'.toList ia' ib' ∧ ia' + 1 < a.size ∧ ib' < b.size ∧ ia + ib + y ≤ ia' + ib')
      (Q := fun c st' => st' = st1 ∧ ((∃ r, c.1 = some r ∧ Fin (RK kf) a.toList b.toList r.toList) ∨ ∃ out' ia' ib' p q, c = (none, out', ia', ib', p, q) ∧ J (RK kf) a.toList b.toList out'.toList ia' ib' ∧ ia' + 1 < a.size ∧ ib' < b.size ∧ ia + ib + 1 ≤ ia' + ib')) ?s1 ?s2 ?s3) ?s4)
    case s3 => exact ⟨rfl, out, ia, ib, 0, 0, rfl, j, h1, h2, Nat.le_refl _⟩
    case s2 =>
      rintro c st' ⟨rfl, out', ia', ib', p, q, rfl, j', g1, g2, g3⟩
      exact ⟨rfl, .inr ⟨out', ia', ib', p, q, rfl, j', g1, g2, by omega⟩⟩
    case s1 =>
      rintro y c st' _ hy ⟨rfl, out', ia', ib', p, q, rfl, j', g1, g2, g3⟩
      dsimp only
      refine wpS_bind (q_elem g2 (wpS_bind (q_elem (by omega : ia' < a.size) (wpS_bind (q_lt C S.sb (bm g2) (am (by omega)) ?_)))))
      cases e : O.blt (kf b[ib'].1) (kf (a[ia']'(by omega)).1) with
      | true =>
        dsimp only
        rw [if_pos rfl]
        refine wpS_bind (q_elem g2 ?_)
        have j2 := oneB (by omega) g2 j' (KeyOrd.kle_of_klt e)
        by_cases z : ib' + 1 = b.size
        · rw [if_pos (by simpa using z)]
          exact wpS_pure ⟨rfl, .inl ⟨_, rfl, fDone j2 (.inl z)⟩⟩
        · rw [if_neg (by simpa using z)]
          split
          · exact wpS_pure ⟨rfl, .inr ⟨_, _, _, _, _, rfl, j2, g1, by omega, by omega⟩⟩
          · exact wpS_pure ⟨rfl, _, _, _, _, _, rfl, j2, g1, by omega, by omega⟩
      | false =>
        dsimp only
        rw [if_neg Bool.false_ne_true]
        refine wpS_bind (q_elem (by omega : ia' < a.size) ?_)
        have j2 := oneA (by omega) g2 j' e
        by_cases z : ia' + 1 + 1 = a.size
        · rw [if_pos (by simpa using z)]
          exact wpS_pure ⟨rfl, .inl ⟨_, rfl, fLast j2 z⟩⟩
        · rw [if_neg (by simpa using z)]
          split
          · exact wpS_pure ⟨rfl, .inr ⟨_, _, _, _, _, rfl, j2, by omega, g2, by omega⟩⟩
          · exact wpS_pure ⟨rfl, _, _, _, _, _, rfl, j2, by omega, g2, by omega⟩
    case s4 =>
      rintro c st' ⟨rfl, ⟨r, e, f⟩ | ⟨out', ia', ib', p, q, rfl, j', g1, g2, g3⟩⟩
      · obtain ⟨c1, c2⟩ := c
        obtain rfl : c1 = some r := e
        exact wpS_pure ⟨S, r, rfl, f⟩
      dsimp only
      refine wpS_bind (wpS_lift (wpAny_rule ⟨rfl, ?_⟩))
      refine wpS_bind (wpS_mono (wpS_forRange
        (I := fun y c st2 => Still κ a₀ st st2 ∧ ∃ o2 i2 k2 m2 p q, c = (none, o2, i2, k2, m2, p, q) ∧ J (RK kf) a.toList b.toList o2.toList i2 k2 ∧ i2 + 1 < a.size ∧ k2 < b.size ∧ ia + ib + 1 ≤ i2 + k2)
        (Q := fun c st2 => Still κ a₀ st st2 ∧ ((∃ r, c.1 = some r ∧ Fin (RK kf) a.toList b.toList r.toList) ∨ ∃ o2 i2 k2 m2 p q, c = (none, o2, i2, k2, m2, p, q) ∧ J (RK kf) a.toList b.toList o2.toList i2 k2 ∧ i2 + 1 < a.size ∧ k2 < b.size ∧ ia + ib + 1 ≤ i2 + k2)) ?t1 ?t2 ?t3) ?t4)
      case t3 => exact ⟨S, out', ia', ib', _, p, q, rfl, j', g1, g2, g3⟩
      case t2 =>
        rintro c st2 ⟨S2, r⟩
        exact ⟨S2, .inr r⟩
      case t4 =>
        rintro c st2 ⟨S2, ⟨r, e, f⟩ | ⟨o2, i2, k2, m2, p, q, rfl, j2, f1, f2, f3⟩⟩
        · obtain ⟨c1, c2⟩ := c
          obtain rfl : c1 = some r := e
          exact wpS_pure ⟨S2, r, rfl, f⟩
        · refine wpS_bind (wpS_modify (wpS_pure ⟨S2.gal _, o2, i2, k2, _, rfl, j2, f1, f2, by omega⟩))
      case t1 =>
        rintro y c st2 _ hy ⟨S2, o2, i2, k2, m2, p, q, rfl, j2, f1, f2, f3⟩
        dsimp only
        by_cases z : m2 > 1
        all_goals first | (rw [if_pos z]; generalize m2 - 1 = m3) | (rw [if_neg z]; generalize m2 = m3)
        all_goals
          refine wpS_bind (wpS_modify ?_)
          have S3 := S2.gal m3
          refine wpS_bind (q_elem f2 ?_)
          refine wpS_bind (q_gallop C S3.sb (bm f2) ha (by omega) (by omega) (up_of pa (by omega)) fun k hk bl bg => ?_)
          have runA : ∀ m, m < k → ∀ (hm : i2 + m < a.size), RK kf a[i2 + m] b[k2] := fun m z hm => by
            have := bl m z
            unfold bey at this
            rw [if_neg Bool.false_ne_true, kx_at hm] at this
            show O.blt _ _ = false
            simpa using this
          have runB : ∀ m, k ≤ m → ∀ (hm : i2 + m < a.size), RK kf b[k2] a[i2 + m] := fun m z hm => by
            have := bg m z (by omega)
            unfold bey at this
            rw [if_neg Bool.false_ne_true, kx_at hm] at this
            exact KeyOrd.kle_of_klt (by show O.blt _ _ = true; simpa using this)
          have j3 : J (RK kf) a.toList b.toList (o2 ++ a.extract i2 (i2 + k)).toList (i2 + k) k2 := by
            rw [toL_run]
            refine j2.moveA pa fun x hx y hy => ?_
            obtain ⟨m, hm, hm2, rfl⟩ := mem_take_at hx
            obtain ⟨m', hm', rfl⟩ := mem_drop_at hy
            exact KeyOrd.kle_trans (runA m hm hm2) (lb hm')
          dsimp only
          have pre : (k > 0 ∧ i2 + k + 1 = a.size) ∨ (k > 0 ∧ i2 + k = a.size) ∨ i2 + k + 1 < a.size := by omega
          rcases pre with ⟨zk, z1⟩ | ⟨zk, z1⟩ | z1
          · rw [if_pos zk, if_pos (by simpa using z1)]
            exact wpS_pure ⟨S3, .inl ⟨_, rfl, fLast j3 z1⟩⟩
          · rw [if_pos zk, if_neg (by simp; omega), if_pos (by simpa using z1)]
            exact wpS_pure ⟨S3, .inl ⟨_, rfl, fDone j3 (.inr z1)⟩⟩
          have hB3 : ∀ m (hm : m < a.size), i2 + k ≤ m → RK kf b[k2] a[m] := fun m hm z => by
            have := runB (m - i2) (by omega) (by omega)
            simpa [show i2 + (m - i2) = m by omega] using this
          by_cases zk : k > 0
          all_goals first
            | (rw [if_pos zk, if_neg (by simp; omega), if_neg (by simp; omega)]
               generalize o2 ++ a.extract i2 (i2 + k) = o3 at j3 ⊢
               have f3' : ia + ib + 1 ≤ (i2 + k) + k2 := by omega
               generalize i2 + k = i3 at j3 hB3 z1 f3' ⊢)
            | (rw [if_neg zk]
               have zk0 : k = 0 := by omega
               have eo : o2 ++ a.extract i2 (i2 + k) = o2 := by rw [zk0]; simp; omega
               rw [eo, zk0, Nat.add_zero] at j3
               rw [zk0, Nat.add_zero] at hB3 z1
               have f3' : ia + ib + 1 ≤ i2 + k2 := f3
               generalize i2 = i3 at j3 hB3 z1 f3' ⊢
               generalize o2 = o3 at j3 ⊢)
          all_goals
            refine wpS_bind (q_elem f2 ?_)
            have j4 := oneB (by omega) f2 j3 (hB3 i3 (by omega) (Nat.le_refl _))
            by_cases z3 : k2 + 1 = b.size
            · rw [if_pos (by simpa using z3)]
              exact wpS_pure ⟨S3, .inl ⟨_, rfl, fDone j4 (.inl z3)⟩⟩
            rw [if_neg (by simpa using z3)]
            refine wpS_bind (q_elem (by omega : i3 < a.size) ?_)
            refine wpS_bind (q_gallop C S3.sb (am (by omega)) hb (by omega) (by omega) (up_of pb (by omega)) fun k' hk' bl' bg' => ?_)
            have runB' : ∀ m, m < k' → ∀ (hm : k2 + 1 + m < b.size), RK kf b[k2 + 1 + m] (a[i3]'(by omega)) := fun m z hm => by
              have := bl' m z
              unfold bey at this
              rw [if_pos rfl, kx_at hm] at this
              exact KeyOrd.kle_of_klt this
            have runA' : ∀ m (hm : m < b.size), k2 + 1 + k' ≤ m → RK kf (a[i3]'(by omega)) b[m] := fun m hm z => by
              have := bg' (m - (k2 + 1)) (by omega) (by omega)
              unfold bey at this
              rw [if_pos rfl] at this
              have e : k2 + 1 + (m - (k2 + 1)) = m := by omega
              rw [e, kx_at hm] at this
              exact this
            have j5 : J (RK kf) a.toList b.toList (o3.push b[k2] ++ b.extract (k2 + 1) (k2 + 1 + k')).toList i3 (k2 + 1 + k') := by
              rw [toL_run]
              refine j4.moveB pb fun x hx y hy => ?_
              obtain ⟨m, hm, hm2, rfl⟩ := mem_take_at hx
              obtain ⟨m', hm', rfl⟩ := mem_drop_at hy
              exact KeyOrd.kle_trans (runB' m hm hm2) (la hm')
            dsimp only
            have pre : (k' > 0 ∧ k2 + 1 + k' = b.size) ∨ k2 + 1 + k' < b.size := by omega
            rcases pre with ⟨zk', z4⟩ | z4
            · rw [if_pos zk', if_pos (by simpa using z4)]
              exact wpS_pure ⟨S3, .inl ⟨_, rfl, fDone j5 (.inl z4)⟩⟩
            have f4' : ia + ib + 1 ≤ i3 + (k2 + 1 + k') := by omega
            by_cases zk' : k' > 0
            all_goals first
              | (rw [if_pos zk', if_neg (by simp; omega)]
                 generalize o3.push b[k2] ++ b.extract (k2 + 1) (k2 + 1 + k') = o5 at j5 ⊢
                 generalize k2 + 1 + k' = k5 at j5 runA' z4 f4' ⊢)
              | (rw [if_neg zk']
                 have zk0 : k' = 0 := by omega
                 have eo : o3.push b[k2] ++ b.extract (k2 + 1) (k2 + 1 + k') = o3.push b[k2] := by rw [zk0]; simp; omega
                 rw [eo, zk0, Nat.add_zero] at j5
                 rw [zk0, Nat.add_zero] at runA' z4 f4'
                 generalize o3.push b[k2] = o5 at j5 ⊢
                 generalize k2 + 1 = k5 at j5 runA' z4 f4' ⊢)
            all_goals
              refine wpS_bind (q_elem (by omega : i3 < a.size) ?_)
              have j6 := oneA (by omega) z4 j5 (runA' k5 z4 (Nat.le_refl _))
              by_cases z5 : i3 + 1 + 1 = a.size
              · rw [if_pos (by simpa using z5)]
                exact wpS_pure ⟨S3, .inl ⟨_, rfl, fLast j6 z5⟩⟩
              rw [if_neg (by simpa using z5)]
              by_cases z6 : (decide (k < 7) && decide (k' < 7)) = true
              · rw [if_pos z6]
                exact wpS_pure ⟨S3, .inr ⟨_, _, _, _, _, _, rfl, j6, by omega, z4, by omega⟩⟩
              · rw [if_neg z6]
                exact wpS_pure ⟨S3, _, _, _, _, _, _, rfl, j6, by omega, z4, by omega⟩
end
theorem drop_rev (a : Array Keyed) {n : Nat} (h : n ≤ a.size) : a.toList.reverse.drop (a.size - n) = (a.toList.take n).reverse := by
  rw [List.drop_reverse]
  congr 2
  simp
  omega
theorem mem_rev {a : Array Keyed} {n : Nat} (h : n ≤ a.size) {x : Keyed} (hx : x ∈ a.toList.reverse.drop (a.size - n)) : ∃ m, ∃ (hm : m < a.size), m < n ∧ x = a[m] := by
  rw [drop_rev a h, List.mem_reverse] at hx
  obtain ⟨m, hm, e⟩ := List.mem_iff_getElem.mp hx
  rw [List.length_take, Array.length_toList] at hm
  refine ⟨m, by omega, by omega, ?_⟩
  rw [← e, List.getElem_take]
  simp
theorem run_rev (a : Array Keyed) {n t : Nat} (h : n ≤ a.size) (ht : t ≤ n) : (a.toList.reverse.drop (a.size - n)).take (n - t) = (a.extract t n).toList.reverse := by
  rw [drop_rev a h, List.take_reverse]
  simp only [Array.toList_extract, List.extract_eq_take_drop, List.length_take, Array.length_toList]
  congr 1
  rw [List.drop_take]
  congr 1
  · omega
  · congr 1
    omega
theorem one_rev (a : Array Keyed) {n : Nat} (h : n ≤ a.size) (h1 : 1 ≤ n) : (a.toList.reverse.drop (a.size - n)).take 1 = [a[n - 1]] := by
  have e := run_rev a h (show n - 1 ≤ n by omega)
  rw [show n - (n - 1) = 1 by omega] at e
  rw [e]
  have := one_run (a := a) (i := n - 1) (by omega)
  simp only [Array.toList_extract, List.extract_eq_take_drop]
  rw [show n - (n - 1) = 1 by omega, this]
  rfl
theorem fin_rev {R : Keyed → Keyed → Prop} {la lb l : List Keyed} (h : Fin (fun p q => R q p) la.reverse lb.reverse l.reverse) : Fin R la lb l := by
  refine ⟨(List.reverse_perm l).symm.trans (h.1.trans ((List.reverse_perm la).append (List.reverse_perm lb))), ?_⟩
  exact List.pairwise_reverse.mp h.2
section
variable {prog : Program} {w : World} {A : Around} {E : Value → Shared → Prop} {s : Shared} {κ : SortKind} {O : KeyOrd} {kf : Value → O.α} {a₀ : Array Keyed} {st : SortSt}
abbrev JH (kf : Value → O.α) (a b out : Array Keyed) (na nb : Nat) : Prop := J (fun p q => RK kf q p) a.toList.reverse b.toList.reverse out.toList (a.size - na) (b.size - nb)
theorem q_mergeHi (C : Cmp prog w A s κ O kf a₀) (B : SB κ a₀ st) {a b : Array Keyed} (ha : ∀ p ∈ a.toList, p ∈ a₀.toList) (hb : ∀ p ∈ b.toList, p ∈ a₀.toList) (a1 : 1 ≤ a.size) (b1 : 1 ≤ b.size) (pa : a.toList.Pairwise (RK kf)) (pb : b.toList.Pairwise (RK kf))
    (first : ∀ p ∈ a.toList, RK kf b[0] p) (last : ∀ p ∈ b.toList, RK kf p a[a.size - 1]) {Q : Array Keyed → SortSt → Prop}
    (h : ∀ m st', Still κ a₀ st st' → Fin (RK kf) a.toList b.toList m.toList → Q m st') : wpS (model prog w) A E s (mergeHi' a b) Q st := by
  have pa' : a.toList.reverse.Pairwise (fun p q => RK kf q p) := List.pairwise_reverse.mpr pa
  have pb' : b.toList.reverse.Pairwise (fun p q => RK kf q p) := List.pairwise_reverse.mpr pb
  have fDone : ∀ {out : Array Keyed} {na nb : Nat}, na ≤ a.size → nb ≤ b.size → JH kf a b out na nb → (na = 0 ∨ nb = 0) → Fin (RK kf) a.toList b.toList (a.extract 0 na ++ b.extract 0 nb ++ out.reverse).toList := fun {out na nb} q1 q2 j e => by
    refine fin_rev ?_
    have el : (a.extract 0 na ++ b.extract 0 nb ++ out.reverse).toList.reverse = out.toList ++ b.toList.reverse.drop (b.size - nb) ++ a.toList.reverse.drop (a.size - na) := by
      rw [drop_rev a q1, drop_rev b q2]
      simp [List.extract_eq_take_drop]
    rw [el]
    refine (j.swap.finA pb' pa' fun x hx y hy => ?_).swap
    obtain ⟨m, hm, z, rfl⟩ := mem_rev q2 hx
    obtain ⟨m', hm', z', rfl⟩ := mem_rev q1 hy
    omega
  have fFirst : ∀ {out : Array Keyed} {na nb : Nat}, na ≤ a.size → nb ≤ b.size → JH kf a b out na nb → nb = 1 → Fin (RK kf) a.toList b.toList (b.extract 0 nb ++ a.extract 0 na ++ out.reverse).toList := fun {out na nb} q1 q2 j e => by
    refine fin_rev ?_
    have el : (b.extract 0 nb ++ a.extract 0 na ++ out.reverse).toList.reverse = out.toList ++ a.toList.reverse.drop (a.size - na) ++ b.toList.reverse.drop (b.size - nb) := by
      rw [drop_rev a q1, drop_rev b q2]
      simp [List.extract_eq_take_drop]
    rw [el]
    refine j.finA pa' pb' fun x hx y hy => ?_
    obtain ⟨m, hm, z, rfl⟩ := mem_rev q1 hx
    obtain ⟨m', hm', z', rfl⟩ := mem_rev q2 hy
    have : m' = 0 := by omega
    subst this
    exact first _ (by simp)
  have am : ∀ {i : Nat} (hi : i < a.size), a[i] ∈ a₀.toList := fun hi => ha _ (by simp)
  have bm : ∀ {i : Nat} (hi : i < b.size), b[i] ∈ a₀.toList := fun hi => hb _ (by simp)
  have la : ∀ {i k : Nat} (hk : k < a.size) (h : i ≤ k), RK kf (a[i]'(by omega)) a[k] := fun {i k} hk h => by
    have := up_of pa (lo := 0) (Nat.le_refl _) i k (by omega) (by omega) hk
    rw [kx_at (by omega : i < a.size), kx_at hk] at this
    exact this
  have lb : ∀ {i k : Nat} (hk : k < b.size) (h : i ≤ k), RK kf (b[i]'(by omega)) b[k] := fun {i k} hk h => by
    have := up_of pb (lo := 0) (Nat.le_refl _) i k (by omega) (by omega) hk
    rw [kx_at (by omega : i < b.size), kx_at hk] at this
    exact this
  have oneA : ∀ {out : Array Keyed} {na nb : Nat} (h1 : 1 ≤ na) (h2 : na ≤ a.size) (h3 : 1 ≤ nb) (h4 : nb ≤ b.size), JH kf a b out na nb → RK kf b[nb - 1] a[na - 1] → JH kf a b (out.push a[na - 1]) (na - 1) nb := fun {out na nb} h1 h2 h3 h4 j r => by
    have e : (out.push a[na - 1]).toList = out.toList ++ (a.toList.reverse.drop (a.size - na)).take 1 := by rw [one_rev a h2 h1]; simp
    show J _ _ _ (out.push a[na - 1]).toList _ _
    rw [e, show a.size - (na - 1) = a.size - na + 1 by omega]
    refine j.moveA pa' fun x hx y hy => ?_
    rw [one_rev a h2 h1, List.mem_singleton] at hx
    obtain ⟨m, hm, z, rfl⟩ := mem_rev h4 hy
    rw [hx]
    exact KeyOrd.kle_trans (lb (by omega) (by omega : m ≤ nb - 1)) r
  have oneB : ∀ {out : Array Keyed} {na nb : Nat} (h1 : 1 ≤ na) (h2 : na ≤ a.size) (h3 : 1 ≤ nb) (h4 : nb ≤ b.size), JH kf a b out na nb → RK kf a[na - 1] b[nb - 1] → JH kf a b (out.push b[nb - 1]) na (nb - 1) := fun {out na nb} h1 h2 h3 h4 j r => by
    have e : (out.push b[nb - 1]).toList = out.toList ++ (b.toList.reverse.drop (b.size - nb)).take 1 := by rw [one_rev b h4 h3]; simp
    show J _ _ _ (out.push b[nb - 1]).toList _ _
    rw [e, show b.size - (nb - 1) = b.size - nb + 1 by omega]
    refine j.moveB pb' fun x hx y hy => ?_
    rw [one_rev b h4 h3, List.mem_singleton] at hx
    obtain ⟨m, hm, z, rfl⟩ := mem_rev h2 hy
    rw [hx]
    exact KeyOrd.kle_trans (la (by omega) (by omega : m ≤ na - 1)) r
  refine wpS_bind (wpS_lift (wpAny_rule ⟨rfl, ?_⟩))
  refine wpS_bind (q_elem (by omega : a.size - 1 < a.size) ?_)
  have j0 : JH kf a b (#[a[a.size - 1]] : Array Keyed) (a.size - 1) b.size := by
    refine ⟨?_, by simp, fun x hx y hy => ?_, fun x hx y hy => ?_⟩
    · have := one_rev a (Nat.le_refl _) a1
      rw [Nat.sub_self, List.drop_zero] at this
      rw [show a.size - (a.size - 1) = 1 by omega, this]
      simp
    · simp only [List.mem_singleton] at hx
      obtain ⟨m, hm, z, rfl⟩ := mem_rev (by omega) hy
      rw [hx]
      exact la (by omega) (by omega)
    · simp only [List.mem_singleton] at hx
      obtain ⟨m, hm, z, rfl⟩ := mem_rev (Nat.le_refl _) hy
      rw [hx]
      exact last _ (by simp)
  dsimp only
  by_cases e1 : a.size - 1 = 0
  · rw [if_pos (by simpa using e1)]
    exact wpS_pure (h _ st ⟨B, rfl, rfl⟩ (fDone (by omega) (Nat.le_refl _) j0 (.inl e1)))
  rw [if_neg (by simpa using e1)]
  by_cases e2 : b.size = 1
  · rw [if_pos (by simpa using e2)]
    exact wpS_pure (h _ st ⟨B, rfl, rfl⟩ (fFirst (by omega) (Nat.le_refl _) j0 e2))
  rw [if_neg (by simpa using e2)]
  refine wpS_bind (wpS_get ?_)
  refine wpS_bind (wpS_mono (wpS_forRange
    (I := fun x c st' => Still κ a₀ st st' ∧ ∃ na nb out g, c = (none, na, nb, out, g) ∧ JH kf a b out na nb ∧ 1 ≤ na ∧ na ≤ a.size ∧ 2 ≤ nb ∧ nb ≤ b.size ∧ x + 1 + na + nb ≤ a.size + b.size)
    (Q := fun c st' => Still κ a₀ st st' ∧ ∃ r, c.1 = some r ∧ Fin (RK kf) a.toList b.toList r.toList) ?step ?fin ?init) ?post)
  case init => exact ⟨⟨B, rfl, rfl⟩, _, _, _, _, rfl, j0, by omega, by omega, by omega, by omega, by omega⟩
  case fin =>
    rintro c st' ⟨S, na, nb, out, g, rfl, j, h1, h2, h3, h4, h5⟩
    omega
  case post =>
    rintro c st' ⟨S, r, e, f⟩
    obtain ⟨c1, c2⟩ := c
    obtain rfl : c1 = some r := e
    exact wpS_pure (h r st' S f)
  case step =>
    rintro x c st1 _ hx ⟨S, na, nb, out, g, rfl, j, h1, h2, h3, h4, h5⟩
    dsimp only
    refine wpS_bind (wpS_mono (wpS_forRange
      (I := fun y c st' => st' = st1 ∧ ∃ na' nb' out' p q, c = (none, na', nb', out', p, q) ∧ JH kf a b out' na' nb' ∧ 1 ≤ na' ∧ na' ≤ a.size ∧ 2 ≤ nb' ∧ nb' ≤ b.size ∧ na' + nb' + y ≤ na + nb)
      (Q := fun c st' => st' = st1 ∧ ((∃ r, c.1 = some r ∧ Fin (RK kf) a.toList b.toList r.toList) ∨ ∃ na' nb' out' p q, c = (none, na', nb', out', p, q) ∧ JH kf a b out' na' nb' ∧ 1 ≤ na' ∧ na' ≤ a.size ∧ 2 ≤ nb' ∧ nb' ≤ b.size ∧ na' + nb' + 1 ≤ na + nb)) ?s1 ?s2 ?s3) ?s4)
    case s3 => exact ⟨rfl, na, nb, out, 0, 0, rfl, j, h1, h2, h3, h4, Nat.le_refl _⟩
    case s2 =>
      rintro c st' ⟨rfl, na', nb', out', p, q, rfl, j', g1, g2, g3, g4, g5⟩
      exact ⟨rfl, .inr ⟨na', nb', out', p, q, rfl, j', g1, g2, g3, g4, by omega⟩⟩
    case s1 =>
      rintro y c st' _ hy ⟨rfl, na', nb', out', p, q, rfl, j', g1, g2, g3, g4, g5⟩
      dsimp only
      refine wpS_bind (q_elem (by omega : nb' - 1 < b.size) (wpS_bind (q_elem (by omega : na' - 1 < a.size) (wpS_bind (q_lt C S.sb (bm (by omega)) (am (by omega)) ?_)))))
      cases e : O.blt (kf (b[nb' - 1]'(by omega)).1) (kf (a[na' - 1]'(by omega)).1) with
      | true =>
        dsimp only
        rw [if_pos rfl]
        refine wpS_bind (q_elem (by omega : na' - 1 < a.size) ?_)
        have j2 := oneA g1 g2 (by omega) g4 j' (KeyOrd.kle_of_klt e)
        by_cases z : na' - 1 = 0
        · rw [if_pos (by simpa using z)]
          exact wpS_pure ⟨rfl, .inl ⟨_, rfl, fDone (by omega) g4 j2 (.inl z)⟩⟩
        · rw [if_neg (by simpa using z)]
          split
          · exact wpS_pure ⟨rfl, .inr ⟨_, _, _, _, _, rfl, j2, by omega, by omega, g3, g4, by omega⟩⟩
          · exact wpS_pure ⟨rfl, _, _, _, _, _, rfl, j2, by omega, by omega, g3, g4, by omega⟩
      | false =>
        dsimp only
        rw [if_neg Bool.false_ne_true]
        refine wpS_bind (q_elem (by omega : nb' - 1 < b.size) ?_)
        have j2 := oneB g1 g2 (by omega) g4 j' e
        by_cases z : nb' - 1 = 1
        · rw [if_pos (by simpa using z)]
          exact wpS_pure ⟨rfl, .inl ⟨_, rfl, fFirst g2 (by omega) j2 z⟩⟩
        · rw [if_neg (by simpa using z)]
          split
          · exact wpS_pure ⟨rfl, .inr ⟨_, _, _, _, _, rfl, j2, g1, g2, by omega, by omega, by omega⟩⟩
          · exact wpS_pure ⟨rfl, _, _, _, _, _, rfl, j2, g1, g2, by omega, by omega, by omega⟩
    case s4 =>
      rintro c st' ⟨rfl, ⟨r, e, f⟩ | ⟨na', nb', out', p, q, rfl, j', g1, g2, g3, g4, g5⟩⟩
      · obtain ⟨c1, c2⟩ := c
        obtain rfl : c1 = some r := e
        exact wpS_pure ⟨S, r, rfl, f⟩
      dsimp only
      refine wpS_bind (wpS_lift (wpAny_rule ⟨rfl, ?_⟩))
      refine wpS_bind (wpS_mono (wpS_forRange
        (I := fun y c st2 => Still κ a₀ st st2 ∧ ∃ i2 k2 o2 m2 p q, c = (none, i2, k2, o2, m2, p, q) ∧ JH kf a b o2 i2 k2 ∧ 1 ≤ i2 ∧ i2 ≤ a.size ∧ 2 ≤ k2 ∧ k2 ≤ b.size ∧ i2 + k2 + 1 ≤ na + nb)
        (Q := fun c st2 => Still κ a₀ st st2 ∧ ((∃ r, c.1 = some r ∧ Fin (RK kf) a.toList b.toList r.toList) ∨ ∃ i2 k2 o2 m2 p q, c = (none, i2, k2, o2, m2, p, q) ∧ JH kf a b o2 i2 k2 ∧ 1 ≤ i2 ∧ i2 ≤ a.size ∧ 2 ≤ k2 ∧ k2 ≤ b.size ∧ i2 + k2 + 1 ≤ na + nb)) ?t1 ?t2 ?t3) ?t4)
      case t3 => exact ⟨S, na', nb', out', _, p, q, rfl, j', g1, g2, g3, g4, g5⟩
      case t2 =>
        rintro c st2 ⟨S2, r⟩
        exact ⟨S2, .inr r⟩
      case t4 =>
        rintro c st2 ⟨S2, ⟨r, e, f⟩ | ⟨i2, k2, o2, m2, p, q, rfl, j2, f1, f2, f3, f4, f5⟩⟩
        · obtain ⟨c1, c2⟩ := c
          obtain rfl : c1 = some r := e
          exact wpS_pure ⟨S2, r, rfl, f⟩
        · refine wpS_bind (wpS_modify (wpS_pure ⟨S2.gal _, i2, k2, o2, _, rfl, j2, f1, f2, f3, f4, by omega⟩))
      case t1 =>
        rintro y c st2 _ hy ⟨S2, i2, k2, o2, m2, p, q, rfl, j2, f1, f2, f3, f4, f5⟩
        dsimp only
        by_cases z : m2 > 1
        all_goals first | (rw [if_pos z]; generalize m2 - 1 = m3) | (rw [if_neg z]; generalize m2 = m3)
        all_goals
          refine wpS_bind (wpS_modify ?_)
          have S3 := S2.gal m3
          have hk1 : k2 - 1 < b.size := by omega
          refine wpS_bind (q_elem hk1 ?_)
          refine wpS_bind (q_gallop C S3.sb (bm hk1) ha (by omega) (by omega) (up_of pa (by omega)) fun t ht bl bg => ?_)
          have runA : ∀ m (hm : m < a.size), m < t → RK kf a[m] (b[k2 - 1]'hk1) := fun m hm z => by
            have := bl m z
            unfold bey at this
            rw [if_neg Bool.false_ne_true, kx_at (by omega : 0 + m < a.size)] at this
            show O.blt _ _ = false
            simpa using this
          have runB : ∀ m (hm : m < a.size), t ≤ m → m < i2 → RK kf (b[k2 - 1]'hk1) a[m] := fun m hm z z' => by
            have := bg m z z'
            unfold bey at this
            rw [if_neg Bool.false_ne_true, kx_at (by omega : 0 + m < a.size)] at this
            exact KeyOrd.kle_of_klt (by show O.blt _ _ = true; simpa using this)
          have j3 : JH kf a b (o2 ++ (a.extract t i2).reverse) t k2 := by
            have e : (o2 ++ (a.extract t i2).reverse).toList = o2.toList ++ (a.toList.reverse.drop (a.size - i2)).take (i2 - t) := by rw [run_rev a f2 ht]; simp
            show J _ _ _ (o2 ++ (a.extract t i2).reverse).toList _ _
            rw [e, show a.size - t = a.size - i2 + (i2 - t) by omega]
            refine j2.moveA pa' fun x hx y hy => ?_
            rw [run_rev a f2 ht, List.mem_reverse] at hx
            simp only [Array.toList_extract, List.extract_eq_take_drop] at hx
            obtain ⟨m, hm, hm2, rfl⟩ := mem_take_at hx
            obtain ⟨m', hm', z, rfl⟩ := mem_rev f4 hy
            exact KeyOrd.kle_trans (lb (by omega) (by omega : m' ≤ k2 - 1)) (runB _ hm2 (by omega) (by omega))
          dsimp only
          have pre : (i2 - t > 0 ∧ t = 0) ∨ 1 ≤ t := by omega
          rcases pre with ⟨zk, z1⟩ | z1
          · rw [if_pos zk, if_pos (by simpa using z1)]
            exact wpS_pure ⟨S3, .inl ⟨_, rfl, fDone (by omega) f4 j3 (.inl z1)⟩⟩
          have t2 : t ≤ a.size := by omega
          have f5' : t + k2 + 1 ≤ na + nb := by omega
          by_cases zk : i2 - t > 0
          all_goals first
            | (rw [if_pos zk, if_neg (by simp; omega)]
               generalize o2 ++ (a.extract t i2).reverse = o3 at j3 ⊢
               generalize t = i3 at j3 runA z1 t2 f5' ⊢)
            | (rw [if_neg zk]
               have zk0 : t = i2 := by omega
               have eo : o2 ++ (a.extract t i2).reverse = o2 := by rw [zk0]; simp; omega
               rw [eo, zk0] at j3
               rw [zk0] at runA z1 t2 f5'
               generalize i2 = i3 at j3 runA z1 t2 f5' ⊢
               generalize o2 = o3 at j3 ⊢)
          all_goals
            refine wpS_bind (q_elem hk1 ?_)
            have j4 := oneB z1 t2 (by omega) f4 j3 (runA _ (by omega) (by omega))
            by_cases z3 : k2 - 1 = 1
            · rw [if_pos (by simpa using z3)]
              exact wpS_pure ⟨S3, .inl ⟨_, rfl, fFirst t2 (by omega) j4 z3⟩⟩
            rw [if_neg (by simpa using z3)]
            refine wpS_bind (q_elem (by omega : i3 - 1 < a.size) ?_)
            refine wpS_bind (q_gallop C S3.sb (am (by omega)) hb (by omega) (by omega) (up_of pb (by omega)) fun t' ht' bl' bg' => ?_)
            have runB' : ∀ m (hm : m < b.size), m < t' → RK kf b[m] (a[i3 - 1]'(by omega)) := fun m hm z => by
              have := bl' m z
              unfold bey at this
              rw [if_pos rfl, kx_at (by omega : 0 + m < b.size)] at this
              exact KeyOrd.kle_of_klt (by show O.blt _ _ = true; simpa using this)
            have runA' : ∀ m (hm : m < b.size), t' ≤ m → m < k2 - 1 → RK kf (a[i3 - 1]'(by omega)) b[m] := fun m hm z z' => by
              have := bg' m z z'
              unfold bey at this
              rw [if_pos rfl, kx_at (by omega : 0 + m < b.size)] at this
              show O.blt _ _ = false
              simpa using this
            have j5 : JH kf a b (o3.push (b[k2 - 1]'hk1) ++ (b.extract t' (k2 - 1)).reverse) i3 t' := by
              have e : (o3.push (b[k2 - 1]'hk1) ++ (b.extract t' (k2 - 1)).reverse).toList = (o3.push (b[k2 - 1]'hk1)).toList ++ (b.toList.reverse.drop (b.size - (k2 - 1))).take (k2 - 1 - t') := by rw [run_rev b (by omega) ht']; simp
              show J _ _ _ (o3.push (b[k2 - 1]'hk1) ++ (b.extract t' (k2 - 1)).reverse).toList _ _
              rw [e, show b.size - t' = b.size - (k2 - 1) + (k2 - 1 - t') by omega]
              refine j4.moveB pb' fun x hx y hy => ?_
              rw [run_rev b (by omega) ht', List.mem_reverse] at hx
              simp only [Array.toList_extract, List.extract_eq_take_drop] at hx
              obtain ⟨m, hm, hm2, rfl⟩ := mem_take_at hx
              obtain ⟨m', hm', z, rfl⟩ := mem_rev t2 hy
              exact KeyOrd.kle_trans (la (by omega) (by omega : m' ≤ i3 - 1)) (runA' _ hm2 (by omega) (by omega))
            dsimp only
            have pre : (k2 - 1 - t' > 0 ∧ t' = 1) ∨ (k2 - 1 - t' > 0 ∧ t' = 0) ∨ 2 ≤ t' := by omega
            rcases pre with ⟨zk', z4⟩ | ⟨zk', z4⟩ | z4
            · rw [if_pos zk', if_pos (by simpa using z4)]
              exact wpS_pure ⟨S3, .inl ⟨_, rfl, fFirst t2 (by omega) j5 z4⟩⟩
            · rw [if_pos zk', if_neg (by simp; omega), if_pos (by simpa using z4)]
              exact wpS_pure ⟨S3, .inl ⟨_, rfl, fDone t2 (by omega) j5 (.inr z4)⟩⟩
            have t4 : t' ≤ b.size := by omega
            have f6' : i3 + t' + 1 ≤ na + nb := by omega
            by_cases zk' : k2 - 1 - t' > 0
            all_goals first
              | (rw [if_pos zk', if_neg (by simp; omega), if_neg (by simp; omega)]
                 generalize o3.push (b[k2 - 1]'hk1) ++ (b.extract t' (k2 - 1)).reverse = o5 at j5 ⊢
                 generalize t' = k5 at j5 runB' z4 t4 f6' ⊢)
              | (rw [if_neg zk']
                 have zk0 : t' = k2 - 1 := by omega
                 have eo : o3.push (b[k2 - 1]'hk1) ++ (b.extract t' (k2 - 1)).reverse = o3.push (b[k2 - 1]'hk1) := by rw [zk0]; simp; omega
                 rw [eo, zk0] at j5
                 rw [zk0] at runB' z4 t4 f6'
                 generalize o3.push (b[k2 - 1]'hk1) = o5 at j5 ⊢
                 generalize k2 - 1 = k5 at j5 runB' z4 t4 f6' ⊢)
            all_goals
              refine wpS_bind (q_elem (by omega : i3 - 1 < a.size) ?_)
              have j6 := oneA z1 t2 (by omega) t4 j5 (runB' _ (by omega) (by omega))
              by_cases z5 : i3 - 1 = 0
              · rw [if_pos (by simpa using z5)]
                exact wpS_pure ⟨S3, .inl ⟨_, rfl, fDone (by omega) t4 j6 (.inl z5)⟩⟩
              rw [if_neg (by simpa using z5)]
              split
              · exact wpS_pure ⟨S3, .inr ⟨_, _, _, _, _, _, rfl, j6, by omega, by omega, z4, t4, by omega⟩⟩
              · exact wpS_pure ⟨S3, _, _, _, _, _, _, rfl, j6, by omega, by omega, z4, t4, by omega⟩
end
theorem fold_put (p : Nat) : ∀ (M : List Keyed) (n : Nat) (xs : Array Keyed), p + n + M.length ≤ xs.size → ((M.zipIdx n).foldl (fun a x => a.setIfInBounds (p + x.2) x.1) xs).toList = xs.toList.take (p + n) ++ M ++ xs.toList.drop (p + n + M.length)
  | [], n, xs, h => by simp
  | m :: r, n, xs, h => by
    rw [List.length_cons] at h
    rw [List.zipIdx_cons, List.foldl_cons, fold_put p r (n + 1) _ (by simp; omega)]
    have hl : p + n < xs.toList.length := by simp; omega
    simp only [Array.toList_setIfInBounds]
    rw [List.drop_set_of_lt (by omega), show p + (n + 1) = p + n + 1 by omega, List.take_add_one, List.take_set_of_le (by omega), List.getElem?_set_self hl, List.length_cons]
    simp [show p + n + 1 + r.length = p + n + (r.length + 1) by omega]
section
variable {prog : Program} {w : World} {A : Around} {E : Value → Shared → Prop} {s : Shared} {κ : SortKind} {O : KeyOrd} {kf : Value → O.α} {a₀ : Array Keyed} {st : SortSt}
theorem pair_ext {xs : Array Keyed} {lo hi : Nat} (h : hi ≤ xs.size) (u : Up kf xs lo hi) : (xs.extract lo hi).toList.Pairwise (RK kf) := by
  rw [List.pairwise_iff_getElem]
  intro i j hi' hj hij
  have h1 : (xs.extract lo hi).size = hi - lo := by simp; omega
  have e : ∀ k (hk : k < (xs.extract lo hi).toList.length), (xs.extract lo hi).toList[k] = xs[lo + k]'(by simp at hk; omega) := fun k hk => by simp
  rw [e i hi', e j hj]
  have hi2 : i < hi - lo := by simp at hi'; omega
  have hj2 : j < hi - lo := by simp at hj; omega
  have := u (lo + i) (lo + j) (by omega) (by omega) (by omega)
  rw [kx_at (by omega : lo + i < xs.size), kx_at (by omega : lo + j < xs.size)] at this
  exact this
theorem mem_ext {xs : Array Keyed} {lo hi : Nat} (h : hi ≤ xs.size) {p : Keyed} (hp : p ∈ (xs.extract lo hi).toList) : ∃ m, lo ≤ m ∧ m < hi ∧ ∃ (hm : m < xs.size), p = xs[m] := by
  simp only [Array.toList_extract, List.extract_eq_take_drop] at hp
  obtain ⟨m, hm, hm2, rfl⟩ := mem_take_at hp
  exact ⟨lo + m, by omega, by omega, hm2, rfl⟩
theorem ext_split (xs : Array Keyed) {i j k : Nat} (h1 : i ≤ j) (h2 : j ≤ k) (h3 : k ≤ xs.size) : xs.toList = xs.toList.take i ++ ((xs.extract i j).toList ++ (xs.extract j k).toList) ++ xs.toList.drop k := by
  simp only [Array.toList_extract, List.extract_eq_take_drop]
  have e1 : List.take (k - i) (xs.toList.drop i) = List.take (j - i) (xs.toList.drop i) ++ List.take (k - j) (xs.toList.drop j) := by
    rw [show k - i = (j - i) + (k - j) by omega, List.take_add, List.drop_drop, show i + (j - i) = j by omega]
  have e2 : xs.toList.drop i = List.take (k - i) (xs.toList.drop i) ++ xs.toList.drop k := by
    conv => lhs; rw [← List.take_append_drop (k - i) (xs.toList.drop i), List.drop_drop, show i + (k - i) = k by omega]
  rw [← e1, List.append_assoc, ← e2, List.take_append_drop]
theorem wpS_set {M : Model} {σ : Type} {t u : σ} {Q : PUnit → σ → Prop} (h : Q ⟨⟩ t) : wpS M A E s (set t : StateT σ Sem PUnit) Q u := by
  unfold wpS
  exact wpAny_pure ⟨rfl, h⟩
theorem q_mergeAt (C : Cmp prog w A s κ O kf a₀) (B : SB κ a₀ st) {i sa na pw nb pw' : Nat} (p1 : (pendingOf st)[i]? = some (sa, na, pw)) (p2 : (pendingOf st)[i + 1]? = some (sa + na, nb, pw')) (n1 : 1 ≤ na) (n2 : 1 ≤ nb) (hz : sa + na + nb ≤ a₀.size)
    (ua : Up kf (arrOf st) sa (sa + na)) (ub : Up kf (arrOf st) (sa + na) (sa + na + nb)) {Q : Bool → SortSt → Prop}
    (h : ∀ st', SB κ a₀ st' → pendingOf st' = ((pendingOf st).setIfInBounds i (sa, na + nb, pw)).eraseIdxIfInBounds (i + 1) → Up kf (arrOf st') sa (sa + (na + nb)) → (∀ k, k < sa ∨ sa + na + nb ≤ k → KX kf (arrOf st') k = KX kf (arrOf st) k) → Q true st') :
    wpS (model prog w) A E s (mergeAt' i) Q st := by
  have sz := B.size
  refine wpS_bind (wpS_get ?_)
  rw [show (sortPriv% PySem.Builtin.SortState.pending) st = pendingOf st from rfl, p1, p2]
  dsimp only
  refine wpS_bind (wpS_set (t := SortSt.mk' (kindOf st) (arrOf st) (((pendingOf st).setIfInBounds i (sa, na + nb, pw)).eraseIdxIfInBounds (i + 1)) (gallopOf st) (failedOf st)) ?_)
  have memA : ∀ p ∈ (arrOf st).toList, p ∈ a₀.toList := fun p hp => (Array.perm_iff_toList_perm.mp B.perm).mem_iff.mp hp
  have e1 : sa + na < (arrOf st).size := by omega
  refine wpS_bind (q_elem e1 ?_)
  generalize hst1 : SortSt.mk' (kindOf st) (arrOf st) (((pendingOf st).setIfInBounds i (sa, na + nb, pw)).eraseIdxIfInBounds (i + 1)) (gallopOf st) (failedOf st) = st1
  have B1 : SB κ a₀ st1 := by rw [← hst1]; exact ⟨B.perm, B.kind, B.failed⟩
  have ar1 : arrOf st1 = arrOf st := by rw [← hst1]
  have pe1 : pendingOf st1 = ((pendingOf st).setIfInBounds i (sa, na + nb, pw)).eraseIdxIfInBounds (i + 1) := by rw [← hst1]
  have keyB : KX kf (arrOf st) (sa + na) = kf ((arrOf st)[sa + na]'e1).1 := kx_at e1
  refine wpS_bind (q_gallop (left := false) (key := (arrOf st)[sa + na]'e1) (base := sa) (n := na) (hint := 0) C B1 (memA _ (by simp)) memA (by omega) (by omega) ua fun k hk bl bg => ?_)
  have lowA : ∀ j, sa ≤ j → j < sa + k → O.kle (KX kf (arrOf st) j) (KX kf (arrOf st) (sa + na)) := fun j j1 j2 => by
    have := bl (j - sa) (by omega)
    unfold bey at this
    rw [if_neg Bool.false_ne_true, ← keyB, show sa + (j - sa) = j by omega] at this
    show O.blt _ _ = false
    simpa using this
  have highA : ∀ j, sa + k ≤ j → j < sa + na → O.kle (KX kf (arrOf st) (sa + na)) (KX kf (arrOf st) j) := fun j j1 j2 => by
    have := bg (j - sa) (by omega) (by omega)
    unfold bey at this
    rw [if_neg Bool.false_ne_true, ← keyB, show sa + (j - sa) = j by omega] at this
    exact KeyOrd.kle_of_klt (by show O.blt _ _ = true; simpa using this)
  dsimp only
  by_cases k0 : na - k = 0
  · rw [if_pos (by simpa using k0)]
    refine wpS_pure (h st1 B1 pe1 ?_ fun z _ => by rw [ar1])
    rw [ar1]
    intro x y h1 h2 h3
    by_cases hx : x < sa + na
    · by_cases hy : y < sa + na
      · exact ua x y h1 h2 hy
      · exact KeyOrd.kle_trans (lowA x h1 (by omega)) (ub _ y (Nat.le_refl _) (by omega) (by omega))
    · exact ub x y (by omega) h2 (by omega)
  rw [if_neg (by simpa using k0)]
  have e2 : sa + k + (na - k) - 1 < (arrOf st).size := by omega
  refine wpS_bind (q_elem e2 ?_)
  have keyA : KX kf (arrOf st) (sa + na - 1) = kf ((arrOf st)[sa + k + (na - k) - 1]'e2).1 := by
    rw [← kx_at (kf := kf) e2]
    congr 1
    omega
  refine wpS_bind (q_gallop (left := true) (key := (arrOf st)[sa + k + (na - k) - 1]'e2) (base := sa + na) (n := nb) (hint := nb - 1) C B1 (memA _ (by simp)) memA (by omega) (by omega) ub fun k' hk' bl' bg' => ?_)
  have lowB : ∀ j, sa + na ≤ j → j < sa + na + k' → O.kle (KX kf (arrOf st) j) (KX kf (arrOf st) (sa + na - 1)) := fun j j1 j2 => by
    have := bl' (j - (sa + na)) (by omega)
    unfold bey at this
    rw [if_pos rfl, ← keyA, show sa + na + (j - (sa + na)) = j by omega] at this
    exact KeyOrd.kle_of_klt this
  have highB : ∀ j, sa + na + k' ≤ j → j < sa + na + nb → O.kle (KX kf (arrOf st) (sa + na - 1)) (KX kf (arrOf st) j) := fun j j1 j2 => by
    have := bg' (j - (sa + na)) (by omega) (by omega)
    unfold bey at this
    rw [if_pos rfl, ← keyA, show sa + na + (j - (sa + na)) = j by omega] at this
    exact this
  dsimp only
  by_cases k1 : k' = 0
  · rw [if_pos (by simpa using k1)]
    refine wpS_pure (h st1 B1 pe1 ?_ fun z _ => by rw [ar1])
    rw [ar1]
    intro x y h1 h2 h3
    by_cases hx : x < sa + na
    · by_cases hy : y < sa + na
      · exact ua x y h1 h2 hy
      · exact KeyOrd.kle_trans (ua x (sa + na - 1) h1 (by omega) (by omega)) (highB y (by omega) (by omega))
    · exact ub x y (by omega) h2 (by omega)
  rw [if_neg (by simpa using k1)]
  generalize hX : (arrOf st).extract (sa + k) (sa + na) = X
  generalize hY : (arrOf st).extract (sa + na) (sa + na + k') = Y
  have pX : X.toList.Pairwise (RK kf) := by rw [← hX]; exact pair_ext (by omega) fun a b q1 q2 q3 => ua a b (by omega) q2 q3
  have pY : Y.toList.Pairwise (RK kf) := by rw [← hY]; exact pair_ext (by omega) fun a b q1 q2 q3 => ub a b (by omega) q2 (by omega)
  have zX : X.size = na - k := by rw [← hX]; simp; omega
  have zY : Y.size = k' := by rw [← hY]; simp; omega
  have mX : ∀ p ∈ X.toList, ∃ m, sa + k ≤ m ∧ m < sa + na ∧ ∃ (hm : m < (arrOf st).size), p = (arrOf st)[m] := fun p hp => mem_ext (by omega) (by rw [hX]; exact hp)
  have mY : ∀ p ∈ Y.toList, ∃ m, sa + na ≤ m ∧ m < sa + na + k' ∧ ∃ (hm : m < (arrOf st).size), p = (arrOf st)[m] := fun p hp => mem_ext (by omega) (by rw [hY]; exact hp)
  have y0 : Y[0]'(by omega) = (arrOf st)[sa + na]'e1 := by subst hY; simp
  have xl : X[X.size - 1]'(by omega) = (arrOf st)[sa + na - 1]'(by omega) := by
    subst hX
    rw [Array.getElem_extract]
    congr 1
    rw [zX]
    omega
  have first : ∀ p ∈ X.toList, RK kf (Y[0]'(by omega)) p := fun p hp => by
    obtain ⟨m, q1, q2, hm, rfl⟩ := mX p hp
    rw [y0]
    have := highA m q1 q2
    rw [keyB, kx_at hm] at this
    exact this
  have last : ∀ p ∈ Y.toList, RK kf p (X[X.size - 1]'(by omega)) := fun p hp => by
    obtain ⟨m, q1, q2, hm, rfl⟩ := mY p hp
    rw [xl]
    have := lowB m q1 q2
    rw [kx_at hm, kx_at (by omega : sa + na - 1 < (arrOf st).size)] at this
    exact this
  have inX : ∀ p ∈ X.toList, p ∈ a₀.toList := fun p hp => by
    obtain ⟨m, q1, q2, hm, rfl⟩ := mX p hp
    exact memA _ (by simp)
  have inY : ∀ p ∈ Y.toList, p ∈ a₀.toList := fun p hp => by
    obtain ⟨m, q1, q2, hm, rfl⟩ := mY p hp
    exact memA _ (by simp)
  have fin : ∀ (M : Array Keyed) (st2 : SortSt), Still κ a₀ st1 st2 → Fin (RK kf) X.toList Y.toList M.toList → Q true (setArr st2 (M.toList.zipIdx.foldl (fun a x => a.setIfInBounds (sa + k + x.2) x.1) (arrOf st2))) := fun M st2 S f => by
    have lM : M.toList.length = (na - k) + k' := by rw [f.1.length_eq, List.length_append]; simp [zX, zY]
    have ar2 : arrOf st2 = arrOf st := S.arr.trans ar1
    have el := fold_put (sa + k) M.toList 0 (arrOf st) (by omega)
    rw [Nat.add_zero, lM, show sa + k + (na - k + k') = sa + na + k' by omega] at el
    generalize hN : M.toList.zipIdx.foldl (fun a x => a.setIfInBounds (sa + k + x.2) x.1) (arrOf st2) = N
    have eN : N.toList = (arrOf st).toList.take (sa + k) ++ M.toList ++ (arrOf st).toList.drop (sa + na + k') := by rw [← hN, ar2]; exact el
    have perm : N.Perm (arrOf st2) := by
      rw [ar2, Array.perm_iff_toList_perm, eN]
      have sp := ext_split (arrOf st) (i := sa + k) (j := sa + na) (k := sa + na + k') (by omega) (by omega) (by omega)
      rw [hX, hY] at sp
      conv => rhs; rw [sp]
      exact List.Perm.append_right _ (List.Perm.append_left _ f.1)
    have lt : ((arrOf st).toList.take (sa + k)).length = sa + k := by simp; omega
    have nOut : ∀ z, z < sa + k ∨ sa + na + k' ≤ z → N[z]? = (arrOf st)[z]? := fun z hz' => by
      rw [← Array.getElem?_toList, ← Array.getElem?_toList, eN]
      rcases hz' with q | q
      · rw [List.append_assoc, List.getElem?_append_left (by omega), List.getElem?_take_of_lt q]
      · rw [List.getElem?_append_right (by rw [List.length_append]; omega), List.length_append, lt, lM, List.getElem?_drop]
        congr 1
        omega
    have nIn : ∀ z, sa + k ≤ z → z < sa + na + k' → N[z]? = M[z - (sa + k)]? := fun z q1 q2 => by
      rw [← Array.getElem?_toList, ← Array.getElem?_toList, eN, List.append_assoc, List.getElem?_append_right (by omega), lt, List.getElem?_append_left (by omega)]
    have upM : Up kf M 0 M.size := up_of f.2 (Nat.le_refl _)
    have sM : M.size = (na - k) + k' := by rw [← lM]; simp
    have inM : ∀ z, sa + k ≤ z → z < sa + na + k' → ∃ m, sa + k ≤ m ∧ m < sa + na + k' ∧ KX kf N z = KX kf (arrOf st) m := fun z q1 q2 => by
      have hz2 : z - (sa + k) < M.size := by omega
      have hm : M[z - (sa + k)] ∈ X.toList ++ Y.toList := f.1.mem_iff.mp (by simp)
      rw [kx_congr (nIn z q1 q2), kx_at hz2]
      rcases List.mem_append.mp hm with q | q
      · obtain ⟨m, q1, q2, hm, e⟩ := mX _ q
        exact ⟨m, q1, by omega, by rw [e, kx_at hm]⟩
      · obtain ⟨m, q1, q2, hm, e⟩ := mY _ q
        exact ⟨m, by omega, q2, by rw [e, kx_at hm]⟩
    refine h _ (S.sb.put perm) (S.pend.trans pe1) ?_ fun z hz' => kx_congr (nOut z (by omega))
    show Up kf N sa (sa + (na + nb))
    intro x y h1 h2 h3
    by_cases x1 : x < sa + k
    · rw [kx_congr (nOut x (.inl x1))]
      have all : ∀ m, sa + k ≤ m → m < sa + na + nb → O.kle (KX kf (arrOf st) x) (KX kf (arrOf st) m) := fun m q1 q2 => by
        by_cases q3 : m < sa + na
        · exact ua x m h1 (by omega) q3
        · exact KeyOrd.kle_trans (lowA x h1 x1) (ub _ m (Nat.le_refl _) (by omega) q2)
      by_cases y1 : y < sa + k
      · rw [kx_congr (nOut y (.inl y1))]
        exact ua x y h1 h2 (by omega)
      · by_cases y2 : y < sa + na + k'
        · obtain ⟨m, q1, q2, e⟩ := inM y (by omega) y2
          rw [e]
          exact all m q1 (by omega)
        · rw [kx_congr (nOut y (.inr (by omega)))]
          exact all y (by omega) (by omega)
    · by_cases x2 : x < sa + na + k'
      · by_cases y2 : y < sa + na + k'
        · rw [kx_congr (nIn x (by omega) x2), kx_congr (nIn y (by omega) y2)]
          exact upM _ _ (by omega) (by omega) (by omega)
        · rw [kx_congr (nOut y (.inr (by omega)))]
          obtain ⟨m, q1, q2, e⟩ := inM x (by omega) x2
          rw [e]
          by_cases q3 : m < sa + na
          · exact KeyOrd.kle_trans (ua m (sa + na - 1) (by omega) (by omega) (by omega)) (highB y (by omega) (by omega))
          · exact ub m y (by omega) (by omega) (by omega)
      · rw [kx_congr (nOut x (.inr (by omega))), kx_congr (nOut y (.inr (by omega)))]
        exact ub x y (by omega) h2 (by omega)
  have fin2 : ∀ (M : Array Keyed) (st2 : SortSt), Still κ a₀ st1 st2 → Fin (RK kf) X.toList Y.toList M.toList → failedOf (setArr st2 (M.toList.zipIdx.foldl (fun a x => a.setIfInBounds (sa + k + x.2) x.1) (arrOf st2))) = none := fun M st2 S _ => S.sb.failed
  by_cases le : na - k ≤ k'
  · rw [if_pos le]
    refine wpS_bind (q_mergeLo C B1 inX inY (by omega) (by omega) pX pY first last fun M st2 S f => ?_)
    refine wpS_bind (wpS_modify (wpS_bind (wpS_get ?_)))
    have := fin M st2 S f
    have e := fin2 M st2 S f
    refine wpS_pure ?_
    show Q (failedOf (setArr st2 _)).isNone _
    rw [e]
    exact this
  · rw [if_neg le]
    refine wpS_bind (q_mergeHi C B1 inX inY (by omega) (by omega) pX pY first last fun M st2 S f => ?_)
    refine wpS_bind (wpS_modify (wpS_bind (wpS_get ?_)))
    have := fin M st2 S f
    have e := fin2 M st2 S f
    refine wpS_pure ?_
    show Q (failedOf (setArr st2 _)).isNone _
    rw [e]
    exact this
def Chain (kf : Value → O.α) (xs : Array Keyed) : Nat → List (Nat × Nat × Nat) → Nat → Prop
  | x, [], y => x = y
  | x, (s, n, _) :: r, y => s = x ∧ 1 ≤ n ∧ Up kf xs s (s + n) ∧ Chain kf xs (x + n) r y
theorem Chain.le {xs : Array Keyed} : ∀ {l : List (Nat × Nat × Nat)} {x y : Nat}, Chain kf xs x l y → x + l.length ≤ y
  | [], x, y, h => by have h : x = y := h; simp; omega
  | (s, n, p) :: r, x, y, h => by
    obtain ⟨_, h1, _, h2⟩ := h
    have := Chain.le h2
    rw [List.length_cons]
    omega
theorem Chain.app {xs : Array Keyed} : ∀ {l m : List (Nat × Nat × Nat)} {x z : Nat}, Chain kf xs x (l ++ m) z ↔ ∃ y, Chain kf xs x l y ∧ Chain kf xs y m z
  | [], m, x, z => ⟨fun h => ⟨x, rfl, h⟩, fun ⟨y, h1, h2⟩ => by have h1 : x = y := h1; rw [h1]; exact h2⟩
  | (s, n, p) :: r, m, x, z => by
    constructor
    · rintro ⟨h1, h2, h3, h4⟩
      obtain ⟨y, h5, h6⟩ := Chain.app.mp h4
      exact ⟨y, ⟨h1, h2, h3, h5⟩, h6⟩
    · rintro ⟨y, ⟨h1, h2, h3, h5⟩, h6⟩
      exact ⟨h1, h2, h3, Chain.app.mpr ⟨y, h5, h6⟩⟩
theorem Chain.keep {xs ys : Array Keyed} : ∀ {l : List (Nat × Nat × Nat)} {x y : Nat}, Chain kf xs x l y → (∀ k, x ≤ k → k < y → KX kf ys k = KX kf xs k) → Chain kf ys x l y
  | [], x, y, h, _ => h
  | (s, n, p) :: r, x, y, ⟨h1, h2, h3, h4⟩, k => by
    have := Chain.le h4
    subst h1
    exact ⟨rfl, h2, fun i j q1 q2 q3 => by rw [k i q1 (by omega), k j (by omega) (by omega)]; exact h3 i j q1 q2 q3, Chain.keep h4 fun z z1 z2 => k z (by omega) z2⟩
theorem q_join (C : Cmp prog w A s κ O kf a₀) (B : SB κ a₀ st) {i hi : Nat} (c : Chain kf (arrOf st) 0 (pendingOf st).toList hi) (h1 : i + 1 < (pendingOf st).size) (hz : hi ≤ a₀.size) {Q : Bool → SortSt → Prop}
    (h : ∀ st', SB κ a₀ st' → (pendingOf st').size + 1 = (pendingOf st).size → Chain kf (arrOf st') 0 (pendingOf st').toList hi → (∀ k, hi ≤ k → KX kf (arrOf st') k = KX kf (arrOf st) k) → Q true st') : wpS (model prog w) A E s (mergeAt' i) Q st := by
  obtain ⟨⟨sa, na, pw⟩, e1⟩ : ∃ x, (pendingOf st)[i]? = some x := ⟨_, getElem?_pos _ i (by omega)⟩
  obtain ⟨⟨sb, nb, pw'⟩, e2⟩ : ∃ x, (pendingOf st)[i + 1]? = some x := ⟨_, getElem?_pos _ (i + 1) h1⟩
  have sp : (pendingOf st).toList = (pendingOf st).toList.take i ++ (sa, na, pw) :: (sb, nb, pw') :: (pendingOf st).toList.drop (i + 2) := by
    have l1 : i < (pendingOf st).toList.length := by simp; omega
    have l2 : i + 1 < (pendingOf st).toList.length := by simp; omega
    conv => lhs; rw [← List.take_append_drop i (pendingOf st).toList]
    congr 1
    rw [List.drop_eq_getElem_cons l1, List.drop_eq_getElem_cons l2]
    have g1 : (pendingOf st).toList[i] = (sa, na, pw) := by
      rw [← Array.getElem?_toList, List.getElem?_eq_getElem l1] at e1
      exact Option.some.inj e1
    have g2 : (pendingOf st).toList[i + 1] = (sb, nb, pw') := by
      rw [← Array.getElem?_toList, List.getElem?_eq_getElem l2] at e2
      exact Option.some.inj e2
    rw [g1, g2]
  have ln : ((pendingOf st).toList.take i).length = i := by simp; omega
  generalize (pendingOf st).toList.take i = l1 at sp ln
  generalize (pendingOf st).toList.drop (i + 2) = l2 at sp
  rw [sp] at c
  obtain ⟨y, c1, ⟨q1, q2, q3, ⟨q4, q5, q6, c2⟩⟩⟩ := Chain.app.mp c
  subst q1 q4
  have le1 := c2.le
  refine q_mergeAt C B e1 e2 q2 q5 (by omega) q3 q6 fun st' B' pe u k => h st' B' ?_ ?_ fun z hz' => k z (.inr (by omega))
  · have l0 : (pendingOf st').toList.length + 1 = (pendingOf st).toList.length := by
      rw [pe]
      simp only [Array.toList_eraseIdxIfInBounds, Array.toList_setIfInBounds]
      rw [List.length_eraseIdx_of_lt (by simp; omega), List.length_set]
      have : 0 < (pendingOf st).toList.length := by simp; omega
      omega
    simpa using l0
  · have pl : (pendingOf st').toList = l1 ++ (sa, na + nb, pw) :: l2 := by
      rw [pe]
      simp only [Array.toList_eraseIdxIfInBounds, Array.toList_setIfInBounds, sp]
      rw [List.set_append_right _ _ (by omega), ln, Nat.sub_self, List.set_cons_zero, List.eraseIdx_append_of_length_le (by omega), ln]
      simp
    rw [pl]
    refine Chain.app.mpr ⟨sa, c1.keep fun z _ z2 => k z (.inl z2), rfl, by omega, u, ?_⟩
    rw [show sa + (na + nb) = sa + na + nb by omega]
    exact c2.keep fun z z1 _ => k z (.inr z1)
theorem Chain.same {xs : Array Keyed} : ∀ {l m : List (Nat × Nat × Nat)} {x y : Nat}, l.map (fun v => (v.1, v.2.1)) = m.map (fun v => (v.1, v.2.1)) → Chain kf xs x l y → Chain kf xs x m y
  | [], [], _, _, _, h => h
  | [], _ :: _, _, _, e, _ => by cases e
  | _ :: _, [], _, _, e, _ => by cases e
  | (a, n, p) :: l, (b, k, q) :: m, x, y, e, ⟨h1, h2, h3, h4⟩ => by
    have e := List.cons.inj e
    have e1 : (a, n) = (b, k) := e.1
    cases e1
    exact ⟨h1, h2, h3, Chain.same e.2 h4⟩
theorem push_end {st3 : SortSt} {lo m x : Nat} (B3 : SB κ a₀ st3) (c3 : Chain kf (arrOf st3) 0 (pendingOf st3).toList lo) (u3 : Up kf (arrOf st3) lo (lo + m)) (h1 : 1 ≤ m) (h2 : lo + m ≤ a₀.size) (hx : x ≤ lo ∨ a₀.size ≤ lo) :
    SB κ a₀ (setPending st3 ((pendingOf st3).push (lo, m, 0))) ∧ ∃ lo', ((none, lo + m) : Option Unit × Nat) = (none, lo') ∧ (x + 1 ≤ lo' ∨ a₀.size ≤ lo') ∧ lo' ≤ a₀.size ∧ Chain kf (arrOf (setPending st3 ((pendingOf st3).push (lo, m, 0)))) 0 (pendingOf (setPending st3 ((pendingOf st3).push (lo, m, 0)))).toList lo' := by
  refine ⟨⟨B3.perm, B3.kind, B3.failed⟩, lo + m, rfl, by omega, h2, ?_⟩
  show Chain kf (arrOf st3) 0 ((pendingOf st3).push (lo, m, 0)).toList (lo + m)
  rw [Array.toList_push]
  exact Chain.app.mpr ⟨lo, c3, rfl, h1, u3, rfl⟩
theorem q_sort (C : Cmp prog w A s κ O kf a₀) (B : SB κ a₀ st) (p0 : pendingOf st = #[]) {Q : Unit → SortSt → Prop}
    (h : ∀ st', SB κ a₀ st' → Up kf (arrOf st') 0 a₀.size → Q () st') : wpS (model prog w) A E s sortRuns' Q st := by
  rw [sortRuns'_eq]
  refine wpS_bind (wpS_get ?_)
  dsimp only
  simp only [B.size]
  generalize minRun' a₀.size a₀.size 0 = mr
  refine wpS_bind (wpS_mono (wpS_forRange
    (I := fun x c st' => SB κ a₀ st' ∧ ∃ lo, c = (none, lo) ∧ (x ≤ lo ∨ a₀.size ≤ lo) ∧ lo ≤ a₀.size ∧ Chain kf (arrOf st') 0 (pendingOf st').toList lo)
    (Q := fun c st' => SB κ a₀ st' ∧ c = (none, a₀.size) ∧ Chain kf (arrOf st') 0 (pendingOf st').toList a₀.size) ?step ?fin ?init) ?post)
  case init => exact ⟨B, 0, rfl, .inl (Nat.le_refl _), Nat.zero_le _, by rw [p0]; rfl⟩
  case fin =>
    rintro c st' ⟨B', lo, rfl, q1, q2, c⟩
    obtain rfl : lo = a₀.size := by omega
    exact ⟨B', rfl, c⟩
  case post =>
    rintro c st' ⟨B', rfl, c⟩
    dsimp only
    refine wpS_bind (wpS_mono (wpS_forRange
      (I := fun x c st2 => c = (none, ()) ∧ SB κ a₀ st2 ∧ Chain kf (arrOf st2) 0 (pendingOf st2).toList a₀.size ∧ ((pendingOf st2).size + x ≤ a₀.size ∨ (pendingOf st2).size ≤ 1))
      (Q := fun c st2 => c = (none, ()) ∧ SB κ a₀ st2 ∧ Chain kf (arrOf st2) 0 (pendingOf st2).toList a₀.size ∧ (pendingOf st2).size ≤ 1) ?t1 ?t2 ?t3) ?t4)
    case t3 => exact ⟨rfl, B', c, .inl (by have := c.le; simp at this; omega)⟩
    case t2 =>
      rintro c2 st2 ⟨rfl, B2, c2, q⟩
      exact ⟨rfl, B2, c2, by omega⟩
    case t4 =>
      rintro c2 st2 ⟨rfl, B2, c2, q⟩
      refine wpS_pure (h st2 B2 ?_)
      generalize (pendingOf st2) = P at c2 q
      obtain ⟨l⟩ := P
      match l, q, c2 with
      | [], _, c2 =>
        have c2 : 0 = a₀.size := c2
        intro i j _ _ q3
        omega
      | [(a, n, p)], _, c2 =>
        obtain ⟨e1, _, u, e2⟩ := c2
        have e2 : 0 + n = a₀.size := e2
        subst e1
        rw [← e2]
        exact u
    case t1 =>
      rintro x c2 st2 _ hx ⟨rfl, B2, c2, q⟩
      refine wpS_bind (wpS_get ?_)
      by_cases z : (pendingOf st2).size ≤ 1
      · rw [if_pos z]
        exact wpS_pure ⟨rfl, B2, c2, z⟩
      · rw [if_neg z]
        generalize hi : (if Option.any (fun x => decide (x < (pendingOf st2)[(pendingOf st2).size - 2 + 1]?.elim 0 (fun x => x.2.1))) (if (pendingOf st2).size - 2 > 0 then Option.map (fun x => x.2.1) (pendingOf st2)[(pendingOf st2).size - 2 - 1]? else none) = true then (pendingOf st2).size - 2 - 1 else (pendingOf st2).size - 2) = i
        have aux : ∀ (c : Prop) [Decidable c] (u v N : Nat), u + 1 < N → v + 1 < N → (if c then u else v) + 1 < N := fun c _ u v N h1 h2 => by split <;> assumption
        refine wpS_bind (q_join C B2 c2 (by rw [← hi]; exact aux _ _ _ _ (by omega) (by omega)) (Nat.le_refl _) fun st3 B3 z3 c3 _ => ?_)
        exact wpS_pure ⟨rfl, B3, c3, by omega⟩
  case step =>
    rintro x c st' _ hx ⟨B', lo, rfl, q1, q2, c⟩
    dsimp only
    by_cases z : lo ≥ a₀.size
    · rw [if_pos z]
      obtain rfl : lo = a₀.size := by omega
      exact wpS_pure ⟨B', rfl, c⟩
    rw [if_neg z]
    refine wpS_bind (q_count C (by omega) (by omega) B' fun n st2 B2 K2 n1 n2 u2 => ?_)
    have c2 : Chain kf (arrOf st2) 0 (pendingOf st2).toList lo := by
      rw [K2.pend]
      exact c.keep fun k _ k2 => kx_congr (K2.low k k2)
    dsimp only
    by_cases hm : n < mr
    all_goals first
      | (rw [if_pos hm]
         refine wpS_bind (wpS_lift (wpAny_rule ⟨rfl, ?_⟩))
         refine wpS_bind (q_binary C (by omega) (by omega) B2 u2 fun st3 B3 K3 u3 => ?_)
         rw [if_neg (by simp)]
         have n3 : 1 ≤ min (a₀.size - lo) mr ∧ lo + min (a₀.size - lo) mr ≤ a₀.size := by omega
         have c3 : Chain kf (arrOf st3) 0 (pendingOf st3).toList lo := by
           rw [K3.pend]
           exact c2.keep fun k _ k2 => kx_congr (K3.low k k2)
         generalize min (a₀.size - lo) mr = m at u3 n3 ⊢)
      | (rw [if_neg hm]
         have n3 : 1 ≤ n ∧ lo + n ≤ a₀.size := by omega
         have B3 := B2
         have c3 := c2
         have u3 := u2
         generalize n = m at u3 n3 ⊢
         generalize st2 = st3 at B3 c3 u3 ⊢)
    all_goals
      refine wpS_bind (wpS_get ?_)
      cases hb : (pendingOf st3).back? with
      | none => exact wpS_bind (wpS_modify (wpS_pure (push_end B3 c3 u3 n3.1 n3.2 (by omega))))
      | some b =>
        obtain ⟨s1, m1, pw⟩ := b
        dsimp only
        generalize power' a₀.size (2 * s1 + m1) (2 * s1 + m1 + m1 + m) a₀.size = pp
        refine wpS_bind (wpS_mono (wpS_forRange
          (I := fun _ c st4 => c = (none, ()) ∧ SB κ a₀ st4 ∧ Chain kf (arrOf st4) 0 (pendingOf st4).toList lo ∧ Up kf (arrOf st4) lo (lo + m))
          (Q := fun c st4 => c = (none, ()) ∧ SB κ a₀ st4 ∧ Chain kf (arrOf st4) 0 (pendingOf st4).toList lo ∧ Up kf (arrOf st4) lo (lo + m)) ?r1 (fun _ _ q => q) ⟨rfl, B3, c3, u3⟩) ?r2)
        case r1 =>
          rintro y c4 st4 _ hy ⟨rfl, B4, c4, u4⟩
          refine wpS_bind (wpS_get ?_)
          by_cases z4 : (pendingOf st4).size > 1
          · have e4 := getElem?_pos (pendingOf st4) ((pendingOf st4).size - 2) (by omega)
            simp only [if_pos z4, e4]
            split
            · exact wpS_pure ⟨rfl, B4, c4, u4⟩
            · refine wpS_bind (q_join C B4 c4 (by omega) q2 fun st5 B5 z5 c5 k5 => ?_)
              exact wpS_pure ⟨rfl, B5, c5, fun i j w1 w2 w3 => by rw [k5 i w1, k5 j (by omega)]; exact u4 i j w1 w2 w3⟩
          · simp only [if_neg z4]
            exact wpS_pure ⟨rfl, B4, c4, u4⟩
        case r2 =>
          rintro c4 st4 ⟨rfl, B4, c4, u4⟩
          dsimp only
          refine wpS_bind (wpS_modify (wpS_bind (wpS_modify (wpS_pure ?_))))
          have B5 : SB κ a₀ (setPending st4 ((pendingOf st4).modify ((pendingOf st4).size - 1) fun x => (x.1, x.2.1, pp))) := ⟨B4.perm, B4.kind, B4.failed⟩
          refine push_end B5 ?_ u4 n3.1 n3.2 (by omega)
          refine Chain.same (l := (pendingOf st4).toList) ?_ c4
          show _ = ((pendingOf st4).modify ((pendingOf st4).size - 1) fun x => (x.1, x.2.1, pp)).toList.map _
          rw [Array.toList_modify]
          refine List.ext_getElem? fun k => ?_
          rw [List.getElem?_map, List.getElem?_map, List.getElem?_modify]
          cases (pendingOf st4).toList[k]? with
          | none => rfl
          | some v =>
            show some _ = some _
            by_cases w : (pendingOf st4).size - 1 = k
            · simp [w]
            · simp [w]
end
end Srt
namespace L2
open PySem PySem.Spec PyProof.Rows
def kLt : Key → Key → Bool
  | .inl a, .inl b => decide (a < b)
  | .inl _, .inr _ => true
  | .inr _, .inl _ => false
  | .inr x, .inr y => decide (x.cps.toList < y.cps.toList)
theorem kLt_irr : ∀ a, kLt a a = false
  | .inl a => decide_eq_false (Int.lt_irrefl a)
  | .inr x => decide_eq_false (List.lt_irrefl _)
theorem kLt_trans : ∀ {a b c}, kLt a b = true → kLt b c = true → kLt a c = true
  | .inl a, .inl b, .inl c, h1, h2 => decide_eq_true (Int.lt_trans (of_decide_eq_true h1) (of_decide_eq_true h2))
  | .inl _, .inl _, .inr _, _, _ => rfl
  | .inl _, .inr _, .inr _, _, _ => rfl
  | .inr x, .inr y, .inr z, h1, h2 => decide_eq_true (List.lt_trans (of_decide_eq_true h1) (of_decide_eq_true h2))
theorem kLt_total : ∀ {a b}, kLt a b = false → kLt b a = false → a = b
  | .inl a, .inl b, h1, h2 => by
    have h1 := of_decide_eq_false h1
    have h2 := of_decide_eq_false h2
    rw [show a = b by omega]
  | .inr x, .inr y, h1, h2 => by
    have h1 := of_decide_eq_false h1
    have h2 := of_decide_eq_false h2
    rw [str_ext (List.le_antisymm (List.not_lt.mp h2) (List.not_lt.mp h1))]
def lexK : List Key → List Key → Bool
  | [], [] => false
  | [], _ :: _ => true
  | _ :: _, [] => false
  | a :: x, b :: y => if a = b then lexK x y else kLt a b
theorem lexK_irr : ∀ x, lexK x x = false
  | [] => rfl
  | a :: x => by rw [lexK, if_pos rfl]; exact lexK_irr x
theorem lexK_trans : ∀ {x y z}, lexK x y = true → lexK y z = true → lexK x z = true
  | [], [], _, h, _ => by cases h
  | [], _ :: _, [], _, h => by cases h
  | [], _ :: _, _ :: _, _, _ => rfl
  | _ :: _, [], _, h, _ => by cases h
  | _ :: _, _ :: _, [], _, h => by cases h
  | a :: x, b :: y, c :: z, h1, h2 => by
    unfold lexK at h1 h2 ⊢
    by_cases e1 : a = b
    · subst e1
      rw [if_pos rfl] at h1
      by_cases e2 : a = c
      · subst e2
        rw [if_pos rfl] at h2 ⊢
        exact lexK_trans h1 h2
      · rw [if_neg e2] at h2 ⊢
        exact h2
    · rw [if_neg e1] at h1
      by_cases e2 : b = c
      · subst e2
        rw [if_neg e1]
        exact h1
      · rw [if_neg e2] at h2
        have h3 := kLt_trans h1 h2
        have : a ≠ c := fun e => by rw [e, kLt_irr] at h3; cases h3
        rw [if_neg this]
        exact h3
theorem lexK_total : ∀ {x y}, lexK x y = false → lexK y x = false → x = y
  | [], [], _, _ => rfl
  | [], _ :: _, h, _ => by cases h
  | _ :: _, [], _, h => by cases h
  | a :: x, b :: y, h1, h2 => by
    unfold lexK at h1 h2
    by_cases e : a = b
    · subst e
      rw [if_pos rfl] at h1 h2
      rw [lexK_total h1 h2]
    · rw [if_neg e] at h1
      rw [if_neg (fun z => e z.symm)] at h2
      exact absurd (kLt_total h1 h2) e
@[reducible] def lexOrd : KeyOrd where
  α := List Key
  blt := lexK
  irrefl := lexK_irr
  trans _ _ _ := lexK_trans
  negTrans a b c h := by
    cases e : lexK a b with
    | true => exact .inl rfl
    | false =>
      cases e2 : lexK b a with
      | true => exact .inr (lexK_trans e2 h)
      | false => rw [← lexK_total e e2]; exact .inr h
  total _ _ := lexK_total
def keyV : Value → Key
  | .int i _ => .inl i
  | .str x _ => .inr x
  | _ => .inl 0
def kfH (h : Heap) : Value → List Key
  | .int i _ => [.inl i]
  | .str x _ => [.inr x]
  | .ref a => match h.get? a with
    | some o => match o.data with
      | .seq xs _ => xs.toList.map keyV
      | _ => []
    | none => []
  | _ => []
end L2
namespace Srt
open PySem PyProof.Rows
section
variable {prog : Program} {w : World} {A : Around} {E : Value → Shared → Prop} {s : Shared} {O : KeyOrd}
theorem q_listsort {a : Addr} {vs : List Value} {n : Nat} {P : PySem.Fin → Shared → Prop} (ho : s.heap.get? a = some (seqObj "list" vs.toArray n)) (hz : vs.length ≤ sizeLine) (kf : Value → O.α)
    (cmp : ∀ h', (∀ b o, b ≠ a → s.heap.get? b = some o → h'.get? b = some o) → 2 ≤ vs.length → ∃ κ, (∀ (Q : SortKind → Shared → Prop) (E : Value → Shared → Prop), Q κ { s with heap := h' } → wpAny (model prog w) A (keyKind' vs.toArray) Q E { s with heap := h' }) ∧ Cmp prog w A { s with heap := h' } κ O kf (pairsOf vs))
    (h : ∀ out : Array Keyed, out.Perm (pairsOf vs) → Up kf out 0 (pairsOf vs).size → P (.done (.ret .none)) { s with heap := sortedHeap s.heap a vs (out.map (·.2)) }) :
    wpAny (model prog w) A (Builtin.«list.sort» ⟨[.ref a], []⟩) P E s := by
  rw [list_sort_plain]
  have ha : a < s.heap.objs.size := Heap.lt_size ho
  refine wpAny_bind (listItems_at ho rfl (wpAny_bind (listUpdate_at ho rfl ?_)))
  obtain ⟨e1, ho1⟩ : ∃ e1, (s.heap.update a (Obj.mapSeq fun _ => #[])).get? a = some (seqObj "list" #[] e1) := ⟨_, get?_update_seq ho (fun _ => #[])⟩
  refine wpAny_bind (seqEpoch_at ho1 rfl (wpAny_bind (wpAny_newTuple (wpAny_bind (wpAny_newList (wpAny_holding ?_))))))
  generalize hh : ((s.heap.update a (Obj.mapSeq fun _ => #[])).push (seqObj "tuple" vs.toArray 0)).push (seqObj "list" #[] 0) = h2
  have kp : ∀ b o, b ≠ a → s.heap.get? b = some o → h2.get? b = some o := fun b o hb q => by
    rw [← hh]
    exact Heap.get?_push_of_some _ (Heap.get?_push_of_some _ ((Heap.get?_update_ne _ _ _ _ hb).trans q))
  have ho6 : h2.get? a = some (seqObj "list" #[] e1) := by
    rw [← hh]
    exact Heap.get?_push_of_some _ (Heap.get?_push_of_some _ ho1)
  have fin : ∀ out : Array Keyed, out.Perm (pairsOf vs) → Up kf out 0 (pairsOf vs).size → P (.done (.ret .none)) { s with heap := h2.update a (Obj.mapSeq fun _ => out.map (·.2)) } := fun out h1 h3 => by
    have := h out h1 h3
    unfold sortedHeap at this
    rw [hh] at this
    exact this
  show wpAny (model prog w) A _ P E { s with heap := h2 }
  dsimp only
  by_cases h2' : vs.toArray.size < 2
  · rw [if_pos h2', if_pos h2']
    refine wpAny_bind (wpAny_pure ?_)
    rw [StateT.run_pure]
    refine wpAny_bind (wpAny_pure ?_)
    dsimp only
    refine wpAny_bind (seqEpoch_at ho6 rfl (wpAny_bind (listUpdate_at ho6 rfl ?_ (hsz2 := by rw [Array.size_map]; show (pairsOf vs).size ≤ _; rw [pairsOf_size]; omega))))
    simp only [bne_self_eq_false, Bool.false_eq_true, if_false]
    refine wpAny_pure (fin (vs.toArray.zip vs.toArray) (Array.Perm.refl _) fun i j _ q1 q2 => ?_)
    rw [pairsOf_size] at q2
    have hsz : vs.toArray.size = vs.length := by simp
    obtain rfl : i = j := by omega
    exact KeyOrd.kle_refl _
  · rw [if_neg h2', if_neg h2']
    obtain ⟨κ, kk, C⟩ := cmp h2 kp (by simpa using h2')
    refine wpAny_bind (kk _ _ ?_)
    refine wpAny_bind (wpAny_mono (q_sort C (st := SortSt.mk' κ (pairsOf vs) #[] 7 none) (Q := fun _ st' => SB κ (pairsOf vs) st' ∧ Up kf (arrOf st') 0 (pairsOf vs).size) ⟨Array.Perm.refl _, rfl, rfl⟩ rfl fun st' B u => ⟨B, u⟩) ?_ fun _ _ e => e)
    rintro ⟨⟨⟩, st'⟩ s' ⟨rfl, B, u⟩
    dsimp only
    refine wpAny_bind (seqEpoch_at ho6 rfl (wpAny_bind (listUpdate_at ho6 rfl ?_ (hsz2 := by refine Nat.le_trans (Nat.le_of_eq ((Array.size_map ..).trans (B.perm.size_eq.trans (pairsOf_size _)))) ?_; omega))))
    rw [B.failed]
    simp only [bne_self_eq_false, Bool.false_eq_true, if_false]
    exact wpAny_pure (fin _ B.perm u)
end
end Srt
namespace L2
open PySem PySem.Spec PyProof.Rows
def isI : Key → Bool
  | .inl _ => true
  | .inr _ => false
def flatKV : Value → Prop
  | .int _ _ => True
  | .str _ _ => True
  | _ => False
section
variable {prog : Program} {w : World} {A : Around} {E : Value → Shared → Prop} {s : Shared} {b : Bool} {Q : Bool → Shared → Prop}
theorem lt_any (c : Bool) {x y : Value} (hx : flatKV x) (hy : flatKV y) (hs : isI (keyV x) = isI (keyV y)) (h : Q (kLt (keyV x) (keyV y)) s) : wpAny (model prog w) A (oneLt' c x y) Q E s := by
  cases x <;> first | exact hx.elim | skip
  all_goals (cases y <;> first | exact hy.elim | exact Bool.noConfusion (show true = false from hs) | exact Bool.noConfusion (show false = true from hs) | skip)
  · cases c with
    | true => exact oneLt_int h
    | false => exact PySem.W.kat_one _ _ (PyProof.Rows.lt_int h)
  · cases c with
    | true => exact oneLt_str h
    | false => exact PySem.W.kat_one _ _ (PyProof.Rows.lt_str h)
theorem eq_any {x y : Value} (hx : flatKV x) (hy : flatKV y) (hs : isI (keyV x) = isI (keyV y)) (h : Q (decide (keyV x = keyV y)) s) : wpAny (model prog w) A (eqBool x y) Q E s := by
  cases x <;> first | exact hx.elim | skip
  all_goals (cases y <;> first | exact hy.elim | exact Bool.noConfusion (show true = false from hs) | exact Bool.noConfusion (show false = true from hs) | skip)
  · rename_i a t c u
    refine MeetsSeq.EqGives.int a c t u prog w A E s Q ?_
    have e : (a == c) = decide (keyV (.int a t) = keyV (.int c u)) := by
      show (a == c) = decide ((Sum.inl a : Key) = Sum.inl c)
      by_cases z : a = c
      · subst z; simp
      · rw [decide_eq_false (fun q => z (Sum.inl.inj q))]; simpa using z
    rw [e]
    exact h
  · rename_i a t c u
    refine eqGives_str a c t u prog w A E s Q ?_
    have e : (a == c) = decide (keyV (.str a t) = keyV (.str c u)) := by
      show (a == c) = decide ((Sum.inr a : Key) = Sum.inr c)
      by_cases z : a = c
      · subst z; simp
      · rw [decide_eq_false (fun q => z (Sum.inr.inj q))]; simpa using z
    rw [e]
    exact h
theorem lex_flat : ∀ (xs ys : List Value) (i : Nat), (∀ v ∈ xs, flatKV v) → (∀ v ∈ ys, flatKV v) → xs.map (fun v => isI (keyV v)) = ys.map (fun v => isI (keyV v)) → Q (lexK (xs.map keyV) (ys.map keyV)) s → PySem.W.KatLex prog w A b false Q (xs.zip ys) i s
  | [], [], _, _, _, _, h => PySem.W.kat_nil h
  | [], _ :: _, _, _, _, e, _ => by cases e
  | _ :: _, [], _, _, _, e, _ => by cases e
  | x :: xs, y :: ys, i, hx, hy, e, h => by
    obtain ⟨e1, e2⟩ := List.cons.inj e
    have fx := hx x List.mem_cons_self
    have fy := hy y List.mem_cons_self
    have h : Q (if keyV x = keyV y then lexK (xs.map keyV) (ys.map keyV) else kLt (keyV x) (keyV y)) s := h
    refine PySem.W.kat_cons (eq_any fx fy e1 (PySem.W.kat_go (fun q => ?_) fun q => ?_))
    · rw [if_pos (of_decide_eq_true q)] at h
      exact PySem.W.kat_yes (lex_flat xs ys _ (fun v hv => hx v (List.mem_cons_of_mem _ hv)) (fun v hv => hy v (List.mem_cons_of_mem _ hv)) e2 h)
    · rw [if_neg (of_decide_eq_false q)] at h
      exact PySem.W.kat_no (lt_any _ fx fy e1 h)
end
def TupKey (h : Heap) (u : Value) (ks : List Key) : Prop := ∃ a o items m, u = .ref a ∧ h.get? a = some o ∧ o.cls = .type "tuple" ∧ o.data = .seq items m ∧ items.toList.map keyV = ks ∧ ∀ v ∈ items.toList, flatKV v
theorem TupKey.kf {h : Heap} {u : Value} {ks : List Key} (t : TupKey h u ks) : kfH h u = ks := by
  obtain ⟨a, o, items, m, rfl, e, _, d, k, _⟩ := t
  simp only [kfH, e, d]
  exact k
inductive SortsV (h : Heap) : List Value → List (List Key) → Prop
  | cI {vs kss} : vs.length = kss.length → (∀ (i : Nat) u ks, vs[i]? = some u → kss[i]? = some ks → ∃ n t, u = .int n t ∧ ks = [.inl n]) → SortsV h vs kss
  | cS {vs kss} : vs.length = kss.length → (∀ (i : Nat) u ks, vs[i]? = some u → kss[i]? = some ks → ∃ n t, u = .str n t ∧ ks = [.inr n]) → SortsV h vs kss
  | cT {vs kss} (sh : List Bool) : vs.length = kss.length → sh ≠ [] → (∀ (i : Nat) u ks, vs[i]? = some u → kss[i]? = some ks → TupKey h u ks ∧ ks.map isI = sh) → SortsV h vs kss
theorem SortsV.len {h : Heap} {vs : List Value} {kss : List (List Key)} (x : SortsV h vs kss) : vs.length = kss.length := by cases x <;> assumption
theorem SortsV.kf {h : Heap} {vs : List Value} {kss : List (List Key)} (x : SortsV h vs kss) : ∀ (i : Nat) u ks, vs[i]? = some u → kss[i]? = some ks → kfH h u = ks := by
  intro i u ks e1 e2
  cases x with
  | cI _ f => obtain ⟨n, t, rfl, rfl⟩ := f i u ks e1 e2; rfl
  | cS _ f => obtain ⟨n, t, rfl, rfl⟩ := f i u ks e1 e2; rfl
  | cT _ _ _ f => exact (f i u ks e1 e2).1.kf
theorem mem_at {α β : Type} {l : List α} {m : List β} (hl : l.length = m.length) {x : α} (h : x ∈ l) : ∃ (i : Nat) (y : β), l[i]? = some x ∧ m[i]? = some y := by
  obtain ⟨i, hi, e⟩ := List.mem_iff_getElem.mp h
  exact ⟨i, m[i]'(by omega), by rw [List.getElem?_eq_getElem hi, e], List.getElem?_eq_getElem _⟩
theorem SortsV.cmp {prog : Program} {w : World} {A : Around} {s : Shared} {h : Heap} {vs : List Value} {kss : List (List Key)} (x : SortsV h vs kss) (h2 : 2 ≤ vs.length) (kp : ∀ a o items m, .ref a ∈ vs → h.get? a = some o → o.cls = .type "tuple" → o.data = .seq items m → s.heap.get? a = some o) :
    ∃ κ, (∀ (Q : SortKind → Shared → Prop) (E : Value → Shared → Prop), Q κ s → wpAny (model prog w) A (keyKind' vs.toArray) Q E s) ∧ Srt.Cmp prog w A s κ lexOrd (kfH h) (pairsOf vs) := by
  have mp : ∀ p ∈ (pairsOf vs).toList, p.1 ∈ vs := fun p hp => by rw [pairsOf_toList] at hp; exact (mem_zip_self hp).2
  cases x with
  | cI hl f =>
    refine ⟨oneType', fun Q E q => PySem.W.kas_kind (T := .type "int") h2 (fun v hv => ?_) (by decide) (by decide) q, ⟨fun p hp q hq Q E k => ?_⟩⟩
    · obtain ⟨i, ks, e1, e2⟩ := mem_at hl hv
      obtain ⟨n, t, rfl, _⟩ := f i _ _ e1 e2
      exact .now
    · obtain ⟨i, ks, e1, e2⟩ := mem_at hl (mp p hp)
      obtain ⟨j, ls, e3, e4⟩ := mem_at hl (mp q hq)
      obtain ⟨n, t, u1, _⟩ := f i _ _ e1 e2
      obtain ⟨m, t', u2, _⟩ := f j _ _ e3 e4
      rw [u1, u2] at k ⊢
      rw [keyLt'_oneType]
      refine oneLt_int ?_
      have e : decide (n < m) = lexK [.inl n] [.inl m] := by
        show _ = if (Sum.inl n : Key) = Sum.inl m then false else decide (n < m)
        split
        · rename_i z
          have z := Sum.inl.inj z
          rw [z]; exact decide_eq_false (Int.lt_irrefl m)
        · rfl
      rw [e]
      exact k
  | cS hl f =>
    refine ⟨oneType', fun Q E q => PySem.W.kas_kind (T := .type "str") h2 (fun v hv => ?_) (by decide) (by decide) q, ⟨fun p hp q hq Q E k => ?_⟩⟩
    · obtain ⟨i, ks, e1, e2⟩ := mem_at hl hv
      obtain ⟨n, t, rfl, _⟩ := f i _ _ e1 e2
      exact .now
    · obtain ⟨i, ks, e1, e2⟩ := mem_at hl (mp p hp)
      obtain ⟨j, ls, e3, e4⟩ := mem_at hl (mp q hq)
      obtain ⟨n, t, u1, _⟩ := f i _ _ e1 e2
      obtain ⟨m, t', u2, _⟩ := f j _ _ e3 e4
      rw [u1, u2] at k ⊢
      rw [keyLt'_oneType]
      refine oneLt_str ?_
      have e : decide (n.cps.toList < m.cps.toList) = lexK [.inr n] [.inr m] := by
        show _ = if (Sum.inr n : Key) = Sum.inr m then false else decide (n.cps.toList < m.cps.toList)
        split
        · rename_i z
          have z := Sum.inr.inj z
          rw [z]; exact decide_eq_false (List.lt_irrefl _)
        · rfl
      rw [e]
      exact k
  | cT sh hl hn f =>
    have at' : ∀ u ∈ vs, ∃ ks, TupKey s.heap u ks ∧ kfH h u = ks ∧ ks.map isI = sh := fun u hu => by
      obtain ⟨i, ks, e1, e2⟩ := mem_at hl hu
      obtain ⟨t, z⟩ := f i u ks e1 e2
      refine ⟨ks, ?_, t.kf, z⟩
      obtain ⟨a, o, items, m, rfl, e, c, d, r⟩ := t
      exact ⟨a, o, items, m, rfl, kp a o items m hu e c d, c, d, r⟩
    refine ⟨tuples' true, fun Q E q => ?_, ⟨fun p hp q hq Q E k => ?_⟩⟩
    · -- the kind, by the firsts
      have key : ∀ (l : List Value), (∀ u ∈ l, u ∈ vs) → ∃ fs, PySem.W.KatTups s.heap l fs ∧ fs.length = l.length ∧ ∀ v ∈ fs, flatKV v ∧ isI (keyV v) = sh.headD true := fun l => by
        induction l with
        | nil => exact fun _ => ⟨[], trivial, rfl, fun v hv => by cases hv⟩
        | cons u l ih =>
          intro hu
          obtain ⟨fs, k1, k2, k3⟩ := ih fun v hv => hu v (List.mem_cons_of_mem _ hv)
          obtain ⟨ks, ⟨a, o, items, m, rfl, e, c, d, r, fl⟩, _, z⟩ := at' u (hu u List.mem_cons_self)
          obtain ⟨l0⟩ := items
          match l0, r, fl with
          | [], r, _ =>
            have r : [] = ks := r
            rw [← r] at z
            exact absurd z.symm hn
          | f0 :: l1, r, fl =>
            refine ⟨f0 :: fs, PySem.W.KatTups.cons e c d rfl k1, by rw [List.length_cons, List.length_cons, k2], fun v hv => ?_⟩
            rcases List.mem_cons.mp hv with rfl | hv
            · refine ⟨fl _ (by simp), ?_⟩
              have r : keyV v :: l1.map keyV = ks := r
              rw [← z, ← r]
              rfl
            · exact k3 v hv
      obtain ⟨fs, k1, k2, k3⟩ := key vs fun _ h => h
      cases hh : sh.headD true with
      | true =>
        refine PySem.W.kat_kind (T := .type "int") k1 (by omega) (fun v hv => ?_) (by decide) q
        obtain ⟨fl, z⟩ := k3 v hv
        rw [hh] at z
        cases v <;> first | exact fl.elim | exact Bool.noConfusion (show true = false from z) | exact Bool.noConfusion (show false = true from z) | exact .now
      | false =>
        refine PySem.W.kat_kind (T := .type "str") k1 (by omega) (fun v hv => ?_) (by decide) q
        obtain ⟨fl, z⟩ := k3 v hv
        rw [hh] at z
        cases v <;> first | exact fl.elim | exact Bool.noConfusion (show true = false from z) | exact Bool.noConfusion (show false = true from z) | exact .now
    · obtain ⟨ks, ⟨a, o, items, m, u1, e, c, d, r, fl⟩, k1, z1⟩ := at' _ (mp p hp)
      obtain ⟨ls, ⟨a', o', items', m', u2, e', c', d', r', fl'⟩, k2, z2⟩ := at' _ (mp q hq)
      have k : Q (lexK (kfH h p.1) (kfH h q.1)) s := k
      rw [k1, k2, ← r, ← r'] at k
      rw [u1, u2]
      have es : items.toList.map (fun v => isI (keyV v)) = items'.toList.map (fun v => isI (keyV v)) := by
        have h1 : (items.toList.map keyV).map isI = (items'.toList.map keyV).map isI := by rw [r, r', z1, z2]
        rw [List.map_map, List.map_map] at h1
        exact h1
      have el : items.size = items'.size := by
        have := congrArg List.length es
        simpa using this
      refine PySem.W.kat_lt e d e' d' ?_
      rw [decide_eq_false (by omega)]
      exact lex_flat _ _ 0 fl fl' es k
inductive SortsAs (K : PySem.W.Frag) (H : Hp) : List V → List (List Key) → Prop
  | cI (ns : List Int) : SortsAs K H (ns.map V.int) (ns.map fun n => [.inl n])
  | cS (zs : List Str) : SortsAs K H (zs.map V.str) (zs.map fun z => [.inr z])
  | cT {xs : List V} {kss : List (List Key)} (sh : List Bool) : sh ≠ [] → Paired (fun x ks => (∃ a, x = .ref a ∧ SqT K H a (ks.map kV)) ∧ ks.map isI = sh) xs kss → SortsAs K H xs kss
theorem paired_perm {α β : Type} {F : α → β → Prop} {bs bs' : List β} (p : bs'.Perm bs) : ∀ {as : List α}, Paired F as bs → ∃ as', as'.Perm as ∧ Paired F as' bs' := by
  induction p with
  | nil => intro as h; cases h; exact ⟨[], .nil, .nil⟩
  | cons x _ ih =>
    intro as h
    cases h with
    | cons h1 h2 =>
      obtain ⟨as', q1, q2⟩ := ih h2
      exact ⟨_ :: as', q1.cons _, .cons h1 q2⟩
  | swap x y l =>
    intro as h
    cases h with
    | cons h1 h2 =>
      cases h2 with
      | cons h3 h4 => exact ⟨_, List.Perm.swap _ _ _, .cons h3 (.cons h1 h4)⟩
  | trans _ _ ih1 ih2 =>
    intro as h
    obtain ⟨a1, q1, q2⟩ := ih2 h
    obtain ⟨a2, q3, q4⟩ := ih1 q2
    exact ⟨a2, q3.trans q1, q4⟩
theorem paired_at {α β : Type} {F : α → β → Prop} : ∀ {l : List α} {m : List β}, Paired F l m → l.length = m.length ∧ ∀ (i : Nat) a b, l[i]? = some a → m[i]? = some b → F a b
  | _, _, .nil => ⟨rfl, fun i a b h => by simp at h⟩
  | _, _, .cons h r => by
    obtain ⟨h1, h2⟩ := paired_at r
    refine ⟨by rw [List.length_cons, List.length_cons, h1], fun i a b e1 e2 => ?_⟩
    cases i with
    | zero => simp at e1 e2; subst e1 e2; exact h
    | succ i => exact h2 i a b (by simpa using e1) (by simpa using e2)
theorem keyV_rel : ∀ {ks : List Key} {us : List Value}, Vals (ks.map kV) us → us.map keyV = ks ∧ ∀ v ∈ us, flatKV v
  | [], _, h => by cases h; exact ⟨rfl, fun v hv => by cases hv⟩
  | k :: ks, _, h => by
    cases h with
    | cons h1 h2 =>
      obtain ⟨e, f⟩ := keyV_rel h2
      cases k with
      | inl i =>
        obtain ⟨t, rfl⟩ := h1
        exact ⟨by rw [List.map_cons, e]; rfl, fun v hv => by rcases List.mem_cons.mp hv with rfl | hv; exact True.intro; exact f v hv⟩
      | inr x =>
        obtain ⟨t, rfl⟩ := h1
        exact ⟨by rw [List.map_cons, e]; rfl, fun v hv => by rcases List.mem_cons.mp hv with rfl | hv; exact True.intro; exact f v hv⟩
section
variable {X : Cx} {pins : List (Addr × Obj)} {σ : St} {H : Hp} {s : Shared}
theorem SortsAs.vals (I : Inv X pins σ H s) {xs : List V} {kss : List (List Key)} {its : List Value} (h : SortsAs X.K H xs kss) (r : Vals xs its) : SortsV s.heap its kss := by
  have hl := r.length
  cases h with
  | cI ns =>
    rw [List.length_map] at hl
    refine .cI (by rw [List.length_map, hl]) fun i u ks e1 e2 => ?_
    rw [List.getElem?_map] at e2
    obtain ⟨n, e3, rfl⟩ := Option.map_eq_some_iff.mp e2
    obtain ⟨u', e4, t, e5⟩ := r.get (i := i) (x := .int n) (by rw [List.getElem?_map, e3]; rfl)
    rw [e1] at e4
    cases e4
    exact ⟨n, t, e5, rfl⟩
  | cS zs =>
    rw [List.length_map] at hl
    refine .cS (by rw [List.length_map, hl]) fun i u ks e1 e2 => ?_
    rw [List.getElem?_map] at e2
    obtain ⟨n, e3, rfl⟩ := Option.map_eq_some_iff.mp e2
    obtain ⟨u', e4, t, e5⟩ := r.get (i := i) (x := .str n) (by rw [List.getElem?_map, e3]; rfl)
    rw [e1] at e4
    cases e4
    exact ⟨n, t, e5, rfl⟩
  | cT sh hn p =>
    obtain ⟨h1, h2⟩ := paired_at p
    refine .cT sh (by omega) hn fun i u ks e1 e2 => ?_
    have hi := (List.getElem?_eq_some_iff.mp e2).1
    have e3 : xs[i]? = some xs[i] := List.getElem?_eq_getElem (by omega)
    obtain ⟨⟨a, ea, hq⟩, z⟩ := h2 i _ _ e3 e2
    obtain ⟨u', e4, e5⟩ := r.get e3
    rw [e1] at e4
    cases e4
    rw [ea] at e5
    obtain rfl : u = Value.ref a := e5
    obtain ⟨its2, rv, ⟨o, ho, hc, n, hd⟩, _⟩ := I.tuple hq
    obtain ⟨k1, k2⟩ := keyV_rel rv
    exact ⟨⟨a, o, its2.toArray, n, rfl, ho, hc, hd, by simpa using k1, by simpa using k2⟩, z⟩
end
theorem out_of {X : Cx} {its : List Value} {ys : List V} {kss : List (List Key)} {h : Heap} (r : Vals ys its) (sv : SortsV h its kss) {out : Array Keyed} (p : out.Perm (pairsOf its)) (u : Srt.Up (O := lexOrd) (kfH h) out 0 (pairsOf its).size) :
    ∃ qs : List (V × List Key), qs.Perm (ys.zip kss) ∧ Vals (qs.map (·.1)) (out.map (·.2)).toList ∧ (qs.map (·.2)).Pairwise (fun a b => lexK b a = false) := by
  have pl : out.toList.Perm (its.zip its) := by rw [← pairsOf_toList]; exact Array.perm_iff_toList_perm.mp p
  have me : ∀ q ∈ out.toList, q.1 = q.2 ∧ q.1 ∈ its := fun q hq => mem_zip_self (pl.mem_iff.mp hq)
  have e0 : (out.map (·.2)).toList = out.toList.map (·.2) := Array.toList_map ..
  have pu : (out.toList.map (·.2)).Perm its := by
    have := pl.map (·.2)
    rwa [List.map_snd_zip (Nat.le_refl _)] at this
  have hl := r.length
  have hk := sv.len
  have pf : Paired (fun (q : V × List Key) v => RelV q.1 v ∧ kfH h v = q.2) (ys.zip kss) its := by
    refine paired_of_get (by rw [List.length_zip]; omega) fun i a b e1 e2 => ?_
    obtain ⟨e3, e4⟩ := List.getElem?_zip_eq_some.mp e1
    obtain ⟨v, e5, e6⟩ := r.get e3
    rw [e2] at e5
    cases e5
    exact ⟨e6, sv.kf i b a.2 e2 e4⟩
  obtain ⟨qs, q1, q2⟩ := paired_perm pu pf
  obtain ⟨l2, g2⟩ := paired_at q2
  refine ⟨qs, q1, ?_, ?_⟩
  · rw [e0]
    refine paired_of_get (by rw [List.length_map, l2]) fun i a b e1 e2 => ?_
    rw [List.getElem?_map] at e1
    obtain ⟨q, e3, rfl⟩ := Option.map_eq_some_iff.mp e1
    exact (g2 i q b e3 e2).1
  · rw [List.pairwise_iff_getElem]
    intro i j hi hj hij
    rw [List.length_map] at hi hj
    rw [List.length_map] at l2
    have hs : (pairsOf its).size = out.size := p.size_eq.symm
    have ko : ∀ k (hk : k < qs.length), (qs[k]).2 = Srt.KX (O := lexOrd) (kfH h) out k := fun k hk => by
      have hk2 : k < out.size := by have : out.toList.length = out.size := by simp
                                    omega
      rw [Srt.kx_at hk2]
      have e1 : qs[k]? = some qs[k] := List.getElem?_eq_getElem hk
      have e2 : (out.toList.map (·.2))[k]? = some out[k].2 := by rw [List.getElem?_map, Array.getElem?_toList, getElem?_pos out k hk2]; rfl
      have := (g2 k _ _ e1 e2).2
      rw [(me out[k] (by simp)).1, this]
    have := u i j (Nat.zero_le _) (Nat.le_of_lt hij) (by have : out.toList.length = out.size := by simp
                                                         omega)
    rw [← ko i hi, ← ko j hj] at this
    rw [List.getElem_map, List.getElem_map]
    exact this
section
variable {X : Cx} {K : PySem.W.Frag}
theorem call_sortedL (hK : X.K = K := by rfl) : CallR X (.builtin "sorted") (fun xs H Q => ∃ (p : Addr) (ys : List V) (kss : List (List Key)), xs = [.ref p] ∧ SqL K H p ys ∧ SortsAs K H ys kss ∧
    ∀ l (qs : List (V × List Key)), H l = none → qs.Perm (ys.zip kss) → (qs.map (·.2)).Pairwise (fun a b => lexK b a = false) → Q (.ref l) (upd H l (.lst (qs.map (·.1))))) := by
  subst hK
  intro pins s σ H xs us Q I r h
  obtain ⟨p, ys, kss, rfl, hq, so, q⟩ := h
  obtain ⟨u, rfl, ru⟩ := vals1 r
  cases ru
  obtain ⟨its, rv, pl, hz⟩ := I.list hq
  have sv := so.vals I rv
  have hl := pl.isList
  have hlen := rv.length
  refine Calls.call_function_entry kind_sorted plain_sorted entry_sorted (args_sorted1 _) ?_
  unfold Builtin.«sorted»
  refine wpAny_bind (m := checkCount "sorted" 1 1 _) (wpAny_pure ?_)
  refine wpAny_bind (collect_list hl ?_ (by omega))
  refine wpAny_bind (wpAny_newList ?_ (by omega))
  have hsz : ((s.heap.push (seqObj "list" #[] 0)).update s.heap.objs.size (Obj.mapSeq (· ++ its.toArray))).objs.size = s.heap.objs.size + 1 := by
    rw [Heap.size_update, size_push']
  have hoL : (((s.heap.push (seqObj "list" #[] 0)).update s.heap.objs.size (Obj.mapSeq (· ++ its.toArray))).push (seqObj "list" its.toArray 0)).get? (s.heap.objs.size + 1) = some (seqObj "list" its.toArray 0) := by
    rw [← hsz]; exact Heap.get?_push_size _ rfl
  have kp : ∀ b o, s.heap.get? b = some o → (((s.heap.push (seqObj "list" #[] 0)).update s.heap.objs.size (Obj.mapSeq (· ++ its.toArray))).push (seqObj "list" its.toArray 0)).get? b = some o := fun b o e =>
    Heap.get?_push_of_some _ ((Heap.get?_update_ne _ _ _ _ (Nat.ne_of_lt (Heap.lt_size e))).trans (Heap.get?_push_of_some _ e))
  show wpAny _ _ _ _ _ { s with heap := ((s.heap.push (seqObj "list" #[] 0)).update s.heap.objs.size (Obj.mapSeq (· ++ its.toArray))).push (seqObj "list" its.toArray 0) }
  rw [hsz]
  refine wpAny_bind (wpAny_holding (wpAny_call_entry slot_list_sort ⟨_, hoL, rfl⟩ entry_list_sort (Srt.q_listsort (O := lexOrd) hoL (by omega) (kfH s.heap) (fun h' k' h2 => ?_) fun out p u => ⟨_, rfl, wpAny_pure ⟨_, rfl, ?_⟩⟩) (args_list_sort _)))
  · refine sv.cmp h2 fun a o items m _ e _ _ => ?_
    exact k' a o (Nat.ne_of_lt (Nat.lt_succ_of_lt (Heap.lt_size e))) (kp a o e)
  · obtain ⟨qs, q1, q2, q3⟩ := out_of (X := X) rv sv p u
    obtain ⟨e, ho⟩ := sortedAll_at s.heap its (out.map (·.2))
    have lz : (qs.map (·.1)).length ≤ sizeLine := by
      rw [List.length_map, q1.length_eq, List.length_zip]
      omega
    refine ⟨.ref (s.heap.objs.size + 1), _, I.laid (a := s.heap.objs.size + 1) (o := .lst (qs.map (·.1))) (t' := s.toks) (fun b o e => sortedAll_old e) (Nat.le_succ _) ⟨lz, _, e, q2, by rw [Array.toArray_toList]; exact ho⟩, rfl, q _ qs (I.hok.fresh (Nat.le_succ _)) q1 q3⟩
theorem collect_dict {prog : Program} {w : World} {A : Around} {E : Value → Shared → Prop} {s : Shared} {T : String} {r d : Addr} {n : Nat} {P : Nat → Value → Prop} {OK : Heap → Prop} {Q : List Value → Shared → Prop} (K : PySem.W.KdlSrc prog w T r d n P OK) (hh : A.handled = none) (hok : OK s.heap) (hn : n ≤ sizeLine)
    (hQ : ∀ h' tk (acc : Array Value), (∀ b o, s.heap.get? b = some o → h'.get? b = some o) → s.heap.objs.size < h'.objs.size → ItemsOf P acc n → Q acc.toList { s with heap := h', toks := tk }) : wpAny (model prog w) A (collect (.ref r)) Q E s := by
  unfold collect
  refine wpAny_bind (wpAny_runValue (codeAny_builtin F.entry_proto_collect ?_))
  rw [Around.under_plainId F.plain_proto_collect _]
  show wpAny _ A.in1 (newList [] >>= fun l => again (.builtin "list.__iadd__" ⟨[l, .ref r], []⟩)) _ _ s
  refine wpAny_bind (wpAny_newObj_type ?_)
  refine wpAny_pure ⟨plainId_quiet F.plain_list_iadd _, codeAny_builtin F.entry_list_iadd ?_⟩
  rw [Around.under_plainId F.plain_list_iadd _]
  have hS₁ : (s.heap.push { cls := .type "list", data := .seq ([] : List Value).toArray }).get? s.heap.objs.size = some { cls := .type "list", data := .seq ([] : List Value).toArray } := Heap.get?_push_size _ rfl
  have ht := K.there _ hok
  have kp : ∀ b o, s.heap.get? b = some o → (s.heap.push { cls := .type "list", data := .seq ([] : List Value).toArray }).get? b = some o := fun b o e => Heap.get?_push_of_some _ e
  show wpAny _ A.in1 (Builtin.List.listExtendWith (.ref s.heap.objs.size) (.ref r) (.ref s.heap.objs.size)) _ _ _
  have key : ∀ s', (∃ h' tk acc c', s' = { s with heap := h', toks := tk } ∧ (∀ b o, b ≠ s.heap.objs.size → (s.heap.push { cls := .type "list", data := .seq ([] : List Value).toArray }).get? b = some o → h'.get? b = some o) ∧ h'.get? s.heap.objs.size = some { cls := .type "list", dict := none, data := .seq acc c', slots := #[] } ∧ ItemsOf P acc n) →
      wpAny (model prog w) A (load s.heap.objs.size >>= fun o => match o.data with
        | .seq xs _ => pure xs.toList
        | _ => unsupported "internal:collect") Q E s' := fun s' ⟨h', tk, acc, c', e, k1, k2, k3⟩ => by
    subst e
    refine wpAny_bind (wpAny_load k2 ?_)
    exact wpAny_pure (hQ h' tk acc (fun b o e => k1 b o (Nat.ne_of_lt (Heap.lt_size e)) (kp b o e)) (Heap.lt_size k2) k3)
  refine wpAny_mono (PySem.W.kdl_extend (A := A) (s := { s with heap := s.heap.push { cls := .type "list", data := .seq ([] : List Value).toArray } })
    (R := fun r s' => r = .ok (.ret (.ref s.heap.objs.size)) ∧ ∃ h' tk acc c', s' = { s with heap := h', toks := tk } ∧ (∀ b o, b ≠ s.heap.objs.size → (s.heap.push { cls := .type "list", data := .seq ([] : List Value).toArray }).get? b = some o → h'.get? b = some o) ∧ h'.get? s.heap.objs.size = some { cls := .type "list", dict := none, data := .seq acc c', slots := #[] } ∧ ItemsOf P acc n)
    K hh (K.keep _ _ hok fun b _ o e => kp b o e) s.heap.objs.size (Nat.ne_of_gt ht.1) (Nat.ne_of_gt ht.2) _ 0 hS₁ (fun h' tk acc c' k1 k2 k3 => ⟨rfl, h', tk, acc, c', rfl, k1, k2, k3⟩) hn) (fun fin s' hf => ?_) fun e s' hf => by cases hf.1
  cases fin with
  | done f =>
    obtain ⟨e, r⟩ := hf
    cases e
    exact key s' r
  | again c =>
    refine ⟨hf.1, codeAny_mono hf.2 fun r s2 ⟨e, q⟩ => ?_⟩
    subst e
    exact key s2 q
theorem call_sortedD (hc : X.calm = true) : CallR X (.builtin "sorted") (fun xs H Q => ∃ (d : Addr) (kvs : List (Key × V)), xs = [.ref d] ∧ H d = some (.dK kvs) ∧ ((∀ p ∈ kvs, ∃ i, p.1 = .inl i) ∨ ∀ p ∈ kvs, ∃ i, p.1 = .inr i) ∧
    ∀ l (ks : List Key), H l = none → ks.Perm (kvs.map (·.1)) → ks.Pairwise (fun a b => kLt b a = false) → Q (.ref l) (upd H l (.lst (ks.map kV)))) := by
  intro pins s σ H xs us Q I r h
  obtain ⟨d, kvs, rfl, e, hty, q⟩ := h
  obtain ⟨u, rfl, ru⟩ := vals1 r
  cases ru
  obtain ⟨z, lo, vs, rel, dd⟩ := dk_of I.hok e
  obtain ⟨ep, hat⟩ := dd.dictAt
  have hlen : kvs.length = vs.length := Paired.length rel
  refine Calls.call_function_entry kind_sorted plain_sorted entry_sorted (args_sorted1 _) ?_
  unfold Builtin.«sorted»
  refine wpAny_bind (m := checkCount "sorted" 1 1 _) (wpAny_pure ?_)
  refine wpAny_bind (collect_dict (PySem.W.kdl_dict (knd := mixKind X.prog X.w) (kvs := vs) (ep := ep) lo) (I.ok.hd hc) hat (by omega) fun h1 tk acc k1 gr it => ?_)
  have rv : Vals (kvs.map fun p => kV p.1) acc.toList := keys_vals rel (by rw [Array.length_toList]; exact it.1) fun j v hv => it.2 j v (by rw [← Array.getElem?_toList]; exact hv)
  have ra := rv.length
  rw [List.length_map] at ra
  have sv : SortsV h1 acc.toList (kvs.map fun p => [p.1]) := by
    rcases hty with hty | hty
    · refine .cI (by rw [List.length_map]; omega) fun i u ks e1 e2 => ?_
      rw [List.getElem?_map] at e2
      obtain ⟨p, e3, rfl⟩ := Option.map_eq_some_iff.mp e2
      obtain ⟨n, en⟩ := hty p (List.mem_of_getElem? e3)
      obtain ⟨u', e4, e5⟩ := rv.get (i := i) (x := kV p.1) (by rw [List.getElem?_map, e3]; rfl)
      rw [e1] at e4
      cases e4
      rw [en] at e5 ⊢
      obtain ⟨t, rfl⟩ := e5
      exact ⟨n, t, rfl, rfl⟩
    · refine .cS (by rw [List.length_map]; omega) fun i u ks e1 e2 => ?_
      rw [List.getElem?_map] at e2
      obtain ⟨p, e3, rfl⟩ := Option.map_eq_some_iff.mp e2
      obtain ⟨n, en⟩ := hty p (List.mem_of_getElem? e3)
      obtain ⟨u', e4, e5⟩ := rv.get (i := i) (x := kV p.1) (by rw [List.getElem?_map, e3]; rfl)
      rw [e1] at e4
      cases e4
      rw [en] at e5 ⊢
      obtain ⟨t, rfl⟩ := e5
      exact ⟨n, t, rfl, rfl⟩
  generalize hits : acc.toList = its at rv ra sv
  refine wpAny_bind (wpAny_newList ?_ (by omega))
  have hoL : (h1.push (seqObj "list" its.toArray 0)).get? h1.objs.size = some (seqObj "list" its.toArray 0) := Heap.get?_push_size _ rfl
  have grow : s.heap.objs.size ≤ h1.objs.size := Nat.le_of_lt gr
  refine wpAny_bind (wpAny_holding (wpAny_call_entry (s := { s with heap := h1.push (seqObj "list" its.toArray 0), toks := tk }) slot_list_sort ⟨_, hoL, rfl⟩ entry_list_sort (Srt.q_listsort (O := lexOrd) hoL (by omega) (kfH h1) (fun h' k' h2 => ?_) fun out p u => ⟨_, rfl, wpAny_pure ⟨_, rfl, ?_⟩⟩) (args_list_sort _)))
  · refine sv.cmp h2 fun a o items m _ e _ _ => ?_
    exact k' a o (Nat.ne_of_lt (Heap.lt_size e)) (Heap.get?_push_of_some _ e)
  · obtain ⟨qs, q1, q2, q3⟩ := out_of (X := X) rv sv p u
    obtain ⟨e', ho⟩ := sortedHeap_at (h := h1.push (seqObj "list" its.toArray 0)) (a := h1.objs.size) (vs := its) (out := out.map (·.2)) hoL
    have ep : qs.map (·.1) = (qs.map fun x => x.2.headD (.inl 0)).map kV := by
      rw [List.map_map]
      refine List.map_congr_left fun x hx => ?_
      have hm := q1.mem_iff.mp hx
      obtain ⟨i, hi⟩ := List.mem_iff_getElem?.mp hm
      obtain ⟨e3, e4⟩ := List.getElem?_zip_eq_some.mp hi
      rw [List.getElem?_map] at e3 e4
      obtain ⟨p3, e5, e6⟩ := Option.map_eq_some_iff.mp e3
      rw [e5] at e4
      have e4 : some [p3.1] = some x.2 := e4
      show x.1 = kV (x.2.headD (.inl 0))
      rw [← e6, ← Option.some.inj e4]
      rfl
    have pm : (qs.map fun x => x.2.headD (.inl 0)).Perm (kvs.map (·.1)) := by
      refine (q1.map _).trans (List.Perm.of_eq ?_)
      rw [show (fun x : V × List Key => x.2.headD (.inl 0)) = (fun l : List Key => l.headD (.inl 0)) ∘ Prod.snd from rfl, ← List.map_map, List.map_snd_zip (by simp), List.map_map]
      rfl
    have pw : (qs.map fun x => x.2.headD (.inl 0)).Pairwise (fun a b => kLt b a = false) := by
      rw [List.pairwise_map]
      rw [List.pairwise_map] at q3
      refine q3.imp_of_mem fun {a b} ha hb hab => ?_
      have one : ∀ x ∈ qs, ∃ k, x.2 = [k] := fun x hx => by
        have hm := q1.mem_iff.mp hx
        obtain ⟨i, hi⟩ := List.mem_iff_getElem?.mp hm
        obtain ⟨_, e4⟩ := List.getElem?_zip_eq_some.mp hi
        rw [List.getElem?_map] at e4
        obtain ⟨p3, _, e6⟩ := Option.map_eq_some_iff.mp e4
        exact ⟨_, e6.symm⟩
      obtain ⟨x, ex⟩ := one a ha
      obtain ⟨y, ey⟩ := one b hb
      rw [ex, ey] at hab ⊢
      show kLt y x = false
      have hab : (if y = x then false else kLt y x) = false := hab
      by_cases z : y = x
      · rw [z]; exact kLt_irr x
      · rw [if_neg z] at hab; exact hab
    have lz : (qs.map (·.1)).length ≤ sizeLine := by
      rw [List.length_map, q1.length_eq, List.length_zip, List.length_map]
      omega
    have old : ∀ b o, s.heap.get? b = some o → (sortedHeap (h1.push (seqObj "list" its.toArray 0)) h1.objs.size its (out.map (·.2))).get? b = some o := fun b o e => by
      have e1 := k1 b o e
      have hlt := Heap.lt_size e1
      rw [sortedHeap_old (Nat.ne_of_lt hlt) (by rw [size_push']; exact Nat.lt_succ_of_lt hlt)]
      exact Heap.get?_push_of_some _ e1
    refine ⟨.ref h1.objs.size, _, I.laid (a := h1.objs.size) (o := .lst (qs.map (·.1))) (t' := tk) old grow ⟨lz, _, e', q2, by rw [Array.toArray_toList]; exact ho⟩, rfl, ?_⟩
    rw [ep]
    exact q _ _ (I.hok.fresh grow) pm pw
end
end L2
namespace L2
open PySem PySem.Spec PyProof.Rows
section
open PySem.SeqAt
open PySem.AutoSeq1 (wpAny_loadPart')
open PySem.MeetsSeq PySem.MeetsSeq2 PySem.MeetsSeq3
theorem eqAt_any (A : Around) (s : Shared) {x y : Value} (hx : flatKV x) (hy : flatKV y) (hs : isI (keyV x) = isI (keyV y)) : SeqAt.EqAt A s x y (decide (keyV x = keyV y)) := by
  intro prog w E Q h
  exact eq_any hx hy hs h
theorem rcLt_any (A : Around) (s : Shared) {x y : Value} (hx : flatKV x) (hy : flatKV y) (hs : isI (keyV x) = isI (keyV y)) (prog : Program) (w : World) (E : Value → Shared → Prop) (Q : Value → Shared → Prop) (h : Q (.bool (kLt (keyV x) (keyV y))) s) :
    wpAny (model prog w) A (richCompare .Lt x y) Q E s := by
  cases x <;> first | exact hx.elim | skip
  all_goals (cases y <;> first | exact hy.elim | exact Bool.noConfusion (show true = false from hs) | exact Bool.noConfusion (show false = true from hs) | skip)
  · exact (PyProof.Rows.lt_int h : wpAny (model prog w) A (compareOp .Lt _ _) Q E s)
  · exact (PyProof.Rows.lt_str h : wpAny (model prog w) A (compareOp .Lt _ _) Q E s)
structure LexTo (vs ws : List Value) (n m : Nat) (r : Bool) : Prop where
  ex : ∃ (us zs : List Value), vs = us ++ zs ∧ (zs = [] ∨ ws.length ≤ us.length) ∧ (∀ v ∈ us, flatKV v) ∧ (∀ v ∈ ws, flatKV v) ∧ (∀ (i : Nat) x y, us[i]? = some x → ws[i]? = some y → isI (keyV x) = isI (keyV y)) ∧ lexK (us.map keyV) (ws.map keyV) = r
  len : vs.length + m = ws.length + n
theorem tuple_ltG (l b : Addr) (items items2 : Array Value) (n n2 : Nat) (dd dd2 : Option Addr) (sl sl2 : Array (Option Value)) (r : Bool) (hx : LexTo items.toList items2.toList items.size items2.size r) :
    Meets (Builtin.«tuple.__lt__» ⟨[.ref l, .ref b], []⟩)
      (fun _ R s => s.heap.get? l = some { cls := .type "tuple", dict := dd, data := .seq items n, slots := sl } ∧ s.heap.get? b = some { cls := .type "tuple", dict := dd2, data := .seq items2 n2, slots := sl2 } ∧
        R (.ok (.ret (.bool r))) s) :=
  .of_wp fun prog w A R s h => by
    obtain ⟨hp, g, d, tk, os⟩ := s; obtain ⟨hl, hb, h⟩ := h
    have f2 := AutoSeq1.sub_tuple_tuple
    wp_walk using wpAny_loadPart' hl, wpAny_loadPart' hb, wpAny_forIn_list _ (fun rest b s' => b.1 = none ∧ s' = ⟨hp, g, d, tk, os⟩ ∧ ∃ (vs ws : List Value) (q : Bool), rest = vs.zip ws ∧
      LexTo vs ws items.size items2.size q ∧ R (.ok (.ret (.bool q))) ⟨hp, g, d, tk, os⟩) _
    case turn =>
      rintro ⟨y, x⟩ rest b s' ⟨hb', rfl, vs, ws, q, hz, hx', hR⟩
      obtain ⟨⟨us, zs, rfl, h1, h2, h3, h4, h5⟩, hlen⟩ := hx'
      cases ws with
      | nil => rw [List.zip_nil_right] at hz; cases hz
      | cons c ws =>
        cases us with
        | nil =>
          rcases h1 with h1 | h1
          · subst h1; cases hz
          · exact absurd h1 (by simp)
        | cons a us =>
          rw [List.cons_append, List.zip_cons_cons] at hz
          injection hz with hyx hrest
          injection hyx with hy hx
          subst hy hx
          have fa := h2 y List.mem_cons_self
          have fc := h3 x List.mem_cons_self
          have ks := h4 0 y x rfl rfl
          have h5 : (if keyV y = keyV x then lexK (us.map keyV) (ws.map keyV) else kLt (keyV y) (keyV x)) = q := h5
          refine wpAny_bind (eqAt_any A.in1 ⟨hp, g, d, tk, os⟩ fa fc ks prog w _ _ ?_)
          cases e : decide (keyV y = keyV x) with
          | true =>
            rw [if_pos (of_decide_eq_true e)] at h5
            wp_walk
            refine ⟨rfl, rfl, us ++ zs, ws, q, hrest, ⟨⟨us, zs, rfl, ?_, fun v hv => h2 v (List.mem_cons_of_mem _ hv), fun v hv => h3 v (List.mem_cons_of_mem _ hv), fun i x y e1 e2 => h4 (i + 1) x y (by simpa using e1) (by simpa using e2), h5⟩, ?_⟩, hR⟩
            · rcases h1 with h1 | h1
              · exact .inl h1
              · refine .inr ?_
                simp only [List.length_cons] at h1
                omega
            · simp only [List.length_cons, List.cons_append] at hlen
              omega
          | false =>
            rw [if_neg (of_decide_eq_false e)] at h5
            have hri := rcLt_any A.in1 ⟨hp, g, d, tk, os⟩ fa fc ks prog w
            wp_walk using hri
            exact ⟨_, rfl, by rw [h5]; exact hR⟩
    case fin =>
      rintro ⟨b1, b2⟩ s' ⟨hb', rfl, vs, ws, q, hz, ⟨⟨us, zs, rfl, h1, h2, h3, h4, h5⟩, hlen⟩, hR⟩
      simp only at hb'
      subst hb'
      have hv : q = decide (items.size < items2.size) := by
        rw [← h5]
        cases us with
        | nil =>
          rcases h1 with h1 | h1
          · subst h1
            cases ws with
            | nil =>
              simp only [List.length_nil, List.append_nil] at hlen
              exact (decide_eq_false (by omega)).symm
            | cons c ws =>
              simp only [List.length_nil, List.append_nil, List.length_cons] at hlen
              exact (decide_eq_true (by omega)).symm
          · have : ws = [] := List.eq_nil_of_length_eq_zero (by simpa using h1)
            subst this
            simp only [List.length_nil, List.nil_append] at hlen
            exact (decide_eq_false (by omega)).symm
        | cons a us =>
          cases ws with
          | nil =>
            simp only [List.length_nil, List.length_cons, List.cons_append] at hlen
            exact (decide_eq_false (by omega)).symm
          | cons c ws =>
            rw [List.cons_append, List.zip_cons_cons] at hz
            cases hz
      rw [hv] at hR
      wp_walk
      exact ⟨_, rfl, by simpa [Builtin.Tuple.tupleCompareSizes] using hR⟩
    case h =>
      exact ⟨rfl, rfl, items.toList, items2.toList, r, rfl, hx, h⟩
end
section
variable {X : Cx} {K : PySem.W.Frag}
def rLtG (K : PySem.W.Frag) : R2 := fun x y H Q => ∃ a b ks zs ms, x = .ref a ∧ y = .ref b ∧ SqT K H a (ks.map kV ++ zs) ∧ SqT K H b (ms.map kV) ∧ (zs = [] ∨ ms.length ≤ ks.length) ∧ (∀ (i : Nat) k m, ks[i]? = some k → ms[i]? = some m → isI k = isI m) ∧ Q (.bl (lexK ks ms)) H
theorem vals_app : ∀ {xs ys : List V} {us : List Value}, Vals (xs ++ ys) us → ∃ vs ws, us = vs ++ ws ∧ Vals xs vs ∧ Vals ys ws
  | [], ys, us, h => ⟨[], us, rfl, .nil, h⟩
  | x :: xs, ys, _, h => by
    cases h with
    | cons h1 h2 =>
      obtain ⟨vs, ws, e, p1, p2⟩ := vals_app h2
      exact ⟨_ :: vs, ws, by rw [e]; rfl, .cons h1 p1, p2⟩
theorem op_ltG (hu : X.A.units < cLine) (hK : X.K = K := by rfl) : OpR X (compareOp .Lt) (rLtG K) := by
  subst hK
  intro pins s σ H x y v u Q I rx ry h
  obtain ⟨a, b, ks, zs, ms, rfl, rfl, ha, hb, hz, hs, q⟩ := h
  cases rx
  cases ry
  obtain ⟨its, r1, p1, _⟩ := I.tuple ha
  obtain ⟨its2, r2, p2, _⟩ := I.tuple hb
  obtain ⟨us, ws, rfl, q1, q2⟩ := vals_app r1
  obtain ⟨k1, f1⟩ := keyV_rel q1
  obtain ⟨k2, f2⟩ := keyV_rel r2
  have l1 := q1.length
  have l2 := r2.length
  have l3 := q2.length
  rw [List.length_map] at l1 l2
  obtain ⟨⟨cls, dd, data, sl⟩, ho, hc, n, hd⟩ := id p1
  obtain ⟨⟨cls2, dd2, data2, sl2⟩, ho2, hc2, n2, hd2⟩ := id p2
  simp only at hc hd hc2 hd2
  subst hc hd hc2 hd2
  have lx : LexTo (us ++ ws).toArray.toList its2.toArray.toList (us ++ ws).toArray.size its2.toArray.size (lexK ks ms) := by
    refine ⟨⟨us, ws, by simp, ?_, f1, by simpa using f2, fun i x y e1 e2 => ?_, by simp [k1, k2]⟩, by simp; omega⟩
    · rcases hz with rfl | hz
      · exact .inl (List.eq_nil_of_length_eq_zero (by simpa using l3.symm))
      · exact .inr (by simp; omega)
    · refine hs i _ _ (by rw [← k1, List.getElem?_map, e1]; rfl) (by rw [← k2, List.getElem?_map]; have e2 : its2[i]? = some y := by simpa using e2
                                                                     rw [e2]; rfl)
  exact richCompare_meets_room (op := .Lt) ⟨_, ho, rfl⟩ ⟨_, ho2, rfl⟩ PySem.F.slot_tuple_lt PySem.F.entry_tuple_lt (PySem.F.args_tuple_lt_2 _ _) (tuple_ltG a b _ _ n n2 dd dd2 sl sl2 _ lx)
    ⟨ho, ho2, show Value.bool (lexK ks ms) ≠ Value.notImplemented ∧ EP X pins σ Q (.bool (lexK ks ms)) s from ⟨(fun x => nomatch x), ⟨.bl _, H, I, rfl, q⟩⟩⟩ hu
end
def Rws (H : Hp) (xs : List V) (kss : List (List Key)) : Prop := Paired (fun x ks => ∃ a, x = .ref a ∧ H a = some (.tup (ks.map kV))) xs kss
def Tp (H H' : Hp) : Prop := ∀ p xs, H p = some (.tup xs) → H' p = some (.tup xs)
theorem Same.tp {H H' : Hp} (s : Same H H') : Tp H H' := fun p xs e => s _ _ e
theorem Tp.refl (H : Hp) : Tp H H := fun _ _ h => h
theorem Tp.trans {H H1 H2 : Hp} (a : Tp H H1) (b : Tp H1 H2) : Tp H H2 := fun p xs e => b _ _ (a _ _ e)
theorem Tp.upd {H H' : Hp} {b : Addr} {o u : HO} (t : Tp H H') (h : H' b = some u) (hn : ∀ xs, u ≠ .tup xs) : Tp H (L2.upd H' b o) := fun p xs e => by
  have e := t p xs e
  have : p ≠ b := fun z => by rw [z, h] at e; exact hn xs (Option.some.inj e)
  rw [upd_ne this]
  exact e
theorem paired_imp {α β : Type} {F G : α → β → Prop} (h : ∀ a b, F a b → G a b) : ∀ {l : List α} {m : List β}, Paired F l m → Paired G l m
  | _, _, .nil => .nil
  | _, _, .cons a r => .cons (h _ _ a) (paired_imp h r)
theorem paired_app {α β : Type} {F : α → β → Prop} : ∀ {l l' : List α} {m m' : List β}, Paired F l m → Paired F l' m' → Paired F (l ++ l') (m ++ m')
  | _, _, _, _, .nil, h => h
  | _, _, _, _, .cons a r, h => .cons a (paired_app r h)
theorem paired_take {α β : Type} {F : α → β → Prop} : ∀ {l : List α} {m : List β} (n : Nat), Paired F l m → Paired F (l.take n) (m.take n)
  | _, _, 0, _ => .nil
  | _, _, _ + 1, .nil => .nil
  | _, _, n + 1, .cons a r => .cons a (paired_take n r)
theorem paired_drop {α β : Type} {F : α → β → Prop} : ∀ {l : List α} {m : List β} (n : Nat), Paired F l m → Paired F (l.drop n) (m.drop n)
  | _, _, 0, h => h
  | _, _, _ + 1, .nil => .nil
  | _, _, n + 1, .cons a r => paired_drop n r
theorem Rws.keep {H H' : Hp} {xs : List V} {kss : List (List Key)} (h : Rws H xs kss) (t : Tp H H') : Rws H' xs kss := paired_imp (fun x ks ⟨a, e, q⟩ => ⟨a, e, t _ _ q⟩) h
theorem Rws.len {H : Hp} {xs : List V} {kss : List (List Key)} (h : Rws H xs kss) : xs.length = kss.length := (paired_at h).1
theorem Rws.at {H : Hp} {xs : List V} {kss : List (List Key)} (h : Rws H xs kss) {i : Nat} {x : V} (e : xs[i]? = some x) : ∃ a ks, x = .ref a ∧ kss[i]? = some ks ∧ H a = some (.tup (ks.map kV)) := by
  have hi := (List.getElem?_eq_some_iff.mp e).1
  have e2 : kss[i]? = some (kss[i]'(by rw [← h.len]; exact hi)) := List.getElem?_eq_getElem _
  obtain ⟨a, ea, q⟩ := (paired_at h).2 i _ _ e e2
  exact ⟨a, _, ea, e2, q⟩
theorem Rws.ix {H : Hp} {xs : List V} {kss : List (List Key)} (h : Rws H xs kss) {i : Nat} {ks : List Key} (e : kss[i]? = some ks) : ∃ a, xs[i]? = some (.ref a) ∧ H a = some (.tup (ks.map kV)) := by
  have hi := (List.getElem?_eq_some_iff.mp e).1
  have e2 : xs[i]? = some (xs[i]'(by rw [h.len]; exact hi)) := List.getElem?_eq_getElem _
  obtain ⟨a, ea, q⟩ := (paired_at h).2 i _ _ e2 e
  exact ⟨a, by rw [e2, ea], q⟩
theorem Rws.snoc {H : Hp} {xs : List V} {kss : List (List Key)} {p : Addr} {ks : List Key} (h : Rws H xs kss) (e : H p = some (.tup (ks.map kV))) : Rws H (xs ++ [.ref p]) (kss ++ [ks]) := paired_app h (.cons ⟨p, rfl, e⟩ .nil)
theorem rws_nil (H : Hp) : Rws H [] [] := Paired.nil
def kD : Key → PyData
  | .inl i => .int i
  | .inr x => .str x
def ktD (ks : List Key) : PyData := .tuple (ks.map kD)
def kOk : Key → Bool
  | .inl _ => true
  | .inr x => PyData.strOk x
def ksOk (ks : List Key) : Bool := ks.all kOk
theorem dvs_keys {K : PySem.W.Frag} {H : Hp} : ∀ ks : List Key, Dvs K H (ks.map kV) (ks.map kD)
  | [] => .nil
  | .inl i :: r => .cons (.int i) (dvs_keys r)
  | .inr x :: r => .cons (.str x) (dvs_keys r)
theorem Rws.dvs {K : PySem.W.Frag} {H : Hp} : ∀ {xs : List V} {kss : List (List Key)}, Rws H xs kss → Dvs K H xs (kss.map ktD)
  | _, _, Paired.nil => .nil
  | _, _, Paired.cons ⟨a, e, q⟩ r => by
    subst e
    exact .cons (.tup (SqT.of q) (dvs_keys _)) (Rws.dvs r)
theorem lay_keys : ∀ ks : List Key, ksOk ks = true → PyData.canLayAll0 (ks.map kD) = true ∧ PyData.depthAll (ks.map kD) = 0
  | [], _ => ⟨rfl, rfl⟩
  | k :: r, h => by
    have h : (kOk k && ksOk r) = true := h
    obtain ⟨h1, h2⟩ := Bool.and_eq_true_iff.mp h
    obtain ⟨a, b⟩ := lay_keys r h2
    cases k with
    | inl i => simp [kD, PyData.canLayAll0, PyData.canLay0, PyData.depthAll, PyData.depth, a, b]
    | inr x =>
      have h1 : PyData.strOk x = true := h1
      simp [kD, PyData.canLayAll0, PyData.canLay0, PyData.depthAll, PyData.depth, a, b, h1]
theorem lay_rows : ∀ kss : List (List Key), (∀ ks ∈ kss, ksOk ks = true) → PyData.canLayAll0 (kss.map ktD) = true ∧ PyData.depthAll (kss.map ktD) ≤ 1
  | [], _ => ⟨rfl, by decide⟩
  | ks :: r, h => by
    obtain ⟨a, b⟩ := lay_rows r fun z hz => h z (List.mem_cons_of_mem _ hz)
    obtain ⟨c, d⟩ := lay_keys ks (h ks List.mem_cons_self)
    refine ⟨by simp [ktD, PyData.canLayAll0, PyData.canLay0, a, c], ?_⟩
    simp [ktD, PyData.depthAll, PyData.depth, d]
    omega
theorem shaped_rows {kss : List (List Key)} (h : ∀ ks ∈ kss, ksOk ks = true) : SeqAt.shaped (.list (kss.map ktD)) = true := by
  obtain ⟨a, b⟩ := lay_rows kss h
  simp [SeqAt.shaped, PyData.canLay0, PyData.depth, a]
  omega
theorem Rws.dv {K : PySem.W.Frag} {H : Hp} {l : Addr} {xs : List V} {kss : List (List Key)} (h : Rws H xs kss) (e : H l = some (.lst xs)) : Dv K H (.ref l) (.list (kss.map ktD)) := .lst (SqL.of e) h.dvs
theorem Rws.sorts {K : PySem.W.Frag} {H : Hp} {xs : List V} {kss : List (List Key)} (h : Rws H xs kss) {sh : List Bool} (hn : sh ≠ []) (hs : ∀ ks ∈ kss, ks.map isI = sh) : SortsAs K H xs kss := by
  refine .cT sh hn (paired_of_get h.len fun i a b e1 e2 => ?_)
  obtain ⟨p, ep, q⟩ := (paired_at h).2 i a b e1 e2
  exact ⟨⟨p, ep, SqT.of q⟩, hs b (List.mem_of_getElem? e2)⟩
theorem Rws.sorted {H : Hp} {xs : List V} {kss : List (List Key)} (h : Rws H xs kss) {qs : List (V × List Key)} (p : qs.Perm (xs.zip kss)) : Rws H (qs.map (·.1)) (qs.map (·.2)) ∧ (qs.map (·.2)).Perm kss := by
  have hl := h.len
  constructor
  · refine paired_of_get (by rw [List.length_map, List.length_map]) fun i a b e1 e2 => ?_
    rw [List.getElem?_map] at e1 e2
    obtain ⟨q, e3, rfl⟩ := Option.map_eq_some_iff.mp e1
    rw [e3] at e2
    cases e2
    obtain ⟨j, hj⟩ := List.mem_iff_getElem?.mp (p.mem_iff.mp (List.mem_of_getElem? e3))
    obtain ⟨e4, e5⟩ := List.getElem?_zip_eq_some.mp hj
    exact (paired_at h).2 j _ _ e4 e5
  · have := p.map (·.2)
    rwa [List.map_snd_zip (by omega)] at this
def Sd (kss : List (List Key)) : Prop := kss.Pairwise fun a b => lexK b a = false
theorem sd_unique : ∀ {a b : List (List Key)}, a.Perm b → Sd a → Sd b → a = b
  | [], b, p, _, _ => by rw [p.nil_eq]
  | x :: a, [], p, _, _ => by have := p.length_eq; simp at this
  | x :: a, y :: b, p, ha, hb => by
    obtain ⟨h1, h2⟩ := List.pairwise_cons.mp ha
    obtain ⟨h3, h4⟩ := List.pairwise_cons.mp hb
    have e : x = y := by
      have m1 : y ∈ x :: a := p.mem_iff.mpr List.mem_cons_self
      have m2 : x ∈ y :: b := p.mem_iff.mp List.mem_cons_self
      rcases List.mem_cons.mp m1 with e | m1
      · exact e.symm
      · rcases List.mem_cons.mp m2 with e | m2
        · exact e
        · exact lexK_total (h3 x m2) (h1 y m1)
    subst e
    rw [sd_unique (List.Perm.cons_inv p) h2 h4]
end L2
namespace L2
open PySem PySem.Spec PyProof.Rows
theorem comp_list {K : PySem.W.Frag} {a : Addr} {n0 : Nat} {fr : List Nat} {g : TG} {tt : TT} {te : TE} {σ : St} {H : Hp} {Q : VK} {xs : List V} (Pv : Nat → St → List V → Hp → Prop) (hn : xs.length ≤ sizeLine)
    (h0 : Pv 0 (List.replicate n0 none ++ fr.map (pick σ)) [] H) (hl : ∀ i τ acc H1, Pv i τ acc H1 → SqL K H1 a xs)
    (hs : ∀ (i : Nat) x τ acc H1 (R1 : V → St → Hp → Prop) (R0 : St → Hp → Prop), xs[i]? = some x → acc.length ≤ i → Pv i τ acc H1 → (∀ y τ' H2, Pv (i + 1) τ' (acc ++ [y]) H2 → R1 y τ' H2) → (∀ τ' H2, Pv (i + 1) τ' acc H2 → R0 τ' H2) →
      g x τ H1 fun τ1 H2 => tt τ1 H2 fun b H3 => if b = true then te τ1 H3 fun y H4 => R1 y τ1 H4 else R0 τ1 H3)
    (hd : ∀ τ acc H1, acc.length ≤ xs.length → Pv xs.length τ acc H1 → ∀ D, H1 D = none → Q (.ref D) (upd H1 D (.lst acc))) :
    CompG n0 fr g tt te σ Q (Itl K a) H := by
  refine ⟨fun i m τ acc H' => m = xs.length - i ∧ i ≤ xs.length ∧ acc.length ≤ i ∧ Pv i τ acc H', ⟨xs.length, by simp, Nat.zero_le _, Nat.zero_le _, h0⟩, ?_⟩
  rintro i m τ acc H' ⟨rfl, hi, ha, p⟩
  have q := hl i τ acc H' p
  by_cases hlt : i < xs.length
  · refine .inr ⟨⟨xs, xs[i], q, by simp [hlt]⟩, by omega, fun x H1 y => ?_⟩
    obtain ⟨e, y⟩ := y
    subst e
    have ex := y xs q
    exact hs i x τ acc _ (fun y τ1 H4 => ∃ m', m' < xs.length - i ∧ m' = xs.length - (i + 1) ∧ i + 1 ≤ xs.length ∧ (acc ++ [y]).length ≤ i + 1 ∧ Pv (i + 1) τ1 (acc ++ [y]) H4) (fun τ1 H3 => ∃ m', m' < xs.length - i ∧ m' = xs.length - (i + 1) ∧ i + 1 ≤ xs.length ∧ acc.length ≤ i + 1 ∧ Pv (i + 1) τ1 acc H3) ex ha p
      (fun y τ' H2 h => ⟨_, by omega, rfl, hlt, by rw [List.length_append, List.length_singleton]; omega, h⟩) fun τ' H2 h => ⟨_, by omega, rfl, hlt, by omega, h⟩
  · have e : i = xs.length := by omega
    subst e
    exact .inl ⟨⟨xs, q, Nat.le_refl _⟩, hd τ acc H' ha p⟩
theorem comp_listN {K : PySem.W.Frag} {a : Addr} {n0 : Nat} {fr : List Nat} {g : TG} {te : TE} {σ : St} {H : Hp} {Q : VK} {xs : List V} (Pv : Nat → St → List V → Hp → Prop) (hn : xs.length ≤ sizeLine)
    (h0 : Pv 0 (List.replicate n0 none ++ fr.map (pick σ)) [] H) (hl : ∀ i τ acc H1, Pv i τ acc H1 → SqL K H1 a xs)
    (hs : ∀ (i : Nat) x τ acc H1 (R1 : V → St → Hp → Prop), xs[i]? = some x → acc.length ≤ i → Pv i τ acc H1 → (∀ y τ' H2, Pv (i + 1) τ' (acc ++ [y]) H2 → R1 y τ' H2) → g x τ H1 fun τ1 H2 => te τ1 H2 fun y H4 => R1 y τ1 H4)
    (hd : ∀ τ acc H1, acc.length ≤ xs.length → Pv xs.length τ acc H1 → ∀ D, H1 D = none → Q (.ref D) (upd H1 D (.lst acc))) :
    CompG n0 fr g tYes te σ Q (Itl K a) H := by
  refine comp_list (K := K) (xs := xs) Pv hn h0 hl (fun i x τ acc H1 R1 R0 e1 e2 p k1 _ => ?_) hd
  have e : (fun (τ1 : St) (H2 : Hp) => tYes τ1 H2 fun b H3 => if b = true then te τ1 H3 fun y H4 => R1 y τ1 H4 else R0 τ1 H3) = fun τ1 H2 => te τ1 H2 fun y H4 => R1 y τ1 H4 := by
    funext τ1 H2
    show (if true = true then te τ1 H2 fun y H4 => R1 y τ1 H4 else R0 τ1 H2) = _
    rw [if_pos rfl]
  rw [e]
  exact hs i x τ acc H1 R1 e1 e2 p k1
section
variable {X : Cx}
end
section
variable {κ : Type} [DecidableEq κ]
theorem mem_putK {kvs : List (κ × V)} {k : κ} {v : V} {q : κ × V} (h : q ∈ putK kvs k v) : q = (k, v) ∨ (q ∈ kvs ∧ q.1 ≠ k) := by
  unfold putK at h
  split at h
  · obtain ⟨p, hp, e⟩ := List.mem_map.mp h
    by_cases z : p.1 = k
    · rw [if_pos z] at e; rw [← e, z]; exact .inl rfl
    · rw [if_neg z] at e; rw [← e]; exact .inr ⟨hp, z⟩
  · rename_i hn
    rcases List.mem_append.mp h with h | h
    · refine .inr ⟨h, fun z => hn (List.any_eq_true.mpr ⟨q, h, decide_eq_true z⟩)⟩
    · exact .inl (List.mem_singleton.mp h)
theorem keys_putK (kvs : List (κ × V)) (k : κ) (v : V) : (putK kvs k v).map (·.1) = if k ∈ kvs.map (·.1) then kvs.map (·.1) else kvs.map (·.1) ++ [k] := by
  by_cases h : k ∈ kvs.map (·.1)
  · rw [if_pos h]
    obtain ⟨p, hp, e⟩ := List.mem_map.mp h
    unfold putK
    rw [if_pos (List.any_eq_true.mpr ⟨p, hp, decide_eq_true e⟩), List.map_map]
    refine List.map_congr_left fun q _ => ?_
    show (if q.1 = k then (q.1, v) else q).1 = q.1
    split <;> rfl
  · rw [if_neg h]
    unfold putK
    rw [if_neg (fun q => ?_), List.map_append]
    · rfl
    · obtain ⟨p, hp, e⟩ := List.any_eq_true.mp q
      exact h (List.mem_map.mpr ⟨p, hp, of_decide_eq_true e⟩)
theorem nodup_putK {kvs : List (κ × V)} {k : κ} {v : V} (h : (kvs.map (·.1)).Nodup) : ((putK kvs k v).map (·.1)).Nodup := by
  rw [keys_putK]
  split
  · exact h
  · rename_i hn
    exact nd_snoc h hn
theorem len_putK (kvs : List (κ × V)) (k : κ) (v : V) : (putK kvs k v).length ≤ kvs.length + 1 := by
  have e := congrArg List.length (keys_putK kvs k v)
  rw [List.length_map] at e
  rw [e]
  split
  · rw [List.length_map]; omega
  · rw [List.length_append, List.length_map]; simp
theorem valV_mem {kvs : List (κ × V)} {k : κ} {v : V} (h : valV kvs k = some v) : (k, v) ∈ kvs := by
  unfold valV at h
  obtain ⟨p, h1, h2⟩ := Option.map_eq_some_iff.mp h
  have := List.find?_some (p := fun kv : κ × V => decide (kv.1 = k)) h1
  have e : p.1 = k := of_decide_eq_true this
  rw [← e, ← h2]
  exact List.mem_of_find?_eq_some h1
theorem valV_of {kvs : List (κ × V)} {k : κ} (h : k ∈ kvs.map (·.1)) : ∃ v, valV kvs k = some v := by
  cases e : valV kvs k with
  | some v => exact ⟨v, rfl⟩
  | none => exact absurd h (valV_not e)
end
theorem cut_filter {α : Type} {p : α → Bool} : ∀ {l : List α} {n m : Nat}, (∀ (i : Nat) x, l[i]? = some x → (p x = true ↔ n ≤ i ∧ i < m)) → (l.drop n).take (m - n) = l.filter p
  | [], n, m, _ => by simp
  | x :: l, 0, 0, h => by
    have h0 := h 0 x rfl
    have ih := cut_filter (l := l) (n := 0) (m := 0) fun i y e => (h (i + 1) y (by simpa using e)).trans (by omega)
    rw [List.filter_cons, if_neg (fun z => by have := h0.mp z; omega), ← ih]
    rfl
  | x :: l, 0, m + 1, h => by
    have h0 := h 0 x rfl
    have ih := cut_filter (l := l) (n := 0) (m := m) fun i y e => (h (i + 1) y (by simpa using e)).trans (by omega)
    rw [List.filter_cons, if_pos (h0.mpr ⟨Nat.le_refl _, Nat.succ_pos _⟩), ← ih]
    rfl
  | x :: l, n + 1, m, h => by
    have h0 := h 0 x rfl
    have ih := cut_filter (l := l) (n := n) (m := m - 1) fun i y e => (h (i + 1) y (by simpa using e)).trans (by omega)
    rw [List.filter_cons, if_neg (fun z => by have := h0.mp z; omega), ← ih, List.drop_succ_cons]
    congr 1
    omega
theorem flat_keys {α κ : Type} [DecidableEq κ] (f : α → κ) : ∀ (L : List α) (ks : List κ), ks.Nodup → (∀ x ∈ L, f x ∈ ks) → (ks.flatMap fun k => L.filter fun x => decide (f x = k)).Perm L
  | [], ks, _, _ => by
    have : (ks.flatMap fun k => ([] : List α).filter fun x => decide (f x = k)) = [] := by simp
    rw [this]
  | x :: L, ks, hn, hk => by
    have ih := flat_keys f L ks hn fun y hy => hk y (List.mem_cons_of_mem _ hy)
    refine List.Perm.trans ?_ (ih.cons x)
    have key : ∀ ks : List κ, ks.Nodup → (ks.flatMap fun k => (x :: L).filter fun x => decide (f x = k)).Perm (if f x ∈ ks then x :: (ks.flatMap fun k => L.filter fun x => decide (f x = k)) else ks.flatMap fun k => L.filter fun x => decide (f x = k)) := by
      intro ks
      induction ks with
      | nil => intro _; simp
      | cons k ks ihk =>
        intro hn
        obtain ⟨h1, h2⟩ := List.nodup_cons.mp hn
        have ihk := ihk h2
        rw [List.flatMap_cons, List.flatMap_cons]
        by_cases e : f x = k
        · have hnot : f x ∉ ks := fun z => h1 (e ▸ z)
          rw [if_neg hnot] at ihk
          rw [if_pos (by rw [e]; exact List.mem_cons_self), List.filter_cons, if_pos (by simpa using e), List.cons_append]
          exact (ihk.append_left _).cons x
        · rw [List.filter_cons, if_neg (by simpa using e)]
          by_cases z : f x ∈ ks
          · rw [if_pos z] at ihk
            rw [if_pos (List.mem_cons_of_mem _ z)]
            exact (ihk.append_left _).trans List.perm_middle
          · rw [if_neg z] at ihk
            rw [if_neg (fun q => by rcases List.mem_cons.mp q with q | q; exact e q; exact z q)]
            exact ihk.append_left _
    have := key ks hn
    rwa [if_pos (hk x List.mem_cons_self)] at this
theorem perm_flat {α β : Type} {f g : α → List β} : ∀ {l : List α}, (∀ x ∈ l, (f x).Perm (g x)) → (l.flatMap f).Perm (l.flatMap g)
  | [], _ => by simp
  | x :: l, h => by
    rw [List.flatMap_cons, List.flatMap_cons]
    exact (h x List.mem_cons_self).append (perm_flat fun y hy => h y (List.mem_cons_of_mem _ hy))
theorem perm_flat_left {α β : Type} {f : α → List β} {l m : List α} (p : l.Perm m) : (l.flatMap f).Perm (m.flatMap f) := by
  induction p with
  | nil => simp
  | cons x _ ih => rw [List.flatMap_cons, List.flatMap_cons]; exact ih.append_left _
  | swap x y l =>
    rw [List.flatMap_cons, List.flatMap_cons, List.flatMap_cons, List.flatMap_cons, ← List.append_assoc, ← List.append_assoc]
    exact List.perm_append_comm.append_right _
  | trans _ _ h1 h2 => exact h1.trans h2
def SameX (d : Addr) (H H' : Hp) : Prop := ∀ b o, b ≠ d → H b = some o → H' b = some o
theorem Same.x {H H' : Hp} (s : Same H H') (d : Addr) : SameX d H H' := fun b o _ e => s b o e
theorem SameX.trans {d : Addr} {H H1 H2 : Hp} (a : SameX d H H1) (b : SameX d H1 H2) : SameX d H H2 := fun c o n e => b c o n (a c o n e)
theorem SameX.upd {d : Addr} {H H' : Hp} {o : HO} (a : SameX d H H') : SameX d H (L2.upd H' d o) := fun c u n e => by rw [upd_ne n]; exact a c u n e
theorem SameX.tp {d : Addr} {H H' : Hp} (a : SameX d H H') {u : HO} (h : H d = some u) (hn : ∀ xs, u ≠ .tup xs) : Tp H H' := fun p xs e => a p _ (fun z => by rw [z, h] at e; exact hn xs (Option.some.inj e)) e
end L2
namespace Rev
open PySem PySem.Builtin PySem.W PyProof.Rows
section
variable {prog : Program} {w : World} {A : Around} {E : Value → Shared → Prop} {s : Shared} {I : Addr} {fp wr : List Addr} {G : Array GenState → Array GenState → Prop} {n : Nat} {P : Nat → Value → Prop} {St : Nat → Shared → Prop} {Live : Shared → Prop}
end
end Rev
namespace L2
open PySem PySem.Spec PyProof.Rows
section
variable {X : Cx} {K : PySem.W.Frag}
end
end L2
namespace L2
open PySem PySem.Spec PyProof.Rows
section
variable {X : Cx} {K : PySem.W.Frag}
end
end L2
namespace Sdf
open PySem PySem.Spec PyProof.Rows
section
variable {prog : Program} {w : World} {K : Type} [DecidableEq K] {knd : KeyKind prog w K} {A : Around} {E : Value → Shared → Prop} {s : Shared}
end
end Sdf
namespace L2
open PySem PySem.Spec PyProof.Rows
section
variable {X : Cx} {o e f : Expr} {apos cpos : Pos} {td ty tx : TE}
end
end L2
namespace Upk
open PySem PySem.Spec PyProof.Rows
section
variable {prog : Program} {w : World} {A : Around} {E : Value → Shared → Prop} {s : Shared}
end
end Upk
namespace L2
open PySem PySem.Spec PyProof.Rows
section
variable {X : Cx} {pos : Pos}
end
end L2
namespace L2
open PySem PySem.Spec PyProof.Rows
section
variable {X : Cx}
end
section
variable {X : Cx} {e : Expr} {es : List Expr} {te : TX} {pos : Pos}
end
section
variable {prog : Program} {w : World} {A : Around} {E : Value → Shared → Prop} {s : Shared}
end
section
variable {X : Cx} {o value lo hi : Expr} {pos pos' p2 : Pos} {td tv : TE} {tl th : TO}
end
section
variable {prog : Program} {w : World} {A : Around} {E : Value → Shared → Prop} {s : Shared}
end
section
variable {X : Cx}
end
section
end
section
theorem comp_rangeN {lo : Int} {n n0 : Nat} {fr : List Nat} {g : TG} {te : TE} {σ : St} {H : Hp} {Q : VK} (Pv : Nat → St → List V → Hp → Prop) (hn : n ≤ sizeLine)
    (h0 : Pv 0 (List.replicate n0 none ++ fr.map (pick σ)) [] H)
    (hs : ∀ (i : Nat) τ acc H1 (R1 : V → St → Hp → Prop), i < n → acc.length ≤ i → Pv i τ acc H1 → (∀ y τ' H2, Pv (i + 1) τ' (acc ++ [y]) H2 → R1 y τ' H2) → g (.int (lo + i)) τ H1 fun τ1 H2 => te τ1 H2 fun y H4 => R1 y τ1 H4)
    (hd : ∀ τ acc H1, acc.length ≤ n → Pv n τ acc H1 → ∀ D, H1 D = none → Q (.ref D) (upd H1 D (.lst acc))) :
    CompG n0 fr g tYes te σ Q (Itr lo n) H := by
  refine ⟨fun i m τ acc H' => m = n - i ∧ i ≤ n ∧ acc.length ≤ i ∧ Pv i τ acc H', ⟨n, by simp, Nat.zero_le _, Nat.zero_le _, h0⟩, ?_⟩
  rintro i m τ acc H' ⟨rfl, hi, ha, p⟩
  by_cases hlt : i < n
  · refine .inr ⟨hlt, by omega, fun x H1 y => ?_⟩
    obtain ⟨e1, e2⟩ := y
    subst e1 e2
    have e : (fun (τ1 : St) (H2 : Hp) => tYes τ1 H2 fun b H3 => if b = true then te τ1 H3 fun y H4 => ∃ m', m' < n - i ∧ m' = n - (i + 1) ∧ i + 1 ≤ n ∧ (acc ++ [y]).length ≤ i + 1 ∧ Pv (i + 1) τ1 (acc ++ [y]) H4 else ∃ m', m' < n - i ∧ m' = n - (i + 1) ∧ i + 1 ≤ n ∧ acc.length ≤ i + 1 ∧ Pv (i + 1) τ1 acc H3) = fun τ1 H2 => te τ1 H2 fun y H4 => ∃ m', m' < n - i ∧ m' = n - (i + 1) ∧ i + 1 ≤ n ∧ (acc ++ [y]).length ≤ i + 1 ∧ Pv (i + 1) τ1 (acc ++ [y]) H4 := by
      funext τ1 H2
      show (if true = true then (te τ1 H2 fun y H4 => ∃ m', m' < n - i ∧ m' = n - (i + 1) ∧ i + 1 ≤ n ∧ (acc ++ [y]).length ≤ i + 1 ∧ Pv (i + 1) τ1 (acc ++ [y]) H4) else ∃ m', m' < n - i ∧ m' = n - (i + 1) ∧ i + 1 ≤ n ∧ acc.length ≤ i + 1 ∧ Pv (i + 1) τ1 acc H2) = _
      rw [if_pos rfl]
    rw [e]
    exact hs i τ acc _ (fun y τ1 H4 => ∃ m', m' < n - i ∧ m' = n - (i + 1) ∧ i + 1 ≤ n ∧ (acc ++ [y]).length ≤ i + 1 ∧ Pv (i + 1) τ1 (acc ++ [y]) H4) hlt ha p (fun y τ' H2 h => ⟨_, by omega, rfl, hlt, by rw [List.length_append, List.length_singleton]; omega, h⟩)
  · have e : i = n := by omega
    subst e
    exact .inl ⟨Nat.le_refl _, hd τ acc H' ha p⟩
end
end L2
namespace L2
open PySem PySem.Spec PyProof.Rows
section
variable {X : Cx}
end
section
variable {X : Cx}
end
end L2
namespace L2
open PySem PySem.Spec PyProof.Rows
section
variable {X : Cx} {pins : List (Addr × Obj)} {σ : St} {k : Nat} {f : Addr} {fd : FuncData} {ps : List Str} {sp : Sp}
def KeysAt (H : Hp) (us : List Value) (kss : List (List Key)) : Prop := us.length = kss.length ∧ ∀ (i : Nat) u ks, us[i]? = some u → kss[i]? = some ks → ∃ q, u = .ref q ∧ H q = some (.tup (ks.map kV))
theorem KeysAt.sorts {H : Hp} {s : Shared} {us : List Value} {kss : List (List Key)} {sh : List Bool} (I : Inv X pins σ H s) (h : KeysAt H us kss) (h0 : sh ≠ []) (hs : ∀ ks ∈ kss, ks.map isI = sh) : SortsV s.heap us kss := by
  refine .cT sh h.1 h0 fun i u ks e1 e2 => ⟨?_, hs ks (List.mem_of_getElem? e2)⟩
  obtain ⟨q, rfl, eq⟩ := h.2 i u ks e1 e2
  obtain ⟨its, rv, ht, _⟩ := I.tuple (SqT.of eq)
  obtain ⟨o, e, c, n, d⟩ := ht
  obtain ⟨k1, k2⟩ := keyV_rel rv
  exact ⟨q, o, its.toArray, n, rfl, e, c, d, by simpa using k1, fun v hv => k2 v (by simpa using hv)⟩
theorem KeysAt.mono {H H' : Hp} {us : List Value} {kss : List (List Key)} (h : KeysAt H us kss) (s : Same H H') : KeysAt H' us kss := ⟨h.1, fun i u ks e1 e2 => let ⟨q, a, b⟩ := h.2 i u ks e1 e2; ⟨q, a, s _ _ b⟩⟩
end
section
variable {X : Cx} {k : Nat} {f : Addr} {fd : FuncData} {ps : List Str} {sp : Sp} {x y : Str} {p p2 pk pos : Pos} {e : Expr} {t : TE} {K : PySem.W.Frag}
end
end L2
namespace L2
open PySem PySem.Spec PyProof.Rows
def ItDk (o : Obj) (kvs : List (Key × V)) (d : Addr) : It :=
  ⟨fun i H => H d = some (.frz o (.dK kvs)) ∧ i < kvs.length, fun i H x H' => H' = H ∧ ∃ p, kvs[i]? = some p ∧ x = kV p.1, fun i H => H d = some (.frz o (.dK kvs)) ∧ kvs.length ≤ i⟩
theorem frz_at {P : Program} {w : World} {H : Hp} {h : Heap} {d : Addr} {o : Obj} {kvs : List (Key × V)} {es : Array DictEntry} {ep : Nat} (ok : HOk P w H h) (e : H d = some (.frz o (.dK kvs))) (hd : o.data = .dict es ep) :
    ∃ vs, KV kvs vs ∧ h.DictAt (mixKind P w) d vs ep := by
  obtain ⟨ho, z, lo, vs, rel, o', es', ep', ho', hx, hd', r⟩ := (show ObjOk P w H h d (.frz o (.dK kvs)) from ok d _ e)
  rw [ho] at ho'
  cases ho'
  rw [hd] at hd'
  cases hd'
  exact ⟨vs, rel, o, es, ho, hx, hd, r⟩
theorem turn_dictK {P : Program} {w : World} {K : PySem.W.Frag} {tg : Expr} (d it : Addr) {o : Obj} {kvs : List (Key × V)} {es : Array DictEntry} {ep : Nat} (hd : o.data = .dict es ep) : Turn P w K tg (ItDk o kvs d) [it] it (fun i h => h.IsKeyIter it d i kvs.length ep) where
  mem := by simp
  obj := fun i h st b hb => by
    have e : b = it := by simpa using hb
    subst e
    obtain ⟨o, e, c, d⟩ := st
    exact ⟨o, e, fun v z => by rw [d] at z; cases z⟩
  keep := fun i h h' st k => st.at fun o e => k it (by simp) o e
  item := by
    intro X hP hw hK hc i pins s σ H E I hf st hg
    subst hP hw hK
    obtain ⟨e, hi⟩ := hg
    obtain ⟨vs, rel, hat⟩ := frz_at I.hok e hd
    have hl : kvs.length = vs.length := Paired.length rel
    have hx : vs[i]? = some (vs[i]'(by omega)) := List.getElem?_eq_getElem (by omega)
    have hp : kvs[i]? = some kvs[i] := List.getElem?_eq_getElem hi
    have pr := pair_get rel hp hx
    generalize kvs[i] = p at hp pr
    generalize vs[i]'(by omega) = q at hx pr
    obtain ⟨k, x⟩ := q
    obtain ⟨f0, f1, f2, f3, f4, f5⟩ := hf it (by simp)
    rw [hl] at st
    refine wpAny_pyNext_dict_item st hat hx fun key h' hkey st' sb => ?_
    have I1 : Inv X pins σ H { s with heap := h' } := I.turned (t' := s.toks) (fun b o hb e => (sb.2 b hb).trans e) f0 f1 f3 f4 f5
    obtain ⟨o', e', c', d'⟩ := id st'
    rw [← hl] at st'
    have hk : p.1 = k := pr.1
    exact ⟨key, rfl, go_of (s := { s with heap := h' }) e' c' d' (by decide) ⟨kV p.1, H, I1, by rw [hk]; exact key_val hkey, ⟨rfl, p, hp, rfl⟩, st', fun b hb => (hf b hb).1⟩⟩
  done := by
    intro X hP hw hK hc i pins s σ H E I hf st hg
    subst hP hw hK
    obtain ⟨e, hi⟩ := hg
    obtain ⟨vs, rel, hat⟩ := frz_at I.hok e hd
    have hl : kvs.length = vs.length := Paired.length rel
    obtain ⟨f0, f1, f2, f3, f4, f5⟩ := hf it (by simp)
    rw [hl] at st
    exact wpAny_pyNext_dict_end (I.ok.hd hc) st hat (by simp; omega) fun h' eb => ⟨rfl, I.turned (t' := s.toks) (fun b o hb e => eb b o hb e) f0 f1 f3 f4 f5⟩
  self := fun _ _ _ _ _ st h => wpAny_pyIter_keyiter st h
section
variable {X : Cx}
theorem pe_fldK {K : PySem.W.Frag} {e : Expr} {ta : TE} {f : Str} {pos : Pos} (he : PE X e ta) (hb : attributeBase e f X.env (eval e X.env) = eval e X.env) (hK : X.K = K := by rfl) : PE X (.Attribute e f pos) (tFld K ta f) := by subst hK; exact pe_fld he hb
theorem call_lenDR : CallR X (.builtin "len") (fun xs H Q => ∃ a kvs, xs = [V.ref a] ∧ Rd H a (.dK kvs) ∧ Q (.int kvs.length) H) := by
  intro pins s σ H xs us Q I r h
  obtain ⟨a, kvs, rfl, ha, q⟩ := h
  obtain ⟨u, rfl, ru⟩ := vals1 r
  cases ru
  exact d_len I ha fun t s' I' => ⟨.int kvs.length, H, I', ⟨t, rfl⟩, q⟩
def iDictK (tl : TE) : TI := fun σ H R => tl σ H fun x H1 => ∃ a kvs, x = .ref a ∧ Rd H1 a (.dK kvs) ∧ ∀ o H2, H2 a = some (.frz o (.dK kvs)) → (∀ b, b ≠ a → H2 b = H1 b) → R (ItDk o kvs a) H2
theorem pi_dictK {tg l : Expr} {tl : TE} (hl : PE X l tl) : PI X tg l (iDictK tl) := by
  intro pins s σ H R I h
  refine thn (hl pins s σ H _ I h) fun v s1 ⟨x, H1, I1, r1, q1⟩ => ?_
  obtain ⟨a, kvs, e, q0, q⟩ := q1
  subst e
  cases r1
  obtain ⟨o, H2, I2, e2, q2, f2⟩ : ∃ o H2, Inv X pins σ H2 s1 ∧ H2 a = some (.frz o (.dK kvs)) ∧ R (ItDk o kvs a) H2 ∧ ∀ b, H1 b = none → H2 b = none := by
    rcases q0 with e | ⟨o, e⟩
    · obtain ⟨z, lo, vs, rel, o, es, ep, ho, hx, hd, r⟩ := (show ObjOk X.prog X.w H1 s1.heap a (.dK kvs) from I1.hok a _ e)
      refine ⟨o, upd H1 a (.frz o (.dK kvs)), ?_, upd_same, q o _ upd_same (fun b hb => upd_ne hb), fun b hb => by rw [upd_ne (ne_of_none e hb).symm]; exact hb⟩
      exact I1.write (t' := s1.toks) (h' := s1.heap) (e := a) (by rw [e]; trivial) (.inl rfl) (fun b u _ q => q) ⟨o, ho⟩ ⟨ho, z, lo, vs, rel, o, es, ep, ho, hx, hd, r⟩
    · exact ⟨o, H1, I1, e, q o H1 e fun b _ => rfl, fun b hb => hb⟩
  obtain ⟨ho, z, lo, vs, rel, o', es, ep, ho', hx, hd, r⟩ := (show ObjOk X.prog X.w H2 s1.heap a (.frz o (.dK kvs)) from I2.hok a _ e2)
  rw [ho] at ho'
  cases ho'
  have hl : kvs.length = vs.length := Paired.length rel
  refine wpAny_pyIter_dict (knd := mixKind X.prog X.w) lo ⟨o, es, ho, hx, hd, r⟩ ?_
  refine ⟨s1.heap.objs.size, [s1.heap.objs.size], _, _, H2, rfl, I2.kept (t' := s1.toks) fun b o e => Heap.get?_push_of_some _ e, turn_dictK a _ hd, ⟨_, Heap.get?_push_size _ rfl, rfl, by rw [hl]; rfl⟩, fun b hb => ?_, q2⟩
  have e : b = s1.heap.objs.size := by simpa using hb
  subst e
  exact I2.fpOk (Nat.le_refl _) (I2.hok.fresh (Nat.le_refl _))
end
theorem for_dictK {d : Addr} {o : Obj} {kvs : List (Key × V)} {g : TG} {tb : TS} {D : Ends} {σ : St} {H : Hp} (Pv : Nat → St → Hp → Prop) (h0 : Pv 0 σ H) (hl : ∀ i σ H, i ≤ kvs.length → Pv i σ H → H d = some (.frz o (.dK kvs)))
    (hs : ∀ (i : Nat) p σ H, kvs[i]? = some p → Pv i σ H → g (kV p.1) σ H fun σ2 H2 => tb { D with nx := Pv (i + 1), ct := Pv (i + 1), bk := D.nx } σ2 H2) (hd : ∀ σ H, Pv kvs.length σ H → D.nx σ H) :
    ∃ W : Nat → Nat → St → Hp → Prop, (∃ m, W 0 m σ H) ∧ ∀ i m σ H, W i m σ H →
      ((ItDk o kvs d).stop i H ∧ D.nx σ H) ∨ ((ItDk o kvs d).go i H ∧ ∃ N : St → Hp → Prop, (∀ σ' H', N σ' H' → ∃ m', m' < m ∧ W (i + 1) m' σ' H') ∧ ∀ x H', (ItDk o kvs d).yld i H x H' → g x σ H' fun σ2 H2 => tb { D with nx := N, ct := N, bk := D.nx } σ2 H2) := by
  refine ⟨fun i m σ H => m = kvs.length - i ∧ i ≤ kvs.length ∧ Pv i σ H, ⟨kvs.length, by simp, Nat.zero_le _, h0⟩, ?_⟩
  rintro i m σ H ⟨rfl, hi, p⟩
  have q := hl i σ H hi p
  by_cases hlt : i < kvs.length
  · refine .inr ⟨⟨q, hlt⟩, Pv (i + 1), fun σ' H' p' => ⟨kvs.length - (i + 1), by omega, rfl, hlt, p'⟩, fun x H' y => ?_⟩
    obtain ⟨e, pr, hp, rfl⟩ := y
    subst e
    exact hs i pr σ _ hp p
  · have : i = kvs.length := by omega
    subst this
    exact .inl ⟨⟨q, Nat.le_refl _⟩, hd σ H p⟩
theorem comp_dictK {d : Addr} {o : Obj} {kvs : List (Key × V)} {n0 : Nat} {fr : List Nat} {g : TG} {tt : TT} {te : TE} {σ : St} {H : Hp} {Q : VK} (Pv : Nat → St → List V → Hp → Prop) (hn : kvs.length ≤ sizeLine)
    (h0 : Pv 0 (List.replicate n0 none ++ fr.map (pick σ)) [] H) (hl : ∀ i τ acc H1, Pv i τ acc H1 → H1 d = some (.frz o (.dK kvs)))
    (hs : ∀ (i : Nat) p τ acc H1 (R1 : V → St → Hp → Prop) (R0 : St → Hp → Prop), kvs[i]? = some p → acc.length ≤ i → Pv i τ acc H1 → (∀ y τ' H2, Pv (i + 1) τ' (acc ++ [y]) H2 → R1 y τ' H2) → (∀ τ' H2, Pv (i + 1) τ' acc H2 → R0 τ' H2) →
      g (kV p.1) τ H1 fun τ1 H2 => tt τ1 H2 fun b H3 => if b = true then te τ1 H3 fun y H4 => R1 y τ1 H4 else R0 τ1 H3)
    (hd : ∀ τ acc H1, acc.length ≤ kvs.length → Pv kvs.length τ acc H1 → ∀ D, H1 D = none → Q (.ref D) (upd H1 D (.lst acc))) :
    CompG n0 fr g tt te σ Q (ItDk o kvs d) H := by
  refine ⟨fun i m τ acc H' => m = kvs.length - i ∧ i ≤ kvs.length ∧ acc.length ≤ i ∧ Pv i τ acc H', ⟨kvs.length, by simp, Nat.zero_le _, Nat.zero_le _, h0⟩, ?_⟩
  rintro i m τ acc H' ⟨rfl, hi, ha, p⟩
  have q := hl i τ acc H' p
  by_cases hlt : i < kvs.length
  · refine .inr ⟨⟨q, hlt⟩, by omega, fun x H1 y => ?_⟩
    obtain ⟨e, pr, ex, rfl⟩ := y
    subst e
    exact hs i pr τ acc _ (fun y τ1 H4 => ∃ m', m' < kvs.length - i ∧ m' = kvs.length - (i + 1) ∧ i + 1 ≤ kvs.length ∧ (acc ++ [y]).length ≤ i + 1 ∧ Pv (i + 1) τ1 (acc ++ [y]) H4) (fun τ1 H3 => ∃ m', m' < kvs.length - i ∧ m' = kvs.length - (i + 1) ∧ i + 1 ≤ kvs.length ∧ acc.length ≤ i + 1 ∧ Pv (i + 1) τ1 acc H3) ex ha p
      (fun y τ' H2 h => ⟨_, by omega, rfl, hlt, by rw [List.length_append, List.length_singleton]; omega, h⟩) fun τ' H2 h => ⟨_, by omega, rfl, hlt, by omega, h⟩
  · have e : i = kvs.length := by omega
    subst e
    exact .inl ⟨⟨q, Nat.le_refl _⟩, hd τ acc H' ha p⟩
end L2
set_option maxHeartbeats 4000000
namespace K19
open PySem L2
seal PE PT PW PA PS PSs PG PGs PI PTs PC PO OpR UnR CallR TruR IxR SlR
def top (i : Nat) : Stmt := PySem.Challenge.pw_brooktally_k19_what_an_event_brings.main.body.getD i (.Pass ⟨0,0,0,0⟩)
abbrev s_u_wall : Stmt := top 0
abbrev s_names_end : Stmt := top 4
abbrev s_name_of : Stmt := top 5
abbrev s_feeders : Stmt := top 6
abbrev s_is_teller : Stmt := top 7
abbrev s_taken : Stmt := top 9
abbrev s_turned : Stmt := top 10
abbrev s_passed : Stmt := top 11
abbrev s_joined : Stmt := top 12
abbrev s_spread : Stmt := top 13
abbrev s_ahead : Stmt := top 15
abbrev s_with_keys : Stmt := top 16
abbrev s_Side___init__ : Stmt := inClass (top 18) 0
abbrev s_Side_put : Stmt := inClass (top 18) 1
abbrev s_Side_near : Stmt := inClass (top 18) 2
abbrev s_Side_drop : Stmt := inClass (top 18) 3
abbrev s_Side_kept : Stmt := inClass (top 18) 4
abbrev s_met_item : Stmt := top 20
abbrev s_Join___init__ : Stmt := inClass (top 21) 0
abbrev s_Join_come : Stmt := inClass (top 21) 1
abbrev s_Join_drop : Stmt := inClass (top 21) 2
abbrev s_ucell_at : Stmt := top 23
abbrev s_unumber : Stmt := top 24
abbrev s_unames : Stmt := top 25
abbrev s_uscale : Stmt := top 26
abbrev s_ustream : Stmt := top 27
abbrev s_uteller : Stmt := top 28
abbrev s_ubound : Stmt := top 29
abbrev s_uplan : Stmt := top 30
abbrev s_uevent : Stmt := top 31
abbrev s_ujoined : Stmt := top 32
abbrev s_umeant : Stmt := top 33
abbrev s_utold : Stmt := top 34
abbrev s_ucomes : Stmt := top 35
abbrev s_law : Stmt := top 36
theorem sc_names_end : FnScope ["step"] ["step"] (defScope s_names_end) := ⟨rfl,rfl,rfl,by decide +kernel,rfl,by decide +kernel,by decide +kernel⟩
theorem sc_name_of : FnScope ["step"] ["step"] (defScope s_name_of) := ⟨rfl,rfl,rfl,by decide +kernel,rfl,by decide +kernel,by decide +kernel⟩
theorem sc_feeders : FnScope ["step"] ["step"] (defScope s_feeders) := ⟨rfl,rfl,rfl,by decide +kernel,rfl,by decide +kernel,by decide +kernel⟩
theorem sc_is_teller : FnScope ["step"] ["step"] (defScope s_is_teller) := ⟨rfl,rfl,rfl,by decide +kernel,rfl,by decide +kernel,by decide +kernel⟩
theorem sc_taken : FnScope ["step", "event"] ["step", "event"] (defScope s_taken) := ⟨rfl,rfl,rfl,by decide +kernel,rfl,by decide +kernel,by decide +kernel⟩
theorem sc_turned : FnScope ["step", "item"] ["step", "item"] (defScope s_turned) := ⟨rfl,rfl,rfl,by decide +kernel,rfl,by decide +kernel,by decide +kernel⟩
theorem sc_passed : FnScope ["step", "streams"] ["step", "streams"] (defScope s_passed) := ⟨rfl,rfl,rfl,by decide +kernel,rfl,by decide +kernel,by decide +kernel⟩
theorem sc_joined : FnScope ["join", "streams", "made", "side", "items", "item"] ["join", "streams"] (defScope s_joined) := ⟨rfl,rfl,rfl,by decide +kernel,rfl,by decide +kernel,by decide +kernel⟩
theorem sc_spread : FnScope ["plan", "joins", "event", "brought", "told", "place", "step", "streams", "items"] ["plan", "joins", "event"] (defScope s_spread) := ⟨rfl,rfl,rfl,by decide +kernel,rfl,by decide +kernel,by decide +kernel⟩
theorem sc_ahead : FnScope ["rows", "mark", "low", "high", "middle"] ["rows", "mark"] (defScope s_ahead) := ⟨rfl,rfl,rfl,by decide +kernel,rfl,by decide +kernel,by decide +kernel⟩
theorem sc_with_keys : FnScope ["rows", "told", "key"] ["rows"] (defScope s_with_keys) := ⟨rfl,rfl,rfl,by decide +kernel,rfl,by decide +kernel,by decide +kernel⟩
theorem sc_Side___init__ : FnScope ["self"] ["self"] (defScope s_Side___init__) := ⟨rfl,rfl,rfl,by decide +kernel,rfl,by decide +kernel,by decide +kernel⟩
theorem sc_Side_put : FnScope ["self", "item", "pair", "row", "place"] ["self", "item"] (defScope s_Side_put) := ⟨rfl,rfl,rfl,by decide +kernel,rfl,by decide +kernel,by decide +kernel⟩
theorem sc_Side_near : FnScope ["self", "key", "low", "high", "row"] ["self", "key", "low", "high"] (defScope s_Side_near) := ⟨rfl,rfl,rfl,by decide +kernel,rfl,by decide +kernel,by decide +kernel⟩
theorem sc_Side_kept : FnScope ["self"] ["self"] (defScope s_Side_kept) := ⟨rfl,rfl,rfl,by decide +kernel,rfl,by decide +kernel,by decide +kernel⟩
theorem sc_met_item : FnScope ["side", "item", "pair", "first", "second"] ["side", "item", "pair"] (defScope s_met_item) := ⟨rfl,rfl,rfl,by decide +kernel,rfl,by decide +kernel,by decide +kernel⟩
theorem sc_Join___init__ : FnScope ["self", "within"] ["self", "within"] (defScope s_Join___init__) := ⟨rfl,rfl,rfl,by decide +kernel,rfl,by decide +kernel,by decide +kernel⟩
theorem sc_Join_come : FnScope ["self", "side", "item", "met"] ["self", "side", "item"] (defScope s_Join_come) := ⟨rfl,rfl,rfl,by decide +kernel,rfl,by decide +kernel,by decide +kernel⟩
theorem sc_ucell_at : FnScope ["_law_script", "_law_k"] ["_law_script", "_law_k"] (defScope s_ucell_at) := ⟨rfl,rfl,rfl,by decide +kernel,rfl,by decide +kernel,by decide +kernel⟩
theorem sc_unumber : FnScope ["_law_script", "_law_k", "_law_base"] ["_law_script", "_law_k"] (defScope s_unumber) := ⟨rfl,rfl,rfl,by decide +kernel,rfl,by decide +kernel,by decide +kernel⟩
theorem sc_unames : FnScope ["_law_script", "_law_start", "_law_many", "_law_some", "_law_number_here", "_law_step", "_law_word", "_law_j", "_law_place", "_law_names_here", "_law_k", "_law_sign"] ["_law_script", "_law_start", "_law_many"] (defScope s_unames) := ⟨rfl,rfl,rfl,by decide +kernel,rfl,by decide +kernel,by decide +kernel⟩
theorem sc_uscale : FnScope ["_law_script"] ["_law_script"] (defScope s_uscale) := ⟨rfl,rfl,rfl,by decide +kernel,rfl,by decide +kernel,by decide +kernel⟩
theorem sc_ustream : FnScope ["_law_name", "_law_number_here", "_law_streams", "_law_scale_here", "_law_one", "_law_other", "_law_low"] ["_law_name", "_law_number_here", "_law_streams", "_law_scale_here"] (defScope s_ustream) := ⟨rfl,rfl,rfl,by decide +kernel,rfl,by decide +kernel,by decide +kernel⟩
theorem sc_uteller : FnScope ["_law_name", "_law_number_here", "_law_streams", "_law_scale_here", "_law_one", "_law_sort", "_law_step"] ["_law_name", "_law_number_here", "_law_streams", "_law_scale_here"] (defScope s_uteller) := ⟨rfl,rfl,rfl,by decide +kernel,rfl,by decide +kernel,by decide +kernel⟩
theorem sc_ubound : FnScope ["_law_step", "_law_sizes", "_law_most"] ["_law_step", "_law_sizes", "_law_most"] (defScope s_ubound) := ⟨rfl,rfl,rfl,by decide +kernel,rfl,by decide +kernel,by decide +kernel⟩
theorem sc_uplan : FnScope ["_law_script", "_law_most", "_law_names_here", "_law_kinds", "_law_scale_here", "_law_plan_here", "_law_sizes", "_law_wide", "_law_many", "_law_joined_here", "_law_k", "_law_number_here", "_law_streams", "_law_step"] ["_law_script", "_law_most"] (defScope s_uplan) := ⟨rfl,rfl,rfl,by decide +kernel,rfl,by decide +kernel,by decide +kernel⟩
theorem sc_uevent : FnScope ["_law_script", "_law_k", "_law_number_here", "_law_scale_here", "_law_time", "_law_kind", "_law_keys", "_law_key", "_law_amount"] ["_law_script", "_law_k"] (defScope s_uevent) := ⟨rfl,rfl,rfl,by decide +kernel,rfl,by decide +kernel,by decide +kernel⟩
theorem sc_ujoined : FnScope ["_law_ones", "_law_others", "_law_within", "_law_found", "_law_one", "_law_other"] ["_law_ones", "_law_others", "_law_within"] (defScope s_ujoined) := ⟨rfl,rfl,rfl,by decide +kernel,rfl,by decide +kernel,by decide +kernel⟩
theorem sc_umeant : FnScope ["_law_step", "_law_streams", "_law_events"] ["_law_step", "_law_streams", "_law_events"] (defScope s_umeant) := ⟨rfl,rfl,rfl,by decide +kernel,rfl,by decide +kernel,by decide +kernel⟩
theorem sc_utold : FnScope ["_law_plan_here", "_law_events", "_law_streams", "_law_told_here", "_law_kept", "_law_place", "_law_step"] ["_law_plan_here", "_law_events"] (defScope s_utold) := ⟨rfl,rfl,rfl,by decide +kernel,rfl,by decide +kernel,by decide +kernel⟩
theorem sc_ucomes : FnScope ["_law_found", "_law_before", "_law_behind", "_law_pair", "_law_place", "_law_items"] ["_law_found", "_law_before", "_law_behind"] (defScope s_ucomes) := ⟨rfl,rfl,rfl,by decide +kernel,rfl,by decide +kernel,by decide +kernel⟩
theorem sc_law : FnScope ["_law_script", "_law_plan_here", "_law_joins", "_law_place", "_law_step", "_law_handed", "_law_events", "_law_before", "_law_told_here", "_law_kept", "_law_k", "_law_event_here", "_law_behind", "_law_sides", "_law_found"] ["_law_script"] (defScope s_law) := ⟨rfl,rfl,rfl,by decide +kernel,rfl,by decide +kernel,by decide +kernel⟩
structure Ad where
  a_u_wall : Addr
  d_u_wall : FuncData
  a_names_end : Addr
  d_names_end : FuncData
  a_name_of : Addr
  d_name_of : FuncData
  a_feeders : Addr
  d_feeders : FuncData
  a_is_teller : Addr
  d_is_teller : FuncData
  a_taken : Addr
  d_taken : FuncData
  a_turned : Addr
  d_turned : FuncData
  a_passed : Addr
  d_passed : FuncData
  a_joined : Addr
  d_joined : FuncData
  a_spread : Addr
  d_spread : FuncData
  a_ahead : Addr
  d_ahead : FuncData
  a_with_keys : Addr
  d_with_keys : FuncData
  a_Side___init__ : Addr
  d_Side___init__ : FuncData
  a_Side_put : Addr
  d_Side_put : FuncData
  a_Side_near : Addr
  d_Side_near : FuncData
  a_Side_drop : Addr
  d_Side_drop : FuncData
  a_Side_kept : Addr
  d_Side_kept : FuncData
  a_met_item : Addr
  d_met_item : FuncData
  a_Join___init__ : Addr
  d_Join___init__ : FuncData
  a_Join_come : Addr
  d_Join_come : FuncData
  a_Join_drop : Addr
  d_Join_drop : FuncData
  a_ucell_at : Addr
  d_ucell_at : FuncData
  a_unumber : Addr
  d_unumber : FuncData
  a_unames : Addr
  d_unames : FuncData
  a_uscale : Addr
  d_uscale : FuncData
  a_ustream : Addr
  d_ustream : FuncData
  a_uteller : Addr
  d_uteller : FuncData
  a_ubound : Addr
  d_ubound : FuncData
  a_uplan : Addr
  d_uplan : FuncData
  a_uevent : Addr
  d_uevent : FuncData
  a_ujoined : Addr
  d_ujoined : FuncData
  a_umeant : Addr
  d_umeant : FuncData
  a_utold : Addr
  d_utold : FuncData
  a_ucomes : Addr
  d_ucomes : FuncData
  a_law : Addr
  d_law : FuncData
  c_Side : Addr
  c_Join : Addr
  o_PAIRED : Addr
  o_TELLERS : Addr
structure Tx (K : W.Frag) (mg : Str → Option Value) (ad : Ad) : Prop where
  F_u_wall : Fun K "_wall" "_wall" s_u_wall ad.a_u_wall ad.d_u_wall
  b_u_wall : Binds K ad.d_u_wall ["k"] []
  m_u_wall : mg "_wall" = some (.ref ad.a_u_wall)
  F_names_end : Fun K "names_end" "names_end" s_names_end ad.a_names_end ad.d_names_end
  b_names_end : Binds K ad.d_names_end ["step"] []
  m_names_end : mg "names_end" = some (.ref ad.a_names_end)
  F_name_of : Fun K "name_of" "name_of" s_name_of ad.a_name_of ad.d_name_of
  b_name_of : Binds K ad.d_name_of ["step"] []
  m_name_of : mg "name_of" = some (.ref ad.a_name_of)
  F_feeders : Fun K "feeders" "feeders" s_feeders ad.a_feeders ad.d_feeders
  b_feeders : Binds K ad.d_feeders ["step"] []
  m_feeders : mg "feeders" = some (.ref ad.a_feeders)
  F_is_teller : Fun K "is_teller" "is_teller" s_is_teller ad.a_is_teller ad.d_is_teller
  b_is_teller : Binds K ad.d_is_teller ["step"] []
  m_is_teller : mg "is_teller" = some (.ref ad.a_is_teller)
  F_taken : Fun K "taken" "taken" s_taken ad.a_taken ad.d_taken
  b_taken : Binds K ad.d_taken ["step", "event"] []
  m_taken : mg "taken" = some (.ref ad.a_taken)
  F_turned : Fun K "turned" "turned" s_turned ad.a_turned ad.d_turned
  b_turned : Binds K ad.d_turned ["step", "item"] []
  m_turned : mg "turned" = some (.ref ad.a_turned)
  F_passed : Fun K "passed" "passed" s_passed ad.a_passed ad.d_passed
  b_passed : Binds K ad.d_passed ["step", "streams"] []
  m_passed : mg "passed" = some (.ref ad.a_passed)
  F_joined : Fun K "joined" "joined" s_joined ad.a_joined ad.d_joined
  b_joined : Binds K ad.d_joined ["join", "streams"] []
  m_joined : mg "joined" = some (.ref ad.a_joined)
  F_spread : Fun K "spread" "spread" s_spread ad.a_spread ad.d_spread
  b_spread : Binds K ad.d_spread ["plan", "joins", "event"] []
  m_spread : mg "spread" = some (.ref ad.a_spread)
  F_ahead : Fun K "ahead" "ahead" s_ahead ad.a_ahead ad.d_ahead
  b_ahead : Binds K ad.d_ahead ["rows", "mark"] []
  m_ahead : mg "ahead" = some (.ref ad.a_ahead)
  F_with_keys : Fun K "with_keys" "with_keys" s_with_keys ad.a_with_keys ad.d_with_keys
  b_with_keys : Binds K ad.d_with_keys ["rows"] []
  m_with_keys : mg "with_keys" = some (.ref ad.a_with_keys)
  F_Side___init__ : Fun K "__init__" "Side.__init__" s_Side___init__ ad.a_Side___init__ ad.d_Side___init__
  b_Side___init__ : Binds K ad.d_Side___init__ ["self"] []
  F_Side_put : Fun K "put" "Side.put" s_Side_put ad.a_Side_put ad.d_Side_put
  b_Side_put : Binds K ad.d_Side_put ["self", "item"] []
  F_Side_near : Fun K "near" "Side.near" s_Side_near ad.a_Side_near ad.d_Side_near
  b_Side_near : Binds K ad.d_Side_near ["self", "key", "low", "high"] []
  F_Side_drop : Fun K "drop" "Side.drop" s_Side_drop ad.a_Side_drop ad.d_Side_drop
  b_Side_drop : Binds K ad.d_Side_drop ["self", "least"] []
  F_Side_kept : Fun K "kept" "Side.kept" s_Side_kept ad.a_Side_kept ad.d_Side_kept
  b_Side_kept : Binds K ad.d_Side_kept ["self"] []
  F_met_item : Fun K "met_item" "met_item" s_met_item ad.a_met_item ad.d_met_item
  b_met_item : Binds K ad.d_met_item ["side", "item", "pair"] []
  m_met_item : mg "met_item" = some (.ref ad.a_met_item)
  F_Join___init__ : Fun K "__init__" "Join.__init__" s_Join___init__ ad.a_Join___init__ ad.d_Join___init__
  b_Join___init__ : Binds K ad.d_Join___init__ ["self", "within"] []
  F_Join_come : Fun K "come" "Join.come" s_Join_come ad.a_Join_come ad.d_Join_come
  b_Join_come : Binds K ad.d_Join_come ["self", "side", "item"] []
  F_Join_drop : Fun K "drop" "Join.drop" s_Join_drop ad.a_Join_drop ad.d_Join_drop
  b_Join_drop : Binds K ad.d_Join_drop ["self", "now"] []
  F_ucell_at : Fun K "_law_cell_at" "_law_cell_at" s_ucell_at ad.a_ucell_at ad.d_ucell_at
  b_ucell_at : Binds K ad.d_ucell_at ["_law_script", "_law_k"] []
  m_ucell_at : mg "_law_cell_at" = some (.ref ad.a_ucell_at)
  F_unumber : Fun K "_law_number" "_law_number" s_unumber ad.a_unumber ad.d_unumber
  b_unumber : Binds K ad.d_unumber ["_law_script", "_law_k"] []
  m_unumber : mg "_law_number" = some (.ref ad.a_unumber)
  F_unames : Fun K "_law_names" "_law_names" s_unames ad.a_unames ad.d_unames
  b_unames : Binds K ad.d_unames ["_law_script", "_law_start", "_law_many"] []
  m_unames : mg "_law_names" = some (.ref ad.a_unames)
  F_uscale : Fun K "_law_scale" "_law_scale" s_uscale ad.a_uscale ad.d_uscale
  b_uscale : Binds K ad.d_uscale ["_law_script"] []
  m_uscale : mg "_law_scale" = some (.ref ad.a_uscale)
  F_ustream : Fun K "_law_stream" "_law_stream" s_ustream ad.a_ustream ad.d_ustream
  b_ustream : Binds K ad.d_ustream ["_law_name", "_law_number_here", "_law_streams", "_law_scale_here"] []
  m_ustream : mg "_law_stream" = some (.ref ad.a_ustream)
  F_uteller : Fun K "_law_teller" "_law_teller" s_uteller ad.a_uteller ad.d_uteller
  b_uteller : Binds K ad.d_uteller ["_law_name", "_law_number_here", "_law_streams", "_law_scale_here"] []
  m_uteller : mg "_law_teller" = some (.ref ad.a_uteller)
  F_ubound : Fun K "_law_bound" "_law_bound" s_ubound ad.a_ubound ad.d_ubound
  b_ubound : Binds K ad.d_ubound ["_law_step", "_law_sizes", "_law_most"] []
  m_ubound : mg "_law_bound" = some (.ref ad.a_ubound)
  F_uplan : Fun K "_law_plan" "_law_plan" s_uplan ad.a_uplan ad.d_uplan
  b_uplan : Binds K ad.d_uplan ["_law_script", "_law_most"] []
  m_uplan : mg "_law_plan" = some (.ref ad.a_uplan)
  F_uevent : Fun K "_law_event" "_law_event" s_uevent ad.a_uevent ad.d_uevent
  b_uevent : Binds K ad.d_uevent ["_law_script", "_law_k"] []
  m_uevent : mg "_law_event" = some (.ref ad.a_uevent)
  F_ujoined : Fun K "_law_joined" "_law_joined" s_ujoined ad.a_ujoined ad.d_ujoined
  b_ujoined : Binds K ad.d_ujoined ["_law_ones", "_law_others", "_law_within"] []
  m_ujoined : mg "_law_joined" = some (.ref ad.a_ujoined)
  F_umeant : Fun K "_law_meant" "_law_meant" s_umeant ad.a_umeant ad.d_umeant
  b_umeant : Binds K ad.d_umeant ["_law_step", "_law_streams", "_law_events"] []
  m_umeant : mg "_law_meant" = some (.ref ad.a_umeant)
  F_utold : Fun K "_law_told" "_law_told" s_utold ad.a_utold ad.d_utold
  b_utold : Binds K ad.d_utold ["_law_plan_here", "_law_events"] []
  m_utold : mg "_law_told" = some (.ref ad.a_utold)
  F_ucomes : Fun K "_law_comes" "_law_comes" s_ucomes ad.a_ucomes ad.d_ucomes
  b_ucomes : Binds K ad.d_ucomes ["_law_found", "_law_before", "_law_behind"] []
  m_ucomes : mg "_law_comes" = some (.ref ad.a_ucomes)
  F_law : Fun K "law" "law" s_law ad.a_law ad.d_law
  b_law : Binds K ad.d_law ["_law_script"] []
  m_law : mg "law" = some (.ref ad.a_law)
  mc_Side : mg "Side" = some (.ref ad.c_Side)
  cl_Side : Cls K ad.c_Side
  n_Side_rows : NoAttr K ad.c_Side "rows"
  me_Side___init__ : Meth K ad.c_Side "__init__" ad.a_Side___init__
  me_Side_put : Meth K ad.c_Side "put" ad.a_Side_put
  me_Side_near : Meth K ad.c_Side "near" ad.a_Side_near
  me_Side_drop : Meth K ad.c_Side "drop" ad.a_Side_drop
  me_Side_kept : Meth K ad.c_Side "kept" ad.a_Side_kept
  mk_Side : Mk K ad.c_Side ad.a_Side___init__
  mc_Join : mg "Join" = some (.ref ad.c_Join)
  cl_Join : Cls K ad.c_Join
  n_Join_within : NoAttr K ad.c_Join "within"
  n_Join_sides : NoAttr K ad.c_Join "sides"
  me_Join___init__ : Meth K ad.c_Join "__init__" ad.a_Join___init__
  me_Join_come : Meth K ad.c_Join "come" ad.a_Join_come
  me_Join_drop : Meth K ad.c_Join "drop" ad.a_Join_drop
  mk_Join : Mk K ad.c_Join ad.a_Join___init__
  g_PAIRED : mg "PAIRED" = some (.ref ad.o_PAIRED)
  q_PAIRED : ∀ H,SqT K H ad.o_PAIRED [.str "both", .str "join"]
  k_PAIRED : ∃ o,K.lookup ad.o_PAIRED = some o ∧ o.cls = .type "tuple" ∧ o.dict = none
  g_TELLERS : mg "TELLERS" = some (.ref ad.o_TELLERS)
  q_TELLERS : ∀ H,SqT K H ad.o_TELLERS [.str "each", .str "gap"]
  k_TELLERS : ∃ o,K.lookup ad.o_TELLERS = some o ∧ o.cls = .type "tuple" ∧ o.dict = none
  z_abs : mg "abs" = none
  z_enumerate : mg "enumerate" = none
  z_int : mg "int" = none
  z_isinstance : mg "isinstance" = none
  z_len : mg "len" = none
  z_list : mg "list" = none
  z_max : mg "max" = none
  z_min : mg "min" = none
  z_range : mg "range" = none
  z_sorted : mg "sorted" = none
  z_tuple : mg "tuple" = none
theorem tx_mk {K : W.Frag} {h : Heap} {mg : Str → Option Value} (X : K.In h) (G : h.Ns mainGlobals mg)
    {f_u_wall : Addr} {d_u_wall : FuncData}
    {f_names_end : Addr} {d_names_end : FuncData}
    {f_name_of : Addr} {d_name_of : FuncData}
    {f_feeders : Addr} {d_feeders : FuncData}
    {f_is_teller : Addr} {d_is_teller : FuncData}
    {f_taken : Addr} {d_taken : FuncData}
    {f_turned : Addr} {d_turned : FuncData}
    {f_passed : Addr} {d_passed : FuncData}
    {f_joined : Addr} {d_joined : FuncData}
    {f_spread : Addr} {d_spread : FuncData}
    {f_ahead : Addr} {d_ahead : FuncData}
    {f_with_keys : Addr} {d_with_keys : FuncData}
    {c_Side : Addr}
    {f_Side___init__ : Addr} {d_Side___init__ : FuncData}
    {f_Side_put : Addr} {d_Side_put : FuncData}
    {f_Side_near : Addr} {d_Side_near : FuncData}
    {f_Side_drop : Addr} {d_Side_drop : FuncData}
    {f_Side_kept : Addr} {d_Side_kept : FuncData}
    {f_met_item : Addr} {d_met_item : FuncData}
    {c_Join : Addr}
    {f_Join___init__ : Addr} {d_Join___init__ : FuncData}
    {f_Join_come : Addr} {d_Join_come : FuncData}
    {f_Join_drop : Addr} {d_Join_drop : FuncData}
    {f_ucell_at : Addr} {d_ucell_at : FuncData}
    {f_unumber : Addr} {d_unumber : FuncData}
    {f_unames : Addr} {d_unames : FuncData}
    {f_uscale : Addr} {d_uscale : FuncData}
    {f_ustream : Addr} {d_ustream : FuncData}
    {f_uteller : Addr} {d_uteller : FuncData}
    {f_ubound : Addr} {d_ubound : FuncData}
    {f_uplan : Addr} {d_uplan : FuncData}
    {f_uevent : Addr} {d_uevent : FuncData}
    {f_ujoined : Addr} {d_ujoined : FuncData}
    {f_umeant : Addr} {d_umeant : FuncData}
    {f_utold : Addr} {d_utold : FuncData}
    {f_ucomes : Addr} {d_ucomes : FuncData}
    {f_law : Addr} {d_law : FuncData}
    {o_PAIRED : Addr}
    {t0_PAIRED t1_PAIRED : Tok}
    {n_PAIRED : Nat} {sl_PAIRED : Array (Option Value)}
    {o_TELLERS : Addr}
    {t0_TELLERS t1_TELLERS : Tok}
    {n_TELLERS : Nat} {sl_TELLERS : Array (Option Value)}
    (a_u_wall : W.nsIn K mainGlobals "_wall" = some (some (.ref f_u_wall)))
    (F_u_wall : Fun K "_wall" "_wall" s_u_wall f_u_wall d_u_wall)
    (a_names_end : W.nsIn K mainGlobals "names_end" = some (some (.ref f_names_end)))
    (F_names_end : Fun K "names_end" "names_end" s_names_end f_names_end d_names_end)
    (a_name_of : W.nsIn K mainGlobals "name_of" = some (some (.ref f_name_of)))
    (F_name_of : Fun K "name_of" "name_of" s_name_of f_name_of d_name_of)
    (a_feeders : W.nsIn K mainGlobals "feeders" = some (some (.ref f_feeders)))
    (F_feeders : Fun K "feeders" "feeders" s_feeders f_feeders d_feeders)
    (a_is_teller : W.nsIn K mainGlobals "is_teller" = some (some (.ref f_is_teller)))
    (F_is_teller : Fun K "is_teller" "is_teller" s_is_teller f_is_teller d_is_teller)
    (a_taken : W.nsIn K mainGlobals "taken" = some (some (.ref f_taken)))
    (F_taken : Fun K "taken" "taken" s_taken f_taken d_taken)
    (a_turned : W.nsIn K mainGlobals "turned" = some (some (.ref f_turned)))
    (F_turned : Fun K "turned" "turned" s_turned f_turned d_turned)
    (a_passed : W.nsIn K mainGlobals "passed" = some (some (.ref f_passed)))
    (F_passed : Fun K "passed" "passed" s_passed f_passed d_passed)
    (a_joined : W.nsIn K mainGlobals "joined" = some (some (.ref f_joined)))
    (F_joined : Fun K "joined" "joined" s_joined f_joined d_joined)
    (a_spread : W.nsIn K mainGlobals "spread" = some (some (.ref f_spread)))
    (F_spread : Fun K "spread" "spread" s_spread f_spread d_spread)
    (a_ahead : W.nsIn K mainGlobals "ahead" = some (some (.ref f_ahead)))
    (F_ahead : Fun K "ahead" "ahead" s_ahead f_ahead d_ahead)
    (a_with_keys : W.nsIn K mainGlobals "with_keys" = some (some (.ref f_with_keys)))
    (F_with_keys : Fun K "with_keys" "with_keys" s_with_keys f_with_keys d_with_keys)
    (a_Side : W.nsIn K mainGlobals "Side" = some (some (.ref c_Side)))
    (a_Side___init__ : W.findIn K (.ref c_Side) "__init__" = some (some (.ref f_Side___init__)))
    (F_Side___init__ : Fun K "__init__" "Side.__init__" s_Side___init__ f_Side___init__ d_Side___init__)
    (a_Side_put : W.findIn K (.ref c_Side) "put" = some (some (.ref f_Side_put)))
    (F_Side_put : Fun K "put" "Side.put" s_Side_put f_Side_put d_Side_put)
    (a_Side_near : W.findIn K (.ref c_Side) "near" = some (some (.ref f_Side_near)))
    (F_Side_near : Fun K "near" "Side.near" s_Side_near f_Side_near d_Side_near)
    (a_Side_drop : W.findIn K (.ref c_Side) "drop" = some (some (.ref f_Side_drop)))
    (F_Side_drop : Fun K "drop" "Side.drop" s_Side_drop f_Side_drop d_Side_drop)
    (a_Side_kept : W.findIn K (.ref c_Side) "kept" = some (some (.ref f_Side_kept)))
    (F_Side_kept : Fun K "kept" "Side.kept" s_Side_kept f_Side_kept d_Side_kept)
    (a_met_item : W.nsIn K mainGlobals "met_item" = some (some (.ref f_met_item)))
    (F_met_item : Fun K "met_item" "met_item" s_met_item f_met_item d_met_item)
    (a_Join : W.nsIn K mainGlobals "Join" = some (some (.ref c_Join)))
    (a_Join___init__ : W.findIn K (.ref c_Join) "__init__" = some (some (.ref f_Join___init__)))
    (F_Join___init__ : Fun K "__init__" "Join.__init__" s_Join___init__ f_Join___init__ d_Join___init__)
    (a_Join_come : W.findIn K (.ref c_Join) "come" = some (some (.ref f_Join_come)))
    (F_Join_come : Fun K "come" "Join.come" s_Join_come f_Join_come d_Join_come)
    (a_Join_drop : W.findIn K (.ref c_Join) "drop" = some (some (.ref f_Join_drop)))
    (F_Join_drop : Fun K "drop" "Join.drop" s_Join_drop f_Join_drop d_Join_drop)
    (a_ucell_at : W.nsIn K mainGlobals "_law_cell_at" = some (some (.ref f_ucell_at)))
    (F_ucell_at : Fun K "_law_cell_at" "_law_cell_at" s_ucell_at f_ucell_at d_ucell_at)
    (a_unumber : W.nsIn K mainGlobals "_law_number" = some (some (.ref f_unumber)))
    (F_unumber : Fun K "_law_number" "_law_number" s_unumber f_unumber d_unumber)
    (a_unames : W.nsIn K mainGlobals "_law_names" = some (some (.ref f_unames)))
    (F_unames : Fun K "_law_names" "_law_names" s_unames f_unames d_unames)
    (a_uscale : W.nsIn K mainGlobals "_law_scale" = some (some (.ref f_uscale)))
    (F_uscale : Fun K "_law_scale" "_law_scale" s_uscale f_uscale d_uscale)
    (a_ustream : W.nsIn K mainGlobals "_law_stream" = some (some (.ref f_ustream)))
    (F_ustream : Fun K "_law_stream" "_law_stream" s_ustream f_ustream d_ustream)
    (a_uteller : W.nsIn K mainGlobals "_law_teller" = some (some (.ref f_uteller)))
    (F_uteller : Fun K "_law_teller" "_law_teller" s_uteller f_uteller d_uteller)
    (a_ubound : W.nsIn K mainGlobals "_law_bound" = some (some (.ref f_ubound)))
    (F_ubound : Fun K "_law_bound" "_law_bound" s_ubound f_ubound d_ubound)
    (a_uplan : W.nsIn K mainGlobals "_law_plan" = some (some (.ref f_uplan)))
    (F_uplan : Fun K "_law_plan" "_law_plan" s_uplan f_uplan d_uplan)
    (a_uevent : W.nsIn K mainGlobals "_law_event" = some (some (.ref f_uevent)))
    (F_uevent : Fun K "_law_event" "_law_event" s_uevent f_uevent d_uevent)
    (a_ujoined : W.nsIn K mainGlobals "_law_joined" = some (some (.ref f_ujoined)))
    (F_ujoined : Fun K "_law_joined" "_law_joined" s_ujoined f_ujoined d_ujoined)
    (a_umeant : W.nsIn K mainGlobals "_law_meant" = some (some (.ref f_umeant)))
    (F_umeant : Fun K "_law_meant" "_law_meant" s_umeant f_umeant d_umeant)
    (a_utold : W.nsIn K mainGlobals "_law_told" = some (some (.ref f_utold)))
    (F_utold : Fun K "_law_told" "_law_told" s_utold f_utold d_utold)
    (a_ucomes : W.nsIn K mainGlobals "_law_comes" = some (some (.ref f_ucomes)))
    (F_ucomes : Fun K "_law_comes" "_law_comes" s_ucomes f_ucomes d_ucomes)
    (a_law : W.nsIn K mainGlobals "law" = some (some (.ref f_law)))
    (F_law : Fun K "law" "law" s_law f_law d_law)
    (pg_Side : W.plainGet K c_Side Str.empty = true)
    (hd_Side : W.hasDictIn K c_Side = true)
    (po_Side : W.plainOver K c_Side = true)
    (sa_Side : W.findIn K (.ref c_Side) "__setattr__" = some (some (.builtin "object.__setattr__")))
    (n_Side_rows : W.findIn K (.ref c_Side) "rows" = some none)
    (fn_Side___init__ : W.isFn K (.ref f_Side___init__) = true)
    (fn_Side_put : W.isFn K (.ref f_Side_put) = true)
    (fn_Side_near : W.isFn K (.ref f_Side_near) = true)
    (fn_Side_drop : W.isFn K (.ref f_Side_drop) = true)
    (fn_Side_kept : W.isFn K (.ref f_Side_kept) = true)
    (mks_Side : W.makesIn K c_Side = true)
    (kp_Side : W.keepIn K (.ref c_Side) = true)
    (pg_Join : W.plainGet K c_Join Str.empty = true)
    (hd_Join : W.hasDictIn K c_Join = true)
    (po_Join : W.plainOver K c_Join = true)
    (sa_Join : W.findIn K (.ref c_Join) "__setattr__" = some (some (.builtin "object.__setattr__")))
    (n_Join_within : W.findIn K (.ref c_Join) "within" = some none)
    (n_Join_sides : W.findIn K (.ref c_Join) "sides" = some none)
    (fn_Join___init__ : W.isFn K (.ref f_Join___init__) = true)
    (fn_Join_come : W.isFn K (.ref f_Join_come) = true)
    (fn_Join_drop : W.isFn K (.ref f_Join_drop) = true)
    (mks_Join : W.makesIn K c_Join = true)
    (kp_Join : W.keepIn K (.ref c_Join) = true)
    (g_PAIRED : W.nsIn K mainGlobals "PAIRED" = some (some (.ref o_PAIRED)))
    (l_PAIRED : K.lookup o_PAIRED = some ⟨.type "tuple", none,.seq #[.str "both" t0_PAIRED,.str "join" t1_PAIRED] n_PAIRED,sl_PAIRED⟩)
    (g_TELLERS : W.nsIn K mainGlobals "TELLERS" = some (some (.ref o_TELLERS)))
    (l_TELLERS : K.lookup o_TELLERS = some ⟨.type "tuple", none,.seq #[.str "each" t0_TELLERS,.str "gap" t1_TELLERS] n_TELLERS,sl_TELLERS⟩)
    (z_abs : W.nsIn K mainGlobals "abs" = some none)
    (z_enumerate : W.nsIn K mainGlobals "enumerate" = some none)
    (z_int : W.nsIn K mainGlobals "int" = some none)
    (z_isinstance : W.nsIn K mainGlobals "isinstance" = some none)
    (z_len : W.nsIn K mainGlobals "len" = some none)
    (z_list : W.nsIn K mainGlobals "list" = some none)
    (z_max : W.nsIn K mainGlobals "max" = some none)
    (z_min : W.nsIn K mainGlobals "min" = some none)
    (z_range : W.nsIn K mainGlobals "range" = some none)
    (z_sorted : W.nsIn K mainGlobals "sorted" = some none)
    (z_tuple : W.nsIn K mainGlobals "tuple" = some none)
    : Tx K mg (⟨f_u_wall,d_u_wall,f_names_end,d_names_end,f_name_of,d_name_of,f_feeders,d_feeders,f_is_teller,d_is_teller,f_taken,d_taken,f_turned,d_turned,f_passed,d_passed,f_joined,d_joined,f_spread,d_spread,f_ahead,d_ahead,f_with_keys,d_with_keys,f_Side___init__,d_Side___init__,f_Side_put,d_Side_put,f_Side_near,d_Side_near,f_Side_drop,d_Side_drop,f_Side_kept,d_Side_kept,f_met_item,d_met_item,f_Join___init__,d_Join___init__,f_Join_come,d_Join_come,f_Join_drop,d_Join_drop,f_ucell_at,d_ucell_at,f_unumber,d_unumber,f_unames,d_unames,f_uscale,d_uscale,f_ustream,d_ustream,f_uteller,d_uteller,f_ubound,d_ubound,f_uplan,d_uplan,f_uevent,d_uevent,f_ujoined,d_ujoined,f_umeant,d_umeant,f_utold,d_utold,f_ucomes,d_ucomes,f_law,d_law,c_Side,c_Join,o_PAIRED,o_TELLERS⟩ : Ad) :=
  ⟨F_u_wall,
    F_u_wall.binds fun _ _ _ _ _ _ us hl => match us,hl with | [_],_ => rfl,
    W.mg_of X G a_u_wall,
    F_names_end,
    F_names_end.binds fun _ _ _ _ _ _ us hl => match us,hl with | [_],_ => rfl,
    W.mg_of X G a_names_end,
    F_name_of,
    F_name_of.binds fun _ _ _ _ _ _ us hl => match us,hl with | [_],_ => rfl,
    W.mg_of X G a_name_of,
    F_feeders,
    F_feeders.binds fun _ _ _ _ _ _ us hl => match us,hl with | [_],_ => rfl,
    W.mg_of X G a_feeders,
    F_is_teller,
    F_is_teller.binds fun _ _ _ _ _ _ us hl => match us,hl with | [_],_ => rfl,
    W.mg_of X G a_is_teller,
    F_taken,
    F_taken.binds fun _ _ _ _ _ _ us hl => match us,hl with | [_,_],_ => rfl,
    W.mg_of X G a_taken,
    F_turned,
    F_turned.binds fun _ _ _ _ _ _ us hl => match us,hl with | [_,_],_ => rfl,
    W.mg_of X G a_turned,
    F_passed,
    F_passed.binds fun _ _ _ _ _ _ us hl => match us,hl with | [_,_],_ => rfl,
    W.mg_of X G a_passed,
    F_joined,
    F_joined.binds fun _ _ _ _ _ _ us hl => match us,hl with | [_,_],_ => rfl,
    W.mg_of X G a_joined,
    F_spread,
    F_spread.binds fun _ _ _ _ _ _ us hl => match us,hl with | [_,_,_],_ => rfl,
    W.mg_of X G a_spread,
    F_ahead,
    F_ahead.binds fun _ _ _ _ _ _ us hl => match us,hl with | [_,_],_ => rfl,
    W.mg_of X G a_ahead,
    F_with_keys,
    F_with_keys.binds fun _ _ _ _ _ _ us hl => match us,hl with | [_],_ => rfl,
    W.mg_of X G a_with_keys,
    F_Side___init__,
    F_Side___init__.binds fun _ _ _ _ _ _ us hl => match us,hl with | [_],_ => rfl,
    F_Side_put,
    F_Side_put.binds fun _ _ _ _ _ _ us hl => match us,hl with | [_,_],_ => rfl,
    F_Side_near,
    F_Side_near.binds fun _ _ _ _ _ _ us hl => match us,hl with | [_,_,_,_],_ => rfl,
    F_Side_drop,
    F_Side_drop.binds fun _ _ _ _ _ _ us hl => match us,hl with | [_,_],_ => rfl,
    F_Side_kept,
    F_Side_kept.binds fun _ _ _ _ _ _ us hl => match us,hl with | [_],_ => rfl,
    F_met_item,
    F_met_item.binds fun _ _ _ _ _ _ us hl => match us,hl with | [_,_,_],_ => rfl,
    W.mg_of X G a_met_item,
    F_Join___init__,
    F_Join___init__.binds fun _ _ _ _ _ _ us hl => match us,hl with | [_,_],_ => rfl,
    F_Join_come,
    F_Join_come.binds fun _ _ _ _ _ _ us hl => match us,hl with | [_,_,_],_ => rfl,
    F_Join_drop,
    F_Join_drop.binds fun _ _ _ _ _ _ us hl => match us,hl with | [_,_],_ => rfl,
    F_ucell_at,
    F_ucell_at.binds fun _ _ _ _ _ _ us hl => match us,hl with | [_,_],_ => rfl,
    W.mg_of X G a_ucell_at,
    F_unumber,
    F_unumber.binds fun _ _ _ _ _ _ us hl => match us,hl with | [_,_],_ => rfl,
    W.mg_of X G a_unumber,
    F_unames,
    F_unames.binds fun _ _ _ _ _ _ us hl => match us,hl with | [_,_,_],_ => rfl,
    W.mg_of X G a_unames,
    F_uscale,
    F_uscale.binds fun _ _ _ _ _ _ us hl => match us,hl with | [_],_ => rfl,
    W.mg_of X G a_uscale,
    F_ustream,
    F_ustream.binds fun _ _ _ _ _ _ us hl => match us,hl with | [_,_,_,_],_ => rfl,
    W.mg_of X G a_ustream,
    F_uteller,
    F_uteller.binds fun _ _ _ _ _ _ us hl => match us,hl with | [_,_,_,_],_ => rfl,
    W.mg_of X G a_uteller,
    F_ubound,
    F_ubound.binds fun _ _ _ _ _ _ us hl => match us,hl with | [_,_,_],_ => rfl,
    W.mg_of X G a_ubound,
    F_uplan,
    F_uplan.binds fun _ _ _ _ _ _ us hl => match us,hl with | [_,_],_ => rfl,
    W.mg_of X G a_uplan,
    F_uevent,
    F_uevent.binds fun _ _ _ _ _ _ us hl => match us,hl with | [_,_],_ => rfl,
    W.mg_of X G a_uevent,
    F_ujoined,
    F_ujoined.binds fun _ _ _ _ _ _ us hl => match us,hl with | [_,_,_],_ => rfl,
    W.mg_of X G a_ujoined,
    F_umeant,
    F_umeant.binds fun _ _ _ _ _ _ us hl => match us,hl with | [_,_,_],_ => rfl,
    W.mg_of X G a_umeant,
    F_utold,
    F_utold.binds fun _ _ _ _ _ _ us hl => match us,hl with | [_,_],_ => rfl,
    W.mg_of X G a_utold,
    F_ucomes,
    F_ucomes.binds fun _ _ _ _ _ _ us hl => match us,hl with | [_,_,_],_ => rfl,
    W.mg_of X G a_ucomes,
    F_law,
    F_law.binds fun _ _ _ _ _ _ us hl => match us,hl with | [_],_ => rfl,
    W.mg_of X G a_law,
    W.mg_of X G a_Side,
    ⟨pg_Side,hd_Side,po_Side,sa_Side⟩,
    n_Side_rows,
    ⟨a_Side___init__,fn_Side___init__,F_Side___init__.kp⟩,
    ⟨a_Side_put,fn_Side_put,F_Side_put.kp⟩,
    ⟨a_Side_near,fn_Side_near,F_Side_near.kp⟩,
    ⟨a_Side_drop,fn_Side_drop,F_Side_drop.kp⟩,
    ⟨a_Side_kept,fn_Side_kept,F_Side_kept.kp⟩,
    ⟨mks_Side,a_Side___init__,fn_Side___init__,kp_Side⟩,
    W.mg_of X G a_Join,
    ⟨pg_Join,hd_Join,po_Join,sa_Join⟩,
    n_Join_within,
    n_Join_sides,
    ⟨a_Join___init__,fn_Join___init__,F_Join___init__.kp⟩,
    ⟨a_Join_come,fn_Join_come,F_Join_come.kp⟩,
    ⟨a_Join_drop,fn_Join_drop,F_Join_drop.kp⟩,
    ⟨mks_Join,a_Join___init__,fn_Join___init__,kp_Join⟩,
    W.mg_of X G g_PAIRED,
    fun H => .inr ⟨_,_,_,l_PAIRED,rfl,rfl,by first | decide | exact (by decide : 2 ≤ sizeLine),by repeat (first | exact .nil | refine .cons ?_ ?_ | exact ⟨_,rfl⟩ | rfl)⟩,
    ⟨_,l_PAIRED,rfl,rfl⟩,
    W.mg_of X G g_TELLERS,
    fun H => .inr ⟨_,_,_,l_TELLERS,rfl,rfl,by first | decide | exact (by decide : 2 ≤ sizeLine),by repeat (first | exact .nil | refine .cons ?_ ?_ | exact ⟨_,rfl⟩ | rfl)⟩,
    ⟨_,l_TELLERS,rfl,rfl⟩,
    W.mg_none_of X G z_abs,
    W.mg_none_of X G z_enumerate,
    W.mg_none_of X G z_int,
    W.mg_none_of X G z_isinstance,
    W.mg_none_of X G z_len,
    W.mg_none_of X G z_list,
    W.mg_none_of X G z_max,
    W.mg_none_of X G z_min,
    W.mg_none_of X G z_range,
    W.mg_none_of X G z_sorted,
    W.mg_none_of X G z_tuple⟩
variable {P : Program} {w : World} {K : W.Frag} {mg : Str → Option Value} {base : Heap} {ad : Ad}
def sp_law (K : W.Frag) : Sp := fun vs H Q _ => ∃ (a : Addr) (ns : List Int),vs = [.ref a] ∧ SqL K H a (ns.map V.int) ∧ ns.length ≤ 63 ∧ ∀ H',Q (.bl true) H'
theorem law_sp (K : W.Frag) (H : Hp) (a : Addr) (ns : List Int) (hl : ns.length ≤ 63) (_ : Only H) (hS : SqL K H a (ns.map V.int)) : sp_law K [.ref a] H (fun v _ => v = .bl true) fun _ _ _ => False := ⟨a,ns,rfl,hS,hl,fun _ => rfl⟩
abbrev depth : Nat := 7
abbrev LET : Str := "abcdefghijklmnopqrstuvwxyz"
def AS (z : Str) : Prop := ∀ c ∈ z.cps.toList,c < 128
theorem len_cps (z : Str) : z.length = z.cps.toList.length := by simp [Str.length]
theorem cps_app (a b : Str) : (a ++ b).cps.toList = a.cps.toList ++ b.cps.toList := by
  show (a.cps ++ b.cps).toList = _
  simp
theorem AS.ok {z : Str} (h : AS z) : PyData.strOk z = true := by
  unfold PyData.strOk
  rw [← Array.all_toList,List.all_eq_true]
  intro c hc
  have := h c hc
  simp
  omega
theorem AS.app {a b : Str} (ha : AS a) (hb : AS b) : AS (a ++ b) := fun c hc => by
  rw [cps_app] at hc
  rcases List.mem_append.mp hc with h | h
  · exact ha c h
  · exact hb c h
theorem cut_parts {x : Str} {j k : Int} (h0 : 0 ≤ j) (h1 : j ≤ k) (h2 : k ≤ (x.length : Int)) (hx : AS x) : AS (Txt.slice x none (some j)) ∧ AS (Txt.slice x (some k) none) ∧ ((Txt.slice x none (some j)).length : Int) = j ∧ ((Txt.slice x (some k) none).length : Int) = x.length - k := by
  have e1 : Txt.slice x none (some j) = StrLaws.sliceText x none (some j) := rfl
  have e2 : Txt.slice x (some k) none = StrLaws.sliceText x (some k) none := rfl
  have hl := len_cps x
  rw [e1,e2,StrLaws.sliceText_to ⟨h0,by omega⟩,StrLaws.sliceText_from ⟨by omega,by omega⟩]
  refine ⟨fun c hc => hx c (List.mem_of_mem_drop (List.mem_of_mem_take hc)),fun c hc => hx c (List.mem_of_mem_drop (List.mem_of_mem_take hc)),?_,?_⟩
  · rw [len_cps]
    show (((List.take _ (List.drop 0 _)).length : Nat) : Int) = _
    rw [List.length_take,List.length_drop]
    omega
  · rw [len_cps]
    show (((List.take _ (List.drop _ _)).length : Nat) : Int) = _
    rw [List.length_take,List.length_drop]
    omega
theorem let_at (m : Int) : ∃ c,atI LET.cps.toList (m % 26) = some c ∧ AS ⟨#[c]⟩ := by
  obtain ⟨v,hv,hm⟩ := atI_mod LET.cps.toList 26 (by decide +kernel) (by decide) m
  have all : ∀ c ∈ LET.cps.toList,c < 128 := by decide +kernel
  refine ⟨v,hv,fun c hc => ?_⟩
  have e : c = v := by simpa using hc
  rw [e]
  exact all v hm
def spAt (K : W.Frag) : Sp := fun vs H Q _ => ∃ (a : Addr) (ns : List Int) (k : Int),vs = [.ref a,.int k] ∧ SqL K H a (ns.map V.int) ∧ 0 ≤ k ∧ ns.length ≤ 63 ∧ ∀ r : Int,Q (.int r) H
theorem ok_at (T : Tx K mg ad) : FnOk P w K mg base CX0 1 ad.a_ucell_at ad.d_ucell_at ["_law_script", "_law_k"] (spAt K) := by
  refine T.F_ucell_at.ok sc_ucell_at (fun vs H Q E h => ?_) (fun cdv A outer s H vs Q E hr h => ?_)
  · obtain ⟨a,ns,k,rfl,_⟩ := h
    rfl
  · obtain ⟨a,ns,i,rfl,hS,h0,hl,k⟩ := h
    have nd := sc_ucell_at.nd
    refine ⟨_,(pss_cons (ps_if (pt_cmpR op_lt (pv 1) (pe_callB (call_len_seqK (K := K)) (by rfl) T.z_len PySem.boot_len (pa_cons (pv 0) pa_nil)) (nomark _))
        (pss_one (ps_ret (pe_ix (ix_listK (K := K)) (pv 0) (pv 1) (fun _ _ => rfl))))
        pss_nil)
        (pss_one (ps_ret pe_int))),?_⟩
    refine ⟨_,rfl,_,rfl,a,_,rfl,.inl hS,_,_,rfl,rfl,_,rfl,iteP (fun e => ?_) fun e => k 0⟩
    rw [List.length_map] at e
    have hlt : i.toNat < ns.length := by omega
    refine ⟨_,rfl,_,rfl,a,_,_,.int ns[i.toNat],rfl,rfl,hS,?_,k _⟩
    have q := atI_nat (xs := ns.map V.int) (j := i.toNat) (v := .int ns[i.toNat]) (by rw [List.getElem?_map,List.getElem?_eq_getElem hlt]; rfl)
    rw [Int.toNat_of_nonneg h0] at q
    exact q
def spNumber (K : W.Frag) : Sp := fun vs H Q _ => ∃ (a : Addr) (ns : List Int) (k : Int),vs = [.ref a,.int k] ∧ SqL K H a (ns.map V.int) ∧ ns.length ≤ 63 ∧ 0 ≤ k ∧ ∀ r : Int,0 ≤ r → Q (.int r) H
theorem ok_number (T : Tx K mg ad) : FnOk P w K mg base CX0 1 ad.a_unumber ad.d_unumber ["_law_script", "_law_k"] (spNumber K) := by
  refine T.F_unumber.ok sc_unumber (fun vs H Q E h => ?_) (fun cdv A outer s H vs Q E hr h => ?_)
  · obtain ⟨a,ns,k,rfl,_⟩ := h
    rfl
  · obtain ⟨a,ns,k,rfl,hS,hl,k0,q⟩ := h
    have nd := sc_unumber.nd
    refine ⟨_,(pss_cons (ps_if (pt_cmpR op_eq (pe_callB (call_len_seqK (K := K)) (by rfl) T.z_len PySem.boot_len (pa_cons (pv 0) pa_nil)) pe_int (nomark _))
        (pss_one (ps_ret (pe_op op_mul pe_int (pv 1))))
        pss_nil)
        (pss_cons (ps_set (i := 2) nd rfl (Or.inl rfl) (pe_op op_add (pe_op op_add (pe_ix (ix_listK (K := K)) (pv 0) (pe_op op_mod (pv 1) (pe_callB (call_len_seqK (K := K)) (by rfl) T.z_len PySem.boot_len (pa_cons (pv 0) pa_nil))) (fun _ _ => rfl)) (pe_op op_mul pe_int (pe_op op_fdiv (pv 1) (pe_callB (call_len_seqK (K := K)) (by rfl) T.z_len PySem.boot_len (pa_cons (pv 0) pa_nil))))) (pe_op op_mul pe_int (pv 1))))
        (pss_one (ps_ret (pe_op op_mod (pe_op op_mul (pv 2) pe_int) pe_int))))),?_⟩
    have e0 : ((ns.map V.int).length : Int) = ns.length := by rw [List.length_map]
    refine ⟨_,rfl,a,_,rfl,.inl hS,rfl,_,rfl,iteVI (fun e => ?_) fun e => ?_⟩
    · exact ⟨_,rfl,_,_,rfl,rfl,.inl ⟨by decide,by decide⟩,q _ (by omega)⟩
    · have e : 0 < (ns.map V.int).length := by omega
      obtain ⟨v,hv,hm⟩ := atI_mod (ns.map V.int) _ rfl (by omega) k
      obtain ⟨n,_,rfl⟩ := List.mem_map.mp hm
      refine ⟨_,rfl,_,rfl,_,rfl,a,_,rfl,.inl hS,_,_,rfl,rfl,(by show (0 : Int) < _; omega),a,_,_,_,rfl,rfl,hS,hv,?_⟩
      refine ⟨_,rfl,_,rfl,a,_,rfl,.inl hS,_,_,rfl,rfl,⟨by omega,by omega⟩,_,_,rfl,rfl,.inl ⟨by decide,by decide⟩,_,_,rfl,rfl,_,rfl,_,_,rfl,rfl,.inl ⟨by decide,by decide⟩,_,_,rfl,rfl,?_⟩
      exact ⟨_,rfl,_,_,rfl,rfl,.inr ⟨by decide,by decide⟩,_,_,rfl,rfl,(by decide : (0 : Int) < 2147483647),q _ (Int.emod_nonneg _ (by decide))⟩
def chN (m : Int) : Nat := 97 + (m % 26).toNat
theorem let_ch (m : Int) : atI LET.cps.toList (m % 26) = some (chN m) := by
  have all : ∀ r : Fin 26,atI LET.cps.toList (r.val : Int) = some (97 + r.val) := by decide +kernel
  have h0 := Int.emod_nonneg m (show (26 : Int) ≠ 0 by decide)
  have h1 := Int.emod_lt_of_pos m (show (0 : Int) < 26 by decide)
  have h := all ⟨(m % 26).toNat,by omega⟩
  have e : (((m % 26).toNat : Nat) : Int) = m % 26 := Int.toNat_of_nonneg h0
  rw [show ((⟨(m % 26).toNat,by omega⟩ : Fin 26).val : Int) = m % 26 from e] at h
  exact h
theorem ch_as (m : Int) : AS ⟨#[chN m]⟩ := fun c hc => by
  have e : c = chN m := by simpa using hc
  have h1 := Int.emod_lt_of_pos m (show (0 : Int) < 26 by decide)
  rw [e]
  unfold chN
  omega
def nmA (u v : Str) (c : Int) (k : Nat) : Str := u ++ ⟨#[chN (c + 3 * (k : Int))]⟩ ++ v
theorem nmA_inj {u v : Str} {c : Int} {i j : Nat} (hi : i < 12) (hj : j < 12) (e : nmA u v c i = nmA u v c j) : i = j := by
  have e1 := congrArg (fun z : Str => z.cps.toList) e
  unfold nmA at e1
  simp only [cps_app] at e1
  have e2 := List.append_cancel_right e1
  have e3 := List.append_cancel_left e2
  have e4 : chN (c + 3 * (i : Int)) = chN (c + 3 * (j : Int)) := by simpa using e3
  unfold chN at e4
  have h1 := Int.emod_nonneg (c + 3 * (i : Int)) (show (26 : Int) ≠ 0 by decide)
  have h2 := Int.emod_nonneg (c + 3 * (j : Int)) (show (26 : Int) ≠ 0 by decide)
  omega
theorem nmA_nodup (u v : Str) (c : Int) {n : Nat} (h : n ≤ 12) : ((List.range n).map (nmA u v c)).Nodup := by
  rw [List.Nodup,List.pairwise_map]
  refine List.Pairwise.imp_of_mem (fun {a b} ha hb hn e => ?_) List.nodup_range
  rw [List.mem_range] at ha hb
  exact hn (nmA_inj (by omega) (by omega) e)
def spNames (K : W.Frag) : Sp := fun vs H Q _ => ∃ (a : Addr) (ns : List Int) (st m : Int),vs = [.ref a,.int st,.int m] ∧ SqL K H a (ns.map V.int) ∧ ns.length ≤ 63 ∧ 0 ≤ st ∧ 0 ≤ m ∧ m ≤ 12 ∧
  ∀ l H' (zs : List Str),Same H H' → H l = none → H' l = some (.lst (zs.map V.str)) → (zs.length : Int) = m → zs.Nodup → (∀ z ∈ zs,AS z) → Q (.ref l) H'
theorem ok_names (T : Tx K mg ad) : FnOk P w K mg base CX0 2 ad.a_unames ad.d_unames ["_law_script", "_law_start", "_law_many"] (spNames K) := by
  have G_unumber := ok_number (P := P) (w := w) (base := base) T
  refine T.F_unames.ok sc_unames (fun vs H Q E h => ?_) (fun cdv A outer s H vs Q E hr h => ?_)
  · obtain ⟨a,ns,st,m,rfl,_⟩ := h
    rfl
  · obtain ⟨a,ns,st,m,rfl,hS,hl,st0,m0,m1,k⟩ := h
    have nd := sc_unames.nd
    refine ⟨_,(pss_cons (ps_set (i := 3) nd rfl (Or.inl rfl) pe_str)
        (pss_cons (ps_set (i := 4) nd rfl (Or.inl rfl) (pe_call G_unumber (hr.mono (by decide)) (by rfl) T.m_unumber T.F_unumber.kp T.b_unumber .nil pass0 (pa_cons (pv 0) (pa_cons (pv 1) pa_nil))))
        (pss_cons (ps_set (i := 5) nd rfl (Or.inl rfl) (pe_op op_add pe_int (pe_op op_mod (pe_op op_fdiv (pv 4) pe_int) pe_int)))
        (pss_cons (ps_set (i := 6) nd rfl (Or.inl rfl) pe_str)
        (pss_cons (ps_for PassesOwn.never rfl (pi_range1 (by rfl) T.z_range (pa_cons (pe_op op_add pe_int (pe_op op_mod (pv 4) pe_int)) pa_nil)) (pg_name (i := 7) nd rfl (Or.inl rfl))
        (pss_one (ps_set (i := 6) nd rfl (Or.inl rfl) (pe_op op_add_str (pv 6) (pe_ix ix_str (pv 3) (pe_op op_mod (pe_op op_add (pe_op op_fdiv (pv 4) pe_int) (pe_op op_mul (pv 7) (pv 5))) pe_int) (fun _ _ => rfl))))))
        (pss_cons (ps_set (i := 8) nd rfl (Or.inl rfl) (pe_op op_mod (pe_op op_fdiv (pv 4) pe_int) (pe_callB call_len_str (by rfl) T.z_len PySem.boot_len (pa_cons (pv 6) pa_nil))))
        (pss_cons (ps_set (i := 9) nd rfl (Or.inl rfl) (pe_lst pa_nil))
        (pss_cons (ps_for PassesOwn.never rfl (pi_range1 (by rfl) T.z_range (pa_cons (pv 2) pa_nil)) (pg_name (i := 10) nd rfl (Or.inl rfl))
        (pss_cons (ps_set (i := 11) nd rfl (Or.inl rfl) (pe_ix ix_str (pv 3) (pe_op op_mod (pe_op op_add (pe_op op_fdiv (pv 4) pe_int) (pe_op op_mul pe_int (pv 10))) pe_int) (fun _ _ => rfl)))
        (pss_one (ps_expr (pe_bmK (K := K) F.plainAttrs_list F.slot_list_append F.type_list_append mt_append (pv 9) (pa_cons (pe_op op_add_str (pe_op op_add_str (pe_slice sl_str (pv 6) po_none (po_some (pv 8))) (pv 11)) (pe_slice sl_str (pv 6) (po_some (pe_op op_add (pv 8) pe_int)) po_none)) pa_nil))))))
        (pss_one (ps_ret (pv 9))))))))))),?_⟩
    have sz : sizeLine = 16777216 := sizeLine_eq
    refine ⟨_,rfl,_,rfl,a,ns,_,rfl,hS,hl,st0,fun n n0 => ?_⟩
    refine ⟨_,rfl,_,_,rfl,rfl,⟨by decide,by decide⟩,_,_,rfl,rfl,(by decide : (0 : Int) < 25),_,_,rfl,rfl,?_⟩
    have b12 : 0 ≤ n % 12 ∧ n % 12 < 12 := ⟨Int.emod_nonneg _ (by decide),Int.emod_lt_of_pos _ (by decide)⟩
    have b25 : 0 ≤ n / 312 % 25 ∧ n / 312 % 25 < 25 := ⟨Int.emod_nonneg _ (by decide),Int.emod_lt_of_pos _ (by decide)⟩
    refine ⟨_,rfl,_,_,rfl,rfl,(by decide : (0 : Int) < 12),_,_,rfl,rfl,_,rfl,by omega,by omega,?_⟩
    refine for_range (fun j σ H' => H' = H ∧ ∃ (o7 : Option V) (z : Str),σ = [some (.ref a),some (.int st),some (.int m),some (.str LET),some (.int n),some (.int (1 + n / 312 % 25)),some (.str z),o7,none,none,none,none] ∧ z.length = j ∧ AS z)
      ⟨rfl,none, "", rfl,rfl,fun c hc => by cases hc⟩ ?_ ?_
    · rintro j σ H2 hj ⟨rfl,o8,z,rfl,hz1,hz2⟩
      rw [Int.zero_add]
      obtain ⟨ch,hch,hc2⟩ := let_at (n / 12 + (j : Int) * (1 + n / 312 % 25))
      refine ⟨_,rfl,_,rfl,_,rfl,_,_,rfl,rfl,⟨by decide,by decide⟩,_,rfl,_,rfl,_,_,rfl,rfl,.inr ⟨by omega,by omega⟩,_,_,rfl,rfl,_,_,rfl,rfl,(by decide : (0 : Int) < 26),_,_,_,rfl,rfl,by decide +kernel,hch,_,_,rfl,rfl,?_,rfl,_,_,rfl,?_,hz2.app hc2⟩
      · show z.length + 1 ≤ sizeLine
        omega
      · rw [PySem.Str.length_append,hz1]; rfl
    · rintro σ H2 ⟨rfl,o7,z,rfl,hz1,hz2⟩
      have hz3 : (z.length : Int) = 1 + n % 12 := by omega
      refine ⟨_,rfl,_,_,rfl,rfl,⟨by decide,by decide⟩,_,rfl,z,rfl,by omega,_,_,rfl,rfl,(by show (0 : Int) < (z.length : Int); omega),?_⟩
      have bp : 0 ≤ n / 7800 % (z.length : Int) ∧ n / 7800 % (z.length : Int) < (z.length : Int) := ⟨Int.emod_nonneg _ (by omega),Int.emod_lt_of_pos _ (by omega)⟩
      obtain ⟨p1,p2,p3,p4⟩ := cut_parts (x := z) (j := n / 7800 % (z.length : Int)) (k := n / 7800 % (z.length : Int) + 1) bp.1 (by omega) (by omega) hz2
      refine ⟨Nat.zero_le _,fun l hl0 => ⟨_,rfl,_,rfl,by omega,by omega,?_⟩⟩
      refine for_range (fun i σ H' => ∃ (o10 o11 : Option V),σ = [some (.ref a),some (.int st),some (.int m),some (.str LET),some (.int n),some (.int (1 + n / 312 % 25)),some (.str z),o7,some (.int (n / 7800 % (z.length : Int))),some (.ref l),o10,o11] ∧ Same H2 H' ∧
          H' l = some (.lst (((List.range i).map (nmA (Txt.slice z none (some (n / 7800 % (z.length : Int)))) (Txt.slice z (some (n / 7800 % (z.length : Int) + 1)) none) (n / 93600))).map V.str)))
        ⟨none,none,rfl,(Same.refl _).upd hl0,upd_same⟩ ?_ ?_
      · rintro i σ H1 hi ⟨o10,o11,rfl,s1,el⟩
        rw [Int.zero_add]
        have hch := let_ch (n / 93600 + 3 * (i : Int))
        refine ⟨_,rfl,_,rfl,_,_,rfl,rfl,⟨by decide,by decide⟩,_,rfl,_,_,rfl,rfl,.inl ⟨by decide,by decide⟩,_,_,rfl,rfl,_,_,rfl,rfl,(by decide : (0 : Int) < 26),_,_,_,rfl,rfl,by decide +kernel,hch,?_⟩
        refine ⟨_,rfl,.inl ⟨rfl,_,SqL.of el⟩,_,rfl,_,rfl,_,rfl,z,rfl,by omega,_,rfl,_,_,rfl,rfl,?_,_,rfl,_,rfl,_,_,rfl,rfl,_,rfl,z,rfl,by omega,_,_,rfl,rfl,?_,l,_,_,rfl,rfl,el,by rw [List.length_map,List.length_map,List.length_range]; omega,?_⟩
        · show (Txt.slice z none (some (n / 7800 % (z.length : Int)))).length + 1 ≤ sizeLine
          omega
        · rw [PySem.Str.length_append]
          show (Txt.slice z none (some (n / 7800 % (z.length : Int)))).length + 1 + _ ≤ sizeLine
          omega
        · refine ⟨_,_,rfl,s1.updN hl0,?_⟩
          rw [upd_same,List.range_succ,List.map_append,List.map_append]
          rfl
      · rintro σ H1 ⟨o10,o11,rfl,s1,el⟩
        refine ⟨_,rfl,k l H1 _ s1 hl0 el ?_ (nmA_nodup _ _ _ (by omega)) fun y hy => ?_⟩
        · rw [List.length_map,List.length_range]; omega
        · obtain ⟨i,_,rfl⟩ := List.mem_map.mp hy
          exact (p1.app (ch_as _)).app p2
abbrev It := Int × Str × Int
def prK (i : It) : List Key := [.inl i.1,.inl i.2.2]
def kpK (i : It) : List Key := [.inr i.2.1,.inl i.1,.inl i.2.2]
def itK (i : It) : List Key := [.inl i.1,.inr i.2.1,.inl i.2.2]
def spAhead : Sp := fun vs H Q _ => ∃ (r mk : Addr) (xs : List V) (kss : List (List Key)) (ms : List Key),vs = [.ref r,.ref mk] ∧ H r = some (.lst xs) ∧ Rws H xs kss ∧ kss.length ≤ 100000 ∧ H mk = some (.tup (ms.map kV)) ∧
  (∀ ks ∈ kss,∀ (i : Nat) k m,ks[i]? = some k → ms[i]? = some m → isI k = isI m) ∧ Sd kss ∧
  ∀ n : Nat,n ≤ kss.length → (∀ (i : Nat) ks,i < n → kss[i]? = some ks → lexK ks ms = true) → (∀ (i : Nat) ks,n ≤ i → kss[i]? = some ks → lexK ks ms = false) → Q (.int (n : Int)) H
theorem sd_at {kss : List (List Key)} (h : Sd kss) {i j : Nat} {a b : List Key} (hij : i ≤ j) (ea : kss[i]? = some a) (eb : kss[j]? = some b) : lexK b a = false := by
  by_cases e : i = j
  · subst e
    rw [ea] at eb
    cases eb
    exact lexK_irr _
  · obtain ⟨hi,e1⟩ := List.getElem?_eq_some_iff.mp ea
    obtain ⟨hj,e2⟩ := List.getElem?_eq_some_iff.mp eb
    have := List.pairwise_iff_getElem.mp h i j hi hj (by omega)
    rw [e1,e2] at this
    exact this
theorem sd_up {kss : List (List Key)} (h : Sd kss) {i j : Nat} {a b ms : List Key} (hij : i ≤ j) (ea : kss[i]? = some a) (eb : kss[j]? = some b) (hm : lexK b ms = true) : lexK a ms = true :=
  PyProof.Rows.KeyOrd.klt_of_kle_of_klt (O := lexOrd) (show lexOrd.kle a b from sd_at h hij ea eb) hm
theorem ok_ahead (T : Tx K mg ad) : FnOk P w K mg base CX0 1 ad.a_ahead ad.d_ahead ["rows", "mark"] spAhead := by
  refine T.F_ahead.ok sc_ahead (fun vs H Q E h => ?_) (fun cdv A outer s H vs Q E hr h => ?_)
  · obtain ⟨r,mk,xs,kss,ms,rfl,_⟩ := h
    rfl
  · obtain ⟨r,mk,xs,kss,ms,rfl,er,hw,hl,em,hs,sd,k⟩ := h
    have nd := sc_ahead.nd
    refine ⟨_,(pss_cons (ps_set (i := 2) nd rfl (Or.inl rfl) pe_int)
        (pss_cons (ps_set (i := 3) nd rfl (Or.inl rfl) (pe_callB (call_len_seqK (K := K)) (by rfl) T.z_len PySem.boot_len (pa_cons (pv 0) pa_nil)))
        (pss_cons (ps_while PassesOwn.never (pt_cmpR op_lt (pv 2) (pv 3) (nomark _))
        (pss_cons (ps_set (i := 4) nd rfl (Or.inl rfl) (pe_op op_fdiv (pe_op op_add (pv 2) (pv 3)) pe_int))
        (pss_one (ps_if (pt_cmpR (op_ltG (K := K) hr.units0) (pe_ix (ix_listK (K := K)) (pv 0) (pv 4) (fun _ _ => rfl)) (pv 1) (nomark _))
        (pss_one (ps_set (i := 2) nd rfl (Or.inl rfl) (pe_op op_add (pv 4) pe_int)))
        (pss_one (ps_set (i := 3) nd rfl (Or.inl rfl) (pv 4)))))))
        (pss_one (ps_ret (pv 2)))))),?_⟩
    have len := hw.len
    refine ⟨_,rfl,r,_,rfl,.inl (SqL.of er),?_⟩
    refine while_by (fun σ H' => H' = H ∧ ∃ (lo hi : Nat) (o4 : Option V),σ = [some (.ref r),some (.ref mk),some (.int (lo : Int)),some (.int (hi : Int)),o4] ∧ lo ≤ hi ∧ hi ≤ kss.length ∧ (∀ (i : Nat) ks,i < lo → kss[i]? = some ks → lexK ks ms = true) ∧ (∀ (i : Nat) ks,hi ≤ i → kss[i]? = some ks → lexK ks ms = false))
      (fun σ _ => match σ with | [_,_,some (.int lo),some (.int hi),_] => (hi - lo).toNat | _ => 0) ⟨rfl,0,kss.length,none,by rw [len]; rfl,Nat.zero_le _,Nat.le_refl _,fun i ks h => by omega,fun i ks h e => by have := (List.getElem?_eq_some_iff.mp e).1; omega⟩ ?_ ?_
    · rintro σ H' ⟨rfl,lo,hi,o4,rfl,h1,h2,h3,h4⟩
      refine ⟨_,rfl,_,rfl,_,_,rfl,rfl,_,rfl,iteP (fun e => ?_) fun e => ?_⟩
      · have e : lo < hi := by omega
        have em2 : ((lo : Int) + (hi : Int)) / 2 = (((lo + hi) / 2 : Nat) : Int) := by omega
        have hm : (lo + hi) / 2 < kss.length := by omega
        have ek : kss[(lo + hi) / 2]? = some kss[(lo + hi) / 2] := List.getElem?_eq_getElem hm
        obtain ⟨a,ea,eq⟩ := hw.ix ek
        refine ⟨_,rfl,_,rfl,_,_,rfl,rfl,_,_,rfl,rfl,⟨by decide,by decide⟩,?_⟩
        have ea2 : atI xs (((lo : Int) + (hi : Int)) / 2) = some (.ref a) := by rw [em2]; exact atI_nat ea
        refine ⟨_,rfl,_,rfl,r,_,_,_,rfl,rfl,SqL.of er,ea2,_,rfl,a,mk,kss[(lo + hi) / 2],[],ms,rfl,rfl,SqT.of (by rw [List.append_nil]; exact eq),SqT.of em,.inl rfl,hs _ (List.getElem_mem hm),_,rfl,iteB (fun b => ?_) fun b => ?_⟩
        · refine ⟨_,rfl,_,_,rfl,rfl,⟨rfl,(lo + hi) / 2 + 1,hi,_,by show _ = [_,_,some (V.int _),_,_]; rw [show ((((lo + hi) / 2 + 1 : Nat)) : Int) = ((lo : Int) + (hi : Int)) / 2 + 1 by omega]; rfl,by omega,h2,fun i ks hi' e' => ?_,h4⟩,?_⟩
          · exact sd_up sd (by omega) e' ek b
          · show ((hi : Int) - (((lo : Int) + (hi : Int)) / 2 + 1)).toNat < ((hi : Int) - (lo : Int)).toNat
            omega
        · refine ⟨_,rfl,⟨rfl,lo,(lo + hi) / 2,_,by show _ = [_,_,_,some (V.int _),_]; rw [← em2]; rfl,by omega,by omega,h3,fun i ks hi' e' => ?_⟩,?_⟩
          · cases z : lexK ks ms with
            | false => rfl
            | true => rw [sd_up sd hi' ek e' z] at b; cases b
          · show ((((lo : Int) + (hi : Int)) / 2) - (lo : Int)).toNat < ((hi : Int) - (lo : Int)).toNat
            omega
      · have e : lo = hi := by omega
        subst e
        exact ⟨_,rfl,k lo h2 h3 h4⟩
    · rintro σ H1 R R' hR ⟨v,e1,u,e2,i,j,e3,e4,b,e5,q⟩
      exact ⟨v,e1,u,e2,i,j,e3,e4,b,e5,hR _ _ q⟩
def RowAt (ex : List Addr) (H : Hp) (L : List It) (q : Key × V) : Prop := ∃ (z : Str) (r : Addr) (xs : List V) (kss : List (List Key)),q = (.inr z,.ref r) ∧ r ∉ ex ∧ H r = some (.lst xs) ∧ Rws H xs kss ∧ kss ≠ [] ∧ Sd kss ∧ kss.Perm ((L.filter fun i => decide (i.2.1 = z)).map prK)
structure SideR (ad : Ad) (ex : List Addr) (H : Hp) (x d : Addr) (L : List It) : Prop where
  obj : ∃ dx,H x = some (.ins ad.c_Side dx [("rows", .ref d)])
  rows : ∃ kvs,H d = some (.dK kvs) ∧ (kvs.map (·.1)).Nodup ∧ kvs.length ≤ L.length ∧ (∀ q ∈ kvs,RowAt ex H L q) ∧ ∀ i ∈ L,(Sum.inr i.2.1 : Key) ∈ kvs.map (·.1)
theorem RowAt.keep {ex : List Addr} {H H' : Hp} {L : List It} {q : Key × V} (h : RowAt ex H L q) (kl : ∀ b xs,b ∉ ex → H b = some (.lst xs) → H' b = some (.lst xs)) (t : Tp H H') : RowAt ex H' L q := by
  obtain ⟨z,r,xs,kss,e,hn,er,hw,r1⟩ := h
  exact ⟨z,r,xs,kss,e,hn,kl _ _ hn er,hw.keep t,r1⟩
theorem SideR.keep {ad : Ad} {ex : List Addr} {H H' : Hp} {x d : Addr} {L : List It} (h : SideR ad ex H x d L) (ko : ∀ C dx fs,H x = some (.ins C dx fs) → H' x = some (.ins C dx fs)) (kd : ∀ kvs,H d = some (.dK kvs) → H' d = some (.dK kvs)) (kl : ∀ b xs,b ∉ ex → H b = some (.lst xs) → H' b = some (.lst xs)) (t : Tp H H') : SideR ad ex H' x d L := by
  obtain ⟨⟨dx,e⟩,kvs,e2,n,l,q,c⟩ := h
  exact ⟨⟨dx,ko _ _ _ e⟩,kvs,kd _ e2,n,l,fun p hp => (q p hp).keep kl t,c⟩
theorem SideR.same {ad : Ad} {ex : List Addr} {H H' : Hp} {x d : Addr} {L : List It} (h : SideR ad ex H x d L) (s : Same H H') : SideR ad ex H' x d L := h.keep (fun C dx fs e => s _ _ e) (fun kvs e => s _ _ e) (fun b xs _ e => s _ _ e) s.tp
theorem SideR.other {ad : Ad} {ex : List Addr} {H H' : Hp} {x d d' : Addr} {L : List It} (h : SideR ad ex H x d L) (s : SameX d' H H') {kvs : List (Key × V)} (e : H d' = some (.dK kvs)) (hn : d ≠ d') : SideR ad ex H' x d L :=
  h.keep (fun C dx fs e' => s _ _ (fun z => by rw [z,e] at e'; cases e') e') (fun kvs e' => s _ _ hn e') (fun b xs _ e' => s _ _ (fun z => by rw [z,e] at e'; cases e') e') (s.tp e fun xs => by intro z; cases z)
theorem SideR.lists {ad : Ad} {ex : List Addr} {H : Hp} {x d c : Addr} {L : List It} {o : HO} (h : SideR ad ex H x d L) {xs : List V} (e : H c = some (.lst xs)) (hc : c ∈ ex) : SideR ad ex (upd H c o) x d L :=
  h.keep (fun C dx fs e' => by rw [upd_ne (fun z => by rw [z,e] at e'; cases e')]; exact e') (fun kvs e' => by rw [upd_ne (fun z => by rw [z,e] at e'; cases e')]; exact e') (fun b xs hb e' => by rw [upd_ne (fun z => hb (by rw [z]; exact hc))]; exact e') ((Tp.refl H).upd e fun xs => by intro z; cases z)
theorem SideR.row {ad : Ad} {ex : List Addr} {H : Hp} {x d : Addr} {L : List It} (h : SideR ad ex H x d L) (z : Str) {kvs : List (Key × V)} (e : H d = some (.dK kvs)) :
    (valV kvs (.inr z) = none ∧ (L.filter fun i => decide (i.2.1 = z)) = []) ∨ ∃ r xs kss,valV kvs (.inr z) = some (.ref r) ∧ r ∉ ex ∧ H r = some (.lst xs) ∧ Rws H xs kss ∧ kss ≠ [] ∧ Sd kss ∧ kss.Perm ((L.filter fun i => decide (i.2.1 = z)).map prK) := by
  obtain ⟨_,kvs',e2,n,l,q,c⟩ := h
  rw [e] at e2
  cases e2
  cases hv : valV kvs (.inr z) with
  | none =>
    refine .inl ⟨rfl,List.filter_eq_nil_iff.mpr fun i hi hz => ?_⟩
    have := c i hi
    rw [of_decide_eq_true hz] at this
    exact valV_not hv this
  | some v =>
    obtain ⟨z',r,xs,kss,e3,r1⟩ := q _ (valV_mem hv)
    cases e3
    exact .inr ⟨r,xs,kss,rfl,r1⟩
theorem rows_len {L : List It} {z : Str} {kss : List (List Key)} (p : kss.Perm ((L.filter fun i => decide (i.2.1 = z)).map prK)) : kss.length ≤ L.length := by
  rw [p.length_eq,List.length_map]
  exact List.length_filter_le _ _
theorem pr_ints {L : List It} {p : It → Bool} {kss : List (List Key)} (h : kss.Perm ((L.filter p).map prK)) : ∀ ks ∈ kss,∃ t a,ks = [.inl t,.inl a] := fun ks hk => by
  obtain ⟨i,_,rfl⟩ := List.mem_map.mp (h.mem_iff.mp hk)
  exact ⟨_,_,rfl⟩
theorem pr_kinds {kss : List (List Key)} {ms : List Key} (h : ∀ ks ∈ kss,∃ t a,ks = [.inl t,.inl a]) (hm : ∀ m ∈ ms,isI m = true) : ∀ ks ∈ kss,∀ (i : Nat) k m,ks[i]? = some k → ms[i]? = some m → isI k = isI m := fun ks hk i k m e1 e2 => by
  obtain ⟨t,a,rfl⟩ := h ks hk
  rw [hm m (List.mem_of_getElem? e2)]
  have := List.mem_of_getElem? e1
  simp only [List.mem_cons,List.not_mem_nil,or_false] at this
  rcases this with rfl | rfl <;> rfl
theorem cutV_to (xs : List V) (n : Nat) (h : n ≤ xs.length) : cutV xs none (some (n : Int)) = xs.take n := by
  unfold cutV
  have e1 : HT.sIx xs.length 0 none = 0 := rfl
  have e2 : HT.sIx xs.length xs.length (some (n : Int)) = n := by
    show (if (n : Int) < 0 then ((n : Int) + (xs.length : Int)).toNat else min (n : Int).toNat xs.length) = n
    rw [if_neg (by omega)]
    omega
  rw [e1,e2]
  rfl
theorem cutV_from (xs : List V) (n : Nat) (h : n ≤ xs.length) : cutV xs (some (n : Int)) none = xs.drop n := by
  unfold cutV
  have e1 : HT.sIx xs.length xs.length none = xs.length := rfl
  have e2 : HT.sIx xs.length 0 (some (n : Int)) = n := by
    show (if (n : Int) < 0 then ((n : Int) + (xs.length : Int)).toNat else min (n : Int).toNat xs.length) = n
    rw [if_neg (by omega)]
    omega
  rw [e1,e2]
  exact List.take_of_length_le (by rw [List.length_drop]; exact Nat.le_refl _)
theorem cutV_mid (xs : List V) (n m : Nat) (h : n ≤ xs.length) (h2 : m ≤ xs.length) : cutV xs (some (n : Int)) (some (m : Int)) = (xs.drop n).take (m - n) := by
  unfold cutV
  have e1 : ∀ d,HT.sIx xs.length d (some (m : Int)) = m := fun d => by
    show (if (m : Int) < 0 then ((m : Int) + (xs.length : Int)).toNat else min (m : Int).toNat xs.length) = m
    rw [if_neg (by omega)]
    omega
  have e2 : ∀ d,HT.sIx xs.length d (some (n : Int)) = n := fun d => by
    show (if (n : Int) < 0 then ((n : Int) + (xs.length : Int)).toNat else min (n : Int).toNat xs.length) = n
    rw [if_neg (by omega)]
    omega
  rw [e1,e2]
theorem put_sd {kss : List (List Key)} {ms : List Key} {n : Nat} (sd : Sd kss) (h1 : ∀ (i : Nat) ks,i < n → kss[i]? = some ks → lexK ks ms = true) (h2 : ∀ (i : Nat) ks,n ≤ i → kss[i]? = some ks → lexK ks ms = false) : Sd (kss.take n ++ [ms] ++ kss.drop n) := by
  have lt : ∀ ks ∈ kss.take n,lexK ks ms = true := fun ks hk => by
    obtain ⟨i,hi,e⟩ := List.mem_iff_getElem.mp hk
    rw [List.length_take] at hi
    exact h1 i ks (by omega) (by rw [← e,List.getElem_take]; exact List.getElem?_eq_getElem _)
  have ge : ∀ ks ∈ kss.drop n,lexK ks ms = false := fun ks hk => by
    obtain ⟨i,hi,e⟩ := List.mem_iff_getElem.mp hk
    rw [List.length_drop] at hi
    exact h2 (n + i) ks (by omega) (by rw [← e,List.getElem_drop]; exact List.getElem?_eq_getElem _)
  have sp : Sd (kss.take n ++ kss.drop n) := by rw [List.take_append_drop]; exact sd
  obtain ⟨s1,s2,s3⟩ := List.pairwise_append.mp sp
  refine List.pairwise_append.mpr ⟨List.pairwise_append.mpr ⟨s1,List.pairwise_singleton _ _,fun a ha b hb => ?_⟩,s2,fun a ha b hb => ?_⟩
  · rw [List.mem_singleton.mp hb]
    exact PyProof.Rows.KeyOrd.kle_of_klt (O := lexOrd) (lt a ha)
  · rcases List.mem_append.mp ha with ha | ha
    · exact s3 a ha b hb
    · rw [List.mem_singleton.mp ha]
      exact ge b hb
def spPut (ad : Ad) : Sp := fun vs H Q _ => ∃ (ex : List Addr) (x d p : Addr) (L : List It) (i : It),vs = [.ref x,.ref p] ∧ SideR ad ex H x d L ∧ (∀ c ∈ ex,∃ o,H c = some o) ∧ H p = some (.tup ((itK i).map kV)) ∧ L.length ≤ 1000 ∧
  ∀ H',SameX d H H' → SideR ad ex H' x d (L ++ [i]) → Q .non H'
theorem filt_snoc {L : List It} {i : It} {z : Str} : ((L ++ [i]).filter fun j => decide (j.2.1 = z)) = if i.2.1 = z then (L.filter fun j => decide (j.2.1 = z)) ++ [i] else L.filter fun j => decide (j.2.1 = z) := by
  rw [List.filter_append]
  by_cases e : i.2.1 = z
  · rw [if_pos e,List.filter_cons,if_pos (decide_eq_true e)]; rfl
  · rw [if_neg e,List.filter_cons,if_neg (by simpa using e)]
    simp
theorem ok_put (T : Tx K mg ad) : FnOk P w K mg base CX0 2 ad.a_Side_put ad.d_Side_put ["self", "item"] (spPut ad) := by
  have G_ahead := ok_ahead (P := P) (w := w) (base := base) T
  refine T.F_Side_put.ok sc_Side_put (fun vs H Q E h => ?_) (fun cdv A outer s H vs Q E hr h => ?_)
  · obtain ⟨ex,x,d,p,L,i,rfl,_⟩ := h
    rfl
  · obtain ⟨ex,x,d,p,L,⟨t,z,a⟩,rfl,sr,hex,ep,hL,k⟩ := h
    have nd := sc_Side_put.nd
    refine ⟨_,(pss_cons (ps_set (i := 2) nd rfl (Or.inl rfl) (pe_tup (pa_cons (pe_ix (ix_tupK (K := K)) (pv 1) pe_int (fun _ _ => rfl)) (pa_cons (pe_ix (ix_tupK (K := K)) (pv 1) pe_int (fun _ _ => rfl)) pa_nil))))
        (pss_cons (ps_set (i := 3) nd rfl (Or.inl rfl) (pe_dget2 hr.u1 (pe_fld (pv 0) rfl) (pe_ix (ix_tupK (K := K)) (pv 1) pe_int (fun _ _ => rfl)) (pe_lst pa_nil) ⟨rfl,rfl,rfl,rfl⟩))
        (pss_cons (ps_set (i := 4) nd rfl (Or.inl rfl) (pe_call G_ahead (hr.mono (by decide)) (by rfl) T.m_ahead T.F_ahead.kp T.b_ahead .nil pass0 (pa_cons (pv 3) (pa_cons (pv 2) pa_nil))))
        (pss_one (ps_dput hr.u1 (pe_fld (pv 0) rfl) (pe_ix (ix_tupK (K := K)) (pv 1) pe_int (fun _ _ => rfl)) (pe_op op_cat (pe_op op_cat (pe_slice (sl_listK (K := K)) (pv 3) po_none (po_some (pv 4))) (pe_lst (pa_cons (pv 2) pa_nil))) (pe_slice (sl_listK (K := K)) (pv 3) (po_some (pv 4)) po_none)) rfl))))),?_⟩
    have sz : sizeLine = 16777216 := sizeLine_eq
    have i0 : ∀ {a b c : V},atI [a,b,c] 0 = some a := atI_nat (j := 0) rfl
    have i1 : ∀ {a b c : V},atI [a,b,c] 1 = some b := atI_nat (j := 1) rfl
    have i2 : ∀ {a b c : V},atI [a,b,c] 2 = some c := atI_nat (j := 2) rfl
    have ep : H p = some (.tup [.int t,.str z,.int a]) := ep
    refine ⟨_,rfl,p,_,_,_,rfl,rfl,SqT.of ep,i0,_,rfl,p,_,_,_,rfl,rfl,SqT.of ep,i2,Nat.le_of_ble_eq_true rfl,fun pp hpp => ?_⟩
    have s1 := Same.upd' (o := .tup [.int t,.int a]) hpp
    have epp : (upd H pp (.tup [.int t,.int a])) pp = some (.tup ([.inl t,.inl a].map kV)) := upd_same
    generalize upd H pp (.tup [.int t,.int a]) = H1 at s1 epp ⊢
    have sr1 := sr.same s1
    obtain ⟨dx,eo⟩ := sr1.obj
    obtain ⟨kvs,ed,nd',hk,hq,hc⟩ := id sr1.rows
    have isd : IsD H1 d := .inl ⟨kvs,.inl ed⟩
    refine ⟨_,rfl,x,_,dx,_,_,rfl,eo,T.cl_Side,T.n_Side_rows,rfl,d,rfl,isd,_,rfl,p,_,_,_,rfl,rfl,SqT.of (s1 _ _ ep),i1,Nat.zero_le _,fun el hel => ?_⟩
    have s2 := Same.upd' (o := .lst []) hel
    have eel : (upd H1 el (.lst [])) el = some (.lst []) := upd_same
    generalize upd H1 el (.lst []) = H2 at s2 eel ⊢
    have sr2 := sr1.same s2
    have ed2 := s2 _ _ ed
    obtain ⟨rw_,xs,kss,erw,er,hw,sd,pm⟩ : ∃ (r : Addr) (xs : List V) (kss : List (List Key)),(valV kvs (.inr z)).getD (.ref el) = .ref r ∧ H2 r = some (.lst xs) ∧ Rws H2 xs kss ∧ Sd kss ∧ kss.Perm ((L.filter fun i => decide (i.2.1 = z)).map prK) := by
      rcases sr2.row z ed2 with ⟨e1,e2⟩ | ⟨r,xs,kss,e1,_,er,hw,_,sd,pm⟩
      · exact ⟨el,[],[],by rw [e1]; rfl,eel,rws_nil _,.nil,by rw [e2]; exact .nil⟩
      · exact ⟨r,xs,kss,by rw [e1]; rfl,er,hw,sd,pm⟩
    refine ⟨_,DGet.k (k := Sum.inr z) ed2,?_⟩
    rw [erw]
    have hl := rows_len pm
    have hxl := hw.len
    refine ⟨_,rfl,_,rfl,rw_,pp,xs,kss,_,rfl,er,hw,by omega,s2 _ _ epp,pr_kinds (pr_ints pm) (by intro m hm; simp only [List.mem_cons,List.not_mem_nil,or_false] at hm; rcases hm with rfl | rfl <;> rfl),sd,fun n hn b1 b2 => ?_⟩
    refine ⟨_,rfl,_,rfl,_,rfl,rw_,xs,rfl,SqL.of er,fun c1 hc1 => ?_⟩
    rw [cutV_to xs n (by omega)]
    have s3 := Same.upd' (o := .lst (xs.take n)) hc1
    have ec1 : (upd H2 c1 (.lst (xs.take n))) c1 = some (.lst (xs.take n)) := upd_same
    generalize upd H2 c1 (.lst (xs.take n)) = H3 at s3 ec1 ⊢
    refine ⟨_,rfl,Nat.le_of_ble_eq_true rfl,fun c2 hc2 => ?_⟩
    have s4 := Same.upd' (o := .lst [.ref pp]) hc2
    have ec2 : (upd H3 c2 (.lst [.ref pp])) c2 = some (.lst [.ref pp]) := upd_same
    generalize upd H3 c2 (.lst [.ref pp]) = H4 at s4 ec2 ⊢
    refine ⟨c1,c2,_,_,rfl,rfl,s4 _ _ ec1,ec2,by rw [List.length_take]; simp; omega,fun c3 hc3 => ?_⟩
    have s5 := Same.upd' (o := .lst (xs.take n ++ [.ref pp])) hc3
    have ec3 : (upd H4 c3 (.lst (xs.take n ++ [.ref pp]))) c3 = some (.lst (xs.take n ++ [.ref pp])) := upd_same
    generalize upd H4 c3 (.lst (xs.take n ++ [.ref pp])) = H5 at s5 ec3 ⊢
    have s25 := (s3.trans s4).trans s5
    refine ⟨_,rfl,_,rfl,_,rfl,rw_,xs,rfl,SqL.of (s25 _ _ er),fun c4 hc4 => ?_⟩
    rw [cutV_from xs n (by omega)]
    have s6 := Same.upd' (o := .lst (xs.drop n)) hc4
    have ec4 : (upd H5 c4 (.lst (xs.drop n))) c4 = some (.lst (xs.drop n)) := upd_same
    generalize upd H5 c4 (.lst (xs.drop n)) = H6 at s6 ec4 ⊢
    refine ⟨c3,c4,_,_,rfl,rfl,s6 _ _ ec3,ec4,by rw [List.length_append,List.length_take,List.length_drop]; simp; omega,fun c5 hc5 => ?_⟩
    have s7 := Same.upd' (o := .lst (xs.take n ++ [.ref pp] ++ xs.drop n)) hc5
    have ec5 : (upd H6 c5 (.lst (xs.take n ++ [.ref pp] ++ xs.drop n))) c5 = some (.lst (xs.take n ++ [.ref pp] ++ xs.drop n)) := upd_same
    have s27 := s25.trans (s6.trans s7)
    have hc50 : H6 c5 = none := hc5
    have nex : c5 ∉ ex := fun hm => by
      obtain ⟨o,ho⟩ := hex c5 hm
      have := ((s1.trans s2).trans (s25.trans s6)) _ _ ho
      rw [hc50] at this
      cases this
    generalize upd H6 c5 (.lst (xs.take n ++ [.ref pp] ++ xs.drop n)) = H7 at s7 ec5 s27 ⊢
    have s17 := s2.trans s27
    have s07 := s1.trans s17
    have sr7 := sr2.same s27
    obtain ⟨dx7,eo7⟩ := sr7.obj
    have ed7 := s17 _ _ ed
    refine ⟨_,rfl,x,_,dx7,_,_,rfl,eo7,T.cl_Side,T.n_Side_rows,rfl,_,rfl,p,_,_,_,rfl,rfl,SqT.of (s07 _ _ ep),i1,d,_,rfl,DPut.k (k := Sum.inr z) ed7 (by omega),?_⟩
    have rw7 : Rws H7 (xs.take n ++ [.ref pp] ++ xs.drop n) (kss.take n ++ [[.inl t,.inl a]] ++ kss.drop n) := by
      have h7 := hw.keep s27.tp
      exact paired_app (paired_app (paired_take n h7) (.cons ⟨pp,rfl,s17 _ _ epp⟩ .nil)) (paired_drop n h7)
    have pm7 : List.Perm (kss.take n ++ [([.inl t,.inl a] : List Key)] ++ kss.drop n) (((L.filter fun i : It => decide (i.2.1 = z)) ++ [(t,z,a)]).map prK) := by
      rw [List.map_append,List.append_assoc]
      refine List.perm_middle.trans ((List.Perm.cons _ ?_).trans (List.perm_append_singleton (prK (t,z,a)) _).symm)
      show (kss.take n ++ kss.drop n).Perm _
      rw [List.take_append_drop]
      exact pm
    have nr : ∀ b xs',H7 b = some (.lst xs') → b ≠ d := fun b xs' e z' => by rw [z',ed7] at e; cases e
    refine k _ ((s07.x d).upd) ⟨⟨dx7,by rw [upd_ne (fun z' => by rw [z',ed7] at eo7; cases eo7)]; exact eo7⟩,_,upd_same,nodup_putK nd',?_,fun q hq' => ?_,fun j hj => ?_⟩
    · have := len_putK kvs (Sum.inr z) (.ref c5)
      rw [List.length_append,List.length_singleton]
      omega
    · have tp : Tp H7 (upd H7 d (.dK (putK kvs (Sum.inr z) (.ref c5)))) := (Tp.refl H7).upd ed7 fun xs => by intro z; cases z
      rcases mem_putK hq' with rfl | ⟨hm,hne⟩
      · refine ⟨z,c5,_,_,rfl,nex,by rw [upd_ne (nr _ _ ec5)]; exact ec5,rw7.keep tp,by simp,put_sd sd b1 b2,?_⟩
        rw [filt_snoc,if_pos rfl]
        exact pm7
      · obtain ⟨z',r',xs',kss',rfl,h1,h2,h3,h4,h5,h6⟩ := (hq q hm).keep (H' := H7) (fun b xs _ e => s17 _ _ e) s17.tp
        refine ⟨z',r',xs',kss',rfl,h1,by rw [upd_ne (nr _ _ h2)]; exact h2,h3.keep tp,h4,h5,?_⟩
        rw [filt_snoc,if_neg (fun e => hne (by show Sum.inr z' = _; rw [← e]))]
        exact h6
    · rw [keys_putK]
      rcases List.mem_append.mp hj with hj | hj
      · have := hc j hj
        split
        · exact this
        · exact List.mem_append_left _ this
      · rw [List.mem_singleton.mp hj]
        split
        · assumption
        · exact List.mem_append_right _ (List.mem_singleton.mpr rfl)
theorem near_rows {kss : List (List Key)} (sd : Sd kss) (hi : ∀ ks ∈ kss,∃ t a,ks = [.inl t,.inl a]) {lo hi' : Int} {n m : Nat} (a1 : ∀ (i : Nat) ks,i < n → kss[i]? = some ks → lexK ks [.inl lo] = true) (a2 : ∀ (i : Nat) ks,n ≤ i → kss[i]? = some ks → lexK ks [.inl lo] = false)
    (b1 : ∀ (i : Nat) ks,i < m → kss[i]? = some ks → lexK ks [.inl (hi' + 1)] = true) (b2 : ∀ (i : Nat) ks,m ≤ i → kss[i]? = some ks → lexK ks [.inl (hi' + 1)] = false) :
    (kss.drop n).take (m - n) = kss.filter fun ks => match ks with | .inl t :: _ => decide (lo ≤ t ∧ t ≤ hi') | _ => false := by
  have lx : ∀ t a b : Int,lexK [.inl t,.inl a] [.inl b] = decide (t < b) := fun t a b => by
    show (if (Sum.inl t : Key) = Sum.inl b then false else decide (t < b)) = _
    split
    · rename_i e
      have e := Sum.inl.inj e
      rw [e]
      exact (decide_eq_false (Int.lt_irrefl b)).symm
    · rfl
  refine cut_filter fun i ks e => ?_
  obtain ⟨t,a,rfl⟩ := hi ks (List.mem_of_getElem? e)
  show decide (lo ≤ t ∧ t ≤ hi') = true ↔ _
  rw [decide_eq_true_eq]
  by_cases h1 : i < n
  · have := a1 i _ h1 e
    rw [lx,decide_eq_true_eq] at this
    omega
  · have h2 := a2 i _ (by omega) e
    rw [lx,decide_eq_false_iff_not] at h2
    by_cases h3 : i < m
    · have := b1 i _ h3 e
      rw [lx,decide_eq_true_eq] at this
      omega
    · have := b2 i _ (by omega) e
      rw [lx,decide_eq_false_iff_not] at this
      omega
def spNear (ad : Ad) : Sp := fun vs H Q _ => ∃ (ex : List Addr) (x d : Addr) (L : List It) (z : Str) (lo hi : Int),vs = [.ref x,.str z,.int lo,.int hi] ∧ SideR ad ex H x d L ∧ L.length ≤ 1000 ∧
  ∀ H' r xs kss,Same H H' → H r = none → H' r = some (.lst xs) → Rws H' xs kss → Sd kss → kss.Perm ((L.filter fun i => decide (i.2.1 = z ∧ lo ≤ i.1 ∧ i.1 ≤ hi)).map prK) → Q (.ref r) H'
theorem ok_near (T : Tx K mg ad) : FnOk P w K mg base CX0 2 ad.a_Side_near ad.d_Side_near ["self", "key", "low", "high"] (spNear ad) := by
  have G_ahead := ok_ahead (P := P) (w := w) (base := base) T
  refine T.F_Side_near.ok sc_Side_near (fun vs H Q E h => ?_) (fun cdv A outer s H vs Q E hr h => ?_)
  · obtain ⟨ex,x,d,L,z,lo,hi,rfl,_⟩ := h
    rfl
  · obtain ⟨ex,x,d,L,z,lo,hi,rfl,sr,hL,k⟩ := h
    have nd := sc_Side_near.nd
    refine ⟨_,(pss_cons (ps_set (i := 4) nd rfl (Or.inl rfl) (pe_dget2 hr.u1 (pe_fld (pv 0) rfl) (pv 1) (pe_lst pa_nil) ⟨rfl,rfl,rfl,rfl⟩))
        (pss_one (ps_ret (pe_slice (sl_listK (K := K)) (pv 4) (po_some (pe_call G_ahead (hr.mono (by decide)) (by rfl) T.m_ahead T.F_ahead.kp T.b_ahead .nil pass0 (pa_cons (pv 4) (pa_cons (pe_tup (pa_cons (pv 2) pa_nil)) pa_nil)))) (po_some (pe_call G_ahead (hr.mono (by decide)) (by rfl) T.m_ahead T.F_ahead.kp T.b_ahead .nil pass0 (pa_cons (pv 4) (pa_cons (pe_tup (pa_cons (pe_op op_add (pv 3) pe_int) pa_nil)) pa_nil)))))))),?_⟩
    have sz : sizeLine = 16777216 := sizeLine_eq
    obtain ⟨dx,eo⟩ := sr.obj
    obtain ⟨kvs,ed,nd',hk,hq,hc⟩ := id sr.rows
    refine ⟨_,rfl,x,_,dx,_,_,rfl,eo,T.cl_Side,T.n_Side_rows,rfl,d,rfl,.inl ⟨kvs,.inl ed⟩,_,rfl,Nat.zero_le _,fun el hel => ?_⟩
    have s2 := Same.upd' (o := .lst []) hel
    have eel : (upd H el (.lst [])) el = some (.lst []) := upd_same
    generalize upd H el (.lst []) = H2 at s2 eel ⊢
    have sr2 := sr.same s2
    have ed2 := s2 _ _ ed
    obtain ⟨rw_,xs,kss,erw,er,hw,sd,pm⟩ : ∃ (r : Addr) (xs : List V) (kss : List (List Key)),(valV kvs (.inr z)).getD (.ref el) = .ref r ∧ H2 r = some (.lst xs) ∧ Rws H2 xs kss ∧ Sd kss ∧ kss.Perm ((L.filter fun i => decide (i.2.1 = z)).map prK) := by
      rcases sr2.row z ed2 with ⟨e1,e2⟩ | ⟨r,xs,kss,e1,_,er,hw,_,sd,pm⟩
      · exact ⟨el,[],[],by rw [e1]; rfl,eel,rws_nil _,.nil,by rw [e2]; exact .nil⟩
      · exact ⟨r,xs,kss,by rw [e1]; rfl,er,hw,sd,pm⟩
    refine ⟨_,DGet.k (k := Sum.inr z) ed2,?_⟩
    rw [erw]
    have hl := rows_len pm
    have hxl := hw.len
    have one : ∀ m ∈ ([Sum.inl lo] : List Key),isI m = true := by intro m hm; rw [List.mem_singleton.mp hm]; rfl
    refine ⟨_,rfl,_,rfl,_,rfl,Nat.le_of_ble_eq_true rfl,fun p1 hp1 => ?_⟩
    have s3 := Same.upd' (o := .tup [.int lo]) hp1
    have ep1 : (upd H2 p1 (.tup [.int lo])) p1 = some (.tup ([Sum.inl lo].map kV)) := upd_same
    generalize upd H2 p1 (.tup [.int lo]) = H3 at s3 ep1 ⊢
    refine ⟨rw_,p1,xs,kss,_,rfl,s3 _ _ er,hw.keep s3.tp,by omega,ep1,pr_kinds (pr_ints pm) (by intro m hm; rw [List.mem_singleton.mp hm]; rfl),sd,fun n hn a1 a2 => ⟨_,rfl,?_⟩⟩
    refine ⟨_,rfl,_,rfl,_,_,rfl,rfl,Nat.le_of_ble_eq_true rfl,fun p2 hp2 => ?_⟩
    have s4 := Same.upd' (o := .tup [.int (hi + 1)]) hp2
    have ep2 : (upd H3 p2 (.tup [.int (hi + 1)])) p2 = some (.tup ([Sum.inl (hi + 1)].map kV)) := upd_same
    generalize upd H3 p2 (.tup [.int (hi + 1)]) = H4 at s4 ep2 ⊢
    have s24 := s3.trans s4
    refine ⟨rw_,p2,xs,kss,_,rfl,s24 _ _ er,hw.keep s24.tp,by omega,ep2,pr_kinds (pr_ints pm) (by intro m hm; rw [List.mem_singleton.mp hm]; rfl),sd,fun m hm b1 b2 => ⟨_,rfl,?_⟩⟩
    refine ⟨rw_,xs,rfl,SqL.of (s24 _ _ er),fun r hr' => ?_⟩
    rw [cutV_mid xs n m (by omega) (by omega)]
    have s04 := s2.trans s24
    have nr := near_rows sd (pr_ints pm) a1 a2 b1 b2
    refine k _ r _ _ (s04.upd hr') (s04.free hr') upd_same (paired_take _ (paired_drop _ (hw.keep (s24.upd hr').tp))) ?_ ?_
    · rw [nr]
      exact sd.sublist List.filter_sublist
    · rw [nr]
      refine (pm.filter _).trans (List.Perm.of_eq ?_)
      rw [List.filter_map,List.filter_filter]
      congr 1
      refine List.filter_congr fun i _ => ?_
      show (decide (lo ≤ i.1 ∧ i.1 ≤ hi) && decide (i.2.1 = z)) = _
      by_cases e1 : i.2.1 = z <;> by_cases e2 : lo ≤ i.1 ∧ i.1 ≤ hi <;> simp [e1,e2]
theorem sd_flat {F : Key → List (List Key)} : ∀ {ks : List Key},ks.Pairwise (fun a b => kLt b a = false) → ks.Nodup → (∀ k ∈ ks,Sd (F k)) → Sd (ks.flatMap fun k => (F k).map fun r => k :: r)
  | [],_,_,_ => .nil
  | k :: ks,h1,h2,h3 => by
    obtain ⟨p1,p2⟩ := List.pairwise_cons.mp h1
    obtain ⟨n1,n2⟩ := List.nodup_cons.mp h2
    rw [List.flatMap_cons]
    refine List.pairwise_append.mpr ⟨?_,sd_flat p2 n2 fun k hk => h3 k (List.mem_cons_of_mem _ hk),fun a ha b hb => ?_⟩
    · refine List.pairwise_map.mpr ((h3 k List.mem_cons_self).imp fun {a b} h => ?_)
      show (if k = k then lexK b a else kLt k k) = false
      rw [if_pos rfl]
      exact h
    · obtain ⟨x,_,rfl⟩ := List.mem_map.mp ha
      obtain ⟨k2,hk2,hb⟩ := List.mem_flatMap.mp hb
      obtain ⟨y,_,rfl⟩ := List.mem_map.mp hb
      show (if k2 = k then lexK y x else kLt k2 k) = false
      rw [if_neg (fun e => n1 (by rw [← e]; exact hk2))]
      exact p1 k2 hk2
def RowsR (ex : List Addr) (H : Hp) (d : Addr) (L : List It) : Prop := ∃ kvs,H d = some (.dK kvs) ∧ (kvs.map (·.1)).Nodup ∧ kvs.length ≤ L.length ∧ (∀ q ∈ kvs,RowAt ex H L q) ∧ ∀ i ∈ L,(Sum.inr i.2.1 : Key) ∈ kvs.map (·.1)
def spWith : Sp := fun vs H Q _ => ∃ (ex : List Addr) (d : Addr) (L : List It),vs = [.ref d] ∧ RowsR ex H d L ∧ L.length ≤ 1000 ∧
  ∀ H' r xs kss,Same H H' → H r = none → H' r = some (.lst xs) → Rws H' xs kss → Sd kss → kss.Perm (L.map kpK) → Q (.ref r) H'
theorem ok_with (T : Tx K mg ad) : FnOk P w K mg base CX0 1 ad.a_with_keys ad.d_with_keys ["rows"] spWith := by
  refine T.F_with_keys.ok sc_with_keys (fun vs H Q E h => ?_) (fun cdv A outer s H vs Q E hr h => ?_)
  · obtain ⟨ex,d,L,rfl,_⟩ := h
    rfl
  · obtain ⟨ex,d,L,rfl,⟨kvs,ed,nd',hk,hq,hc⟩,hL,k⟩ := h
    have nd := sc_with_keys.nd
    refine ⟨_,(pss_cons (ps_set (i := 1) nd rfl (Or.inl rfl) (pe_lst pa_nil))
        (pss_cons (ps_for PassesOwn.never rfl (pi_listK (K := K) (pe_callB (call_sortedD rfl) (by rfl) T.z_sorted PyProof.Rows.boot_sorted (pa_cons (pv 0) pa_nil))) (pg_name (i := 2) nd rfl (Or.inr rfl))
        (pss_one (ps_expr (pe_bmK (K := K) F.plainAttrs_list F.slot_list_extend F.type_list_extend mt_extend (pv 1) (pa_cons (pe_comp1 (osc := defScope s_with_keys) [("key", 2)] rfl (pi_listK (K := K) (pe_dget hr.u1 (pv 0) (pv 2) (fun _ _ => rfl))) rfl rfl (by decide +kernel) (by decide +kernel) (by decide +kernel) ⟨rfl,rfl,trivial⟩ rfl (by decide +kernel) (fun _ _ _ _ => pts_nil) (fun _ _ _ _ => (pe_op (op_catTK (K := K)) (pe_tup (pa_cons (pv 1) pa_nil)) (pv 0)))) pa_nil)))))
        (pss_one (ps_ret (pv 1))))),?_⟩
    have sz : sizeLine = 16777216 := sizeLine_eq
    have ch : ∀ k : Key,∃ kss : List (List Key),k ∈ kvs.map (·.1) → ∃ (z : Str) (r : Addr) (xs : List V),k = .inr z ∧ valV kvs k = some (.ref r) ∧ H r = some (.lst xs) ∧ Rws H xs kss ∧ Sd kss ∧ kss.Perm ((L.filter fun i => decide (i.2.1 = z)).map prK) := fun k => by
      by_cases h : k ∈ kvs.map (·.1)
      · obtain ⟨v,hv⟩ := valV_of h
        obtain ⟨z,r,xs,kss,e,_,er,hw,_,sd,pm⟩ := hq _ (valV_mem hv)
        cases e
        exact ⟨kss,fun _ => ⟨z,r,xs,rfl,hv,er,hw,sd,pm⟩⟩
      · exact ⟨[],fun h' => absurd h' h⟩
    obtain ⟨F,hF⟩ := Classical.axiomOfChoice ch
    refine ⟨Nat.zero_le _,fun l hl => ?_⟩
    have s1 := Same.upd' (o := .lst []) hl
    have el : (upd H l (.lst [])) l = some (.lst []) := upd_same
    generalize upd H l (.lst []) = H1 at s1 el ⊢
    refine ⟨_,rfl,d,kvs,rfl,s1 _ _ ed,.inr fun q hq' => ?_,fun ls ks hls pk ps => ?_⟩
    · obtain ⟨z,r,xs,kss,e,_⟩ := hq q hq'
      exact ⟨z,by rw [e]⟩
    have s2 := Same.upd' (o := .lst (ks.map kV)) hls
    have els : (upd H1 ls (.lst (ks.map kV))) ls = some (.lst (ks.map kV)) := upd_same
    generalize upd H1 ls (.lst (ks.map kV)) = H2 at s2 els ⊢
    have nll : ls ≠ l := fun z => by rw [z,el] at hls; cases hls
    have kn : ks.Nodup := pk.nodup_iff.mpr nd'
    have km : ∀ k ∈ ks,k ∈ kvs.map (·.1) := fun k hk => pk.mem_iff.mp hk
    have flen : ∀ k ∈ ks,(F k).length ≤ L.length := fun k hk => by
      obtain ⟨z,r,xs,_,_,_,_,_,pm⟩ := hF k (km k hk)
      exact rows_len pm
    refine ⟨ls,rfl,⟨_,SqL.of els⟩,for_list (xs := ks.map kV) (fun i σ H' => ∃ (o2 : Option V) (acc : List V),σ = [some (.ref d),some (.ref l),o2] ∧ Same H H' ∧ H' l = some (.lst acc) ∧ H' ls = some (.lst (ks.map kV)) ∧ Rws H' acc ((ks.take i).flatMap fun k => (F k).map fun r => k :: r) ∧ acc.length ≤ 1000 * i)
      ⟨none,[],rfl,s1.trans s2,s2 _ _ el,els,rws_nil _,Nat.zero_le _⟩ (fun i σ H' _ ⟨_,_,_,_,_,e,_⟩ => SqL.of e) ?_ ?_⟩
    · rintro i x σ H3 hx ⟨o2,acc,rfl,s3,el3,els3,hw3,la⟩
      rw [List.getElem?_map] at hx
      obtain ⟨ky,hky,rfl⟩ := Option.map_eq_some_iff.mp hx
      have hi : i < ks.length := (List.getElem?_eq_some_iff.mp hky).1
      have hkm := List.mem_of_getElem? hky
      obtain ⟨z,r,xs,rfl,hv,er,hw,sd,pm⟩ := hF ky (km ky hkm)
      have hl3 := flen _ hkm
      have hxl := hw.len
      have lks : ks.length ≤ 1000 := by rw [pk.length_eq,List.length_map]; omega
      have ed3 := s3 _ _ ed
      refine ⟨_,rfl,.inl ⟨rfl,_,SqL.of el3⟩,_,rfl,_,rfl,d,_,rfl,by have := DGet.k (k := Sum.inr z) ed3; rw [hv] at this; exact this,r,rfl,⟨_,SqL.of (s3 _ _ er)⟩,?_⟩
      refine comp_listN (K := K) (xs := xs) (fun j τ acc' H' => (∃ o,τ = [o,some (.str z)]) ∧ Same H3 H' ∧ Rws H' acc' (((F (.inr z)).take j).map fun r => Sum.inr z :: r)) (by omega) ⟨⟨none,rfl⟩,Same.refl _,rws_nil _⟩ (fun j τ acc' H' ⟨_,s',_⟩ => SqL.of (s' _ _ (s3 _ _ er))) ?_ ?_
      · rintro j y τ acc' H4 R1 hy _ ⟨⟨o,rfl⟩,s4,hw4⟩ k1
        obtain ⟨a,kk,rfl,ek,ea⟩ := hw.at hy
        have ea4 := s4 _ _ (s3 _ _ ea)
        have mk : kk ∈ F (.inr z) := List.mem_of_getElem? ek
        obtain ⟨t,am,rfl⟩ := pr_ints pm kk mk
        refine ⟨_,rfl,Nat.le_of_ble_eq_true rfl,fun p hp => ⟨_,rfl,?_⟩⟩
        have s5 := Same.upd' (o := .tup [.str z]) hp
        have ep : (upd H4 p (.tup [.str z])) p = some (.tup [.str z]) := upd_same
        generalize upd H4 p (.tup [.str z]) = H5 at s5 ep ⊢
        refine ⟨p,a,_,_,rfl,rfl,SqT.of ep,SqT.of (s5 _ _ ea4),by simp,Nat.le_of_ble_eq_true rfl,(fun e => by cases e),fun _ q hq' => k1 _ _ _ ⟨⟨_,rfl⟩,(s4.trans s5).upd hq',?_⟩⟩
        rw [List.take_add_one,ek,List.map_append]
        exact (hw4.keep (s5.upd hq').tp).snoc upd_same
      · rintro τ acc' H4 la4 ⟨_,s4,hw4⟩ D hD
        have s5 := Same.upd' (o := .lst acc') hD
        have eD : (upd H4 D (.lst acc')) D = some (.lst acc') := upd_same
        generalize upd H4 D (.lst acc') = H5 at s5 eD ⊢
        have s35 := s4.trans s5
        have el5 := s35 _ _ el3
        refine ⟨l,D,_,_,rfl,rfl,el5,eD,by omega,?_⟩
        have tp5 : Tp H5 (upd H5 l (.lst (acc ++ acc'))) := (Tp.refl H5).upd el5 fun xs => by intro z; cases z
        refine ⟨_,acc ++ acc',rfl,(s3.trans s35).updN hl,upd_same,by rw [upd_ne nll]; exact s35 _ _ els3,?_,by rw [List.length_append]; omega⟩
        rw [List.take_add_one,hky,List.flatMap_append]
        refine Rws.keep ?_ tp5
        refine paired_app (hw3.keep s35.tp) ?_
        rw [List.take_of_length_le (by omega)] at hw4
        have := hw4.keep s5.tp
        show Rws H5 acc' _
        simpa using this
    · rintro σ H3 ⟨o2,acc,rfl,s3,el3,els3,hw3,la⟩
      rw [List.length_map,List.take_of_length_le (Nat.le_refl _)] at hw3
      refine ⟨_,rfl,k H3 l acc _ s3 hl el3 hw3 (sd_flat ps kn fun k hk => ?_) ?_⟩
      · obtain ⟨z,r,xs,_,_,_,_,sd,_⟩ := hF k (km k hk)
        exact sd
      · refine (perm_flat_left pk).trans ((perm_flat (g := fun k => (L.filter fun i => decide ((Sum.inr i.2.1 : Key) = k)).map kpK) fun k hk => ?_).trans ?_)
        · obtain ⟨z,r,xs,rfl,_,_,_,_,pm⟩ := hF k hk
          refine (pm.map _).trans (List.Perm.of_eq ?_)
          rw [List.map_map]
          have e : (L.filter fun i => decide ((Sum.inr i.2.1 : Key) = Sum.inr z)) = L.filter fun i => decide (i.2.1 = z) := List.filter_congr fun i _ => by
            by_cases h : i.2.1 = z
            · rw [h]; simp
            · rw [decide_eq_false h,decide_eq_false (fun q => h (Sum.inr.inj q))]
          rw [e]
          refine List.map_congr_left fun i hi => ?_
          have := of_decide_eq_true (List.mem_filter.mp hi).2
          show Sum.inr z :: prK i = kpK i
          rw [← this]
          rfl
        · rw [← List.map_flatMap]
          exact (flat_keys (fun i : It => (Sum.inr i.2.1 : Key)) L _ nd' hc).map kpK
def spKept (ad : Ad) : Sp := fun vs H Q _ => ∃ (ex : List Addr) (x d : Addr) (L : List It),vs = [.ref x] ∧ SideR ad ex H x d L ∧ L.length ≤ 1000 ∧
  ∀ H' r xs kss,Same H H' → H r = none → H' r = some (.lst xs) → Rws H' xs kss → Sd kss → kss.Perm (L.map kpK) → Q (.ref r) H'
theorem ok_kept (T : Tx K mg ad) : FnOk P w K mg base CX0 2 ad.a_Side_kept ad.d_Side_kept ["self"] (spKept ad) := by
  have G_with_keys := ok_with (P := P) (w := w) (base := base) T
  refine T.F_Side_kept.ok sc_Side_kept (fun vs H Q E h => ?_) (fun cdv A outer s H vs Q E hr h => ?_)
  · obtain ⟨ex,x,d,L,rfl,_⟩ := h
    rfl
  · obtain ⟨ex,x,d,L,rfl,sr,hL,k⟩ := h
    have nd := sc_Side_kept.nd
    refine ⟨_,(pss_one (ps_ret (pe_call G_with_keys (hr.mono (by decide)) (by rfl) T.m_with_keys T.F_with_keys.kp T.b_with_keys .nil pass0 (pa_cons (pe_fld (pv 0) rfl) pa_nil)))),?_⟩
    obtain ⟨dx,eo⟩ := sr.obj
    exact ⟨_,rfl,x,_,dx,_,_,rfl,eo,T.cl_Side,T.n_Side_rows,rfl,ex,d,L,rfl,sr.rows,hL,k⟩
def spSide0 (ad : Ad) : Sp := fun vs H Q _ => ∃ x dx,vs = [.ref x] ∧ H x = some (.ins ad.c_Side dx []) ∧ ∀ d,H d = none → Q .non (upd (upd H d (.dK [])) x (.ins ad.c_Side dx [("rows", .ref d)]))
theorem ok_side0 (T : Tx K mg ad) : FnOk P w K mg base CX0 1 ad.a_Side___init__ ad.d_Side___init__ ["self"] (spSide0 ad) := by
  refine T.F_Side___init__.ok sc_Side___init__ (fun vs H Q E h => ?_) (fun cdv A outer s H vs Q E hr h => ?_)
  · obtain ⟨x,dx,rfl,_⟩ := h
    rfl
  · obtain ⟨x,dx,rfl,e,k⟩ := h
    have nd := sc_Side___init__.nd
    refine ⟨_,(pss_one (ps_fld (pv 0) pe_dnewK rfl)),?_⟩
    intro d hd
    exact ⟨_,rfl,x,_,dx,[],rfl,by rw [upd_ne (ne_of_none e hd)]; exact e,T.cl_Side,T.n_Side_rows,by decide,k d hd⟩
theorem mkSide {ex : List Addr} {H : Hp} {x dx : Addr} {Q : VK} {E : XK} (hx : H x = none) (hdx : H dx = none) (hne : dx ≠ x) (k : ∀ d H',Same H H' → H d = none → SideR ad ex H' x d [] → Q .non H') :
    spSide0 ad [.ref x] (upd (upd H dx (.own x)) x (.ins ad.c_Side dx [])) Q E := by
  refine ⟨x,dx,rfl,upd_same,fun d hd => ?_⟩
  have nxd : x ≠ d := ne_of_none upd_same hd
  rw [upd_ne nxd.symm] at hd
  have ndd : dx ≠ d := fun z => by rw [z,upd_same] at hd; cases hd
  rw [upd_ne ndd.symm] at hd
  refine k d _ (fun b o e => ?_) hd ⟨⟨dx,upd_same⟩,[],by rw [upd_ne nxd.symm]; exact upd_same,.nil,Nat.le_refl _,fun q hq => (by cases hq),fun i hi => by cases hi⟩
  rw [upd_ne (ne_of_none e hx),upd_ne (ne_of_none e hd),upd_ne (ne_of_none e hx),upd_ne (ne_of_none e hdx)]
  exact e
structure JoinR (ad : Ad) (ex : List Addr) (H : Hp) (j sl x0 x1 d0 d1 : Addr) (wi : Int) (L0 L1 : List It) : Prop where
  obj : ∃ dx,H j = some (.ins ad.c_Join dx [("within", .int wi),("sides", .ref sl)])
  sides : H sl = some (.lst [.ref x0,.ref x1])
  s0 : SideR ad ex H x0 d0 L0
  s1 : SideR ad ex H x1 d1 L1
  ne : d0 ≠ d1
  nsl : sl ∉ ex
theorem JoinR.same {ex : List Addr} {H H' : Hp} {j sl x0 x1 d0 d1 : Addr} {wi : Int} {L0 L1 : List It} (h : JoinR ad ex H j sl x0 x1 d0 d1 wi L0 L1) (s : Same H H') : JoinR ad ex H' j sl x0 x1 d0 d1 wi L0 L1 := by
  obtain ⟨⟨dx,e⟩,e2,r0,r1,n,n2⟩ := h
  exact ⟨⟨dx,s _ _ e⟩,s _ _ e2,r0.same s,r1.same s,n,n2⟩
theorem JoinR.lists {ex : List Addr} {H : Hp} {j sl x0 x1 d0 d1 c : Addr} {wi : Int} {L0 L1 : List It} {o : HO} (h : JoinR ad ex H j sl x0 x1 d0 d1 wi L0 L1) {xs : List V} (e : H c = some (.lst xs)) (hc : c ∈ ex) : JoinR ad ex (upd H c o) j sl x0 x1 d0 d1 wi L0 L1 := by
  obtain ⟨⟨dx,ej⟩,e2,r0,r1,n,n2⟩ := h
  exact ⟨⟨dx,by rw [upd_ne (fun z => by rw [z,e] at ej; cases ej)]; exact ej⟩,by rw [upd_ne (fun z => n2 (by rw [z]; exact hc))]; exact e2,r0.lists e hc,r1.lists e hc,n,n2⟩
def spJoin0 (ad : Ad) : Sp := fun vs H Q _ => ∃ (ex : List Addr) (j dx : Addr) (wi : Int),vs = [.ref j,.int wi] ∧ H j = some (.ins ad.c_Join dx []) ∧ (∀ c ∈ ex,∃ o,H c = some o) ∧
  ∀ H' sl x0 x1 d0 d1,SameX j H H' → H d0 = none → H d1 = none → JoinR ad ex H' j sl x0 x1 d0 d1 wi [] [] → Q .non H'
theorem ok_join0 (T : Tx K mg ad) : FnOk P w K mg base CX0 3 ad.a_Join___init__ ad.d_Join___init__ ["self", "within"] (spJoin0 ad) := by
  have G_Side___init__ := ok_side0 (P := P) (w := w) (base := base) T
  refine T.F_Join___init__.ok sc_Join___init__ (fun vs H Q E h => ?_) (fun cdv A outer s H vs Q E hr h => ?_)
  · obtain ⟨ex,j,dx,wi,rfl,_⟩ := h
    rfl
  · obtain ⟨ex,j,dx,wi,rfl,ej,hex,k⟩ := h
    have nd := sc_Join___init__.nd
    refine ⟨_,(pss_cons (ps_fld (pv 0) (pv 1) rfl)
        (pss_one (ps_fld (pv 0) (pe_lst (pa_cons (pe_make0 T.mk_Side G_Side___init__ (hr.mono (by decide)) (by rfl) T.mc_Side T.b_Side___init__ .nil pass0) (pa_cons (pe_make0 T.mk_Side G_Side___init__ (hr.mono (by decide)) (by rfl) T.mc_Side T.b_Side___init__ .nil pass0) pa_nil))) rfl))),?_⟩
    refine ⟨_,rfl,_,rfl,j,_,dx,[],rfl,ej,T.cl_Join,T.n_Join_within,by decide,?_⟩
    generalize hH : upd H j (HO.ins ad.c_Join dx (putF "within" (V.int wi) [])) = H1
    have x1' : SameX j H H1 := by rw [← hH]; exact ((Same.refl H).x j).upd
    have ej1 : H1 j = some (.ins ad.c_Join dx [("within", .int wi)]) := by rw [← hH]; exact upd_same
    clear hH
    intro x0 dx0 hx0 hdx0 hn0
    refine mkSide (ex := ex) hx0 hdx0 hn0 fun d0 H2 s2 hd0 r0 => ⟨rfl,?_⟩
    intro x1 dx1 hx1 hdx1 hn1
    refine mkSide (ex := ex) hx1 hdx1 hn1 fun d1 H3 s3 hd1 r1 => ⟨rfl,?_⟩
    refine ⟨Nat.le_of_ble_eq_true rfl,fun sl hsl => ?_⟩
    have s4 := Same.upd' (o := .lst [.ref x0,.ref x1]) hsl
    have esl : (upd H3 sl (.lst [.ref x0,.ref x1])) sl = some (.lst [.ref x0,.ref x1]) := upd_same
    have nsl : sl ∉ ex := fun hm => by
      obtain ⟨o,ho⟩ := hex sl hm
      by_cases z : sl = j
      · rw [z,(s2.trans s3) _ _ ej1] at hsl; cases hsl
      · rw [(s2.trans s3) _ _ (x1' _ _ z ho)] at hsl; cases hsl
    generalize upd H3 sl (.lst [.ref x0,.ref x1]) = H4 at s4 esl ⊢
    have s14 := (s2.trans s3).trans s4
    have ej4 := s14 _ _ ej1
    refine ⟨_,rfl,j,_,dx,_,rfl,ej4,T.cl_Join,T.n_Join_sides,(by show 1 < 1000; decide),?_⟩
    have r04 := r0.same (s3.trans s4)
    have r14 := r1.same s4
    have up : ∀ {x d : Addr},x ≠ j → SideR ad ex H4 x d [] → SideR ad ex (upd H4 j (.ins ad.c_Join dx [("within", .int wi),("sides", .ref sl)])) x d [] := fun hx r => by
      refine r.keep (fun C dx fs e => by rw [upd_ne hx]; exact e) (fun kvs e => by rw [upd_ne (fun z => by rw [z,ej4] at e; cases e)]; exact e) (fun b xs _ e => by rw [upd_ne (fun z => by rw [z,ej4] at e; cases e)]; exact e) ((Tp.refl H4).upd ej4 fun xs => by intro z; cases z)
    have nx0 : x0 ≠ j := fun z => by rw [z,ej1] at hx0; cases hx0
    have nx1 : x1 ≠ j := fun z => by rw [z,s2 _ _ ej1] at hx1; cases hx1
    have nd01 : d0 ≠ d1 := fun z => by
      obtain ⟨kvs,e,_⟩ := r0.rows
      rw [z,hd1] at e
      cases e
    have fr : ∀ {d : Addr},H1 d = none → H d = none := fun {d} hd => by
      cases q : H d with
      | none => rfl
      | some o =>
        by_cases z : d = j
        · rw [z,ej1] at hd; cases hd
        · rw [x1' _ _ z q] at hd; cases hd
    have hd11 : H1 d1 = none := s2.free hd1
    exact k _ sl x0 x1 d0 d1 ((x1'.trans (s14.x j)).upd) (fr hd0) (fr hd11) ⟨⟨dx,upd_same⟩,by rw [upd_ne (fun z => by rw [z,ej4] at esl; cases esl)]; exact esl,up nx0 r04,up nx1 r14,nd01,nsl⟩
theorem SideR.grow {ex : List Addr} {H : Hp} {x d l : Addr} {L : List It} (h : SideR ad ex H x d L) (hl : H l = none) : SideR ad (l :: ex) H x d L := by
  obtain ⟨o,kvs,e2,n,l',q,c⟩ := h
  refine ⟨o,kvs,e2,n,l',fun p hp => ?_,c⟩
  obtain ⟨z,r,xs,kss,e,hn,er,rest⟩ := q p hp
  exact ⟨z,r,xs,kss,e,fun hm => by rcases List.mem_cons.mp hm with rfl | hm; rw [er] at hl; cases hl; exact hn hm,er,rest⟩
theorem SideR.weak {ex : List Addr} {H : Hp} {x d l : Addr} {L : List It} (h : SideR ad (l :: ex) H x d L) : SideR ad ex H x d L := by
  obtain ⟨o,kvs,e2,n,l',q,c⟩ := h
  refine ⟨o,kvs,e2,n,l',fun p hp => ?_,c⟩
  obtain ⟨z,r,xs,kss,e,hn,rest⟩ := q p hp
  exact ⟨z,r,xs,kss,e,fun hm => hn (List.mem_cons_of_mem _ hm),rest⟩
theorem JoinR.weak {ex : List Addr} {H : Hp} {j sl x0 x1 d0 d1 l : Addr} {wi : Int} {L0 L1 : List It} (h : JoinR ad (l :: ex) H j sl x0 x1 d0 d1 wi L0 L1) : JoinR ad ex H j sl x0 x1 d0 d1 wi L0 L1 := by
  obtain ⟨o,e2,r0,r1,n,n2⟩ := h
  exact ⟨o,e2,r0.weak,r1.weak,n,fun hm => n2 (List.mem_cons_of_mem _ hm)⟩
def mx (i j : Int) : Int := if i < j then j else i
def mtK (s : Int) (i j : It) : List Key := [.inl (mx i.1 j.1),.inr i.2.1,.inl (if s = 0 then i.2.2 - j.2.2 else j.2.2 - i.2.2)]
def spMet : Sp := fun vs H Q _ => ∃ (s : Int) (p q : Addr) (i : It) (t a : Int),vs = [.int s,.ref p,.ref q] ∧ H p = some (.tup ((itK i).map kV)) ∧ H q = some (.tup [.int t,.int a]) ∧
  ∀ H' r,Same H H' → H' r = some (.tup ((mtK s i (t,i.2.1,a)).map kV)) → Q (.ref r) H'
theorem ok_met (T : Tx K mg ad) : FnOk P w K mg base CX0 1 ad.a_met_item ad.d_met_item ["side", "item", "pair"] spMet := by
  refine T.F_met_item.ok sc_met_item (fun vs H Q E h => ?_) (fun cdv A outer s H vs Q E hr h => ?_)
  · obtain ⟨s,p,q,i,t,a,rfl,_⟩ := h
    rfl
  · obtain ⟨sd,p,q,⟨t0,z,a0⟩,t,a,rfl,ep,eq,k⟩ := h
    have ep : H p = some (.tup [.int t0,.str z,.int a0]) := ep
    have nd := sc_met_item.nd
    refine ⟨_,(pss_cons (ps_set (i := 3) nd rfl (Or.inl rfl) (pe_ifExp (pt_cmpR op_eq (pv 0) pe_int (nomark _)) (pe_ix (ix_tupK (K := K)) (pv 1) pe_int (fun _ _ => rfl)) (pe_ix (ix_tupK (K := K)) (pv 2) pe_int (fun _ _ => rfl))))
        (pss_cons (ps_set (i := 4) nd rfl (Or.inl rfl) (pe_ifExp (pt_cmpR op_eq (pv 0) pe_int (nomark _)) (pe_ix (ix_tupK (K := K)) (pv 2) pe_int (fun _ _ => rfl)) (pe_ix (ix_tupK (K := K)) (pv 1) pe_int (fun _ _ => rfl))))
        (pss_one (ps_ret (pe_tup (pa_cons (pe_callB (call_max2 rfl) (by rfl) T.z_max PyProof.Rows.boot_max (pa_cons (pe_ix (ix_tupK (K := K)) (pv 1) pe_int (fun _ _ => rfl)) (pa_cons (pe_ix (ix_tupK (K := K)) (pv 2) pe_int (fun _ _ => rfl)) pa_nil))) (pa_cons (pe_ix (ix_tupK (K := K)) (pv 1) pe_int (fun _ _ => rfl)) (pa_cons (pe_op op_sub (pv 3) (pv 4)) pa_nil)))))))),?_⟩
    have i0 : ∀ {a b c : V},atI [a,b,c] 0 = some a := atI_nat (j := 0) rfl
    have i1 : ∀ {a b c : V},atI [a,b,c] 1 = some b := atI_nat (j := 1) rfl
    have i2 : ∀ {a b c : V},atI [a,b,c] 2 = some c := atI_nat (j := 2) rfl
    have j0 : ∀ {a b : V},atI [a,b] 0 = some a := atI_nat (j := 0) rfl
    have j1 : ∀ {a b : V},atI [a,b] 1 = some b := atI_nat (j := 1) rfl
    have fin : ∀ {x y : Int},x - y = (if sd = 0 then a0 - a else a - a0) → ∀ r,H r = none → Q (.ref r) (upd H r (.tup [.int (if t0 < t then t else t0),.str z,.int (x - y)])) := fun {x y} e r hr' => by
      refine k _ r ((Same.refl H).upd hr') ?_
      rw [upd_same,e]
      rfl
    refine ⟨_,rfl,rfl,_,rfl,iteVI (fun e => ?_) fun e => ?_⟩
    · refine ⟨_,rfl,p,_,_,_,rfl,rfl,SqT.of ep,i2,_,rfl,rfl,_,rfl,iteVI (fun _ => ?_) fun e' => absurd e e'⟩
      exact ⟨_,rfl,q,_,_,_,rfl,rfl,SqT.of eq,j1,_,rfl,p,_,_,_,rfl,rfl,SqT.of ep,i0,_,rfl,q,_,_,_,rfl,rfl,SqT.of eq,j0,_,_,rfl,_,rfl,p,_,_,_,rfl,rfl,SqT.of ep,i1,_,rfl,_,rfl,_,_,rfl,rfl,Nat.le_of_ble_eq_true rfl,fin (by rw [if_pos e])⟩
    · refine ⟨_,rfl,q,_,_,_,rfl,rfl,SqT.of eq,j1,_,rfl,rfl,_,rfl,iteVI (fun e' => absurd e' e) fun _ => ?_⟩
      exact ⟨_,rfl,p,_,_,_,rfl,rfl,SqT.of ep,i2,_,rfl,p,_,_,_,rfl,rfl,SqT.of ep,i0,_,rfl,q,_,_,_,rfl,rfl,SqT.of eq,j0,_,_,rfl,_,rfl,p,_,_,_,rfl,rfl,SqT.of ep,i1,_,rfl,_,rfl,_,_,rfl,rfl,Nat.le_of_ble_eq_true rfl,fin (by rw [if_neg e])⟩
def madeL (s wi : Int) (i : It) (Lo : List It) : List (List Key) := (Lo.filter fun j => decide (j.2.1 = i.2.1 ∧ i.1 - wi ≤ j.1 ∧ j.1 ≤ i.1 + wi)).map (mtK s i)
def spCome (ad : Ad) : Sp := fun vs H Q _ => ∃ (ex : List Addr) (j sl x0 x1 d0 d1 p : Addr) (wi s : Int) (L0 L1 : List It) (i : It),vs = [.ref j,.int s,.ref p] ∧ JoinR ad ex H j sl x0 x1 d0 d1 wi L0 L1 ∧ (s = 0 ∨ s = 1) ∧ (∀ c ∈ ex,∃ o,H c = some o) ∧ H p = some (.tup ((itK i).map kV)) ∧ L0.length ≤ 1000 ∧ L1.length ≤ 1000 ∧
  ∀ H' r xs kss,SameX (if s = 0 then d0 else d1) H H' → JoinR ad (r :: ex) H' j sl x0 x1 d0 d1 wi (if s = 0 then L0 ++ [i] else L0) (if s = 0 then L1 else L1 ++ [i]) → H r = none → H' r = some (.lst xs) → Rws H' xs kss → Sd kss → kss.Perm (madeL s wi i (if s = 0 then L1 else L0)) → Q (.ref r) H'
theorem ok_come (T : Tx K mg ad) : FnOk P w K mg base CX0 3 ad.a_Join_come ad.d_Join_come ["self", "side", "item"] (spCome ad) := by
  have G_Side_near := ok_near (P := P) (w := w) (base := base) T
  have G_Side_put := ok_put (P := P) (w := w) (base := base) T
  have G_met_item := ok_met (P := P) (w := w) (base := base) T
  refine T.F_Join_come.ok sc_Join_come (fun vs H Q E h => ?_) (fun cdv A outer s H vs Q E hr h => ?_)
  · obtain ⟨ex,j,sl,x0,x1,d0,d1,p,wi,sd,L0,L1,i,rfl,_⟩ := h
    rfl
  · obtain ⟨ex,j,sl,x0,x1,d0,d1,p,wi,sd,L0,L1,i,rfl,jr,hs,hex,ep,l0,l1,k⟩ := h
    have nd := sc_Join_come.nd
    refine ⟨_,(pss_cons (ps_set (i := 3) nd rfl (Or.inl rfl) (pe_meth (pe_ix (ix_listK (K := K)) (pe_fld (pv 0) rfl) (pe_op op_sub pe_int (pv 1)) (fun _ _ => rfl)) T.cl_Side T.me_Side_near G_Side_near (hr.mono (by decide)) T.b_Side_near .nil pass0 (pa_cons (pe_ix (ix_tupK (K := K)) (pv 2) pe_int (fun _ _ => rfl)) (pa_cons (pe_op op_sub (pe_ix (ix_tupK (K := K)) (pv 2) pe_int (fun _ _ => rfl)) (pe_fld (pv 0) rfl)) (pa_cons (pe_op op_add (pe_ix (ix_tupK (K := K)) (pv 2) pe_int (fun _ _ => rfl)) (pe_fld (pv 0) rfl)) pa_nil)))))
        (pss_cons (ps_expr (pe_meth (pe_ix (ix_listK (K := K)) (pe_fld (pv 0) rfl) (pv 1) (fun _ _ => rfl)) T.cl_Side T.me_Side_put G_Side_put (hr.mono (by decide)) T.b_Side_put .nil pass0 (pa_cons (pv 2) pa_nil)))
        (pss_one (ps_ret (pe_callB (call_sortedL (K := K)) (by rfl) T.z_sorted PyProof.Rows.boot_sorted (pa_cons (pe_comp1 (osc := defScope s_Join_come) [("side", 1),("item", 2)] rfl (pi_listK (K := K) (pv 3)) rfl rfl (by decide +kernel) (by decide +kernel) (by decide +kernel) ⟨rfl,rfl,rfl,rfl,trivial⟩ rfl (by decide +kernel) (fun _ _ _ _ => pts_nil) (fun _ _ _ _ => (pe_call G_met_item (hr.mono (by decide)) (by rfl) T.m_met_item T.F_met_item.kp T.b_met_item .nil pass0 (pa_cons (pv 1) (pa_cons (pv 2) (pa_cons (pv 0) pa_nil)))))) pa_nil)))))),?_⟩
    have sz : sizeLine = 16777216 := sizeLine_eq
    obtain ⟨dx,ej⟩ := jr.obj
    obtain ⟨t,z,a⟩ := i
    have ep : H p = some (.tup [.int t,.str z,.int a]) := ep
    have i0 : ∀ {a b c : V},atI [a,b,c] 0 = some a := atI_nat (j := 0) rfl
    have i1 : ∀ {a b c : V},atI [a,b,c] 1 = some b := atI_nat (j := 1) rfl
    obtain ⟨xo,do',Lo,xs,ds,Ls,at1,at2,ro,rs,nds,lo',ls',fin⟩ : ∃ (xo do' : Addr) (Lo : List It) (xs ds : Addr) (Ls : List It),atI [V.ref x0,.ref x1] (1 - sd) = some (.ref xo) ∧ atI [V.ref x0,.ref x1] sd = some (.ref xs) ∧ SideR ad ex H xo do' Lo ∧ SideR ad ex H xs ds Ls ∧ do' ≠ ds ∧ Lo.length ≤ 1000 ∧ Ls.length ≤ 1000 ∧
        ∀ H' r xs' kss,SameX ds H H' → SideR ad (r :: ex) H' xs ds (Ls ++ [(t,z,a)]) → SideR ad (r :: ex) H' xo do' Lo → H r = none → H' r = some (.lst xs') → Rws H' xs' kss → Sd kss → kss.Perm (madeL sd wi (t,z,a) Lo) → Q (.ref r) H' := by
      have ob : ∀ {H' : Hp} {d : Addr} {kvs : List (Key × V)},SameX d H H' → H d = some (.dK kvs) → (∃ dx,H' j = some (.ins ad.c_Join dx [("within", .int wi),("sides", .ref sl)])) ∧ H' sl = some (.lst [.ref x0,.ref x1]) := fun sx e =>
        ⟨⟨dx,sx _ _ (fun z => by rw [z,e] at ej; cases ej) ej⟩,sx _ _ (fun z => by have := jr.sides; rw [z,e] at this; cases this) jr.sides⟩
      have nsl : ∀ {r : Addr},H r = none → sl ∉ r :: ex := fun hr0 hm => by
        rcases List.mem_cons.mp hm with rfl | hm
        · rw [jr.sides] at hr0; cases hr0
        · exact jr.nsl hm
      rcases hs with rfl | rfl
      · refine ⟨x1,d1,L1,x0,d0,L0,atI_nat (j := 1) rfl,atI_nat (j := 0) rfl,jr.s1,jr.s0,jr.ne.symm,l1,l0,fun H' r xs' kss sx r1 r2 hr0 => ?_⟩
        obtain ⟨kvs,e,_⟩ := jr.s0.rows
        obtain ⟨o1,o2⟩ := ob sx e
        exact k H' r xs' kss sx ⟨o1,o2,r1,r2,jr.ne,nsl hr0⟩ hr0
      · refine ⟨x0,d0,L0,x1,d1,L1,atI_nat (j := 0) rfl,atI_nat (j := 1) rfl,jr.s0,jr.s1,jr.ne,l0,l1,fun H' r xs' kss sx r1 r2 hr0 => ?_⟩
        obtain ⟨kvs,e,_⟩ := jr.s1.rows
        obtain ⟨o1,o2⟩ := ob sx e
        exact k H' r xs' kss sx ⟨o1,o2,r2,r1,jr.ne,nsl hr0⟩ hr0
    obtain ⟨dxo,eo⟩ := ro.obj
    refine ⟨_,rfl,j,_,dx,_,_,rfl,ej,T.cl_Join,T.n_Join_sides,rfl,_,rfl,_,_,rfl,rfl,sl,_,_,_,rfl,rfl,SqL.of jr.sides,at1,xo,dxo,_,rfl,eo,by rfl,?_⟩
    refine ⟨_,rfl,p,_,_,_,rfl,rfl,SqT.of ep,i1,_,rfl,p,_,_,_,rfl,rfl,SqT.of ep,i0,_,rfl,j,_,dx,_,_,rfl,ej,T.cl_Join,T.n_Join_within,rfl,_,_,rfl,rfl,_,rfl,p,_,_,_,rfl,rfl,SqT.of ep,i0,_,rfl,j,_,dx,_,_,rfl,ej,T.cl_Join,T.n_Join_within,rfl,_,_,rfl,rfl,?_⟩
    refine ⟨ex,xo,do',Lo,z,t - wi,t + wi,rfl,ro,lo',fun H1 rm xm km s1 hrm em hwm sdm pmm => ?_⟩
    have rs1 := rs.same s1
    obtain ⟨dxs,es⟩ := rs1.obj
    refine ⟨_,rfl,j,_,dx,_,_,rfl,s1 _ _ ej,T.cl_Join,T.n_Join_sides,rfl,_,rfl,sl,_,_,_,rfl,rfl,SqL.of (s1 _ _ jr.sides),at2,xs,dxs,_,rfl,es,by rfl,?_⟩
    refine ⟨_,rfl,ex,xs,ds,p,Ls,(t,z,a),rfl,rs1,(fun c hc => let ⟨o,ho⟩ := hex c hc; ⟨o,s1 _ _ ho⟩),s1 _ _ ep,ls',fun H2 sx2 r2 => ?_⟩
    obtain ⟨kvs,ekv,_⟩ := rs1.rows
    have em2 : H2 rm = some (.lst xm) := sx2 _ _ (fun z => by rw [z,ekv] at em; cases em) em
    have tp2 : Tp H1 H2 := sx2.tp ekv fun xs => by intro z; cases z
    have hwm2 := hwm.keep tp2
    have ro2 := (ro.same s1).other sx2 ekv nds
    have ep2 := tp2 _ _ (s1 _ _ ep)
    have lm : km.length ≤ 1000 := by
      rw [pmm.length_eq,List.length_map]
      exact Nat.le_trans (List.length_filter_le _ _) lo'
    have lxm := hwm.len
    refine ⟨_,rfl,rm,rfl,⟨_,SqL.of em2⟩,?_⟩
    refine comp_listN (K := K) (xs := xm) (fun n τ acc H' => (∃ o,τ = [o,some (.int sd),some (.ref p)]) ∧ Same H2 H' ∧ Rws H' acc ((km.take n).map fun ks => match ks with | [.inl t',.inl a'] => mtK sd (t,z,a) (t',z,a') | _ => [])) (by omega) ⟨⟨none,rfl⟩,Same.refl _,rws_nil _⟩ (fun n τ acc H' ⟨_,s',_⟩ => SqL.of (s' _ _ em2)) ?_ ?_
    · rintro n y τ acc H3 R1 hy _ ⟨⟨o,rfl⟩,s3,hw3⟩ k1
      obtain ⟨b,kk,rfl,ek,eb⟩ := hwm2.at hy
      obtain ⟨t',a',rfl⟩ := pr_ints pmm kk (List.mem_of_getElem? ek)
      refine ⟨_,rfl,_,rfl,_,rfl,sd,p,b,(t,z,a),t',a',rfl,s3 _ _ ep2,s3 _ _ eb,fun H4 r s4 er => k1 _ _ _ ⟨⟨_,rfl⟩,s3.trans s4,?_⟩⟩
      rw [List.take_add_one,ek,List.map_append]
      exact (hw3.keep s4.tp).snoc er
    · rintro τ acc H3 la ⟨_,s3,hw3⟩ D hD
      rw [List.take_of_length_le (by omega)] at hw3
      have s4 := Same.upd' (o := .lst acc) hD
      have eD : (upd H3 D (.lst acc)) D = some (.lst acc) := upd_same
      generalize upd H3 D (.lst acc) = H4 at s4 eD ⊢
      have hw4 := hw3.keep s4.tp
      have pmm2 : List.Perm (km.map fun ks => match ks with | [.inl t',.inl a'] => mtK sd (t,z,a) (t',z,a') | _ => []) (madeL sd wi (t,z,a) Lo) := by
        refine (pmm.map _).trans (List.Perm.of_eq ?_)
        rw [List.map_map]
        rfl
      refine ⟨D,acc,_,rfl,SqL.of eD,hw4.sorts (sh := [true,false,true]) (by simp) (fun ks hk => ?_),fun l qs hl pq sq => ?_⟩
      · obtain ⟨i',_,rfl⟩ := List.mem_map.mp (pmm2.mem_iff.mp hk)
        rfl
      · obtain ⟨g1,g2⟩ := hw4.sorted pq
        have s5 := s4.upd (o := .lst (qs.map (·.1))) hl
        have s25 := s3.trans s5
        have hl0 : H l = none := by
          have h2 := (s3.trans s4).free hl
          have hne : l ≠ ds := fun z => by
            obtain ⟨kv2,e2,_⟩ := r2.rows
            rw [z,e2] at h2
            cases h2
          cases q : H l with
          | none => rfl
          | some o => rw [sx2 _ _ hne (s1 _ _ q)] at h2; cases h2
        exact fin _ l _ _ (((s1.x ds).trans sx2).trans (s25.x ds)) (((r2.same (s3.trans s4)).grow hl).same (Same.upd' hl)) (((ro2.same (s3.trans s4)).grow hl).same (Same.upd' hl)) hl0 upd_same (g1.keep (Same.upd' hl).tp) sq (g2.trans pmm2)
theorem mx_comm (a b : Int) : mx a b = mx b a := by
  unfold mx
  split <;> split <;> omega
inductive Stp where
  | take (n k : Str)
  | only (n a : Str) (lo hi : Int)
  | turn (n a : Str) (f g : Int)
  | both (n a b : Str)
  | join (n a b : Str) (wi : Int)
  | gap (n a s : Str) (m : Int)
  | each (n a s : Str) (sz st : Int)
namespace Stp
def key : Stp → List Key
  | take n k => [.inr "take", .inr n,.inr k]
  | only n a lo hi => [.inr "only", .inr n,.inr a,.inl lo,.inl hi]
  | turn n a f g => [.inr "turn", .inr n,.inr a,.inl f,.inl g]
  | both n a b => [.inr "both", .inr n,.inr a,.inr b]
  | join n a b wi => [.inr "join", .inr n,.inr a,.inr b,.inl wi]
  | gap n a s m => [.inr "gap", .inr n,.inr a,.inr s,.inl m]
  | each n a s sz st => [.inr "each", .inr n,.inr a,.inr s,.inl sz,.inl st]
def word : Stp → Str
  | take .. => "take"
  | only .. => "only"
  | turn .. => "turn"
  | both .. => "both"
  | join .. => "join"
  | gap .. => "gap"
  | each .. => "each"
def nm : Stp → Str
  | take n _ | only n _ _ _ | turn n _ _ _ | both n _ _ | join n _ _ _ | gap n _ _ _ | each n _ _ _ _ => n
def feeds : Stp → List Str
  | take .. => []
  | only _ a _ _ | turn _ a _ _ | gap _ a _ _ | each _ a _ _ _ => [a]
  | both _ a b | join _ a b _ => [a,b]
def tell : Stp → Bool
  | gap .. | each .. => true
  | _ => false
def ends : Stp → Int
  | both .. | join .. => 4
  | _ => 3
def pair : Stp → Bool
  | both .. | join .. => true
  | _ => false
end Stp
def StA (H : Hp) (p : Addr) (s : Stp) : Prop := H p = some (.tup (s.key.map kV))
theorem StA.tp {H H' : Hp} {p : Addr} {s : Stp} (h : StA H p s) (t : Tp H H') : StA H' p s := t _ _ h
def PAI : List V := [.str "both", .str "join"]
def TEL : List V := [.str "each", .str "gap"]
theorem StA.word {H : Hp} {p : Addr} {s : Stp} (h : StA H p s) : SqT K H p (s.key.map kV) ∧ atI (s.key.map kV) 0 = some (.str s.word) ∧ atI (s.key.map kV) 1 = some (.str s.nm) := by
  refine ⟨SqT.of h,?_⟩
  cases s <;> exact ⟨atI_nat (j := 0) rfl,atI_nat (j := 1) rfl⟩
theorem word_pair : ∀ st : Stp,inV (.str st.word) PAI = st.pair
  | .take .. => (by decide +kernel : inV (.str "take") PAI = false)
  | .only .. => (by decide +kernel : inV (.str "only") PAI = false)
  | .turn .. => (by decide +kernel : inV (.str "turn") PAI = false)
  | .both .. => (by decide +kernel : inV (.str "both") PAI = true)
  | .join .. => (by decide +kernel : inV (.str "join") PAI = true)
  | .gap .. => (by decide +kernel : inV (.str "gap") PAI = false)
  | .each .. => (by decide +kernel : inV (.str "each") PAI = false)
theorem word_tell : ∀ st : Stp,inV (.str st.word) TEL = st.tell
  | .take .. => (by decide +kernel : inV (.str "take") TEL = false)
  | .only .. => (by decide +kernel : inV (.str "only") TEL = false)
  | .turn .. => (by decide +kernel : inV (.str "turn") TEL = false)
  | .both .. => (by decide +kernel : inV (.str "both") TEL = false)
  | .join .. => (by decide +kernel : inV (.str "join") TEL = false)
  | .gap .. => (by decide +kernel : inV (.str "gap") TEL = true)
  | .each .. => (by decide +kernel : inV (.str "each") TEL = true)
def Stp.no : Stp → Nat
  | .take .. => 0
  | .only .. => 1
  | .turn .. => 2
  | .both .. => 3
  | .join .. => 4
  | .gap .. => 5
  | .each .. => 6
def wordAt : List Str := ["take", "only", "turn", "both", "join", "gap", "each"]
theorem word_at (st : Stp) : wordAt[st.no]? = some st.word := by cases st <;> rfl
theorem word_no {st : Stp} {i : Nat} {z : Str} (hz : wordAt[i]? = some z) (e : st.word = z) : st.no = i := by
  have nd : wordAt.Nodup := by decide +kernel
  have h := word_at st
  rw [e] at h
  obtain ⟨h1,g1⟩ := List.getElem?_eq_some_iff.mp h
  obtain ⟨h2,g2⟩ := List.getElem?_eq_some_iff.mp hz
  have pw := List.pairwise_iff_getElem.mp nd
  rcases Nat.lt_trichotomy st.no i with q | q | q
  · exact absurd (g1.trans g2.symm) (pw _ _ h1 h2 q)
  · exact q
  · exact absurd (g2.trans g1.symm) (pw _ _ h2 h1 q)
theorem word_ne {st : Stp} {i : Nat} {z : Str} (hz : wordAt[i]? = some z) (e : st.no ≠ i) : st.word ≠ z := fun q => e (word_no hz q)
theorem iteW {st : Stp} {i : Nat} {z : Str} {A B : Prop} (hz : wordAt[i]? = some z) (ha : st.no = i → A) (hb : st.no ≠ i → B) : if decide (V.str st.word = V.str z) = true then A else B := by
  by_cases h : st.no = i
  · have e : st.word = z := by have := word_at st; rw [h,hz] at this; exact (Option.some.inj this).symm
    rw [if_pos (by rw [e]; exact decide_eq_true rfl)]
    exact ha h
  · rw [if_neg (by rw [decide_eq_true_eq]; exact fun q => word_ne hz h (V.str.inj q))]
    exact hb h
def spEnd : Sp := fun vs H Q _ => ∃ (p : Addr) (s : Stp),vs = [.ref p] ∧ StA H p s ∧ Q (.int s.ends) H
theorem ok_names_end (T : Tx K mg ad) : FnOk P w K mg base CX0 1 ad.a_names_end ad.d_names_end ["step"] spEnd := by
  refine T.F_names_end.ok sc_names_end (fun vs H Q E h => ?_) (fun cdv A outer s H vs Q E hr h => ?_)
  · obtain ⟨p,s,rfl,_⟩ := h
    rfl
  · obtain ⟨p,st,rfl,e,k⟩ := h
    have nd := sc_names_end.nd
    refine ⟨_,(pss_one (ps_ret (pe_ifExp (pt_cmpR (op_in_seqK (K := K)) (pe_ix (ix_tupK (K := K)) (pv 0) pe_int (fun _ _ => rfl)) (pe_glob (v := .ref ad.o_PAIRED) (by rfl) T.g_PAIRED rfl) (by with_unfolding_all rfl)) pe_int pe_int))),?_⟩
    obtain ⟨e0,e1,e2⟩ := e.word (K := K)
    refine ⟨_,rfl,p,_,_,_,rfl,rfl,e0,e1,_,PAI,rfl,.inr (T.q_PAIRED H),rfl,rfl,_,rfl,?_⟩
    have ew := word_pair st
    refine iteB (fun q => ?_) fun q => ?_
    · have q : inV (.str st.word) PAI = true := q
      rw [ew] at q
      cases st <;> first | exact k | cases q
    · have q : inV (.str st.word) PAI = false := q
      rw [ew] at q
      cases st <;> first | exact k | cases q
def spNm : Sp := fun vs H Q _ => ∃ (p : Addr) (s : Stp),vs = [.ref p] ∧ StA H p s ∧ Q (.str s.nm) H
theorem ok_name_of (T : Tx K mg ad) : FnOk P w K mg base CX0 1 ad.a_name_of ad.d_name_of ["step"] spNm := by
  refine T.F_name_of.ok sc_name_of (fun vs H Q E h => ?_) (fun cdv A outer s H vs Q E hr h => ?_)
  · obtain ⟨p,s,rfl,_⟩ := h
    rfl
  · obtain ⟨p,st,rfl,e,k⟩ := h
    have nd := sc_name_of.nd
    refine ⟨_,(pss_one (ps_ret (pe_ix (ix_tupK (K := K)) (pv 0) pe_int (fun _ _ => rfl)))),?_⟩
    obtain ⟨e0,e1,e2⟩ := e.word (K := K)
    exact ⟨_,rfl,p,_,_,_,rfl,rfl,e0,e2,k⟩
def spTell : Sp := fun vs H Q _ => ∃ (p : Addr) (s : Stp),vs = [.ref p] ∧ StA H p s ∧ Q (.bl s.tell) H
theorem ok_is_teller (T : Tx K mg ad) : FnOk P w K mg base CX0 1 ad.a_is_teller ad.d_is_teller ["step"] spTell := by
  refine T.F_is_teller.ok sc_is_teller (fun vs H Q E h => ?_) (fun cdv A outer s H vs Q E hr h => ?_)
  · obtain ⟨p,s,rfl,_⟩ := h
    rfl
  · obtain ⟨p,st,rfl,e,k⟩ := h
    have nd := sc_is_teller.nd
    refine ⟨_,(pss_one (ps_ret (pe_cmpR (op_in_seqK (K := K)) (pe_ix (ix_tupK (K := K)) (pv 0) pe_int (fun _ _ => rfl)) (pe_glob (v := .ref ad.o_TELLERS) (by rfl) T.g_TELLERS rfl) (by with_unfolding_all rfl)))),?_⟩
    obtain ⟨e0,e1,e2⟩ := e.word (K := K)
    have ew := word_tell st
    refine ⟨_,rfl,p,_,_,_,rfl,rfl,e0,e1,_,TEL,rfl,.inr (T.q_TELLERS H),rfl,rfl,?_⟩
    show Q (.bl (inV (.str st.word) TEL)) H
    rw [ew]
    exact k
def spFeeds : Sp := fun vs H Q _ => ∃ (p : Addr) (s : Stp),vs = [.ref p] ∧ StA H p s ∧ ∀ l H',Same H H' → H l = none → H' l = some (.lst (s.feeds.map V.str)) → Q (.ref l) H'
theorem ok_feeders (T : Tx K mg ad) : FnOk P w K mg base CX0 2 ad.a_feeders ad.d_feeders ["step"] spFeeds := by
  have G_names_end := ok_names_end (P := P) (w := w) (base := base) T
  refine T.F_feeders.ok sc_feeders (fun vs H Q E h => ?_) (fun cdv A outer s H vs Q E hr h => ?_)
  · obtain ⟨p,s,rfl,_⟩ := h
    rfl
  · obtain ⟨p,st,rfl,e,k⟩ := h
    have nd := sc_feeders.nd
    refine ⟨_,(pss_cons (ps_if (pt_cmpR op_eq (pe_ix (ix_tupK (K := K)) (pv 0) pe_int (fun _ _ => rfl)) pe_str (nomark _))
        (pss_one (ps_ret (pe_lst pa_nil)))
        pss_nil)
        (pss_one (ps_ret (pe_callTy (call_list_ofK (K := K)) (by rfl) T.z_list PyProof.Rows.boot_list (pa_cons (pe_slice (sl_tupK (K := K)) (pv 0) (po_some pe_int) (po_some (pe_call G_names_end (hr.mono (by decide)) (by rfl) T.m_names_end T.F_names_end.kp T.b_names_end .nil pass0 (pa_cons (pv 0) pa_nil)))) pa_nil))))),?_⟩
    obtain ⟨e0,e1,e2⟩ := e.word (K := K)
    refine ⟨_,rfl,p,_,_,_,rfl,rfl,e0,e1,rfl,_,rfl,iteW (i := 0) rfl (fun q1 => ?_) fun q1 => ?_⟩
    · have ef : st.feeds = [] := by cases st <;> first | rfl | cases q1
      exact ⟨Nat.zero_le _,fun l hl => k l _ ((Same.refl H).upd hl) hl (by rw [ef]; exact upd_same)⟩
    · have ef : cutV (st.key.map kV) (some 2) (some st.ends) = st.feeds.map V.str := by
        cases st <;> first | rfl | exact absurd rfl q1
      refine ⟨_,rfl,_,rfl,_,rfl,p,st,rfl,e,_,rfl,p,_,rfl,e0,?_,fun p2 hp2 => ⟨p2,_,rfl,.inr (SqT.of upd_same),fun l hl => k l _ (((Same.refl H).upd hp2).upd hl) (by have hl' := hl; rw [upd_ne (ne_of_none upd_same hl').symm] at hl; exact hl) ?_⟩⟩
      · rintro ⟨q,_⟩
        have hl : 3 ≤ (st.key.map kV).length := by cases st <;> exact Nat.le_of_ble_eq_true rfl
        have q2 := (HT.sIx_nat (st.key.map kV).length 0 2).symm.trans q
        omega
      · rw [upd_same,ef]
theorem JoinR.grow {ex : List Addr} {H : Hp} {j sl x0 x1 d0 d1 l : Addr} {wi : Int} {L0 L1 : List It} (h : JoinR ad ex H j sl x0 x1 d0 d1 wi L0 L1) (hl : H l = none) : JoinR ad (l :: ex) H j sl x0 x1 d0 d1 wi L0 L1 := by
  obtain ⟨o,e2,r0,r1,n,n2⟩ := h
  exact ⟨o,e2,r0.grow hl,r1.grow hl,n,fun hm => by rcases List.mem_cons.mp hm with rfl | hm; rw [e2] at hl; cases hl; exact n2 hm⟩
def HeldR (ex : List Addr) (H : Hp) (hs : List V) : Prop := ∀ v ∈ hs,∃ (q r r' : Addr) (ys ys' : List V) (kss : List (List Key)),v = .ref q ∧ H q = some (.tup [.ref r,.ref r']) ∧ H r = some (.lst ys) ∧ H r' = some (.lst ys') ∧ Rws H ys kss ∧ Rws H ys' kss ∧ (∀ ks ∈ kss,ksOk ks = true) ∧ r ∉ ex ∧ r' ∉ ex
theorem HeldR.keep {ex : List Addr} {H H' : Hp} {hs : List V} (h : HeldR ex H hs) (kl : ∀ b xs,b ∉ ex → H b = some (.lst xs) → H' b = some (.lst xs)) (t : Tp H H') : HeldR ex H' hs := fun v hv => by
  obtain ⟨q,r,r',ys,ys',kss,e,eq,er,er',w1,w2,ok,n1,n2⟩ := h v hv
  exact ⟨q,r,r',ys,ys',kss,e,t _ _ eq,kl _ _ n1 er,kl _ _ n2 er',w1.keep t,w2.keep t,ok,n1,n2⟩
def CameR (H : Hp) (c : Addr) (L : List It) : Prop := ∃ xs,H c = some (.lst xs) ∧ Rws H xs (L.map itK)
theorem CameR.keep {H H' : Hp} {c : Addr} {L : List It} (h : CameR H c L) (k : ∀ xs,H c = some (.lst xs) → H' c = some (.lst xs)) (t : Tp H H') : CameR H' c L := by
  obtain ⟨xs,e,w⟩ := h
  exact ⟨xs,k _ e,w.keep t⟩
theorem CameR.len {H : Hp} {c : Addr} {L : List It} {xs : List V} (h : CameR H c L) (e : H c = some (.lst xs)) : xs.length = L.length := by
  obtain ⟨ys,e',w⟩ := h
  rw [e] at e'
  cases e'
  rw [w.len,List.length_map]
theorem CameR.snoc {H : Hp} {c p : Addr} {L : List It} {i : It} {xs : List V} (h : CameR H c L) (e : H c = some (.lst xs)) (ep : H p = some (.tup ((itK i).map kV))) : CameR (upd H c (.lst (xs ++ [.ref p]))) c (L ++ [i]) := by
  obtain ⟨ys,e',w⟩ := h
  rw [e] at e'
  cases e'
  refine ⟨_,upd_same,?_⟩
  rw [List.map_append]
  exact (w.snoc ep).keep ((Tp.refl H).upd e fun xs => by intro z; cases z)
theorem it_ok {i : It} (h : AS i.2.1) : ksOk (itK i) = true ∧ ksOk (kpK i) = true := by
  have := h.ok
  simp [ksOk,itK,kpK,kOk,this]
theorem kept_ok {L : List It} (h : ∀ i ∈ L,AS i.2.1) : ∀ ks ∈ L.map kpK,ksOk ks = true := fun ks hk => by
  obtain ⟨j,hj,rfl⟩ := List.mem_map.mp hk
  exact (it_ok (h j hj)).2
abbrev Ev := Int × Str × Str × Int
def evK (e : Ev) : List Key := [.inl e.1,.inr e.2.1,.inr e.2.2.1,.inl e.2.2.2]
def evI (e : Ev) : It := (e.1,e.2.2.1,e.2.2.2)
def EvA (H : Hp) (p : Addr) (e : Ev) : Prop := H p = some (.tup ((evK e).map kV))
theorem upd_none {H : Hp} {p l : Addr} {o : HO} (h : (upd H p o) l = none) : H l = none := by
  have hn : l ≠ p := (ne_of_none upd_same h).symm
  rw [upd_ne hn] at h
  exact h
def tookE (k : Str) (e : Ev) : List It := if e.2.1 = k then [evI e] else []
def spTaken : Sp := fun vs H Q _ => ∃ (p q : Addr) (n k : Str) (e : Ev),vs = [.ref p,.ref q] ∧ StA H p (.take n k) ∧ EvA H q e ∧ ∀ l H',Same H H' → H l = none → CameR H' l (tookE k e) → Q (.ref l) H'
theorem ok_taken (T : Tx K mg ad) : FnOk P w K mg base CX0 1 ad.a_taken ad.d_taken ["step", "event"] spTaken := by
  refine T.F_taken.ok sc_taken (fun vs H Q E h => ?_) (fun cdv A outer s H vs Q E hr h => ?_)
  · obtain ⟨p,q,n,k,e,rfl,_⟩ := h
    rfl
  · obtain ⟨p,q,n,kd,⟨t,ki,z,am⟩,rfl,e,eq,k⟩ := h
    have nd := sc_taken.nd
    refine ⟨_,(pss_one (ps_ret (pe_ifExp (pt_cmpR op_eq (pe_ix (ix_tupK (K := K)) (pv 1) pe_int (fun _ _ => rfl)) (pe_ix (ix_tupK (K := K)) (pv 0) pe_int (fun _ _ => rfl)) (nomark _)) (pe_lst (pa_cons (pe_tup (pa_cons (pe_ix (ix_tupK (K := K)) (pv 1) pe_int (fun _ _ => rfl)) (pa_cons (pe_ix (ix_tupK (K := K)) (pv 1) pe_int (fun _ _ => rfl)) (pa_cons (pe_ix (ix_tupK (K := K)) (pv 1) pe_int (fun _ _ => rfl)) pa_nil)))) pa_nil)) (pe_lst pa_nil)))),?_⟩
    have e0 : SqT K H p _ := SqT.of e
    have q0 : SqT K H q _ := SqT.of eq
    refine ⟨_,rfl,q,_,_,_,rfl,rfl,q0,atI_nat (j := 1) rfl,_,rfl,p,_,_,_,rfl,rfl,e0,atI_nat (j := 2) rfl,rfl,_,rfl,iteVS (fun h => ?_) fun h => ?_⟩
    · refine ⟨_,rfl,q,_,_,_,rfl,rfl,q0,atI_nat (j := 0) rfl,_,rfl,q,_,_,_,rfl,rfl,q0,atI_nat (j := 2) rfl,_,rfl,q,_,_,_,rfl,rfl,q0,atI_nat (j := 3) rfl,Nat.le_of_ble_eq_true rfl,fun p1 hp1 => ⟨Nat.le_of_ble_eq_true rfl,fun l hl => k l _ (((Same.refl H).upd hp1).upd hl) (upd_none hl) ⟨[.ref p1],upd_same,?_⟩⟩⟩
      show Rws _ [.ref p1] ((tookE kd (t,ki,z,am)).map itK)
      rw [show tookE kd (t,ki,z,am) = [(t,z,am)] from if_pos h]
      exact (rws_nil _).snoc (ks := itK (t,z,am)) (by rw [upd_ne (ne_of_none upd_same hl)]; exact upd_same)
    · refine ⟨Nat.zero_le _,fun l hl => k l _ ((Same.refl H).upd hl) hl ⟨[],upd_same,?_⟩⟩
      show Rws _ [] ((tookE kd (t,ki,z,am)).map itK)
      rw [show tookE kd (t,ki,z,am) = [] from if_neg h]
      exact rws_nil _
def trnI (f g : Int) (i : It) : It := (i.1,i.2.1,i.2.2 * f + g)
def spTurned : Sp := fun vs H Q _ => ∃ (p q : Addr) (n a : Str) (f g : Int) (i : It),vs = [.ref p,.ref q] ∧ StA H p (.turn n a f g) ∧ (-100 ≤ f ∧ f ≤ 100) ∧ H q = some (.tup ((itK i).map kV)) ∧ ∀ r H',Same H H' → H' r = some (.tup ((itK (trnI f g i)).map kV)) → Q (.ref r) H'
theorem ok_turned (T : Tx K mg ad) : FnOk P w K mg base CX0 1 ad.a_turned ad.d_turned ["step", "item"] spTurned := by
  refine T.F_turned.ok sc_turned (fun vs H Q E h => ?_) (fun cdv A outer s H vs Q E hr h => ?_)
  · obtain ⟨p,q,n,a,f,g,i,rfl,_⟩ := h
    rfl
  · obtain ⟨p,q,n,a,f,g,⟨t,z,am⟩,rfl,e,⟨f0,f1⟩,eq,k⟩ := h
    have nd := sc_turned.nd
    refine ⟨_,(pss_one (ps_ret (pe_op (op_catTK (K := K)) (pe_op (op_catTK (K := K)) (pe_slice (sl_tupK (K := K)) (pv 1) po_none (po_some pe_int)) (pe_tup (pa_cons (pe_op op_add (pe_op op_mul (pe_ix (ix_tupK (K := K)) (pv 1) pe_int (fun _ _ => rfl)) (pe_ix (ix_tupK (K := K)) (pv 0) pe_int (fun _ _ => rfl))) (pe_ix (ix_tupK (K := K)) (pv 0) pe_int (fun _ _ => rfl))) pa_nil))) (pe_slice (sl_tupK (K := K)) (pv 1) (po_some pe_int) po_none)))),?_⟩
    have e0 : SqT K H p _ := SqT.of e
    have q0 : SqT K H q _ := SqT.of eq
    refine ⟨_,rfl,_,rfl,q,_,rfl,q0,(by show ¬ (HT.sIx 3 0 none = 0 ∧ HT.sIx 3 3 (some 2) = 3); decide),fun p1 hp1 => ?_⟩
    have s1 := (Same.refl H).upd (o := .tup (cutV ((itK (t,z,am)).map kV) none (some 2))) hp1
    refine ⟨_,rfl,q,_,_,_,rfl,rfl,SqT.of (s1 _ _ eq),atI_nat (j := 2) rfl,_,rfl,p,_,_,_,rfl,rfl,SqT.of (s1 _ _ e),atI_nat (j := 3) rfl,_,_,rfl,rfl,.inr ⟨by omega,by omega⟩,_,rfl,p,_,_,_,rfl,rfl,SqT.of (s1 _ _ e),atI_nat (j := 4) rfl,_,_,rfl,rfl,Nat.le_of_ble_eq_true rfl,fun p2 hp2 => ?_⟩
    have s2 := s1.upd (o := .tup [V.int (am * f + g)]) hp2
    have n12 : p1 ≠ p2 := ne_of_none upd_same hp2
    refine ⟨p1,p2,[V.int t,V.str z],[V.int (am * f + g)],rfl,rfl,SqT.of (by rw [upd_ne n12]; exact upd_same),SqT.of upd_same,(by intro h; cases h),Nat.le_of_ble_eq_true rfl,(fun h => by cases h),fun _ p3 hp3 => ?_⟩
    have s3 := s2.upd (o := .tup [V.int t,V.str z,V.int (am * f + g)]) hp3
    refine ⟨_,rfl,_,rfl,q,_,rfl,SqT.of (s3 _ _ eq),(by show ¬ (HT.sIx 3 0 (some 3) = 0 ∧ HT.sIx 3 3 none = 3); decide),fun p4 hp4 => ?_⟩
    have s4 := s3.upd (o := .tup (cutV ((itK (t,z,am)).map kV) (some 3) none)) hp4
    have n34 : p3 ≠ p4 := ne_of_none upd_same hp4
    have e3 : (upd (upd (upd (upd H p1 (.tup [V.int t,V.str z])) p2 (.tup [V.int (am * f + g)])) p3 (.tup [V.int t,V.str z,V.int (am * f + g)])) p4 (.tup [])) p3 = some (.tup [V.int t,V.str z,V.int (am * f + g)]) := by
      rw [upd_ne n34]; exact upd_same
    exact ⟨p3,p4,[V.int t,V.str z,V.int (am * f + g)],[],rfl,rfl,SqT.of e3,SqT.of upd_same,(by intro h; cases h),Nat.le_of_ble_eq_true rfl,fun _ => k p3 _ s4 e3,fun h => absurd rfl h⟩
def passS : Stp → List (List It) → List It
  | .only _ _ lo hi,[A] => A.filter fun i => decide (lo ≤ i.2.2 ∧ i.2.2 ≤ hi)
  | .turn _ _ f g,[A] => A.map (trnI f g)
  | .both ..,[A,B] => A ++ B
  | .gap ..,[A] => A
  | .each ..,[A] => A
  | _,_ => []
def stOk : Stp → Prop
  | .turn _ _ f _ => -100 ≤ f ∧ f ≤ 100
  | _ => True
def CamesR (H : Hp) (rs : List V) (Ls : List (List It)) : Prop := Paired (fun x L => ∃ r,x = .ref r ∧ CameR H r L) rs Ls
theorem filt_snoc' {α : Type} {p : α → Bool} {l : List α} {n : Nat} {x : α} (e : l[n]? = some x) : (l.take (n + 1)).filter p = (l.take n).filter p ++ (if p x = true then [x] else []) := by
  rw [List.take_add_one,e,List.filter_append]
  congr 1
  show [x].filter p = _
  rw [List.filter_cons]
  cases p x <;> rfl
theorem one_of {α : Type} {l : List α} (h : l.length = 1) : ∃ x,l = [x] := List.length_eq_one_iff.mp h
theorem cames_one {H : Hp} {rs : List V} {L : List It} (h : CamesR H rs [L]) : ∃ r xs,rs = [.ref r] ∧ H r = some (.lst xs) ∧ Rws H xs (L.map itK) := by
  cases h with
  | cons a b =>
    cases b
    obtain ⟨r,rfl,xs,e,w⟩ := a
    exact ⟨r,xs,rfl,e,w⟩
theorem two_of {α : Type} {l : List α} (h : l.length = 2) : ∃ x y,l = [x,y] := by
  match l,h with
  | [x,y],_ => exact ⟨x,y,rfl⟩
theorem cames_two {H : Hp} {rs : List V} {L M : List It} (h : CamesR H rs [L,M]) : ∃ r r' xs xs',rs = [.ref r,.ref r'] ∧ H r = some (.lst xs) ∧ H r' = some (.lst xs') ∧ Rws H xs (L.map itK) ∧ Rws H xs' (M.map itK) := by
  cases h with
  | cons a b =>
    cases b with
    | cons b c =>
      cases c
      obtain ⟨r,rfl,xs,e,w⟩ := a
      obtain ⟨r',rfl,xs',e',w'⟩ := b
      exact ⟨r,r',xs,xs',rfl,e,e',w,w'⟩
def spPassed : Sp := fun vs H Q _ => ∃ (p ls : Addr) (s : Stp) (rs : List V) (Ls : List (List It)),vs = [.ref p,.ref ls] ∧ StA H p s ∧ stOk s ∧ s.no ≠ 0 ∧ s.no ≠ 4 ∧ H ls = some (.lst rs) ∧ CamesR H rs Ls ∧ Ls.length = s.feeds.length ∧ (∀ L ∈ Ls,L.length ≤ 1000) ∧
  ∀ r H',Same H H' → CameR H' r (passS s Ls) → (H r = none ∨ V.ref r ∈ rs) → Q (.ref r) H'
theorem ok_passed (T : Tx K mg ad) : FnOk P w K mg base CX0 2 ad.a_passed ad.d_passed ["step", "streams"] spPassed := by
  have G_turned := ok_turned (P := P) (w := w) (base := base) T
  refine T.F_passed.ok sc_passed (fun vs H Q E h => ?_) (fun cdv A outer s H vs Q E hr h => ?_)
  · obtain ⟨p,ls,s,rs,Ls,rfl,_⟩ := h
    rfl
  · obtain ⟨p,ls,st,rs,Ls,rfl,e,ok,n0,n4,els,cs,cl,cz,k⟩ := h
    have nd := sc_passed.nd
    refine ⟨_,(pss_cons (ps_if (pt_cmpR op_eq (pe_ix (ix_tupK (K := K)) (pv 0) pe_int (fun _ _ => rfl)) pe_str (nomark _))
        (pss_one (ps_ret (pe_comp1 (osc := defScope s_passed) [("step", 0)] rfl (pi_listK (K := K) (pe_ix (ix_listK (K := K)) (pv 1) pe_int (fun _ _ => rfl))) rfl rfl (by decide +kernel) (by decide +kernel) (by decide +kernel) ⟨rfl,rfl,trivial⟩ rfl (by decide +kernel) (fun _ _ _ _ => pts_one (pt_chain op_le op_le (pe_ix (ix_tupK (K := K)) (pv 1) pe_int (fun _ _ => rfl)) (pe_ix (ix_tupK (K := K)) (pv 0) pe_int (fun _ _ => rfl)) (pe_ix (ix_tupK (K := K)) (pv 1) pe_int (fun _ _ => rfl)))) (fun _ _ _ _ => (pv 0)))))
        pss_nil)
        (pss_cons (ps_if (pt_cmpR op_eq (pe_ix (ix_tupK (K := K)) (pv 0) pe_int (fun _ _ => rfl)) pe_str (nomark _))
        (pss_one (ps_ret (pe_comp1 (osc := defScope s_passed) [("step", 0)] rfl (pi_listK (K := K) (pe_ix (ix_listK (K := K)) (pv 1) pe_int (fun _ _ => rfl))) rfl rfl (by decide +kernel) (by decide +kernel) (by decide +kernel) ⟨rfl,rfl,trivial⟩ rfl (by decide +kernel) (fun _ _ _ _ => pts_nil) (fun _ _ _ _ => (pe_call G_turned (hr.mono (by decide)) (by rfl) T.m_turned T.F_turned.kp T.b_turned .nil pass0 (pa_cons (pv 1) (pa_cons (pv 0) pa_nil)))))))
        pss_nil)
        (pss_cons (ps_if (pt_cmpR op_eq (pe_ix (ix_tupK (K := K)) (pv 0) pe_int (fun _ _ => rfl)) pe_str (nomark _))
        (pss_one (ps_ret (pe_op op_cat (pe_ix (ix_listK (K := K)) (pv 1) pe_int (fun _ _ => rfl)) (pe_ix (ix_listK (K := K)) (pv 1) pe_int (fun _ _ => rfl)))))
        pss_nil)
        (pss_one (ps_ret (pe_ix (ix_listK (K := K)) (pv 1) pe_int (fun _ _ => rfl))))))),?_⟩
    have sz : sizeLine = 16777216 := sizeLine_eq
    obtain ⟨e0,e1,e2⟩ := e.word (K := K)
    refine ⟨_,rfl,p,_,_,_,rfl,rfl,e0,e1,rfl,_,rfl,iteW (i := 1) rfl (fun q1 => ?_) fun q1 => ?_⟩
    · obtain ⟨n,a,lo,hi,rfl⟩ : ∃ n a lo hi,st = .only n a lo hi := by cases st <;> first | exact ⟨_,_,_,_,rfl⟩ | cases q1
      obtain ⟨L,rfl⟩ := one_of cl
      obtain ⟨r,xs,rfl,er,hw⟩ := cames_one cs
      have hL := cz L (.head _)
      have hx := hw.len
      rw [List.length_map] at hx
      refine ⟨_,rfl,ls,_,_,_,rfl,rfl,SqL.of els,atI_nat (j := 0) rfl,r,rfl,⟨_,SqL.of er⟩,?_⟩
      refine comp_list (K := K) (xs := xs) (fun m τ acc H' => (∃ o,τ = [o,some (.ref p)]) ∧ H' = H ∧ Rws H acc (((L.take m).filter fun i => decide (lo ≤ i.2.2 ∧ i.2.2 ≤ hi)).map itK)) (by omega) ⟨⟨none,rfl⟩,rfl,rws_nil _⟩ (fun m τ acc H' ⟨_,e,_⟩ => by rw [e]; exact SqL.of er) ?_ ?_
      · rintro m y τ acc H' R1 R0 hy _ ⟨⟨o,rfl⟩,rfl,hp⟩ k1 k0
        obtain ⟨b,ks,rfl,ek,eb⟩ := hw.at hy
        rw [List.getElem?_map] at ek
        obtain ⟨⟨t,z,am⟩,ei,rfl⟩ := Option.map_eq_some_iff.mp ek
        have fs := filt_snoc' (p := fun i : It => decide (lo ≤ i.2.2 ∧ i.2.2 ≤ hi)) ei
        refine ⟨_,rfl,p,_,_,_,rfl,rfl,e0,atI_nat (j := 3) rfl,_,rfl,b,_,_,_,rfl,rfl,SqT.of eb,atI_nat (j := 2) rfl,_,_,rfl,rfl,_,rfl,?_⟩
        have no : ¬ (lo ≤ am ∧ am ≤ hi) → Rws H' acc (((L.take (m + 1)).filter fun i => decide (lo ≤ i.2.2 ∧ i.2.2 ≤ hi)).map itK) := fun q => by
          rw [fs,if_neg (by rw [decide_eq_true_eq]; exact q),List.append_nil]
          exact hp
        refine iteP (fun h1 => ?_) fun h1 => ⟨_,rfl,iteF (k0 _ _ ⟨⟨_,rfl⟩,rfl,no fun q => h1 q.1⟩)⟩
        refine ⟨_,rfl,p,_,_,_,rfl,rfl,e0,atI_nat (j := 4) rfl,_,_,rfl,rfl,_,rfl,iteP (fun h2 => ?_) fun h2 => k0 _ _ ⟨⟨_,rfl⟩,rfl,no fun q => h2 q.2⟩⟩
        refine ⟨_,rfl,k1 _ _ _ ⟨⟨_,rfl⟩,rfl,?_⟩⟩
        rw [fs,if_pos (by rw [decide_eq_true_eq]; exact ⟨h1,h2⟩),List.map_append]
        exact hp.snoc eb
      · rintro τ acc H' la ⟨_,rfl,hp⟩ D hD
        rw [List.take_of_length_le (by omega)] at hp
        exact k D _ ((Same.refl _).upd hD) ⟨_,upd_same,hp.keep ((Same.refl _).upd hD).tp⟩ (.inl hD)
    · refine ⟨_,rfl,p,_,_,_,rfl,rfl,e0,e1,rfl,_,rfl,iteW (i := 2) rfl (fun q2 => ?_) fun q2 => ?_⟩
      · obtain ⟨n,a,f,g,rfl⟩ : ∃ n a f g,st = .turn n a f g := by cases st <;> first | exact ⟨_,_,_,_,rfl⟩ | cases q2
        obtain ⟨L,rfl⟩ := one_of cl
        obtain ⟨r,xs,rfl,er,hw⟩ := cames_one cs
        have hL := cz L (.head _)
        have hx := hw.len
        rw [List.length_map] at hx
        refine ⟨_,rfl,ls,_,_,_,rfl,rfl,SqL.of els,atI_nat (j := 0) rfl,r,rfl,⟨_,SqL.of er⟩,?_⟩
        refine comp_listN (K := K) (xs := xs) (fun m τ acc H' => (∃ o,τ = [o,some (.ref p)]) ∧ Same H H' ∧ Rws H' acc (((L.take m).map (trnI f g)).map itK)) (by omega) ⟨⟨none,rfl⟩,Same.refl _,rws_nil _⟩ (fun m τ acc H' ⟨_,s,_⟩ => SqL.of (s _ _ er)) ?_ ?_
        · rintro m y τ acc H' R1 hy _ ⟨⟨o,rfl⟩,s,hp⟩ k1
          obtain ⟨b,ks,rfl,ek,eb⟩ := hw.at hy
          rw [List.getElem?_map] at ek
          obtain ⟨i,ei,rfl⟩ := Option.map_eq_some_iff.mp ek
          refine ⟨_,rfl,_,rfl,p,b,n,a,f,g,i,rfl,s _ _ e,ok,s _ _ eb,fun r2 H2 s2 e2 => k1 _ _ _ ⟨⟨_,rfl⟩,s.trans s2,?_⟩⟩
          rw [List.take_add_one,ei,List.map_append,List.map_append]
          exact (hp.keep s2.tp).snoc e2
        · rintro τ acc H' la ⟨_,s,hp⟩ D hD
          rw [List.take_of_length_le (by omega)] at hp
          exact k D _ (s.upd hD) ⟨_,upd_same,hp.keep ((Same.refl _).upd hD).tp⟩ (.inl (s.free hD))
      · refine ⟨_,rfl,p,_,_,_,rfl,rfl,e0,e1,rfl,_,rfl,iteW (i := 3) rfl (fun q3 => ?_) fun q3 => ?_⟩
        · obtain ⟨n,a,b,rfl⟩ : ∃ n a b,st = .both n a b := by cases st <;> first | exact ⟨_,_,_,rfl⟩ | cases q3
          obtain ⟨L,M,rfl⟩ := two_of cl
          obtain ⟨r,r',xs,xs',rfl,er,er',hw,hw'⟩ := cames_two cs
          have hL := cz L (.head _)
          have hM := cz M (.tail _ (.head _))
          have hx := hw.len
          have hx' := hw'.len
          rw [List.length_map] at hx hx'
          refine ⟨_,rfl,ls,_,_,_,rfl,rfl,SqL.of els,atI_nat (j := 0) rfl,_,rfl,ls,_,_,_,rfl,rfl,SqL.of els,atI_nat (j := 1) rfl,r,r',xs,xs',rfl,rfl,er,er',by omega,fun D hD => k D _ ((Same.refl _).upd hD) ⟨_,upd_same,?_⟩ (.inl hD)⟩
          show Rws _ _ ((L ++ M).map itK)
          rw [List.map_append]
          exact Rws.keep (paired_app hw hw') ((Same.refl _).upd hD).tp
        · have n1 : st.feeds.length = 1 ∧ ∀ L,passS st [L] = L := by
            cases st <;> first | exact ⟨rfl,fun _ => rfl⟩ | exact absurd rfl n0 | exact absurd rfl q1 | exact absurd rfl q2 | exact absurd rfl q3 | exact absurd rfl n4
          obtain ⟨L,rfl⟩ := one_of (cl.trans n1.1)
          obtain ⟨r,xs,rfl,er,hw⟩ := cames_one cs
          exact ⟨_,rfl,ls,_,_,_,rfl,rfl,SqL.of els,atI_nat (j := 0) rfl,k r _ (Same.refl _) (by rw [n1.2]; exact ⟨_,er,hw⟩) (.inr (List.mem_singleton.mpr rfl))⟩
def crossL (wi : Int) (A B : List It) : List (List Key) := A.flatMap fun i => madeL 0 wi i B
theorem madeL_app (s wi : Int) (i : It) (A B : List It) : madeL s wi i (A ++ B) = madeL s wi i A ++ madeL s wi i B := by
  unfold madeL
  rw [List.filter_append,List.map_append]
theorem crossL_left (wi : Int) (A B : List It) (i : It) : crossL wi (A ++ [i]) B = crossL wi A B ++ madeL 0 wi i B := by
  unfold crossL
  rw [List.flatMap_append]
  simp
theorem flat_app {α β : Type} (f g : α → List β) : ∀ l : List α,(l.flatMap fun x => f x ++ g x).Perm (l.flatMap f ++ l.flatMap g)
  | [] => .nil
  | a :: l => by
    simp only [List.flatMap_cons]
    refine ((List.Perm.refl _).append (flat_app f g l)).trans ?_
    rw [List.append_assoc,List.append_assoc]
    refine List.Perm.append_left _ ?_
    rw [← List.append_assoc,← List.append_assoc]
    exact List.Perm.append_right _ List.perm_append_comm
theorem crossL_one (wi : Int) (i : It) : ∀ A : List It,(A.flatMap fun j => madeL 0 wi j [i]) = madeL 1 wi i A
  | [] => rfl
  | j :: A => by
    rw [List.flatMap_cons,crossL_one wi i A]
    show _ = madeL 1 wi i ([j] ++ A)
    rw [madeL_app]
    congr 1
    unfold madeL
    rw [List.filter_cons,List.filter_cons]
    by_cases h : j.2.1 = i.2.1 ∧ i.1 - wi ≤ j.1 ∧ j.1 ≤ i.1 + wi
    · rw [if_pos (decide_eq_true h),if_pos (decide_eq_true ⟨h.1.symm,by omega,by omega⟩)]
      show [mtK 0 j i] = [mtK 1 i j]
      unfold mtK
      rw [mx_comm,h.1]
      simp
    · rw [if_neg (fun q => h (by have := of_decide_eq_true q; exact ⟨this.1.symm,by omega,by omega⟩)),if_neg (by simpa using h)]
      rfl
theorem crossL_right (wi : Int) (A B : List It) (i : It) : (crossL wi A (B ++ [i])).Perm (crossL wi A B ++ madeL 1 wi i A) := by
  unfold crossL
  rw [← crossL_one]
  refine List.Perm.trans (List.Perm.of_eq ?_) (flat_app _ _ A)
  congr 1
  funext j
  exact madeL_app ..
theorem crossL_len (wi : Int) (A B : List It) : (crossL wi A B).length ≤ A.length * B.length := by
  unfold crossL
  induction A with
  | nil => simp
  | cons i A ih =>
    rw [List.flatMap_cons,List.length_append,List.length_cons,Nat.add_mul]
    have : (madeL 0 wi i B).length ≤ B.length := by
      unfold madeL
      rw [List.length_map]
      exact List.length_filter_le _ _
    omega
def SameY (d0 d1 : Addr) (H H' : Hp) : Prop := ∀ b o,b ≠ d0 → b ≠ d1 → H b = some o → H' b = some o
theorem SameY.trans {d0 d1 : Addr} {H H1 H2 : Hp} (a : SameY d0 d1 H H1) (b : SameY d0 d1 H1 H2) : SameY d0 d1 H H2 := fun c o n m e => b c o n m (a c o n m e)
theorem same_y {H H' : Hp} (s : Same H H') (d0 d1 : Addr) : SameY d0 d1 H H' := fun b o _ _ e => s b o e
theorem samex_y0 {d0 d1 : Addr} {H H' : Hp} (s : SameX d0 H H') : SameY d0 d1 H H' := fun b o n _ e => s b o n e
theorem samex_y1 {d0 d1 : Addr} {H H' : Hp} (s : SameX d1 H H') : SameY d0 d1 H H' := fun b o _ n e => s b o n e
theorem JoinR.dks {ex : List Addr} {H : Hp} {j sl x0 x1 d0 d1 : Addr} {wi : Int} {L0 L1 : List It} (h : JoinR ad ex H j sl x0 x1 d0 d1 wi L0 L1) : (∃ k0,H d0 = some (.dK k0)) ∧ ∃ k1,H d1 = some (.dK k1) := by
  obtain ⟨k0,e0,_⟩ := h.s0.rows
  obtain ⟨k1,e1,_⟩ := h.s1.rows
  exact ⟨⟨k0,e0⟩,k1,e1⟩
theorem JoinR.y {ex : List Addr} {H H' : Hp} {j sl x0 x1 d0 d1 : Addr} {wi : Int} {L0 L1 : List It} (h : JoinR ad ex H j sl x0 x1 d0 d1 wi L0 L1) (s : SameY d0 d1 H H') {b : Addr} {o : HO} (e : H b = some o) (hn : ∀ kvs,o ≠ .dK kvs) : H' b = some o := by
  obtain ⟨⟨k0,e0⟩,k1,e1⟩ := h.dks
  exact s b o (fun z => by rw [z,e0] at e; exact hn _ (Option.some.inj e).symm) (fun z => by rw [z,e1] at e; exact hn _ (Option.some.inj e).symm) e
theorem JoinR.ytp {ex : List Addr} {H H' : Hp} {j sl x0 x1 d0 d1 : Addr} {wi : Int} {L0 L1 : List It} (h : JoinR ad ex H j sl x0 x1 d0 d1 wi L0 L1) (s : SameY d0 d1 H H') : Tp H H' := fun p xs e => h.y s e fun kvs => by intro z; cases z
theorem JoinR.other {ex : List Addr} {H H' : Hp} {j sl x0 x1 d0 d1 j' sl' x0' x1' d0' d1' : Addr} {wi wi' : Int} {L0 L1 M0 M1 : List It} (h : JoinR ad ex H j sl x0 x1 d0 d1 wi L0 L1) (g : JoinR ad ex H j' sl' x0' x1' d0' d1' wi' M0 M1) (s : SameY d0 d1 H H') (n0 : d0' ≠ d0 ∧ d0' ≠ d1) (n1 : d1' ≠ d0 ∧ d1' ≠ d1) : JoinR ad ex H' j' sl' x0' x1' d0' d1' wi' M0 M1 := by
  have k : ∀ {b : Addr} {o : HO},H b = some o → (∀ kvs,o ≠ .dK kvs) → H' b = some o := fun e hn => h.y s e hn
  obtain ⟨⟨dx,e⟩,e2,r0,r1,n,n2⟩ := g
  refine ⟨⟨dx,k e (by intro kvs z; cases z)⟩,k e2 (by intro kvs z; cases z),?_,?_,n,n2⟩
  · exact r0.keep (fun C dx fs e => k e (by intro kvs z; cases z)) (fun kvs e => s _ _ n0.1 n0.2 e) (fun b xs _ e => k e (by intro kvs z; cases z)) (h.ytp s)
  · exact r1.keep (fun C dx fs e => k e (by intro kvs z; cases z)) (fun kvs e => s _ _ n1.1 n1.2 e) (fun b xs _ e => k e (by intro kvs z; cases z)) (h.ytp s)
def spJoined (ad : Ad) : Sp := fun vs H Q _ => ∃ (ex : List Addr) (j sl x0 x1 d0 d1 ls r0 r1 : Addr) (wi : Int) (L0 L1 A B : List It),vs = [.ref j,.ref ls] ∧ JoinR ad ex H j sl x0 x1 d0 d1 wi L0 L1 ∧ (∀ c ∈ ex,∃ o,H c = some o) ∧ H ls = some (.lst [.ref r0,.ref r1]) ∧ CameR H r0 A ∧ CameR H r1 B ∧
  L0.length + A.length ≤ 700 ∧ L1.length + B.length ≤ 700 ∧
  ∀ H' m xs kss,SameY d0 d1 H H' → JoinR ad ex H' j sl x0 x1 d0 d1 wi (L0 ++ A) (L1 ++ B) → H m = none → H' m = some (.lst xs) → Rws H' xs kss → (crossL wi (L0 ++ A) (L1 ++ B)).Perm (crossL wi L0 L1 ++ kss) → Q (.ref m) H'
theorem ok_joined (T : Tx K mg ad) : FnOk P w K mg base CX0 4 ad.a_joined ad.d_joined ["join", "streams"] (spJoined ad) := by
  have G_Join_come := ok_come (P := P) (w := w) (base := base) T
  refine T.F_joined.ok sc_joined (fun vs H Q E h => ?_) (fun cdv A outer s H vs Q E hr h => ?_)
  · obtain ⟨ex,j,sl,x0,x1,d0,d1,ls,r0,r1,wi,L0,L1,A,B,rfl,_⟩ := h
    rfl
  · obtain ⟨ex,j,sl,x0,x1,d0,d1,ls,r0,r1,wi,L0,L1,C,B,rfl,jr,hex,els,⟨xa,ea,wa⟩,⟨xb,eb,wb⟩,l0,l1,k⟩ := h
    have nd := sc_joined.nd
    refine ⟨_,(pss_cons (ps_set (i := 2) nd rfl (Or.inl rfl) (pe_lst pa_nil))
        (pss_cons (ps_for PassesOwn.never rfl (pi_enum (K := K) (by rfl) T.z_enumerate (pv 1)) (pg_tup rfl (pgs_cons (pg_name (i := 3) nd rfl (Or.inl rfl)) (pgs_cons (pg_name (i := 4) nd rfl (Or.inl rfl)) pgs_nil)))
        (pss_one (ps_for PassesOwn.never rfl (pi_listK (K := K) (pv 4)) (pg_name (i := 5) nd rfl (Or.inl rfl))
        (pss_one (ps_expr (pe_bmK (K := K) F.plainAttrs_list F.slot_list_extend F.type_list_extend mt_extend (pv 2) (pa_cons (pe_meth (pv 0) T.cl_Join T.me_Join_come G_Join_come (hr.mono (by decide)) T.b_Join_come .nil pass0 (pa_cons (pv 3) (pa_cons (pv 5) pa_nil))) pa_nil)))))))
        (pss_one (ps_ret (pv 2))))),?_⟩
    have sz : sizeLine = 16777216 := sizeLine_eq
    refine ⟨Nat.zero_le _,fun u hu => ?_⟩
    have s0 := Same.upd' (o := .lst []) hu
    have eu0 : (upd H u (.lst [])) u = some (.lst []) := upd_same
    generalize upd H u (.lst []) = H0 at s0 eu0 ⊢
    have sx : ∀ {n : Nat} {x : V},[V.ref r0,V.ref r1][n]? = some x → n ≤ 1 ∧ ∃ r xs,x = .ref r ∧ H r = some (.lst xs) ∧ Rws H xs ((if n = 0 then C else B).map itK) := fun {n x} e => by
      match n,e with
      | 0,e => cases e; exact ⟨by decide,r0,xa,rfl,ea,wa⟩
      | 1,e => cases e; exact ⟨by decide,r1,xb,rfl,eb,wb⟩
    have bnd : ∀ (X Y : List It) (kss : List (List Key)),X.length ≤ 700 → Y.length ≤ 700 → (crossL wi X Y).Perm (crossL wi L0 L1 ++ kss) → kss.length ≤ 490000 := fun X Y kss hX hY pm => by
      have h1 := pm.length_eq
      rw [List.length_append] at h1
      have h2 := crossL_len wi X Y
      have h3 := Nat.mul_le_mul hX hY
      omega
    refine ⟨_,rfl,ls,rfl,⟨_,SqL.of (s0 _ _ els)⟩,for_enum (K := K) (xs := [.ref r0,.ref r1]) (fun n σ H' => ∃ (o3 o4 o5 : Option V) (acc : List V) (kss : List (List Key)),σ = [some (.ref j),some (.ref ls),some (.ref u),o3,o4,o5] ∧ SameY d0 d1 H H' ∧
        JoinR ad (u :: ex) H' j sl x0 x1 d0 d1 wi (L0 ++ (if n = 0 then [] else C)) (L1 ++ (if n ≤ 1 then [] else B)) ∧ H' u = some (.lst acc) ∧ Rws H' acc kss ∧ (crossL wi (L0 ++ (if n = 0 then [] else C)) (L1 ++ (if n ≤ 1 then [] else B))).Perm (crossL wi L0 L1 ++ kss))
      ⟨none,none,none,[],[],rfl,same_y s0 _ _,by simpa using (jr.grow hu).same s0,eu0,rws_nil _,by simp⟩ (fun n σ H' _ ⟨_,_,_,_,_,_,s',_⟩ => SqL.of (jr.y s' els (by intro kvs z; cases z))) ?_ ?_⟩
    · rintro n x σ H1 p hx ⟨o3,o4,o5,acc,kss,rfl,s1,jr1,eu,hw1,pm1⟩ hp
      obtain ⟨n1,r,xs,rfl,er,hw⟩ := sx hx
      have s2 := Same.upd' (o := .tup [.int (n : Int),.ref r]) hp
      have lx := hw.len
      rw [List.length_map] at lx
      refine ⟨p,_,rfl,SqT.of upd_same,rfl,_,_,rfl,_,_,rfl,rfl,?_⟩
      refine ⟨_,rfl,r,rfl,⟨_,SqL.of (s2 _ _ (jr.y s1 er (by intro kvs z; cases z)))⟩,for_list (K := K) (xs := xs) (fun m σ H' => ∃ (o5 : Option V) (acc : List V) (kss : List (List Key)),σ = [some (.ref j),some (.ref ls),some (.ref u),some (.int (n : Int)),some (.ref r),o5] ∧ SameY d0 d1 H H' ∧
        JoinR ad (u :: ex) H' j sl x0 x1 d0 d1 wi (L0 ++ (if n = 0 then C.take m else C)) (L1 ++ (if n = 0 then [] else B.take m)) ∧ H' u = some (.lst acc) ∧ Rws H' acc kss ∧ (crossL wi (L0 ++ (if n = 0 then C.take m else C)) (L1 ++ (if n = 0 then [] else B.take m))).Perm (crossL wi L0 L1 ++ kss))
        ⟨_,acc,kss,rfl,s1.trans (same_y s2 _ _),?_,s2 _ _ eu,hw1.keep s2.tp,?_⟩ (fun m σ H' _ ⟨_,_,_,_,s',_⟩ => SqL.of (jr.y s' er (by intro kvs z; cases z))) ?_ ?_⟩
      · have j2 := jr1.same s2
        by_cases hn : n = 0
        · subst hn; simpa using j2
        · have : n = 1 := by omega
          subst this; simpa using j2
      · by_cases hn : n = 0
        · subst hn; simpa using pm1
        · have : n = 1 := by omega
          subst this; simpa using pm1
      · rintro m y σ H2 hy ⟨o5,acc,kss,rfl,sy,jr2,eu2,hw2,pm2⟩
        obtain ⟨b,ks,rfl,ek,eb2⟩ := hw.at hy
        rw [List.getElem?_map] at ek
        obtain ⟨it,ei,rfl⟩ := Option.map_eq_some_iff.mp ek
        obtain ⟨dx,ej⟩ := jr2.obj
        have hl0 : (L0 ++ (if n = 0 then C.take m else C)).length ≤ 700 := by
          rw [List.length_append]; split
          · rw [List.length_take]; omega
          · exact l0
        have hl1 : (L1 ++ (if n = 0 then [] else B.take m)).length ≤ 700 := by
          rw [List.length_append]; split
          · simp; omega
          · rw [List.length_take]; omega
        have lacc : acc.length ≤ 490000 := by rw [hw2.len]; exact bnd _ _ _ hl0 hl1 pm2
        have h01 : (n : Int) = 0 ∨ (n : Int) = 1 := by omega
        have hex2 : ∀ c ∈ u :: ex,∃ o,H2 c = some o := fun c hc => by
          rcases List.mem_cons.mp hc with rfl | hc
          · exact ⟨_,eu2⟩
          · obtain ⟨o,eo⟩ := hex c hc
            obtain ⟨⟨k0,g0⟩,k1,g1⟩ := jr2.dks
            by_cases q0 : c = d0
            · rw [q0]; exact ⟨_,g0⟩
            · by_cases q1 : c = d1
              · rw [q1]; exact ⟨_,g1⟩
              · exact ⟨_,sy c o q0 q1 eo⟩
        refine ⟨_,rfl,.inl ⟨rfl,_,SqL.of eu2⟩,_,rfl,j,dx,_,rfl,ej,by rfl,_,rfl,_,rfl,u :: ex,j,sl,x0,x1,d0,d1,b,wi,(n : Int),_,_,it,rfl,jr2,h01,hex2,jr.ytp sy _ _ eb2,by omega,by omega,fun H3 r3 xr kr sx3 jr3 hr3 er3 hwr sdr pmr => ?_⟩
        have sy3 : SameY d0 d1 H2 H3 := by
          rcases h01 with e | e
          · rw [if_pos e] at sx3; exact samex_y0 sx3
          · rw [if_neg (by omega)] at sx3; exact samex_y1 sx3
        have eu3 := jr2.y sy3 eu2 (by intro kvs z; cases z)
        have hw3 := hw2.keep (jr2.ytp sy3)
        have lr : xr.length ≤ 700 := by
          rw [hwr.len,pmr.length_eq]
          unfold madeL
          rw [List.length_map]
          refine Nat.le_trans (List.length_filter_le _ _) ?_
          split
          · exact hl1
          · exact hl0
        refine ⟨u,r3,_,_,rfl,rfl,eu3,er3,by omega,?_⟩
        have tpu : Tp H3 (upd H3 u (.lst (acc ++ xr))) := (Tp.refl H3).upd eu3 fun xs => by intro z; cases z
        have j4 := (jr3.weak).lists (o := .lst (acc ++ xr)) eu3 (.head _)
        have tk : (L0 ++ (if n = 0 then C.take (m + 1) else C)) = (if (n : Int) = 0 then (L0 ++ (if n = 0 then C.take m else C)) ++ [it] else (L0 ++ (if n = 0 then C.take m else C))) ∧
            (L1 ++ (if n = 0 then [] else B.take (m + 1))) = (if (n : Int) = 0 then (L1 ++ (if n = 0 then [] else B.take m)) else (L1 ++ (if n = 0 then [] else B.take m)) ++ [it]) := by
          by_cases hn : n = 0
          · subst hn
            have ei : C[m]? = some it := ei
            simp [List.take_add_one,ei]
          · have : n = 1 := by omega
            subst this
            have ei : B[m]? = some it := ei
            simp [List.take_add_one,ei]
        refine ⟨_,acc ++ xr,kss ++ kr,rfl,fun c o q0 q1 e => ?_,by rw [tk.1,tk.2]; exact j4,upd_same,Rws.keep (paired_app hw3 hwr) tpu,?_⟩
        · have hc : c ≠ u := fun z => by rw [z,hu] at e; cases e
          rw [upd_ne hc]
          exact (sy.trans sy3) c o q0 q1 e
        · rw [tk.1,tk.2,← List.append_assoc]
          rcases h01 with e | e
          · rw [if_pos e] at pmr
            rw [if_pos e,if_pos e]
            rw [e] at pmr
            rw [crossL_left]
            exact pm2.append pmr.symm
          · rw [if_neg (by omega)] at pmr
            rw [if_neg (show ¬ (n : Int) = 0 by omega),if_neg (show ¬ (n : Int) = 0 by omega)]
            rw [e] at pmr
            exact (crossL_right ..).trans (pm2.append pmr.symm)
      · rintro σ H2 ⟨o5,acc,kss,rfl,sy,jr2,eu2,hw2,pm2⟩
        have tk : (L0 ++ (if n = 0 then C.take xs.length else C)) = (L0 ++ (if n + 1 = 0 then [] else C)) ∧ (L1 ++ (if n = 0 then [] else B.take xs.length)) = (L1 ++ (if n + 1 ≤ 1 then [] else B)) := by
          by_cases hn : n = 0
          · subst hn
            rw [if_pos rfl] at lx
            simp [lx]
          · have : n = 1 := by omega
            subst this
            rw [if_neg (by decide)] at lx
            simp [lx]
        rw [tk.1,tk.2] at jr2 pm2
        exact ⟨_,_,_,acc,kss,rfl,sy,jr2,eu2,hw2,pm2⟩
    · rintro σ H1 ⟨o3,o4,o5,acc,kss,rfl,s1,jr1,eu,hw1,pm1⟩
      exact ⟨_,rfl,k H1 u acc kss s1 (by simpa using jr1.weak) hu eu hw1 (by simpa using pm1)⟩
def mtI (i j : It) : It := (mx i.1 j.1,i.2.1,i.2.2 - j.2.2)
def nearB (wi : Int) (i j : It) : Bool := decide (j.2.1 = i.2.1 ∧ i.1 - wi ≤ j.1 ∧ j.1 ≤ i.1 + wi)
def crossI (wi : Int) (A B : List It) : List It := A.flatMap fun i => (B.filter (nearB wi i)).map (mtI i)
theorem crossI_key (wi : Int) (A B : List It) : crossL wi A B = (crossI wi A B).map itK := by
  unfold crossL crossI madeL
  rw [List.map_flatMap]
  congr 1
  funext i
  rw [List.map_map]
  rfl
def unI : List Key → It
  | [.inl t,.inr z,.inl a] => (t,z,a)
  | _ => (0, "", 0)
theorem unI_it (i : It) : unI (itK i) = i := rfl
def meantS (s : Stp) (L : Str → List It) (evs : List Ev) : List It := match s with
  | .take _ k => (evs.filter fun e => decide (e.2.1 = k)).map evI
  | .only _ a lo hi => (L a).filter fun i => decide (lo ≤ i.2.2 ∧ i.2.2 ≤ hi)
  | .turn _ a f g => (L a).map (trnI f g)
  | .both _ a b => L b ++ L a
  | .join _ a b wi => crossI wi (L a) (L b)
  | .gap .. | .each .. => []
def BringS (s : Stp) (bt : Str → List It) (S : List It × List It) (e : Ev) : Prop := match s with
  | .take n k => bt n = tookE k e
  | .join n a b wi => (crossI wi (S.1 ++ bt a) (S.2 ++ bt b)).Perm (crossI wi S.1 S.2 ++ bt n)
  | .only n a lo hi => bt n = passS (.only n a lo hi) [bt a]
  | .turn n a f g => bt n = passS (.turn n a f g) [bt a]
  | .both n a b => bt n = bt a ++ bt b
  | .gap n a _ _ => bt n = bt a
  | .each n a _ _ _ => bt n = bt a
theorem flat_perm {α β : Type} (f g : α → List β) (h : ∀ x,(f x).Perm (g x)) : ∀ l : List α,(l.flatMap f).Perm (l.flatMap g)
  | [] => .nil
  | x :: r => by
    rw [List.flatMap_cons,List.flatMap_cons]
    exact (h x).append (flat_perm f g h r)
theorem crossI_perm {wi : Int} {A A' B B' : List It} (p : A.Perm A') (q : B.Perm B') : (crossI wi A B).Perm (crossI wi A' B') :=
  (p.flatMap_right _).trans (flat_perm _ _ (fun i => (q.filter _).map _) A')
theorem bring_perm {s : Stp} {L L' bt : Str → List It} {evs : List Ev} {e : Ev} {S : List It × List It} (ht : s.tell = false) (m : L s.nm = meantS s L evs) (m' : L' s.nm = meantS s L' (evs ++ [e]))
    (hf : ∀ a ∈ s.feeds,(L' a).Perm (L a ++ bt a)) (hS : ∀ n a b wi,s = .join n a b wi → S.1.Perm (L a) ∧ S.2.Perm (L b)) (hb : BringS s bt S e) : (L' s.nm).Perm (L s.nm ++ bt s.nm) := by
  rw [m,m']
  cases s with
  | take n k =>
    have hb : bt n = tookE k e := hb
    show ((evs ++ [e]).filter _ |>.map evI).Perm ((evs.filter _).map evI ++ bt n)
    rw [hb,List.filter_append,List.map_append]
    refine .append (.refl _) ?_
    unfold tookE
    by_cases q : e.2.1 = k
    · rw [if_pos q,List.filter_cons_of_pos (by exact decide_eq_true q)]
      exact .refl _
    · rw [if_neg q,List.filter_cons_of_neg (by rw [decide_eq_true_eq]; exact q)]
      exact .refl _
  | only n a lo hi =>
    have hb : bt n = (bt a).filter _ := hb
    show ((L' a).filter _).Perm ((L a).filter _ ++ bt n)
    rw [hb,← List.filter_append]
    exact (hf a (.head _)).filter _
  | turn n a f g =>
    have hb : bt n = (bt a).map (trnI f g) := hb
    show ((L' a).map (trnI f g)).Perm ((L a).map (trnI f g) ++ bt n)
    rw [hb,← List.map_append]
    exact (hf a (.head _)).map _
  | both n a b =>
    have hb : bt n = bt a ++ bt b := hb
    show (L' b ++ L' a).Perm (L b ++ L a ++ bt n)
    rw [hb]
    refine ((hf b (.tail _ (.head _))).append (hf a (.head _))).trans ?_
    rw [List.append_assoc,List.append_assoc]
    refine .append (.refl _) ?_
    refine List.perm_append_comm.trans ?_
    rw [List.append_assoc]
  | join n a b wi =>
    obtain ⟨p,q⟩ := hS n a b wi rfl
    have hb : (crossI wi (S.1 ++ bt a) (S.2 ++ bt b)).Perm (crossI wi S.1 S.2 ++ bt n) := hb
    show (crossI wi (L' a) (L' b)).Perm (crossI wi (L a) (L b) ++ bt n)
    refine (crossI_perm (hf a (.head _)) (hf b (.tail _ (.head _)))).trans ?_
    refine (crossI_perm ((p.append (.refl (bt a))).symm) ((q.append (.refl (bt b))).symm)).trans ?_
    exact hb.trans ((crossI_perm p q).append (.refl _))
  | gap => cases ht
  | each => cases ht
theorem BringS.congr {s : Stp} {bt bt' : Str → List It} {S : List It × List It} {e : Ev} (hn : bt' s.nm = bt s.nm) (hf : ∀ a ∈ s.feeds,bt' a = bt a) (h : BringS s bt S e) : BringS s bt' S e := by
  cases s with
  | take n k => exact hn.trans h
  | only n a lo hi =>
    have h : bt n = passS (.only n a lo hi) [bt a] := h
    show bt' n = passS (.only n a lo hi) [bt' a]
    rw [hf a (.head _),← h]
    exact hn
  | turn n a f g =>
    have h : bt n = passS (.turn n a f g) [bt a] := h
    show bt' n = passS (.turn n a f g) [bt' a]
    rw [hf a (.head _),← h]
    exact hn
  | both n a b =>
    have h : bt n = bt a ++ bt b := h
    show bt' n = bt' a ++ bt' b
    rw [hf a (.head _),hf b (.tail _ (.head _)),← h]
    exact hn
  | join n a b wi =>
    have h : (crossI wi (S.1 ++ bt a) (S.2 ++ bt b)).Perm (crossI wi S.1 S.2 ++ bt n) := h
    have hn : bt' n = bt n := hn
    show (crossI wi (S.1 ++ bt' a) (S.2 ++ bt' b)).Perm (crossI wi S.1 S.2 ++ bt' n)
    rw [hf a (.head _),hf b (.tail _ (.head _)),hn]
    exact h
  | gap n a s m =>
    have h : bt n = bt a := h
    show bt' n = bt' a
    rw [hf a (.head _),← h]
    exact hn
  | each n a s z m =>
    have h : bt n = bt a := h
    show bt' n = bt' a
    rw [hf a (.head _),← h]
    exact hn
structure PlanOk (ss : List Stp) : Prop where
  apart : ∀ (i i' : Nat) s s',ss[i]? = some s → ss[i']? = some s' → s.nm = s'.nm → i = i'
  fed : ∀ (i : Nat) s a,ss[i]? = some s → a ∈ s.feeds → ∃ (i' : Nat) (s' : Stp),i' < i ∧ ss[i']? = some s' ∧ s'.nm = a ∧ s'.tell = false
  ok : ∀ s ∈ ss,stOk s
def putN (bt : Str → List It) (n : Str) (L : List It) : Str → List It := fun a => if a = n then L else bt a
theorem putN_same {bt : Str → List It} {n : Str} {L : List It} : putN bt n L n = L := if_pos rfl
theorem PlanOk.old {ss : List Stp} (h : PlanOk ss) {i k : Nat} {s t : Stp} (ei : ss[i]? = some s) (ek : ss[k]? = some t) (hk : k < i) (bt : Str → List It) (L : List It) : putN bt s.nm L t.nm = bt t.nm :=
  if_neg fun e => by have := h.apart k i t s ek ei e; omega
theorem PlanOk.oldFed {ss : List Stp} (h : PlanOk ss) {i k : Nat} {s t : Stp} (ei : ss[i]? = some s) (ek : ss[k]? = some t) (hk : k ≤ i) (bt : Str → List It) (L : List It) {a : Str} (ha : a ∈ t.feeds) : putN bt s.nm L a = bt a := by
  obtain ⟨k',t',l,ek',rfl,_⟩ := h.fed k t a ek ha
  exact h.old ei ek' (by omega) bt L
theorem PlanOk.bring {ss : List Stp} (h : PlanOk ss) {i : Nat} {s : Stp} (ei : ss[i]? = some s) {bt : Str → List It} {sd : Nat → List It × List It} {e : Ev} (L : List It) (hb : ∀ (k : Nat) t,k < i → ss[k]? = some t → BringS t bt (sd k) e) (hs : BringS s (putN bt s.nm L) (sd i) e) :
    ∀ (k : Nat) t,k < i + 1 → ss[k]? = some t → BringS t (putN bt s.nm L) (sd k) e := fun k t hk ek => by
  by_cases hki : k = i
  · subst hki; rw [ei] at ek; cases ek; exact hs
  · exact (hb k t (by omega) ek).congr (h.old ei ek (by omega) bt L) fun a ha => h.oldFed ei ek (by omega) bt L ha
def PlanR (H : Hp) (ps : List V) (ss : List Stp) : Prop := Paired (fun x s => ∃ a,x = .ref a ∧ StA H a s) ps ss
theorem PlanR.keep {H H' : Hp} {ps : List V} {ss : List Stp} (h : PlanR H ps ss) (t : Tp H H') : PlanR H' ps ss := paired_imp (fun x s ⟨a,e,q⟩ => ⟨a,e,q.tp t⟩) h
theorem PlanR.len {H : Hp} {ps : List V} {ss : List Stp} (h : PlanR H ps ss) : ps.length = ss.length := (paired_at h).1
theorem PlanR.at {H : Hp} {ps : List V} {ss : List Stp} (h : PlanR H ps ss) {i : Nat} {x : V} (e : ps[i]? = some x) : ∃ a s,x = .ref a ∧ ss[i]? = some s ∧ StA H a s := by
  obtain ⟨l,f⟩ := paired_at h
  have hi := (List.getElem?_eq_some_iff.mp e).1
  have e2 := List.getElem?_eq_getElem (show i < ss.length by omega)
  obtain ⟨a,r1,r2⟩ := f i x _ e e2
  exact ⟨a,_,r1,e2,r2⟩
def SameP (p : Addr → Prop) (H H' : Hp) : Prop := ∀ b o,¬ p b → H b = some o → H' b = some o
theorem JoinR.keepP {ex : List Addr} {H H' : Hp} {j sl x0 x1 d0 d1 : Addr} {wi : Int} {L0 L1 : List It} {p : Addr → Prop} (h : JoinR ad ex H j sl x0 x1 d0 d1 wi L0 L1) (s : SameP p H H')
    (hp : ∀ b,p b → (b ∈ ex ∧ ∃ xs,H b = some (.lst xs)) ∨ ∃ kvs,H b = some (.dK kvs)) (h0 : ¬ p d0) (h1 : ¬ p d1) : JoinR ad ex H' j sl x0 x1 d0 d1 wi L0 L1 := by
  have ki : ∀ {b : Addr} {C dx : Addr} {fs : List (Str × V)},H b = some (.ins C dx fs) → H' b = some (.ins C dx fs) := fun {b C dx fs} e => s _ _ (fun q => by
    rcases hp b q with ⟨_,xs,z⟩ | ⟨kvs,z⟩ <;> (rw [e] at z; cases z)) e
  have kl : ∀ {b : Addr} {xs : List V},b ∉ ex → H b = some (.lst xs) → H' b = some (.lst xs) := fun {b xs} n e => s _ _ (fun q => by
    rcases hp b q with ⟨z,_⟩ | ⟨kvs,z⟩
    · exact n z
    · rw [e] at z; cases z) e
  have tp : Tp H H' := fun b xs e => s _ _ (fun q => by
    rcases hp b q with ⟨_,xs,z⟩ | ⟨kvs,z⟩ <;> (rw [e] at z; cases z)) e
  obtain ⟨⟨dx,e⟩,e2,r0,r1,n,n2⟩ := h
  exact ⟨⟨dx,ki e⟩,kl n2 e2,r0.keep (fun C dx fs e => ki e) (fun kvs e => s _ _ h0 e) (fun b xs n e => kl n e) tp,r1.keep (fun C dx fs e => ki e) (fun kvs e => s _ _ h1 e) (fun b xs n e => kl n e) tp,n,n2⟩
theorem rd_map {H H' : Hp} {a : Addr} {u : HO} (h : Rd H a u) (s : ∀ o,H a = some o → H' a = some o) : Rd H' a u := h.elim (fun e => .inl (s _ e)) fun ⟨o,e⟩ => .inr ⟨o,s _ e⟩
theorem rd_ne {H : Hp} {a b : Addr} {u : HO} (h : Rd H a u) (hb : H b = none) : a ≠ b := fun z => by
  rcases h with e | ⟨o,e⟩ <;> (rw [z,hb] at e; cases e)
structure JD where
  j : Addr
  sl : Addr
  x0 : Addr
  x1 : Addr
  d0 : Addr
  d1 : Addr
def isJ (ss : List Stp) (i : Nat) : Prop := ∃ (n a b : Str) (wi : Int),ss[i]? = some (.join n a b wi)
structure JoinsR (ad : Ad) (ex : List Addr) (H : Hp) (ss : List Stp) (dj : Addr) (jkvs : List (Key × V)) (jd : Nat → JD) (sd : Nat → List It × List It) : Prop where
  dict : Rd H dj (.dK jkvs)
  join : ∀ (i : Nat) (n a b : Str) (wi : Int),ss[i]? = some (.join n a b wi) → valV jkvs (.inl (i : Int)) = some (.ref (jd i).j) ∧ JoinR ad ex H (jd i).j (jd i).sl (jd i).x0 (jd i).x1 (jd i).d0 (jd i).d1 wi (sd i).1 (sd i).2
  apart : ∀ i i' : Nat,isJ ss i → isJ ss i' → i ≠ i' → ((jd i').d0 ≠ (jd i).d0 ∧ (jd i').d0 ≠ (jd i).d1) ∧ (jd i').d1 ≠ (jd i).d0 ∧ (jd i').d1 ≠ (jd i).d1
  ndj : ∀ i : Nat,isJ ss i → dj ≠ (jd i).d0 ∧ dj ≠ (jd i).d1
def isD (ss : List Stp) (jd : Nat → JD) (b : Addr) : Prop := ∃ i,isJ ss i ∧ (b = (jd i).d0 ∨ b = (jd i).d1)
theorem JoinsR.same {ex : List Addr} {H H' : Hp} {ss : List Stp} {dj : Addr} {jkvs : List (Key × V)} {jd : Nat → JD} {sd : Nat → List It × List It} (h : JoinsR ad ex H ss dj jkvs jd sd) (s : Same H H') : JoinsR ad ex H' ss dj jkvs jd sd :=
  ⟨rd_map h.dict (s _),fun i n a b wi e => ⟨(h.join i n a b wi e).1,(h.join i n a b wi e).2.same s⟩,h.apart,h.ndj⟩
theorem JoinsR.grow {ex : List Addr} {H : Hp} {ss : List Stp} {dj l : Addr} {jkvs : List (Key × V)} {jd : Nat → JD} {sd : Nat → List It × List It} (h : JoinsR ad ex H ss dj jkvs jd sd) (hl : H l = none) : JoinsR ad (l :: ex) H ss dj jkvs jd sd :=
  ⟨h.dict,fun i n a b wi e => ⟨(h.join i n a b wi e).1,(h.join i n a b wi e).2.grow hl⟩,h.apart,h.ndj⟩
theorem JoinsR.weak {ex : List Addr} {H : Hp} {ss : List Stp} {dj l : Addr} {jkvs : List (Key × V)} {jd : Nat → JD} {sd : Nat → List It × List It} (h : JoinsR ad (l :: ex) H ss dj jkvs jd sd) : JoinsR ad ex H ss dj jkvs jd sd :=
  ⟨h.dict,fun i n a b wi e => ⟨(h.join i n a b wi e).1,(h.join i n a b wi e).2.weak⟩,h.apart,h.ndj⟩
theorem JoinsR.keepP {ex : List Addr} {H H' : Hp} {ss : List Stp} {dj : Addr} {jkvs : List (Key × V)} {jd : Nat → JD} {sd : Nat → List It × List It} {p : Addr → Prop} (h : JoinsR ad ex H ss dj jkvs jd sd) (s : SameP p H H')
    (hp : ∀ b,p b → (b ∈ ex ∧ ∃ xs,H b = some (.lst xs)) ∨ ∃ kvs,H b = some (.dK kvs)) (hd : ∀ b,p b → ¬ isD ss jd b) (hj : ¬ p dj) : JoinsR ad ex H' ss dj jkvs jd sd :=
  ⟨rd_map h.dict fun o => s _ o hj,fun i n a b wi e => ⟨(h.join i n a b wi e).1,(h.join i n a b wi e).2.keepP s hp (fun q => hd _ q ⟨i,⟨_,_,_,_,e⟩,.inl rfl⟩) fun q => hd _ q ⟨i,⟨_,_,_,_,e⟩,.inr rfl⟩⟩,h.apart,h.ndj⟩
theorem JoinsR.step {ex : List Addr} {H H' : Hp} {ss : List Stp} {dj : Addr} {jkvs : List (Key × V)} {jd : Nat → JD} {sd : Nat → List It × List It} {i : Nat} {n a b : Str} {wi : Int} {M0 M1 : List It} (h : JoinsR ad ex H ss dj jkvs jd sd) (ei : ss[i]? = some (.join n a b wi))
    (s : SameY (jd i).d0 (jd i).d1 H H') (g : JoinR ad ex H' (jd i).j (jd i).sl (jd i).x0 (jd i).x1 (jd i).d0 (jd i).d1 wi M0 M1) : JoinsR ad ex H' ss dj jkvs jd fun k => if k = i then (M0,M1) else sd k := by
  have hi : isJ ss i := ⟨_,_,_,_,ei⟩
  refine ⟨rd_map h.dict fun o => s _ o (h.ndj i hi).1 (h.ndj i hi).2,fun k n' a' b' wi' ek => ⟨(h.join k _ _ _ _ ek).1,?_⟩,h.apart,h.ndj⟩
  by_cases hk : k = i
  · subst hk
    rw [ei] at ek
    cases ek
    rw [if_pos rfl]
    exact g
  · rw [if_neg hk]
    have ap := h.apart i k hi ⟨_,_,_,_,ek⟩ (Ne.symm hk)
    exact (h.join i _ _ _ _ ei).2.other (h.join k _ _ _ _ ek).2 s ap.1 ap.2
def Its (H : Hp) (xs : List V) (ps : List (Int × It)) : Prop := Paired (fun x p => ∃ a q,x = .ref a ∧ H a = some (.tup [.int p.1,.ref q]) ∧ H q = some (.tup ((itK p.2).map kV))) xs ps
theorem Its.keep {H H' : Hp} {xs : List V} {ps : List (Int × It)} (h : Its H xs ps) (t : Tp H H') : Its H' xs ps := paired_imp (fun x p ⟨a,q,e,e1,e2⟩ => ⟨a,q,e,t _ _ e1,t _ _ e2⟩) h
theorem Its.len {H : Hp} {xs : List V} {ps : List (Int × It)} (h : Its H xs ps) : xs.length = ps.length := (paired_at h).1
theorem Its.at {H : Hp} {xs : List V} {ps : List (Int × It)} (h : Its H xs ps) {i : Nat} {x : V} (e : xs[i]? = some x) : ∃ a q s it,x = .ref a ∧ ps[i]? = some (s,it) ∧ H a = some (.tup [.int s,.ref q]) ∧ H q = some (.tup ((itK it).map kV)) := by
  obtain ⟨l,f⟩ := paired_at h
  have hi := (List.getElem?_eq_some_iff.mp e).1
  have e2 := List.getElem?_eq_getElem (show i < ps.length by omega)
  obtain ⟨a,q,r1,r2,r3⟩ := f i x _ e e2
  exact ⟨a,q,_,_,r1,e2,r2,r3⟩
theorem JoinsR.sides {ex : List Addr} {H : Hp} {ss : List Stp} {dj : Addr} {jkvs : List (Key × V)} {jd : Nat → JD} {sd sd' : Nat → List It × List It} (h : JoinsR ad ex H ss dj jkvs jd sd) (e : ∀ i,isJ ss i → sd' i = sd i) : JoinsR ad ex H ss dj jkvs jd sd' :=
  ⟨h.dict,fun i n a b wi ei => ⟨(h.join i n a b wi ei).1,by rw [e i ⟨_,_,_,_,ei⟩]; exact (h.join i n a b wi ei).2⟩,h.apart,h.ndj⟩
def sdN (ss : List Stp) (sd : Nat → List It × List It) (n : Nat) (bt : Str → List It) (i : Nat) : List It × List It := match ss[i]? with
  | some (.join _ a b _) => if i < n then ((sd i).1 ++ bt a,(sd i).2 ++ bt b) else sd i
  | _ => sd i
theorem sdN_at {ss : List Stp} {sd : Nat → List It × List It} {n i : Nat} {bt : Str → List It} {m a b : Str} {wi : Int} (e : ss[i]? = some (.join m a b wi)) : sdN ss sd n bt i = if i < n then ((sd i).1 ++ bt a,(sd i).2 ++ bt b) else sd i := by
  unfold sdN
  rw [e]
theorem sdN_zero (ss : List Stp) (sd : Nat → List It × List It) (bt : Str → List It) : sdN ss sd 0 bt = sd := by
  funext i
  unfold sdN
  split
  · exact if_neg (Nat.not_lt_zero _)
  · rfl
theorem sdN_plain {ss : List Stp} (ok : PlanOk ss) {sd : Nat → List It × List It} {n : Nat} {bt : Str → List It} {s : Stp} (es : ss[n]? = some s) (hn : s.no ≠ 4) (L : List It) : ∀ i,isJ ss i → sdN ss sd (n + 1) (putN bt s.nm L) i = sdN ss sd n bt i := by
  rintro i ⟨m,a,b,wi,ei⟩
  rw [sdN_at ei,sdN_at ei]
  by_cases h : i < n
  · rw [if_pos (by omega),if_pos h,ok.oldFed es ei (by omega) bt L (a := a) (.head _),ok.oldFed es ei (by omega) bt L (a := b) (.tail _ (.head _))]
  · by_cases h2 : i = n
    · subst h2
      rw [es] at ei
      cases ei
      exact absurd rfl hn
    · rw [if_neg (by omega),if_neg h]
theorem sdN_join {ss : List Stp} (ok : PlanOk ss) {sd : Nat → List It × List It} {n : Nat} {bt : Str → List It} {m a b : Str} {wi : Int} (es : ss[n]? = some (.join m a b wi)) (L : List It) :
    ∀ i,isJ ss i → sdN ss sd (n + 1) (putN bt m L) i = if i = n then ((sdN ss sd n bt n).1 ++ bt a,(sdN ss sd n bt n).2 ++ bt b) else sdN ss sd n bt i := by
  rintro i ⟨m',a',b',wi',ei⟩
  have fa := ok.oldFed es es (Nat.le_refl _) bt L (a := a) (.head _)
  have fb := ok.oldFed es es (Nat.le_refl _) bt L (a := b) (.tail _ (.head _))
  have fa : putN bt m L a = bt a := fa
  have fb : putN bt m L b = bt b := fb
  by_cases h2 : i = n
  · subst h2
    rw [es] at ei
    cases ei
    rw [sdN_at es,sdN_at es,if_pos rfl,if_pos (Nat.lt_succ_self _),if_neg (Nat.lt_irrefl _),fa,fb]
  · rw [if_neg h2,sdN_at ei,sdN_at ei]
    by_cases h : i < n
    · have ga : putN bt m L a' = bt a' := ok.oldFed es ei (by omega) bt L (a := a') (.head _)
      have gb : putN bt m L b' = bt b' := ok.oldFed es ei (by omega) bt L (a := b') (.tail _ (.head _))
      rw [if_pos (by omega),if_pos h,ga,gb]
    · rw [if_neg (by omega),if_neg h]
def tellsN (ss : List Stp) (bt : Str → List It) : Nat → List (Int × It)
  | 0 => []
  | n + 1 => tellsN ss bt n ++ (match ss[n]? with | some s => if s.tell = true then (bt s.nm).map fun i => ((n : Int),i) else [] | none => [])
theorem tellsN_put {ss : List Stp} (ok : PlanOk ss) {i : Nat} {s : Stp} (ei : ss[i]? = some s) (bt : Str → List It) (L : List It) : ∀ n,n ≤ i → tellsN ss (putN bt s.nm L) n = tellsN ss bt n
  | 0,_ => rfl
  | n + 1,h => by
    unfold tellsN
    rw [tellsN_put ok ei bt L n (by omega)]
    congr 1
    cases en : ss[n]? with
    | none => rfl
    | some t => show (if t.tell = true then _ else _) = _; rw [ok.old ei en (by omega) bt L]
theorem pass_bring {st : Stp} {bt : Str → List It} {S : List It × List It} {e : Ev} {L : List It} (q0 : st.no ≠ 0) (q4 : st.no ≠ 4) (hL : L = passS st (st.feeds.map bt)) (hf : ∀ a ∈ st.feeds,putN bt st.nm L a = bt a) : BringS st (putN bt st.nm L) S e := by
  cases st with
  | take => exact absurd rfl q0
  | join => exact absurd rfl q4
  | only n f lo hi =>
    have h1 : putN bt n L f = bt f := hf f (.head _)
    show putN bt n L n = passS _ [putN bt n L f]
    rw [putN_same,h1,hL]; rfl
  | turn n f x y =>
    have h1 : putN bt n L f = bt f := hf f (.head _)
    show putN bt n L n = passS _ [putN bt n L f]
    rw [putN_same,h1,hL]; rfl
  | both n f g =>
    have h1 : putN bt n L f = bt f := hf f (.head _)
    have h2 : putN bt n L g = bt g := hf g (.tail _ (.head _))
    show putN bt n L n = putN bt n L f ++ putN bt n L g
    rw [putN_same,h1,h2,hL]; rfl
  | gap n f x y =>
    have h1 : putN bt n L f = bt f := hf f (.head _)
    show putN bt n L n = putN bt n L f
    rw [putN_same,h1,hL]; rfl
  | each n f x y z =>
    have h1 : putN bt n L f = bt f := hf f (.head _)
    show putN bt n L n = putN bt n L f
    rw [putN_same,h1,hL]; rfl
theorem un_perm2 {X Y : List It} {kss : List (List Key)} (p : (X.map itK).Perm (Y.map itK ++ kss)) : ∃ M : List It,kss = M.map itK ∧ X.Perm (Y ++ M) := by
  refine ⟨kss.map unI,?_,?_⟩
  · rw [List.map_map]
    have : ∀ ks ∈ kss,(itK ∘ unI) ks = ks := fun ks hk => by
      obtain ⟨i,_,rfl⟩ := List.mem_map.mp (p.mem_iff.mpr (List.mem_append_right _ hk))
      rfl
    rw [List.map_congr_left this,List.map_id']
  · have := p.map unI
    have e : unI ∘ itK = id := funext unI_it
    rw [List.map_append,List.map_map,List.map_map,e,List.map_id,List.map_id] at this
    exact this
theorem putK_len {κ : Type} [DecidableEq κ] (kvs : List (κ × V)) (k : κ) (v : V) : (putK kvs k v).length ≤ kvs.length + 1 := by
  unfold putK
  split
  · rw [List.length_map]; omega
  · rw [List.length_append]; exact Nat.le_refl _
theorem tellsN_len {ss : List Stp} {bt : Str → List It} : ∀ {n : Nat},(∀ (i : Nat) s,i < n → ss[i]? = some s → (bt s.nm).length ≤ 600) → (tellsN ss bt n).length ≤ 600 * n
  | 0,_ => Nat.le_refl _
  | n + 1,h => by
    have ih := tellsN_len (ss := ss) (bt := bt) (n := n) fun i s hi ei => h i s (by omega) ei
    unfold tellsN
    rw [List.length_append]
    cases en : ss[n]? with
    | none => show _ + 0 ≤ _; omega
    | some t =>
      have := h n t (by omega) en
      show _ + (if t.tell = true then _ else [] : List (Int × It)).length ≤ _
      split
      · rw [List.length_map]; omega
      · show _ + 0 ≤ _; omega
def spSpread (ad : Ad) : Sp := fun vs H Q _ => ∃ (ex : List Addr) (lp dj q : Addr) (ps : List V) (ss : List Stp) (jkvs : List (Key × V)) (jd : Nat → JD) (sd : Nat → List It × List It) (L L' : Str → List It) (evs : List Ev) (e : Ev),
  vs = [.ref lp,.ref dj,.ref q] ∧ H lp = some (.lst ps) ∧ PlanR H ps ss ∧ PlanOk ss ∧ ss.length ≤ 20 ∧ JoinsR ad ex H ss dj jkvs jd sd ∧ (∀ c ∈ ex,∃ o,H c = some o) ∧ EvA H q e ∧
  (∀ (i : Nat) s,ss[i]? = some s → s.tell = false → L s.nm = meantS s L evs ∧ L' s.nm = meantS s L' (evs ++ [e]) ∧ (L' s.nm).length ≤ 600) ∧
  (∀ (i : Nat) n a b wi,ss[i]? = some (.join n a b wi) → (sd i).1.Perm (L a) ∧ (sd i).2.Perm (L b)) ∧
  ∀ H' m xs bt,SameP (isD ss jd) H H' → JoinsR ad (m :: ex) H' ss dj jkvs jd (sdN ss sd ss.length bt) → H m = none → H' m = some (.lst xs) → Its H' xs (tellsN ss bt ss.length) → (∀ (i : Nat) s,ss[i]? = some s → BringS s bt (sd i) e) → Q (.ref m) H'
theorem ok_spread (T : Tx K mg ad) : FnOk P w K mg base CX0 5 ad.a_spread ad.d_spread ["plan", "joins", "event"] (spSpread ad) := by
  have G_feeders := ok_feeders (P := P) (w := w) (base := base) T
  have G_taken := ok_taken (P := P) (w := w) (base := base) T
  have G_joined := ok_joined (P := P) (w := w) (base := base) T
  have G_passed := ok_passed (P := P) (w := w) (base := base) T
  have G_name_of := ok_name_of (P := P) (w := w) (base := base) T
  have G_is_teller := ok_is_teller (P := P) (w := w) (base := base) T
  refine T.F_spread.ok sc_spread (fun vs H Q E h => ?_) (fun cdv A outer s H vs Q E hr h => ?_)
  · obtain ⟨ex,lp,dj,q,ps,ss,jkvs,jd,sd,L,L',evs,e,rfl,_⟩ := h
    rfl
  · obtain ⟨ex,lp,dj,q,ps,ss,jkvs,jd,sd,L,L',evs,e,rfl,elp,pr,pok,lss,jr,hex,ev,hL,hS,k⟩ := h
    have nd := sc_spread.nd
    refine ⟨_,(pss_cons (ps_set (i := 3) nd rfl (Or.inr rfl) pe_dnewK)
        (pss_cons (ps_set (i := 4) nd rfl (Or.inl rfl) (pe_lst pa_nil))
        (pss_cons (ps_for PassesOwn.never rfl (pi_enum (K := K) (by rfl) T.z_enumerate (pv 0)) (pg_tup rfl (pgs_cons (pg_name (i := 5) nd rfl (Or.inr rfl)) (pgs_cons (pg_name (i := 6) nd rfl (Or.inl rfl)) pgs_nil)))
        (pss_cons (ps_setC (i := 7) (osc := defScope s_spread) [("brought", 3)] nd rfl (Or.inl rfl) rfl (pi_listK (K := K) (pe_call G_feeders (hr.mono (by decide)) (by rfl) T.m_feeders T.F_feeders.kp T.b_feeders .nil pass0 (pa_cons (pv 6) pa_nil))) rfl rfl (by decide +kernel) (by decide +kernel) (by decide +kernel) ⟨rfl,rfl,trivial⟩ rfl (by decide +kernel) (fun _ _ _ _ => pts_nil) (fun _ _ _ _ => (pe_dget hr.u1 (pv 1) (pv 0) (fun _ _ => rfl))))
        (pss_cons (ps_cut (ps_if (pt_cmpR op_eq (pe_ix (ix_tupK (K := K)) (pv 6) pe_int (fun _ _ => rfl)) pe_str (nomark _))
        (pss_one (ps_set (i := 8) nd rfl (Or.inl rfl) (pe_call G_taken (hr.mono (by decide)) (by rfl) T.m_taken T.F_taken.kp T.b_taken .nil pass0 (pa_cons (pv 6) (pa_cons (pv 2) pa_nil)))))
        (pss_one (ps_if (pt_cmpR op_eq (pe_ix (ix_tupK (K := K)) (pv 6) pe_int (fun _ _ => rfl)) pe_str (nomark _))
        (pss_one (ps_set (i := 8) nd rfl (Or.inl rfl) (pe_call G_joined (hr.mono (by decide)) (by rfl) T.m_joined T.F_joined.kp T.b_joined .nil pass0 (pa_cons (pe_dget hr.u1 (pv 1) (pv 5) (fun _ _ => rfl)) (pa_cons (pv 7) pa_nil)))))
        (pss_one (ps_set (i := 8) nd rfl (Or.inl rfl) (pe_call G_passed (hr.mono (by decide)) (by rfl) T.m_passed T.F_passed.kp T.b_passed .nil pass0 (pa_cons (pv 6) (pa_cons (pv 7) pa_nil)))))))))
        (pss_cons (ps_dput hr.u1 (pv 3) (pe_call G_name_of (hr.mono (by decide)) (by rfl) T.m_name_of T.F_name_of.kp T.b_name_of .nil pass0 (pa_cons (pv 6) pa_nil)) (pv 8) rfl)
        (pss_one (ps_if (pt_val (pe_call G_is_teller (hr.mono (by decide)) (by rfl) T.m_is_teller T.F_is_teller.kp T.b_is_teller .nil pass0 (pa_cons (pv 6) pa_nil)))
        (pss_one (ps_expr (pe_bmK (K := K) F.plainAttrs_list F.slot_list_extend F.type_list_extend mt_extend (pv 4) (pa_cons (pe_comp1 (osc := defScope s_spread) [("place", 5)] rfl (pi_listK (K := K) (pv 8)) rfl rfl (by decide +kernel) (by decide +kernel) (by decide +kernel) ⟨rfl,rfl,trivial⟩ rfl (by decide +kernel) (fun _ _ _ _ => pts_nil) (fun _ _ _ _ => (pe_tup (pa_cons (pv 1) (pa_cons (pv 0) pa_nil))))) pa_nil))))
        pss_nil))))))
        (pss_one (ps_ret (pv 4)))))),?_⟩
    have sz : sizeLine = 16777216 := sizeLine_eq
    have lps := pr.len
    have isd : ∀ b,isD ss jd b → ∃ kvs,H b = some (.dK kvs) := fun b hb => by
      obtain ⟨i,⟨n,a,b',wi,ei⟩,hb⟩ := hb
      obtain ⟨⟨k0,e0⟩,k1,e1⟩ := (jr.join i n a b' wi ei).2.dks
      rcases hb with rfl | rfl
      · exact ⟨_,e0⟩
      · exact ⟨_,e1⟩
    refine fun br hbr => ⟨Nat.zero_le _,fun u hu0 => ?_⟩
    have hu : H u = none := upd_none hu0
    have nbu : br ≠ u := ne_of_none upd_same hu0
    have s0 : Same H (upd (upd H br (.dK [])) u (.lst [])) := ((Same.refl H).upd hbr).upd hu0
    have ebr0 : (upd (upd H br (.dK [])) u (.lst [])) br = some (.dK []) := by rw [upd_ne nbu]; exact upd_same
    have eu0 : (upd (upd H br (.dK [])) u (.lst [])) u = some (.lst []) := upd_same
    generalize upd (upd H br (.dK [])) u (.lst []) = H0 at s0 ebr0 eu0 ⊢
    have keep : ∀ {H' : Hp} {b : Addr} {o : HO},SameP (isD ss jd) H H' → H b = some o → (∀ kvs,o ≠ .dK kvs) → H' b = some o := fun {H' b o} s eo hn => s b o (fun z => by
      obtain ⟨kvs,ek⟩ := isd b z
      rw [eo] at ek
      exact hn _ (Option.some.inj ek)) eo
    refine ⟨_,rfl,lp,rfl,⟨_,SqL.of (s0 _ _ elp)⟩,for_enum (K := K) (xs := ps) (fun n σ H' => ∃ (o5 o6 o7 o8 : Option V) (kvs : List (Key × V)) (acc : List V) (bt : Str → List It),σ = [some (.ref lp),some (.ref dj),some (.ref q),some (.ref br),some (.ref u),o5,o6,o7,o8] ∧ SameP (isD ss jd) H H' ∧
        JoinsR ad (u :: ex) H' ss dj jkvs jd (sdN ss sd n bt) ∧ kvs.length ≤ n ∧ H' br = some (.dK kvs) ∧ H' u = some (.lst acc) ∧ Its H' acc (tellsN ss bt n) ∧ (∀ (i : Nat) s,i < n → ss[i]? = some s → BringS s bt (sd i) e) ∧
        (∀ (i : Nat) s,i < n → ss[i]? = some s → ∃ r,valV kvs (.inr s.nm) = some (.ref r) ∧ CameR H' r (bt s.nm) ∧ r ≠ u ∧ (bt s.nm).length ≤ 600) ∧ (∀ (i : Nat) s,i < n → ss[i]? = some s → s.tell = false → (L' s.nm).Perm (L s.nm ++ bt s.nm)))
      ⟨none,none,none,none,[],[],fun _ => [],rfl,fun b o _ eo => s0 _ _ eo,?_,Nat.le_refl _,ebr0,eu0,.nil,fun i s h => absurd h (Nat.not_lt_zero _),fun i s h => absurd h (Nat.not_lt_zero _),fun i s h => absurd h (Nat.not_lt_zero _)⟩ (fun n σ H' _ ⟨_,_,_,_,_,_,_,_,s',_⟩ => SqL.of (keep s' elp (by intro kvs z; cases z))) ?_ ?_⟩
    · rw [sdN_zero]
      exact (jr.grow hu).same s0
    · rintro n x σ H1 p hx ⟨o5,o6,o7,o8,kvs,acc,bt,rfl,s1,jr1,lk1,eb1,eu1,it1,br1,cm1,pm1⟩ hp
      obtain ⟨a,st,rfl,es,ea⟩ := pr.at hx
      have hn : n < ss.length := (List.getElem?_eq_some_iff.mp es).1
      have s2 := Same.upd' (o := .tup [.int (n : Int),.ref a]) hp
      have ea1 : StA H1 a st := keep s1 ea (by intro kvs z; cases z)
      refine ⟨p,_,rfl,SqT.of upd_same,rfl,_,_,rfl,_,_,rfl,rfl,?_⟩
      refine ⟨_,rfl,a,st,rfl,ea1.tp s2.tp,fun lf Hf sf hlf elf => ⟨lf,rfl,⟨_,SqL.of elf⟩,?_⟩⟩
      have s3 := s2.trans sf
      have cmf : ∀ (i : Nat) s,i < n → ss[i]? = some s → ∃ r,valV kvs (.inr s.nm) = some (.ref r) ∧ CameR Hf r (bt s.nm) ∧ r ≠ u ∧ (bt s.nm).length ≤ 600 := fun i s hi ei => by
        obtain ⟨r,v1,v2,v3,v4⟩ := cm1 i s hi ei
        exact ⟨r,v1,v2.keep (fun xs z => s3 _ _ z) s3.tp,v3,v4⟩
      have lf5 : st.feeds.length ≤ 2 := by cases st <;> exact Nat.le_of_ble_eq_true rfl
      refine comp_listN (K := K) (xs := st.feeds.map V.str) (fun m τ acc H' => (∃ o,τ = [o,some (.ref br)]) ∧ H' = Hf ∧ CamesR Hf acc ((st.feeds.take m).map bt) ∧ ∀ r,V.ref r ∈ acc → r ≠ u) (by rw [List.length_map]; omega) ⟨⟨none,rfl⟩,rfl,.nil,fun r hr => by cases hr⟩ (fun m τ acc H' ⟨_,ee,_⟩ => by rw [ee]; exact SqL.of elf) ?_ ?_
      · rintro m y τ acc H' R1 hy _ ⟨⟨o,rfl⟩,rfl,hc,hru⟩ k1
        rw [List.getElem?_map] at hy
        obtain ⟨f,ef,rfl⟩ := Option.map_eq_some_iff.mp hy
        obtain ⟨i',s',li,ei',rfl,_⟩ := pok.fed n st f es (List.mem_of_getElem? ef)
        obtain ⟨r,v1,v2,v3,v4⟩ := cmf i' s' li ei'
        refine ⟨_,rfl,_,rfl,br,.ref r,rfl,?_,k1 _ _ _ ⟨⟨_,rfl⟩,rfl,?_,fun r' hr' => ?_⟩⟩
        · rw [← v1]
          exact DGet.k (k := .inr s'.nm) (s3 _ _ eb1)
        · rw [List.take_add_one,ef,List.map_append]
          exact paired_app hc (.cons ⟨r,rfl,v2⟩ .nil)
        · rcases List.mem_append.mp hr' with h | h
          · exact hru r' h
          · cases List.mem_singleton.mp h; exact v3
      · rintro τ acc2 H' la ⟨_,rfl,hc,ru4⟩ ls hls
        rw [List.length_map,List.take_of_length_le (Nat.le_refl _)] at hc
        have s4 := s3.upd (o := .lst acc2) hls
        have sl4 := Same.upd' (o := .lst acc2) hls
        have els : (upd H' ls (.lst acc2)) ls = some (.lst acc2) := upd_same
        have hc4 : CamesR (upd H' ls (.lst acc2)) acc2 (st.feeds.map bt) := paired_imp (fun x L ⟨r,e1,e2⟩ => ⟨r,e1,e2.keep (fun xs z => sl4 _ _ z) sl4.tp⟩) hc
        have cm4 : ∀ (i : Nat) s,i < n → ss[i]? = some s → ∃ r,valV kvs (.inr s.nm) = some (.ref r) ∧ CameR (upd H' ls (.lst acc2)) r (bt s.nm) ∧ r ≠ u ∧ (bt s.nm).length ≤ 600 := fun i s hi ei => by
          obtain ⟨r,v1,v2,v3,v4⟩ := cmf i s hi ei
          exact ⟨r,v1,v2.keep (fun xs z => sl4 _ _ z) sl4.tp,v3,v4⟩
        generalize upd H' ls (.lst acc2) = H4 at s4 els hc4 cm4 ⊢
        have sp4 : SameP (isD ss jd) H H4 := fun b o nb eo => s4 _ _ (s1 b o nb eo)
        have jr4 := jr1.same s4
        have ea4 : StA H4 a st := ea1.tp s4.tp
        have eb4 := s4 _ _ eb1
        have ev4 : EvA H4 q e := s4 _ _ (keep s1 ev (by intro kvs z; cases z))
        have eu4 := s4 _ _ eu1
        have it4 := it1.keep s4.tp
        have fz : ∀ f ∈ st.feeds,(L' f).Perm (L f ++ bt f) ∧ (L f).length + (bt f).length ≤ 600 := fun f hf => by
          obtain ⟨i',s',li,ei',rfl,ht⟩ := pok.fed n st f es hf
          have pp := pm1 i' s' li ei' ht
          have := pp.length_eq
          rw [List.length_append] at this
          have := (hL i' s' ei' ht).2.2
          exact ⟨pp,by omega⟩
        refine cutBy (fun σ' H' => ∃ (r : Addr) (Lr : List It),σ' = [some (.ref lp),some (.ref dj),some (.ref q),some (.ref br),some (.ref u),some (.int (n : Int)),some (.ref a),some (.ref ls),some (.ref r)] ∧ SameP (isD ss jd) H H' ∧ JoinsR ad (u :: ex) H' ss dj jkvs jd (sdN ss sd (n + 1) (putN bt st.nm Lr)) ∧ H' br = some (.dK kvs) ∧ H' u = some (.lst acc) ∧
          Its H' acc (tellsN ss bt n) ∧ CameR H' r Lr ∧ r ≠ u ∧ BringS st (putN bt st.nm Lr) (sd n) e ∧ StA H' a st ∧ ∀ (i : Nat) s,i < n → ss[i]? = some s → ∃ r,valV kvs (.inr s.nm) = some (.ref r) ∧ CameR H' r (bt s.nm) ∧ r ≠ u ∧ (bt s.nm).length ≤ 600) ?_ ?_
        · obtain ⟨e0,e1,e2⟩ := ea4.word (K := K)
          have plain : ∀ {r : Addr} {Lr : List It} {H5 : Hp},Same H4 H5 → st.no ≠ 4 → CameR H5 r Lr → r ≠ u → BringS st (putN bt st.nm Lr) (sd n) e → ∃ (r' : Addr) (Lr : List It),[some (V.ref lp),some (.ref dj),some (.ref q),some (.ref br),some (.ref u),some (.int (n : Int)),some (.ref a),some (.ref ls),some (.ref r)] = [some (V.ref lp),some (.ref dj),some (.ref q),some (.ref br),some (.ref u),some (.int (n : Int)),some (.ref a),some (.ref ls),some (.ref r')] ∧ SameP (isD ss jd) H H5 ∧ JoinsR ad (u :: ex) H5 ss dj jkvs jd (sdN ss sd (n + 1) (putN bt st.nm Lr)) ∧ H5 br = some (.dK kvs) ∧ H5 u = some (.lst acc) ∧
              Its H5 acc (tellsN ss bt n) ∧ CameR H5 r' Lr ∧ r' ≠ u ∧ BringS st (putN bt st.nm Lr) (sd n) e ∧ StA H5 a st ∧ ∀ (i : Nat) s,i < n → ss[i]? = some s → ∃ r,valV kvs (.inr s.nm) = some (.ref r) ∧ CameR H5 r (bt s.nm) ∧ r ≠ u ∧ (bt s.nm).length ≤ 600 := fun {r Lr H5} s5 n4 cr ru bs =>
            ⟨r,Lr,rfl,fun b o nb eo => s5 _ _ (sp4 b o nb eo),(jr4.same s5).sides (sdN_plain pok es n4 Lr),s5 _ _ eb4,s5 _ _ eu4,it4.keep s5.tp,cr,ru,bs,ea4.tp s5.tp,fun i s hi ei => by
              obtain ⟨r,v1,v2,v3,v4⟩ := cm4 i s hi ei
              exact ⟨r,v1,v2.keep (fun xs z => s5 _ _ z) s5.tp,v3,v4⟩⟩
          refine ⟨_,rfl,a,_,_,_,rfl,rfl,e0,e1,rfl,_,rfl,iteW (i := 0) rfl (fun q0 => ?_) fun q0 => ?_⟩
          · obtain ⟨nn,kd,rfl⟩ : ∃ nn kd,st = .take nn kd := by cases st <;> first | exact ⟨_,_,rfl⟩ | cases q0
            refine ⟨_,rfl,_,rfl,a,q,nn,kd,e,rfl,ea4,ev4 , fun r H5 s5 hr5 cr => plain s5 (by intro z; cases z) cr (ne_of_none eu4 hr5).symm ?_⟩
            exact putN_same
          · refine ⟨_,rfl,a,_,_,_,rfl,rfl,e0,e1,rfl,_,rfl,iteW (i := 4) rfl (fun q4 => ?_) fun q4 => ?_⟩
            · obtain ⟨nn,f,g,wi,rfl⟩ : ∃ nn f g wi,st = .join nn f g wi := by cases st <;> first | exact ⟨_,_,_,_,rfl⟩ | cases q4
              obtain ⟨jv,jj⟩ := jr4.join n nn f g wi es
              have e9 : sdN ss sd n bt n = sd n := by rw [sdN_at es,if_neg (Nat.lt_irrefl _)]
              rw [e9] at jj
              obtain ⟨r0,r1,xs0,xs1,rfl,er0,er1,w0,w1⟩ := cames_two hc4
              have z0 := fz f (.head _)
              have z1 := fz g (.tail _ (.head _))
              obtain ⟨pf,pg⟩ := hS n nn f g wi es
              have lf0 := pf.length_eq
              have lg0 := pg.length_eq
              have hex4 : ∀ c ∈ u :: ex,∃ o,H4 c = some o := fun c hc => by
                rcases List.mem_cons.mp hc with rfl | hc
                · exact ⟨_,eu4⟩
                · obtain ⟨o,eo⟩ := hex c hc
                  by_cases hd : isD ss jd c
                  · obtain ⟨i,⟨n',a',b',wi',ei⟩,hd⟩ := hd
                    obtain ⟨⟨k0,g0⟩,k1,g1⟩ := (jr4.join i n' a' b' wi' ei).2.dks
                    rcases hd with rfl | rfl
                    · exact ⟨_,g0⟩
                    · exact ⟨_,g1⟩
                  · exact ⟨_,sp4 c o hd eo⟩
              refine ⟨_,rfl,_,rfl,dj,.ref (jd n).j,rfl,by rw [← jv]; exact .inl ⟨jkvs,.inl (n : Int),jr4.dict,rfl,rfl⟩,_,rfl,u :: ex,(jd n).j,(jd n).sl,(jd n).x0,(jd n).x1,(jd n).d0,(jd n).d1,ls,r0,r1,wi,(sd n).1,(sd n).2,bt f,bt g,rfl,jj,hex4,els,⟨_,er0,w0⟩,⟨_,er1,w1⟩,by omega,by omega,fun H5 m xs5 kss sy5 j5 hm em hw5 pm5 => ?_⟩
              have sp5 : SameP (isD ss jd) H4 H5 := fun b o nb eo => sy5 b o (fun z => nb ⟨n,⟨_,_,_,_,es⟩,.inl z⟩) (fun z => nb ⟨n,⟨_,_,_,_,es⟩,.inr z⟩) eo
              have ky : ∀ {b : Addr} {o : HO},H4 b = some o → (∀ kvs,o ≠ .dK kvs) → H5 b = some o := fun eo hn => jj.y sy5 eo hn
              have tp5 := jj.ytp sy5
              rw [crossI_key,crossI_key] at pm5
              obtain ⟨M,rfl,pmM⟩ := un_perm2 pm5
              have nbr : ¬ isD ss jd br := fun z => by
                obtain ⟨kv,ek⟩ := isd br z
                rw [hbr] at ek; cases ek
              have fe : ∀ a' ∈ (Stp.join nn f g wi).feeds,putN bt nn M a' = bt a' := fun a' ha' => pok.oldFed es es (Nat.le_refl _) bt M ha'
              refine ⟨m,M,rfl,fun b o nb eo => sp5 b o nb (sp4 b o nb eo),?_,sp5 _ _ nbr eb4,ky eu4 (by intro kv z; cases z),it4.keep tp5,⟨_,em,hw5⟩,(ne_of_none eu4 hm).symm,?_,ea4.tp tp5,fun i s hi ei => ?_⟩
              · refine (jr4.step es sy5 j5).sides fun i hi => ?_
                have q := sdN_join pok (sd := sd) (bt := bt) es M i hi
                rw [e9] at q
                exact q
              · show (crossI wi ((sd n).1 ++ putN bt nn M f) ((sd n).2 ++ putN bt nn M g)).Perm (crossI wi (sd n).1 (sd n).2 ++ putN bt nn M nn)
                rw [fe f (.head _),fe g (.tail _ (.head _)),putN_same]
                exact pmM
              · obtain ⟨r,v1,v2,v3,v4⟩ := cm4 i s hi ei
                exact ⟨r,v1,v2.keep (fun xs z => ky z (by intro kv z; cases z)) tp5,v3,v4⟩
            · have bf : ∀ f ∈ st.feeds,(bt f).length ≤ 1000 := fun f hf => by have := (fz f hf).2; omega
              refine ⟨_,rfl,_,rfl,a,ls,st,acc2,st.feeds.map bt,rfl,ea4,pok.ok st (List.mem_of_getElem? es),q0,q4,els,hc4,by rw [List.length_map],fun L hL => by obtain ⟨f,hf,rfl⟩ := List.mem_map.mp hL; exact bf f hf,fun r H5 s5 cr hr5 => plain s5 q4 cr ?_ (pass_bring q0 q4 rfl fun f hf => pok.oldFed es es (Nat.le_refl _) bt _ hf)⟩
              rcases hr5 with hr5 | hr5
              · exact (ne_of_none eu4 hr5).symm
              · exact ru4 r hr5
        · rintro σ H5 ⟨r,Lr,rfl,sp5,jr5,eb5,eu5,it5,cr5,ru5,bs5,ea5,cm5⟩
          refine ⟨_,rfl,_,rfl,_,rfl,a,st,rfl,ea5,br,_,rfl,.inl ⟨_,.inr st.nm,eb5,rfl,?_,rfl⟩,?_⟩
          · omega
          have nbr : ¬ isD ss jd br := fun z => by
            obtain ⟨kv,ek⟩ := isd br z
            rw [hbr] at ek; cases ek
          have ndj : dj ≠ br := rd_ne jr.dict hbr
          have s6 : SameP (· = br) H5 (upd H5 br (.dK (putK kvs (.inr st.nm) (.ref r)))) := fun b o nb eo => by rw [upd_ne nb]; exact eo
          have ne6 : ∀ {b : Addr} {o : HO},H5 b = some o → (∀ kv,o ≠ .dK kv) → b ≠ br := fun eo hn z => by rw [z,eb5] at eo; exact hn _ (Option.some.inj eo).symm
          have tp6 : Tp H5 (upd H5 br (.dK (putK kvs (.inr st.nm) (.ref r)))) := fun b xs eo => s6 _ _ (ne6 eo (by intro kv z; cases z)) eo
          have sp6 : SameP (isD ss jd) H (upd H5 br (.dK (putK kvs (.inr st.nm) (.ref r)))) := fun b o nb eo => s6 _ _ (fun z => by rw [z,hbr] at eo; cases eo) (sp5 b o nb eo)
          have jr6 : JoinsR ad (u :: ex) (upd H5 br (.dK (putK kvs (.inr st.nm) (.ref r)))) ss dj jkvs jd (sdN ss sd (n + 1) (putN bt st.nm Lr)) := jr5.keepP s6 (fun b hb => .inr ⟨kvs,by rw [hb]; exact eb5⟩) (fun b hb => by rw [hb]; exact nbr) ndj
          have eu6 : (upd H5 br (.dK (putK kvs (.inr st.nm) (.ref r)))) u = some (.lst acc) := s6 _ _ (ne6 eu5 (by intro kv z; cases z)) eu5
          have it6 := it5.keep tp6
          have ck6 : ∀ {b : Addr} {M : List It},CameR H5 b M → CameR (upd H5 br (.dK (putK kvs (.inr st.nm) (.ref r)))) b M := fun c => c.keep (fun xs z => s6 _ _ (ne6 z (by intro kv z; cases z)) z) tp6
          have cr6 := ck6 cr5
          have ea6 := ea5.tp tp6
          have eb6 : (upd H5 br (.dK (putK kvs (.inr st.nm) (.ref r)))) br = some (.dK (putK kvs (.inr st.nm) (.ref r))) := upd_same
          have bt6 := pok.bring es Lr br1 bs5
          have fz6 : ∀ f ∈ st.feeds,putN bt st.nm Lr f = bt f := fun f hf => pok.oldFed es es (Nat.le_refl _) bt Lr hf
          have pmn : st.tell = false → (L' st.nm).Perm (L st.nm ++ putN bt st.nm Lr st.nm) := fun ht =>
            bring_perm ht (hL n st es ht).1 (hL n st es ht).2.1 (fun f hf => by rw [fz6 f hf]; exact (fz f hf).1) (fun n' a' b' wi' q => hS n n' a' b' wi' (by rw [← q]; exact es)) bs5
          have lr6 : Lr.length ≤ 600 := by
            cases ht : st.tell with
            | false =>
              have := (pmn ht).length_eq
              rw [List.length_append,putN_same] at this
              have := (hL n st es ht).2.2
              omega
            | true =>
              obtain ⟨f,hf,eq⟩ : ∃ f ∈ st.feeds,putN bt st.nm Lr st.nm = putN bt st.nm Lr f := by
                cases st with
                | gap n' f x y => exact ⟨f,.head _,bs5⟩
                | each n' f x y z => exact ⟨f,.head _,bs5⟩
                | _ => cases ht
              rw [putN_same,fz6 f hf] at eq
              have := (fz f hf).2
              rw [eq]
              omega
          have cm6 : ∀ (i : Nat) s,i < n + 1 → ss[i]? = some s → ∃ r',valV (putK kvs (.inr st.nm) (.ref r)) (.inr s.nm) = some (.ref r') ∧ CameR (upd H5 br (.dK (putK kvs (.inr st.nm) (.ref r)))) r' (putN bt st.nm Lr s.nm) ∧ r' ≠ u ∧ (putN bt st.nm Lr s.nm).length ≤ 600 := fun i s hi ei => by
            by_cases hin : i = n
            · subst hin
              rw [es] at ei; cases ei
              exact ⟨r,by rw [valV_put,if_pos rfl],by rw [putN_same]; exact cr6,ru5,by rw [putN_same]; exact lr6⟩
            · obtain ⟨r',v1,v2,v3,v4⟩ := cm5 i s (by omega) ei
              have eo := pok.old es ei (by omega) bt Lr
              refine ⟨r',?_,by rw [eo]; exact ck6 v2,v3,by rw [eo]; exact v4⟩
              rw [valV_put,if_neg (fun z => hin (pok.apart i n s st ei es (Sum.inr.inj z)))]
              exact v1
          have pm6 : ∀ (i : Nat) s,i < n + 1 → ss[i]? = some s → s.tell = false → (L' s.nm).Perm (L s.nm ++ putN bt st.nm Lr s.nm) := fun i s hi ei ht => by
            by_cases hin : i = n
            · subst hin
              rw [es] at ei; cases ei
              exact pmn ht
            · rw [pok.old es ei (by omega) bt Lr]
              exact pm1 i s (by omega) ei ht
          have lk6 := putK_len kvs (.inr st.nm) (.ref r)
          have tl6 := tellsN_put pok es bt Lr n (Nat.le_refl _)
          generalize upd H5 br (.dK (putK kvs (.inr st.nm) (.ref r))) = H6 at sp6 jr6 eu6 it6 cr6 ea6 eb6 cm6 ⊢
          refine ⟨_,rfl,a,st,rfl,ea6,_,rfl,iteB (fun ht => ?_) fun ht => ?_⟩
          · obtain ⟨xs6,er6,w6⟩ := cr6
            have lx6 := w6.len
            rw [List.length_map] at lx6
            refine ⟨_,rfl,.inl ⟨rfl,_,SqL.of eu6⟩,_,rfl,r,rfl,⟨_,SqL.of er6⟩,?_⟩
            refine comp_listN (K := K) (xs := xs6) (fun m τ acc' H' => (∃ o,τ = [o,some (.int (n : Int))]) ∧ Same H6 H' ∧ Its H' acc' ((Lr.take m).map fun i => ((n : Int),i))) (by omega) ⟨⟨none,rfl⟩,Same.refl _,.nil⟩ (fun m τ acc' H' ⟨_,s,_⟩ => SqL.of (s _ _ er6)) ?_ ?_
            · rintro m y τ acc' H' R1 hy _ ⟨⟨o,rfl⟩,s,hp⟩ k1
              obtain ⟨b,ks,rfl,ek,eb⟩ := w6.at hy
              rw [List.getElem?_map] at ek
              obtain ⟨i,ei,rfl⟩ := Option.map_eq_some_iff.mp ek
              refine ⟨_,rfl,_,rfl,Nat.le_of_ble_eq_true rfl,fun p2 hp2 => k1 _ _ _ ⟨⟨_,rfl⟩,s.upd hp2,?_⟩⟩
              have sp2 := Same.upd' (o := .tup [.int (n : Int),.ref b]) hp2
              rw [List.take_add_one,ei,List.map_append]
              exact paired_app (hp.keep sp2.tp) (.cons ⟨p2,b,rfl,upd_same,sp2 _ _ (s _ _ eb)⟩ .nil)
            · rintro τ acc' H7 la ⟨_,s7,hp7⟩ D hD
              rw [List.take_of_length_le (by omega)] at hp7
              have s8 := s7.upd (o := .lst acc') hD
              have sD := Same.upd' (o := .lst acc') hD
              have eD : (upd H7 D (.lst acc')) D = some (.lst acc') := upd_same
              have hp8 := hp7.keep sD.tp
              generalize upd H7 D (.lst acc') = H8 at s8 eD hp8 ⊢
              have eu8 := s8 _ _ eu6
              have la6 : acc.length ≤ 600 * n := by
                rw [it6.len]
                exact tellsN_len fun i s hi ei => by obtain ⟨_,_,_,_,v4⟩ := cm1 i s hi ei; exact v4
              refine ⟨u,D,acc,acc',rfl,rfl,eu8,eD,by omega,?_⟩
              have s9 : SameP (· = u) H8 (upd H8 u (.lst (acc ++ acc'))) := fun b o nb eo => by rw [upd_ne nb]; exact eo
              have tp9 : Tp H8 (upd H8 u (.lst (acc ++ acc'))) := fun b xs eo => s9 _ _ (fun z => by rw [z,eu8] at eo; cases eo) eo
              have nud : ¬ isD ss jd u := fun z => by
                obtain ⟨kv,ek⟩ := isd u z
                rw [hu] at ek; cases ek
              have ndu : dj ≠ u := rd_ne jr.dict hu
              refine ⟨_,_,_,_,_,acc ++ acc',putN bt st.nm Lr,rfl,fun b o nb eo => s9 _ _ (fun z => by rw [z,hu] at eo; cases eo) (s8 _ _ (sp6 b o nb eo)),?_,by omega,s9 _ _ nbu (s8 _ _ eb6),upd_same,?_,bt6,fun i s hi ei => ?_,pm6⟩
              · exact (jr6.same s8).keepP s9 (fun b hb => .inl ⟨by rw [hb]; exact .head _,acc,by rw [hb]; exact eu8⟩) (fun b hb => by rw [hb]; exact nud) ndu
              · show Its _ _ (tellsN ss (putN bt st.nm Lr) n ++ _)
                rw [tl6,es]
                show Its _ _ (tellsN ss bt n ++ (if st.tell = true then _ else []))
                rw [if_pos ht,putN_same]
                exact Its.keep (paired_app (it6.keep s8.tp) hp8) tp9
              · obtain ⟨r',v1,v2,v3,v4⟩ := cm6 i s hi ei
                exact ⟨r',v1,v2.keep (fun xs z => s9 _ _ v3 (s8 _ _ z)) (fun b xs z => tp9 _ _ (s8 _ _ z)),v3,v4⟩
          · have ht : st.tell = false := ht
            refine ⟨_,_,_,_,_,acc,putN bt st.nm Lr,rfl,sp6,jr6,by omega,eb6,eu6,?_,bt6,cm6,pm6⟩
            show Its H6 acc (tellsN ss (putN bt st.nm Lr) n ++ _)
            rw [tl6,es]
            show Its H6 acc (tellsN ss bt n ++ (if st.tell = true then _ else []))
            rw [ht,if_neg Bool.false_ne_true,List.append_nil]
            exact it6
    · rintro σ H1 ⟨o5,o6,o7,o8,kvs,acc,bt,rfl,s1,jr1,lk1,eb1,eu1,it1,br1,cm1,pm1⟩
      rw [lps] at jr1 it1 br1
      exact ⟨_,rfl,k H1 u acc bt s1 jr1 hu eu1 it1 fun i s ei => br1 i s (List.getElem?_eq_some_iff.mp ei).1 ei⟩
def spScale (K : W.Frag) : Sp := fun vs H Q _ => ∃ (a : Addr) (ns : List Int),vs = [.ref a] ∧ SqL K H a (ns.map V.int) ∧ ns.length ≤ 63 ∧ ∀ (c : Int) H',Same H H' → (c = 1 ∨ c = 40000) → Q (.int c) H'
theorem ok_scale (T : Tx K mg ad) : FnOk P w K mg base CX0 2 ad.a_uscale ad.d_uscale ["_law_script"] (spScale K) := by
  have G_ucell_at := ok_at (P := P) (w := w) (base := base) T
  refine T.F_uscale.ok sc_uscale (fun vs H Q E h => ?_) (fun cdv A outer s H vs Q E hr h => ?_)
  · obtain ⟨a,ns,rfl,_⟩ := h
    rfl
  · obtain ⟨a,ns,rfl,hS,hl,k⟩ := h
    have nd := sc_uscale.nd
    refine ⟨_,(pss_one (ps_ret (pe_ix (ix_listK (K := K)) (pe_lst (pa_cons pe_int (pa_cons pe_int (pa_cons pe_int (pa_cons pe_int pa_nil))))) (pe_op op_mod (pe_op op_fdiv (pe_call G_ucell_at (hr.mono (by decide)) (by rfl) T.m_ucell_at T.F_ucell_at.kp T.b_ucell_at .nil pass0 (pa_cons (pv 0) (pa_cons pe_int pa_nil))) pe_int) pe_int) (fun _ _ => rfl)))),?_⟩
    refine ⟨Nat.le_of_ble_eq_true rfl,fun p hp => ?_⟩
    have s1 := Same.upd' (o := .lst [.int 1,.int 1,.int 1,.int 40000]) hp
    refine ⟨_,rfl,a,ns,_,rfl,s1.seq hS,by decide,hl,fun c => ?_⟩
    obtain ⟨v,hv,hm⟩ := atI_mod [V.int 1,.int 1,.int 1,.int 40000] 4 rfl (by decide) (c / 8)
    obtain ⟨m,rfl,hm2⟩ : ∃ m : Int,v = .int m ∧ (m = 1 ∨ m = 40000) := by
      simp only [List.mem_cons,List.not_mem_nil,or_false] at hm
      rcases hm with rfl | rfl | rfl | rfl
      · exact ⟨_,rfl,.inl rfl⟩
      · exact ⟨_,rfl,.inl rfl⟩
      · exact ⟨_,rfl,.inl rfl⟩
      · exact ⟨_,rfl,.inr rfl⟩
    exact ⟨_,_,rfl,rfl,⟨by decide,by decide⟩,_,_,rfl,rfl,(by decide : (0 : Int) < 4),p,_,_,_,rfl,rfl,SqL.of upd_same,hv,k m _ s1 hm2⟩
def spCross : Sp := fun vs H Q _ => ∃ (l0 l1 : Addr) (A B : List It) (wi : Int),vs = [.ref l0,.ref l1,.int wi] ∧ CameR H l0 A ∧ CameR H l1 B ∧ A.length ≤ 700 ∧ B.length ≤ 700 ∧ ∀ l H',Same H H' → H l = none → CameR H' l (crossI wi A B) → Q (.ref l) H'
theorem ok_ljoined (T : Tx K mg ad) : FnOk P w K mg base CX0 1 ad.a_ujoined ad.d_ujoined ["_law_ones", "_law_others", "_law_within"] spCross := by
  refine T.F_ujoined.ok sc_ujoined (fun vs H Q E h => ?_) (fun cdv A outer s H vs Q E hr h => ?_)
  · obtain ⟨l0,l1,A,B,wi,rfl,_⟩ := h
    rfl
  · obtain ⟨l0,l1,C,B,wi,rfl,⟨xa,ea,wa⟩,⟨xb,eb,wb⟩,la,lb,k⟩ := h
    have nd := sc_ujoined.nd
    refine ⟨_,(pss_cons (ps_set (i := 3) nd rfl (Or.inl rfl) (pe_lst pa_nil))
        (pss_cons (ps_for PassesOwn.never rfl (pi_listK (K := K) (pv 0)) (pg_name (i := 4) nd rfl (Or.inl rfl))
        (pss_one (ps_for PassesOwn.never rfl (pi_listK (K := K) (pv 1)) (pg_name (i := 5) nd rfl (Or.inl rfl))
        (pss_one (ps_if (PW.pt (pw_and (pt_cmpR op_eq (pe_ix (ix_tupK (K := K)) (pv 4) pe_int (fun _ _ => rfl)) (pe_ix (ix_tupK (K := K)) (pv 5) pe_int (fun _ _ => rfl)) (nomark _)) (pw_and1 (pt_cmpR op_le (pe_callB call_abs (by rfl) T.z_abs PyProof.Rows.boot_abs (pa_cons (pe_op op_sub (pe_ix (ix_tupK (K := K)) (pv 4) pe_int (fun _ _ => rfl)) (pe_ix (ix_tupK (K := K)) (pv 5) pe_int (fun _ _ => rfl))) pa_nil)) (pv 2) (nomark _)))))
        (pss_one (ps_expr (pe_bmK (K := K) F.plainAttrs_list F.slot_list_append F.type_list_append mt_append (pv 3) (pa_cons (pe_tup (pa_cons (pe_callB (call_max2 rfl) (by rfl) T.z_max PyProof.Rows.boot_max (pa_cons (pe_ix (ix_tupK (K := K)) (pv 4) pe_int (fun _ _ => rfl)) (pa_cons (pe_ix (ix_tupK (K := K)) (pv 5) pe_int (fun _ _ => rfl)) pa_nil))) (pa_cons (pe_ix (ix_tupK (K := K)) (pv 4) pe_int (fun _ _ => rfl)) (pa_cons (pe_op op_sub (pe_ix (ix_tupK (K := K)) (pv 4) pe_int (fun _ _ => rfl)) (pe_ix (ix_tupK (K := K)) (pv 5) pe_int (fun _ _ => rfl))) pa_nil)))) pa_nil))))
        pss_nil)))))
        (pss_one (ps_ret (pv 3))))),?_⟩
    have sz : sizeLine = 16777216 := sizeLine_eq
    have lxa := wa.len
    have lxb := wb.len
    rw [List.length_map] at lxa lxb
    refine ⟨Nat.zero_le _,fun u hu => ?_⟩
    have s0 := Same.upd' (o := .lst []) hu
    have eu0 : (upd H u (.lst [])) u = some (.lst []) := upd_same
    generalize upd H u (.lst []) = H0 at s0 eu0 ⊢
    refine ⟨_,rfl,l0,rfl,⟨_,SqL.of (s0 _ _ ea)⟩,for_list (K := K) (xs := xa) (fun n σ H' => ∃ (o4 o5 : Option V) (acc : List V),σ = [some (.ref l0),some (.ref l1),some (.int wi),some (.ref u),o4,o5] ∧ Same H H' ∧ H' u = some (.lst acc) ∧ Rws H' acc ((crossI wi (C.take n) B).map itK))
      ⟨none,none,[],rfl,s0,eu0,rws_nil _⟩ (fun n σ H' _ ⟨_,_,_,_,s',_⟩ => SqL.of (s' _ _ ea)) ?_ ?_⟩
    · rintro n x σ H1 hx ⟨o4,o5,acc,rfl,s1,eu1,hw1⟩
      obtain ⟨a,ks,rfl,ek,ea1⟩ := wa.at hx
      rw [List.getElem?_map] at ek
      obtain ⟨i,ei,rfl⟩ := Option.map_eq_some_iff.mp ek
      refine ⟨_,rfl,l1,rfl,⟨_,SqL.of (s1 _ _ eb)⟩,for_list (K := K) (xs := xb) (fun m σ H' => ∃ (o5 : Option V) (acc : List V),σ = [some (.ref l0),some (.ref l1),some (.int wi),some (.ref u),some (.ref a),o5] ∧ Same H H' ∧ H' u = some (.lst acc) ∧ Rws H' acc ((crossI wi (C.take n) B ++ ((B.take m).filter (nearB wi i)).map (mtI i)).map itK))
        ⟨_,acc,rfl,s1,eu1,by simpa using hw1⟩ (fun m σ H' _ ⟨_,_,_,s',_⟩ => SqL.of (s' _ _ eb)) ?_ ?_⟩
      · rintro m y σ H2 hy ⟨o5,acc,rfl,s2,eu2,hw2⟩
        obtain ⟨b,ks,rfl,ek,eb2⟩ := wb.at hy
        rw [List.getElem?_map] at ek
        obtain ⟨⟨tj,zj,aj⟩,ej,rfl⟩ := Option.map_eq_some_iff.mp ek
        obtain ⟨ti,zi,ai⟩ := i
        have fs := filt_snoc' (p := nearB wi (ti,zi,ai)) ej
        have a2 : SqT K H2 a _ := SqT.of (s2 _ _ ea1)
        have b2 : SqT K H2 b _ := SqT.of (s2 _ _ eb2)
        refine ⟨_,rfl,a,_,_,_,rfl,rfl,a2,atI_nat (j := 1) rfl,_,rfl,b,_,_,_,rfl,rfl,b2,atI_nat (j := 1) rfl,rfl,_,rfl,?_⟩
        have no : ¬ (zj = zi ∧ ti - wi ≤ tj ∧ tj ≤ ti + wi) → Rws H2 acc ((crossI wi (C.take n) B ++ ((B.take (m + 1)).filter (nearB wi (ti,zi,ai))).map (mtI (ti,zi,ai))).map itK) := fun q => by
          rw [fs,if_neg (by unfold nearB; rw [decide_eq_true_eq]; exact q),List.append_nil]
          exact hw2
        refine iteVS (fun h1 => ?_) fun h1 => iteF ⟨_,acc,rfl,s2,eu2,no fun q => h1 q.1.symm⟩
        refine ⟨_,rfl,a,_,_,_,rfl,rfl,a2,atI_nat (j := 0) rfl,_,rfl,b,_,_,_,rfl,rfl,b2,atI_nat (j := 0) rfl,_,_,rfl,rfl,_,rfl,_,rfl,_,_,rfl,rfl,_,rfl,iteP (fun h2 => ?_) fun h2 => ⟨_,acc,rfl,s2,eu2,no fun q => h2 ?_⟩⟩
        · have lac : acc.length ≤ 490000 + 700 := by
            rw [hw2.len,List.length_map,List.length_append,List.length_map]
            have h3 := crossL_len wi (C.take n) B
            rw [crossI_key,List.length_map,List.length_take] at h3
            have h4 := List.length_filter_le (nearB wi (ti,zi,ai)) (B.take m)
            rw [List.length_take] at h4
            have h5 := Nat.mul_le_mul (show min n C.length ≤ 700 by omega) lb
            omega
          refine ⟨_,rfl,.inl ⟨rfl,_,SqL.of eu2⟩,_,rfl,a,_,_,_,rfl,rfl,a2,atI_nat (j := 0) rfl,_,rfl,b,_,_,_,rfl,rfl,b2,atI_nat (j := 0) rfl,_,_,rfl,_,rfl,a,_,_,_,rfl,rfl,a2,atI_nat (j := 1) rfl,_,rfl,a,_,_,_,rfl,rfl,a2,atI_nat (j := 2) rfl,_,rfl,b,_,_,_,rfl,rfl,b2,atI_nat (j := 2) rfl,_,_,rfl,rfl,Nat.le_of_ble_eq_true rfl,fun p2 hp2 => ?_⟩
          have sp2 := Same.upd' (o := .tup ((itK (mtI (ti,zi,ai) (tj,zj,aj))).map kV)) hp2
          have e2 : (upd H2 p2 (.tup ((itK (mtI (ti,zi,ai) (tj,zj,aj))).map kV))) p2 = some (.tup ((itK (mtI (ti,zi,ai) (tj,zj,aj))).map kV)) := upd_same
          have eu3 := sp2 _ _ eu2
          refine ⟨u,acc,.ref p2,rfl,rfl,eu3,by omega,_,acc ++ [.ref p2],rfl,(s2.trans sp2).updN hu,upd_same,?_⟩
          have h2 : (if ti - tj < 0 then -(ti - tj) else ti - tj) ≤ wi := h2
          have nr : nearB wi (ti,zi,ai) (tj,zj,aj) = true := by
            unfold nearB
            rw [decide_eq_true_eq]
            refine ⟨h1.symm,?_⟩
            show ti - wi ≤ tj ∧ tj ≤ ti + wi
            split at h2 <;> omega
          have e5 : (crossI wi (C.take n) B ++ ((B.take (m + 1)).filter (nearB wi (ti,zi,ai))).map (mtI (ti,zi,ai))).map itK = (crossI wi (C.take n) B ++ ((B.take m).filter (nearB wi (ti,zi,ai))).map (mtI (ti,zi,ai))).map itK ++ [itK (mtI (ti,zi,ai) (tj,zj,aj))] := by
            rw [fs,if_pos nr]
            simp
          rw [e5]
          exact Rws.keep ((hw2.keep sp2.tp).snoc e2) ((Tp.refl _).upd eu3 fun xs => by intro z; cases z)
        · obtain ⟨_,q1,q2⟩ := q
          show (if ti - tj < 0 then -(ti - tj) else ti - tj) ≤ wi
          split <;> omega
      · rintro σ H2 ⟨o5,acc,rfl,s2,eu2,hw2⟩
        refine ⟨_,_,acc,rfl,s2,eu2,?_⟩
        rw [show B.take xb.length = B from List.take_of_length_le (by omega)] at hw2
        have : crossI wi (C.take (n + 1)) B = crossI wi (C.take n) B ++ (B.filter (nearB wi i)).map (mtI i) := by
          unfold crossI
          rw [List.take_add_one,ei,List.flatMap_append]
          simp
        rw [this]
        exact hw2
    · rintro σ H1 ⟨o4,o5,acc,rfl,s1,eu1,hw1⟩
      rw [List.take_of_length_le (by omega)] at hw1
      exact ⟨_,rfl,k u H1 s1 hu ⟨_,eu1,hw1⟩⟩
def bndS (s : Stp) (z : Str → Nat) (m : Nat) : Nat := match s with
  | .take .. => m
  | .only _ a _ _ | .turn _ a _ _ | .gap _ a _ _ | .each _ a _ _ _ => z a
  | .both _ a b => z a + z b
  | .join _ a b _ => z a * z b
def spBound : Sp := fun vs H Q _ => ∃ (p d : Addr) (s : Stp) (kvs : List (Key × V)) (z : Str → Nat) (m : Nat),vs = [.ref p,.ref d,.int (m : Int)] ∧ StA H p s ∧ H d = some (.dK kvs) ∧ (∀ a ∈ s.feeds,valV kvs (.inr a) = some (.int (z a : Int)) ∧ z a ≤ 600) ∧ Q (.int (bndS s z m : Int)) H
theorem ok_bound (T : Tx K mg ad) : FnOk P w K mg base CX0 1 ad.a_ubound ad.d_ubound ["_law_step", "_law_sizes", "_law_most"] spBound := by
  refine T.F_ubound.ok sc_ubound (fun vs H Q E h => ?_) (fun cdv A outer s H vs Q E hr h => ?_)
  · obtain ⟨p,d,s,kvs,z,m,rfl,_⟩ := h
    rfl
  · obtain ⟨p,d,st,kvs,z,m,rfl,e,ed,hz,k⟩ := h
    have nd := sc_ubound.nd
    refine ⟨_,(pss_cons (ps_if (pt_cmpR op_eq (pe_ix (ix_tupK (K := K)) (pv 0) pe_int (fun _ _ => rfl)) pe_str (nomark _))
        (pss_one (ps_ret (pv 2)))
        pss_nil)
        (pss_cons (ps_if (pt_cmpR op_eq (pe_ix (ix_tupK (K := K)) (pv 0) pe_int (fun _ _ => rfl)) pe_str (nomark _))
        (pss_one (ps_ret (pe_op op_add (pe_dget hr.u1 (pv 1) (pe_ix (ix_tupK (K := K)) (pv 0) pe_int (fun _ _ => rfl)) (fun _ _ => rfl)) (pe_dget hr.u1 (pv 1) (pe_ix (ix_tupK (K := K)) (pv 0) pe_int (fun _ _ => rfl)) (fun _ _ => rfl)))))
        pss_nil)
        (pss_cons (ps_if (pt_cmpR op_eq (pe_ix (ix_tupK (K := K)) (pv 0) pe_int (fun _ _ => rfl)) pe_str (nomark _))
        (pss_one (ps_ret (pe_op op_mul (pe_dget hr.u1 (pv 1) (pe_ix (ix_tupK (K := K)) (pv 0) pe_int (fun _ _ => rfl)) (fun _ _ => rfl)) (pe_dget hr.u1 (pv 1) (pe_ix (ix_tupK (K := K)) (pv 0) pe_int (fun _ _ => rfl)) (fun _ _ => rfl)))))
        pss_nil)
        (pss_one (ps_ret (pe_dget hr.u1 (pv 1) (pe_ix (ix_tupK (K := K)) (pv 0) pe_int (fun _ _ => rfl)) (fun _ _ => rfl))))))),?_⟩
    obtain ⟨e0,e1,e2⟩ := e.word (K := K)
    have g : ∀ a ∈ st.feeds,DGet H d (.str a) (some (.int (z a : Int))) := fun a ha => by rw [← (hz a ha).1]; exact DGet.k (k := .inr a) ed
    refine ⟨_,rfl,p,_,_,_,rfl,rfl,e0,e1,rfl,_,rfl,iteW (i := 0) rfl (fun q0 => ?_) fun q0 => ?_⟩
    · cases st <;> first | cases q0; done | exact ⟨_,rfl,k⟩
    · refine ⟨_,rfl,p,_,_,_,rfl,rfl,e0,e1,rfl,_,rfl,iteW (i := 3) rfl (fun q3 => ?_) fun q3 => ?_⟩
      · obtain ⟨n,a,b,rfl⟩ : ∃ n a b,st = .both n a b := by cases st <;> first | exact ⟨_,_,_,rfl⟩ | cases q3
        refine ⟨_,rfl,_,rfl,p,_,_,_,rfl,rfl,e0,atI_nat (j := 2) rfl,d,_,rfl,g a (.head _),_,rfl,_,rfl,p,_,_,_,rfl,rfl,e0,atI_nat (j := 3) rfl,d,_,rfl,g b (.tail _ (.head _)),_,_,rfl,rfl,k⟩
      · refine ⟨_,rfl,p,_,_,_,rfl,rfl,e0,e1,rfl,_,rfl,iteW (i := 4) rfl (fun q4 => ?_) fun q4 => ?_⟩
        · obtain ⟨n,a,b,wi,rfl⟩ : ∃ n a b wi,st = .join n a b wi := by cases st <;> first | exact ⟨_,_,_,_,rfl⟩ | cases q4
          have hz1 := (hz a (.head _)).2
          refine ⟨_,rfl,_,rfl,p,_,_,_,rfl,rfl,e0,atI_nat (j := 2) rfl,d,_,rfl,g a (.head _),_,rfl,_,rfl,p,_,_,_,rfl,rfl,e0,atI_nat (j := 3) rfl,d,_,rfl,g b (.tail _ (.head _)),_,_,rfl,rfl,.inl ⟨by omega,by omega⟩,?_⟩
          have : (bndS (.join n a b wi) z m : Int) = (z a : Int) * (z b : Int) := Int.natCast_mul ..
          rw [this] at k
          exact k
        · obtain ⟨a,ha,ea,eb⟩ : ∃ a,a ∈ st.feeds ∧ atI (st.key.map kV) 2 = some (.str a) ∧ bndS st z m = z a := by
            cases st <;> first | exact absurd rfl q0 | exact absurd rfl q3 | exact absurd rfl q4 | exact ⟨_,.head _,atI_nat (j := 2) rfl,rfl⟩
          rw [eb] at k
          exact ⟨_,rfl,_,rfl,p,_,_,_,rfl,rfl,e0,ea,d,_,rfl,g a ha,k⟩
def StrR (H : Hp) (kvs : List (Key × V)) (L : Str → List It) (a : Str) : Prop := ∃ r,valV kvs (.inr a) = some (.ref r) ∧ CameR H r (L a) ∧ (L a).length ≤ 600
def EvsR (H : Hp) (l : Addr) (evs : List Ev) : Prop := ∃ xs,H l = some (.lst xs) ∧ Rws H xs (evs.map evK)
def spMeant : Sp := fun vs H Q _ => ∃ (p d l : Addr) (s : Stp) (kvs : List (Key × V)) (L : Str → List It) (evs : List Ev),vs = [.ref p,.ref d,.ref l] ∧ StA H p s ∧ s.tell = false ∧ stOk s ∧ H d = some (.dK kvs) ∧ (∀ a ∈ s.feeds,StrR H kvs L a) ∧ EvsR H l evs ∧ evs.length ≤ 100 ∧
  ∀ r H',Same H H' → H r = none → CameR H' r (meantS s L evs) → Q (.ref r) H'
theorem ok_meant (T : Tx K mg ad) : FnOk P w K mg base CX0 2 ad.a_umeant ad.d_umeant ["_law_step", "_law_streams", "_law_events"] spMeant := by
  have G_ujoined := ok_ljoined (P := P) (w := w) (base := base) T
  refine T.F_umeant.ok sc_umeant (fun vs H Q E h => ?_) (fun cdv A outer s H vs Q E hr h => ?_)
  · obtain ⟨p,d,l,s,kvs,L,evs,rfl,_⟩ := h
    rfl
  · obtain ⟨p,d,l,st,kvs,L,evs,rfl,e,ht,ok,ed,hs,⟨xs,el,wl⟩,le,k⟩ := h
    have nd := sc_umeant.nd
    refine ⟨_,(pss_cons (ps_if (pt_cmpR op_eq (pe_ix (ix_tupK (K := K)) (pv 0) pe_int (fun _ _ => rfl)) pe_str (nomark _))
        (pss_one (ps_ret (pe_comp1 (osc := defScope s_umeant) [("_law_step", 0)] rfl (pi_listK (K := K) (pv 2)) rfl rfl (by decide +kernel) (by decide +kernel) (by decide +kernel) ⟨rfl,rfl,trivial⟩ rfl (by decide +kernel) (fun _ _ _ _ => pts_one (pt_cmpR op_eq (pe_ix (ix_tupK (K := K)) (pv 0) pe_int (fun _ _ => rfl)) (pe_ix (ix_tupK (K := K)) (pv 1) pe_int (fun _ _ => rfl)) (nomark _))) (fun _ _ _ _ => (pe_tup (pa_cons (pe_ix (ix_tupK (K := K)) (pv 0) pe_int (fun _ _ => rfl)) (pa_cons (pe_ix (ix_tupK (K := K)) (pv 0) pe_int (fun _ _ => rfl)) (pa_cons (pe_ix (ix_tupK (K := K)) (pv 0) pe_int (fun _ _ => rfl)) pa_nil))))))))
        pss_nil)
        (pss_cons (ps_if (pt_cmpR op_eq (pe_ix (ix_tupK (K := K)) (pv 0) pe_int (fun _ _ => rfl)) pe_str (nomark _))
        (pss_one (ps_ret (pe_comp1 (osc := defScope s_umeant) [("_law_step", 0)] rfl (pi_listK (K := K) (pe_dget hr.u1 (pv 1) (pe_ix (ix_tupK (K := K)) (pv 0) pe_int (fun _ _ => rfl)) (fun _ _ => rfl))) rfl rfl (by decide +kernel) (by decide +kernel) (by decide +kernel) ⟨rfl,rfl,trivial⟩ rfl (by decide +kernel) (fun _ _ _ _ => pts_one (PW.pt (pw_and (pt_cmpR op_le (pe_ix (ix_tupK (K := K)) (pv 1) pe_int (fun _ _ => rfl)) (pe_ix (ix_tupK (K := K)) (pv 0) pe_int (fun _ _ => rfl)) (nomark _)) (pw_and1 (pt_cmpR op_le (pe_ix (ix_tupK (K := K)) (pv 0) pe_int (fun _ _ => rfl)) (pe_ix (ix_tupK (K := K)) (pv 1) pe_int (fun _ _ => rfl)) (nomark _)))))) (fun _ _ _ _ => (pv 0)))))
        pss_nil)
        (pss_cons (ps_if (pt_cmpR op_eq (pe_ix (ix_tupK (K := K)) (pv 0) pe_int (fun _ _ => rfl)) pe_str (nomark _))
        (pss_one (ps_ret (pe_comp1 (osc := defScope s_umeant) [("_law_step", 0)] rfl (pi_listK (K := K) (pe_dget hr.u1 (pv 1) (pe_ix (ix_tupK (K := K)) (pv 0) pe_int (fun _ _ => rfl)) (fun _ _ => rfl))) rfl rfl (by decide +kernel) (by decide +kernel) (by decide +kernel) ⟨rfl,rfl,trivial⟩ rfl (by decide +kernel) (fun _ _ _ _ => pts_nil) (fun _ _ _ _ => (pe_tup (pa_cons (pe_ix (ix_tupK (K := K)) (pv 0) pe_int (fun _ _ => rfl)) (pa_cons (pe_ix (ix_tupK (K := K)) (pv 0) pe_int (fun _ _ => rfl)) (pa_cons (pe_op op_add (pe_op op_mul (pe_ix (ix_tupK (K := K)) (pv 1) pe_int (fun _ _ => rfl)) (pe_ix (ix_tupK (K := K)) (pv 0) pe_int (fun _ _ => rfl))) (pe_ix (ix_tupK (K := K)) (pv 1) pe_int (fun _ _ => rfl))) pa_nil))))))))
        pss_nil)
        (pss_cons (ps_if (pt_cmpR op_eq (pe_ix (ix_tupK (K := K)) (pv 0) pe_int (fun _ _ => rfl)) pe_str (nomark _))
        (pss_one (ps_ret (pe_op op_cat (pe_dget hr.u1 (pv 1) (pe_ix (ix_tupK (K := K)) (pv 0) pe_int (fun _ _ => rfl)) (fun _ _ => rfl)) (pe_dget hr.u1 (pv 1) (pe_ix (ix_tupK (K := K)) (pv 0) pe_int (fun _ _ => rfl)) (fun _ _ => rfl)))))
        pss_nil)
        (pss_one (ps_ret (pe_call G_ujoined (hr.mono (by decide)) (by rfl) T.m_ujoined T.F_ujoined.kp T.b_ujoined .nil pass0 (pa_cons (pe_dget hr.u1 (pv 1) (pe_ix (ix_tupK (K := K)) (pv 0) pe_int (fun _ _ => rfl)) (fun _ _ => rfl)) (pa_cons (pe_dget hr.u1 (pv 1) (pe_ix (ix_tupK (K := K)) (pv 0) pe_int (fun _ _ => rfl)) (fun _ _ => rfl)) (pa_cons (pe_ix (ix_tupK (K := K)) (pv 0) pe_int (fun _ _ => rfl)) pa_nil)))))))))),?_⟩
    have sz : sizeLine = 16777216 := sizeLine_eq
    obtain ⟨e0,e1,e2⟩ := e.word (K := K)
    have lx := wl.len
    rw [List.length_map] at lx
    have g : ∀ a ∈ st.feeds,∃ r xs,DGet H d (.str a) (some (.ref r)) ∧ H r = some (.lst xs) ∧ Rws H xs ((L a).map itK) ∧ (L a).length ≤ 600 ∧ xs.length = (L a).length := fun a ha => by
      obtain ⟨r,v1,⟨xs,v2,v3⟩,v4⟩ := hs a ha
      exact ⟨r,xs,by rw [← v1]; exact DGet.k (k := .inr a) ed,v2,v3,v4,by rw [v3.len,List.length_map]⟩
    refine ⟨_,rfl,p,_,_,_,rfl,rfl,e0,e1,rfl,_,rfl,iteW (i := 0) rfl (fun q0 => ?_) fun q0 => ?_⟩
    · obtain ⟨n,kd,rfl⟩ : ∃ n kd,st = .take n kd := by cases st <;> first | exact ⟨_,_,rfl⟩ | cases q0
      refine ⟨_,rfl,l,rfl,⟨_,SqL.of el⟩,?_⟩
      refine comp_list (K := K) (xs := xs) (fun m τ acc H' => (∃ o,τ = [o,some (.ref p)]) ∧ Same H H' ∧ Rws H' acc ((((evs.take m).filter fun e => decide (e.2.1 = kd)).map evI).map itK)) (by omega) ⟨⟨none,rfl⟩,Same.refl _,rws_nil _⟩ (fun m τ acc H' ⟨_,s,_⟩ => SqL.of (s _ _ el)) ?_ ?_
      · rintro m y τ acc H' R1 R0 hy _ ⟨⟨o,rfl⟩,s,hp⟩ k1 k0
        obtain ⟨b,ks,rfl,ek,eb⟩ := wl.at hy
        rw [List.getElem?_map] at ek
        obtain ⟨⟨t,ki,z,am⟩,ei,rfl⟩ := Option.map_eq_some_iff.mp ek
        have fs := filt_snoc' (p := fun e : Ev => decide (e.2.1 = kd)) ei
        have b0 : SqT K H' b _ := SqT.of (s _ _ eb)
        have p0 : SqT K H' p _ := SqT.of (s _ _ e)
        refine ⟨_,rfl,b,_,_,_,rfl,rfl,b0,atI_nat (j := 1) rfl,_,rfl,p,_,_,_,rfl,rfl,p0,atI_nat (j := 2) rfl,rfl,_,rfl,iteVS (fun h => ?_) fun h => k0 _ _ ⟨⟨_,rfl⟩,s,by rw [fs,if_neg (by rw [decide_eq_true_eq]; exact h),List.append_nil]; exact hp⟩⟩
        refine ⟨_,rfl,b,_,_,_,rfl,rfl,b0,atI_nat (j := 0) rfl,_,rfl,b,_,_,_,rfl,rfl,b0,atI_nat (j := 2) rfl,_,rfl,b,_,_,_,rfl,rfl,b0,atI_nat (j := 3) rfl,Nat.le_of_ble_eq_true rfl,fun p2 hp2 => k1 _ _ _ ⟨⟨_,rfl⟩,s.upd hp2,?_⟩⟩
        rw [fs,if_pos (by rw [decide_eq_true_eq]; exact h),List.map_append,List.map_append]
        exact (hp.keep (Same.upd' hp2).tp).snoc (ks := itK (t,z,am)) upd_same
      · rintro τ acc H' la ⟨_,s,hp⟩ D hD
        rw [List.take_of_length_le (by omega)] at hp
        exact k D _ (s.upd hD) (s.free hD) ⟨_,upd_same,hp.keep ((Same.refl _).upd hD).tp⟩
    · refine ⟨_,rfl,p,_,_,_,rfl,rfl,e0,e1,rfl,_,rfl,iteW (i := 1) rfl (fun q1 => ?_) fun q1 => ?_⟩
      · obtain ⟨n,a,lo,hi,rfl⟩ : ∃ n a lo hi,st = .only n a lo hi := by cases st <;> first | exact ⟨_,_,_,_,rfl⟩ | cases q1
        obtain ⟨r,xa,gd,er,hw,hl,hx⟩ := g a (.head _)
        refine ⟨_,rfl,_,rfl,p,_,_,_,rfl,rfl,e0,atI_nat (j := 2) rfl,d,_,rfl,gd,r,rfl,⟨_,SqL.of er⟩,?_⟩
        refine comp_list (K := K) (xs := xa) (fun m τ acc H' => (∃ o,τ = [o,some (.ref p)]) ∧ H' = H ∧ Rws H acc ((((L a).take m).filter fun i => decide (lo ≤ i.2.2 ∧ i.2.2 ≤ hi)).map itK)) (by omega) ⟨⟨none,rfl⟩,rfl,rws_nil _⟩ (fun m τ acc H' ⟨_,ee,_⟩ => by rw [ee]; exact SqL.of er) ?_ ?_
        · rintro m y τ acc H' R1 R0 hy _ ⟨⟨o,rfl⟩,rfl,hp⟩ k1 k0
          obtain ⟨b,ks,rfl,ek,eb⟩ := hw.at hy
          rw [List.getElem?_map] at ek
          obtain ⟨⟨t,z,am⟩,ei,rfl⟩ := Option.map_eq_some_iff.mp ek
          have fs := filt_snoc' (p := fun i : It => decide (lo ≤ i.2.2 ∧ i.2.2 ≤ hi)) ei
          have no : ¬ (lo ≤ am ∧ am ≤ hi) → Rws H' acc ((((L a).take (m + 1)).filter fun i => decide (lo ≤ i.2.2 ∧ i.2.2 ≤ hi)).map itK) := fun q => by
            rw [fs,if_neg (by rw [decide_eq_true_eq]; exact q),List.append_nil]
            exact hp
          refine ⟨_,rfl,p,_,_,_,rfl,rfl,e0,atI_nat (j := 3) rfl,_,rfl,b,_,_,_,rfl,rfl,SqT.of eb,atI_nat (j := 2) rfl,_,_,rfl,rfl,_,rfl,iteP (fun h1 => ?_) fun h1 => iteF (k0 _ _ ⟨⟨_,rfl⟩,rfl,no fun q => h1 q.1⟩)⟩
          refine ⟨_,rfl,b,_,_,_,rfl,rfl,SqT.of eb,atI_nat (j := 2) rfl,_,rfl,p,_,_,_,rfl,rfl,e0,atI_nat (j := 4) rfl,_,_,rfl,rfl,_,rfl,iteP (fun h2 => ?_) fun h2 => k0 _ _ ⟨⟨_,rfl⟩,rfl,no fun q => h2 q.2⟩⟩
          refine ⟨_,rfl,k1 _ _ _ ⟨⟨_,rfl⟩,rfl,?_⟩⟩
          rw [fs,if_pos (by rw [decide_eq_true_eq]; exact ⟨h1,h2⟩),List.map_append]
          exact hp.snoc eb
        · rintro τ acc H' la ⟨_,rfl,hp⟩ D hD
          rw [List.take_of_length_le (by omega)] at hp
          exact k D _ ((Same.refl _).upd hD) hD ⟨_,upd_same,hp.keep ((Same.refl _).upd hD).tp⟩
      · refine ⟨_,rfl,p,_,_,_,rfl,rfl,e0,e1,rfl,_,rfl,iteW (i := 2) rfl (fun q2 => ?_) fun q2 => ?_⟩
        · obtain ⟨n,a,f,g',rfl⟩ : ∃ n a f g',st = .turn n a f g' := by cases st <;> first | exact ⟨_,_,_,_,rfl⟩ | cases q2
          obtain ⟨r,xa,gd,er,hw,hl,hx⟩ := g a (.head _)
          have ok : -100 ≤ f ∧ f ≤ 100 := ok
          refine ⟨_,rfl,_,rfl,p,_,_,_,rfl,rfl,e0,atI_nat (j := 2) rfl,d,_,rfl,gd,r,rfl,⟨_,SqL.of er⟩,?_⟩
          refine comp_listN (K := K) (xs := xa) (fun m τ acc H' => (∃ o,τ = [o,some (.ref p)]) ∧ Same H H' ∧ Rws H' acc ((((L a).take m).map (trnI f g')).map itK)) (by omega) ⟨⟨none,rfl⟩,Same.refl _,rws_nil _⟩ (fun m τ acc H' ⟨_,s,_⟩ => SqL.of (s _ _ er)) ?_ ?_
          · rintro m y τ acc H' R1 hy _ ⟨⟨o,rfl⟩,s,hp⟩ k1
            obtain ⟨b,ks,rfl,ek,eb⟩ := hw.at hy
            rw [List.getElem?_map] at ek
            obtain ⟨⟨t,z,am⟩,ei,rfl⟩ := Option.map_eq_some_iff.mp ek
            have b0 : SqT K H' b _ := SqT.of (s _ _ eb)
            have p0 : SqT K H' p _ := SqT.of (s _ _ e)
            refine ⟨_,rfl,b,_,_,_,rfl,rfl,b0,atI_nat (j := 0) rfl,_,rfl,b,_,_,_,rfl,rfl,b0,atI_nat (j := 1) rfl,_,rfl,p,_,_,_,rfl,rfl,p0,atI_nat (j := 3) rfl,_,rfl,b,_,_,_,rfl,rfl,b0,atI_nat (j := 2) rfl,_,_,rfl,rfl,.inl ⟨by omega,by omega⟩,_,rfl,p,_,_,_,rfl,rfl,p0,atI_nat (j := 4) rfl,_,_,rfl,rfl,Nat.le_of_ble_eq_true rfl,fun p2 hp2 => k1 _ _ _ ⟨⟨_,rfl⟩,s.upd hp2,?_⟩⟩
            rw [List.take_add_one,ei,List.map_append,List.map_append]
            refine (hp.keep (Same.upd' hp2).tp).snoc (ks := itK (trnI f g' (t,z,am))) ?_
            rw [upd_same]
            show some (HO.tup [V.int t,V.str z,V.int (f * am + g')]) = some (HO.tup [V.int t,V.str z,V.int (am * f + g')])
            rw [Int.mul_comm]
          · rintro τ acc H' la ⟨_,s,hp⟩ D hD
            rw [List.take_of_length_le (by omega)] at hp
            exact k D _ (s.upd hD) (s.free hD) ⟨_,upd_same,hp.keep ((Same.refl _).upd hD).tp⟩
        · refine ⟨_,rfl,p,_,_,_,rfl,rfl,e0,e1,rfl,_,rfl,iteW (i := 3) rfl (fun q3 => ?_) fun q3 => ?_⟩
          · obtain ⟨n,a,b,rfl⟩ : ∃ n a b,st = .both n a b := by cases st <;> first | exact ⟨_,_,_,rfl⟩ | cases q3
            obtain ⟨r,xa,gd,er,hw,hl,hx⟩ := g a (.head _)
            obtain ⟨r',xb,gd',er',hw',hl',hx'⟩ := g b (.tail _ (.head _))
            refine ⟨_,rfl,_,rfl,p,_,_,_,rfl,rfl,e0,atI_nat (j := 3) rfl,d,_,rfl,gd',_,rfl,_,rfl,p,_,_,_,rfl,rfl,e0,atI_nat (j := 2) rfl,d,_,rfl,gd,r',r,xb,xa,rfl,rfl,er',er,by omega,fun D hD => k D _ ((Same.refl _).upd hD) hD ⟨_,upd_same,?_⟩⟩
            show Rws _ _ ((L b ++ L a).map itK)
            rw [List.map_append]
            exact Rws.keep (paired_app hw' hw) ((Same.refl _).upd hD).tp
          · obtain ⟨n,a,b,wi,rfl⟩ : ∃ n a b wi,st = .join n a b wi := by
              cases st <;> first | exact ⟨_,_,_,_,rfl⟩ | exact absurd rfl q0 | exact absurd rfl q1 | exact absurd rfl q2 | exact absurd rfl q3 | cases ht
            obtain ⟨r,xa,gd,er,hw,hl,hx⟩ := g a (.head _)
            obtain ⟨r',xb,gd',er',hw',hl',hx'⟩ := g b (.tail _ (.head _))
            exact ⟨_,rfl,_,rfl,p,_,_,_,rfl,rfl,e0,atI_nat (j := 2) rfl,d,_,rfl,gd,_,rfl,_,rfl,p,_,_,_,rfl,rfl,e0,atI_nat (j := 3) rfl,d,_,rfl,gd',_,rfl,p,_,_,_,rfl,rfl,e0,atI_nat (j := 4) rfl,r,r',L a,L b,wi,rfl,⟨_,er,hw⟩,⟨_,er',hw'⟩,by omega,by omega,k⟩
def Stp.txt : Stp → List Str
  | take n k => [n,k]
  | only n a _ _ => [n,a]
  | turn n a _ _ => [n,a]
  | both n a b => [n,a,b]
  | join n a b _ => [n,a,b]
  | gap n a s _ => [n,a,s]
  | each n a s _ _ => [n,a,s]
def SORTS : List Str := ["count", "sum", "least", "greatest"]
structure StpOf (zs : List Str) (n : Str) (s : Stp) : Prop where
  nm : s.nm = n
  fed : ∀ a ∈ s.feeds,a ∈ zs
  ok : stOk s
  txt : ∀ z ∈ s.txt,z = n ∨ z ∈ zs ∨ z ∈ SORTS
theorem txt2 {zs : List Str} {n a : Str} (h : a ∈ zs) : ∀ z ∈ [n,a],z = n ∨ z ∈ zs ∨ z ∈ SORTS := fun z hz => by
  simp only [List.mem_cons,List.not_mem_nil,or_false] at hz
  rcases hz with rfl | rfl
  · exact .inl rfl
  · exact .inr (.inl h)
theorem txt3 {zs : List Str} {n a b : Str} (h : a ∈ zs) (h2 : b ∈ zs ∨ b ∈ SORTS) : ∀ z ∈ [n,a,b],z = n ∨ z ∈ zs ∨ z ∈ SORTS := fun z hz => by
  simp only [List.mem_cons,List.not_mem_nil,or_false] at hz
  rcases hz with rfl | rfl | rfl
  · exact .inl rfl
  · exact .inr (.inl h)
  · exact .inr h2
def spStream : Sp := fun vs H Q _ => ∃ (n : Str) (nn c : Int) (ls : Addr) (zs : List Str),vs = [.str n,.int nn,.ref ls,.int c] ∧ H ls = some (.lst (zs.map V.str)) ∧ 0 < zs.length ∧ (c = 1 ∨ c = 40000) ∧ ∀ p H' s,Same H H' → StA H' p s → s.tell = false → StpOf zs n s → Q (.ref p) H'
theorem ok_stream (T : Tx K mg ad) : FnOk P w K mg base CX0 1 ad.a_ustream ad.d_ustream ["_law_name", "_law_number_here", "_law_streams", "_law_scale_here"] spStream := by
  refine T.F_ustream.ok sc_ustream (fun vs H Q E h => ?_) (fun cdv A outer s H vs Q E hr h => ?_)
  · obtain ⟨n,nn,c,ls,zs,rfl,_⟩ := h
    rfl
  · obtain ⟨n,nn,c,ls,zs,rfl,el,z0,hc,k⟩ := h
    have nd := sc_ustream.nd
    refine ⟨_,(pss_cons (ps_set (i := 4) nd rfl (Or.inl rfl) (pe_ix (ix_listK (K := K)) (pv 2) (pe_op op_mod (pe_op op_fdiv (pv 1) pe_int) (pe_callB (call_len_seqK (K := K)) (by rfl) T.z_len PySem.boot_len (pa_cons (pv 2) pa_nil))) (fun _ _ => rfl)))
        (pss_cons (ps_set (i := 5) nd rfl (Or.inl rfl) (pe_ix (ix_listK (K := K)) (pv 2) (pe_op op_mod (pe_op op_fdiv (pv 1) pe_int) (pe_callB (call_len_seqK (K := K)) (by rfl) T.z_len PySem.boot_len (pa_cons (pv 2) pa_nil))) (fun _ _ => rfl)))
        (pss_cons (ps_if (pt_cmpR op_eq (pe_op op_mod (pv 1) pe_int) pe_int (nomark _))
        (pss_cons (ps_set (i := 6) nd rfl (Or.inl rfl) (pe_op op_sub (pe_op op_mod (pe_op op_fdiv (pv 1) pe_int) pe_int) pe_int))
        (pss_cons (ps_if (pt_cmpR op_eq (pe_op op_mod (pe_op op_fdiv (pv 1) pe_int) pe_int) pe_int (nomark _))
        (pss_one (ps_ret (pe_tup (pa_cons pe_str (pa_cons (pv 0) (pa_cons (pv 4) (pa_cons (pe_op op_mul (pv 6) (pe_op op_pow pe_int pe_int)) (pa_cons (pe_op op_pow pe_int pe_int) pa_nil))))))))
        pss_nil)
        (pss_cons (ps_if (pt_cmpR op_eq (pe_op op_mod (pe_op op_fdiv (pv 1) pe_int) pe_int) pe_int (nomark _))
        (pss_one (ps_ret (pe_tup (pa_cons pe_str (pa_cons (pv 0) (pa_cons (pv 4) (pa_cons (pe_op op_sub (pe_op op_mod (pe_op op_fdiv (pv 1) pe_int) pe_int) (pe_op op_pow pe_int pe_int)) (pa_cons (pe_op op_add (pv 6) pe_int) pa_nil))))))))
        pss_nil)
        (pss_one (ps_ret (pe_tup (pa_cons pe_str (pa_cons (pv 0) (pa_cons (pv 4) (pa_cons (pv 6) (pa_cons (pe_op op_add (pv 6) (pe_op op_mod (pe_op op_fdiv (pv 1) pe_int) pe_int)) pa_nil)))))))))))
        pss_nil)
        (pss_cons (ps_if (pt_cmpR op_eq (pe_op op_mod (pv 1) pe_int) pe_int (nomark _))
        (pss_one (ps_ret (pe_tup (pa_cons pe_str (pa_cons (pv 0) (pa_cons (pv 4) (pa_cons (pe_op op_sub (pe_op op_mod (pe_op op_fdiv (pv 1) pe_int) pe_int) pe_int) (pa_cons (pe_op op_sub (pe_op op_mod (pe_op op_fdiv (pv 1) pe_int) pe_int) pe_int) pa_nil))))))))
        pss_nil)
        (pss_cons (ps_if (pt_cmpR op_eq (pe_op op_mod (pv 1) pe_int) pe_int (nomark _))
        (pss_one (ps_ret (pe_tup (pa_cons pe_str (pa_cons (pv 0) (pa_cons (pv 4) (pa_cons (pv 5) pa_nil)))))))
        pss_nil)
        (pss_one (ps_ret (pe_tup (pa_cons pe_str (pa_cons (pv 0) (pa_cons (pv 4) (pa_cons (pv 5) (pa_cons (pe_op op_mul (pe_op op_mod (pe_op op_fdiv (pv 1) pe_int) pe_int) (pv 3)) pa_nil))))))))))))),?_⟩
    have l0 : (0 : Int) < ((zs.map V.str).length : Int) := by rw [List.length_map]; omega
    have hS : SqL K H ls (zs.map V.str) := SqL.of el
    obtain ⟨v,hv,hm⟩ := atI_mod (zs.map V.str) _ rfl l0 (nn / 7)
    obtain ⟨one,m1,rfl⟩ := List.mem_map.mp hm
    obtain ⟨v,hv2,hm2⟩ := atI_mod (zs.map V.str) _ rfl l0 (nn / 49)
    obtain ⟨two,m2,rfl⟩ := List.mem_map.mp hm2
    have b19 : 0 ≤ nn / 343 % 19 ∧ nn / 343 % 19 < 19 := ⟨Int.emod_nonneg _ (by decide),Int.emod_lt_of_pos _ (by decide)⟩
    have f1 : ∀ a ∈ [one],a ∈ zs := fun a ha => by cases List.mem_singleton.mp ha; exact m1
    have f2 : ∀ a ∈ [one,two],a ∈ zs := fun a ha => by
      simp only [List.mem_cons,List.not_mem_nil,or_false] at ha
      rcases ha with rfl | rfl
      · exact m1
      · exact m2
    refine ⟨_,rfl,_,rfl,_,_,rfl,rfl,⟨by decide,by decide⟩,_,rfl,ls,_,rfl,.inl hS,_,_,rfl,rfl,l0,ls,_,_,_,rfl,rfl,hS,hv,?_⟩
    refine ⟨_,rfl,_,rfl,_,_,rfl,rfl,⟨by decide,by decide⟩,_,rfl,ls,_,rfl,.inl hS,_,_,rfl,rfl,l0,ls,_,_,_,rfl,rfl,hS,hv2,?_⟩
    refine ⟨_,rfl,_,_,rfl,rfl,(by decide : (0 : Int) < 7),rfl,_,rfl,iteVI (fun _ => ?_) fun _ => ?_⟩
    · refine ⟨_,rfl,_,_,rfl,rfl,⟨by decide,by decide⟩,_,_,rfl,rfl,(by decide : (0 : Int) < 9),_,_,rfl,rfl,?_⟩
      refine ⟨_,rfl,_,_,rfl,rfl,⟨by decide,by decide⟩,_,_,rfl,rfl,(by decide : (0 : Int) < 4),rfl,_,rfl,iteVI (fun _ => ?_) fun _ => ?_⟩
      · refine ⟨_,rfl,_,rfl,_,rfl,_,_,rfl,rfl,⟨by decide,by decide,by decide⟩,_,_,rfl,rfl,.inr ⟨by decide,by decide⟩,_,_,rfl,rfl,⟨by decide,by decide,by decide⟩,Nat.le_of_ble_eq_true rfl,fun p hp => ?_⟩
        exact k p _ (.only n one _ _) (Same.upd' hp) upd_same rfl ⟨rfl,f1,trivial,txt2 m1⟩
      · refine ⟨_,rfl,_,_,rfl,rfl,⟨by decide,by decide⟩,_,_,rfl,rfl,(by decide : (0 : Int) < 4),rfl,_,rfl,iteVI (fun _ => ?_) fun _ => ?_⟩
        · refine ⟨_,rfl,_,rfl,_,rfl,_,_,rfl,rfl,⟨by decide,by decide⟩,_,_,rfl,rfl,(by decide : (0 : Int) < 7),_,_,rfl,rfl,⟨by decide,by decide,by decide⟩,_,_,rfl,rfl,_,rfl,_,_,rfl,rfl,Nat.le_of_ble_eq_true rfl,fun p hp => ?_⟩
          exact k p _ (.only n one _ _) (Same.upd' hp) upd_same rfl ⟨rfl,f1,trivial,txt2 m1⟩
        · refine ⟨_,rfl,_,rfl,_,rfl,_,rfl,_,rfl,_,_,rfl,rfl,⟨by decide,by decide⟩,_,_,rfl,rfl,(by decide : (0 : Int) < 9),_,_,rfl,rfl,Nat.le_of_ble_eq_true rfl,fun p hp => ?_⟩
          exact k p _ (.only n one _ _) (Same.upd' hp) upd_same rfl ⟨rfl,f1,trivial,txt2 m1⟩
    · refine ⟨_,rfl,_,_,rfl,rfl,(by decide : (0 : Int) < 7),rfl,_,rfl,iteVI (fun _ => ?_) fun _ => ?_⟩
      · refine ⟨_,rfl,_,rfl,_,rfl,_,_,rfl,rfl,⟨by decide,by decide⟩,_,_,rfl,rfl,(by decide : (0 : Int) < 19),_,_,rfl,rfl,_,rfl,_,_,rfl,rfl,⟨by decide,by decide⟩,_,_,rfl,rfl,(by decide : (0 : Int) < 11),_,_,rfl,rfl,Nat.le_of_ble_eq_true rfl,fun p hp => ?_⟩
        exact k p _ (.turn n one _ _) (Same.upd' hp) upd_same rfl ⟨rfl,f1,by show -100 ≤ nn / 343 % 19 - 9 ∧ nn / 343 % 19 - 9 ≤ 100; omega,txt2 m1⟩
      · refine ⟨_,rfl,_,_,rfl,rfl,(by decide : (0 : Int) < 7),rfl,_,rfl,iteVI (fun _ => ?_) fun _ => ?_⟩
        · refine ⟨_,rfl,_,rfl,_,rfl,Nat.le_of_ble_eq_true rfl,fun p hp => ?_⟩
          exact k p _ (.both n one two) (Same.upd' hp) upd_same rfl ⟨rfl,f2,trivial,txt3 m1 (.inl m2)⟩
        · refine ⟨_,rfl,_,rfl,_,rfl,_,rfl,_,_,rfl,rfl,⟨by decide,by decide⟩,_,_,rfl,rfl,(by decide : (0 : Int) < 8),_,rfl,_,_,rfl,rfl,.inr (by rcases hc with rfl | rfl <;> exact ⟨by decide,by decide⟩),Nat.le_of_ble_eq_true rfl,fun p hp => ?_⟩
          exact k p _ (.join n one two _) (Same.upd' hp) upd_same rfl ⟨rfl,f2,trivial,txt3 m1 (.inl m2)⟩
def spTeller : Sp := fun vs H Q _ => ∃ (n : Str) (nn c : Int) (ls : Addr) (zs : List Str),vs = [.str n,.int nn,.ref ls,.int c] ∧ H ls = some (.lst (zs.map V.str)) ∧ 0 < zs.length ∧ (c = 1 ∨ c = 40000) ∧ ∀ p H' s,Same H H' → StA H' p s → s.tell = true → StpOf zs n s → Q (.ref p) H'
theorem ok_teller (T : Tx K mg ad) : FnOk P w K mg base CX0 1 ad.a_uteller ad.d_uteller ["_law_name", "_law_number_here", "_law_streams", "_law_scale_here"] spTeller := by
  refine T.F_uteller.ok sc_uteller (fun vs H Q E h => ?_) (fun cdv A outer s H vs Q E hr h => ?_)
  · obtain ⟨n,nn,c,ls,zs,rfl,_⟩ := h
    rfl
  · obtain ⟨n,nn,c,ls,zs,rfl,el,z0,hc,k⟩ := h
    have nd := sc_uteller.nd
    refine ⟨_,(pss_cons (ps_set (i := 4) nd rfl (Or.inl rfl) (pe_ix (ix_listK (K := K)) (pv 2) (pe_op op_mod (pe_op op_fdiv (pv 1) pe_int) (pe_callB (call_len_seqK (K := K)) (by rfl) T.z_len PySem.boot_len (pa_cons (pv 2) pa_nil))) (fun _ _ => rfl)))
        (pss_cons (ps_set (i := 5) nd rfl (Or.inl rfl) (pe_ix (ix_listK (K := K)) (pe_lst (pa_cons pe_str (pa_cons pe_str (pa_cons pe_str (pa_cons pe_str pa_nil))))) (pe_op op_mod (pe_op op_fdiv (pv 1) pe_int) pe_int) (fun _ _ => rfl)))
        (pss_cons (ps_if (pt_cmpR op_eq (pe_op op_mod (pv 1) pe_int) pe_int (nomark _))
        (pss_one (ps_ret (pe_tup (pa_cons pe_str (pa_cons (pv 0) (pa_cons (pv 4) (pa_cons (pv 5) (pa_cons (pe_op op_mul (pe_op op_mod (pe_op op_fdiv (pv 1) pe_int) pe_int) (pv 3)) pa_nil))))))))
        pss_nil)
        (pss_cons (ps_set (i := 6) nd rfl (Or.inl rfl) (pe_op op_mul (pe_op op_add pe_int (pe_op op_mod (pe_op op_fdiv (pv 1) pe_int) pe_int)) (pv 3)))
        (pss_one (ps_ret (pe_tup (pa_cons pe_str (pa_cons (pv 0) (pa_cons (pv 4) (pa_cons (pv 5) (pa_cons (pe_op op_add (pv 6) (pe_op op_mod (pe_op op_fdiv (pv 1) pe_int) (pe_op op_mul pe_int (pv 6)))) (pa_cons (pv 6) pa_nil))))))))))))),?_⟩
    have l0 : (0 : Int) < ((zs.map V.str).length : Int) := by rw [List.length_map]; omega
    have hS : SqL K H ls (zs.map V.str) := SqL.of el
    obtain ⟨v,hv,hm⟩ := atI_mod (zs.map V.str) _ rfl l0 (nn / 7)
    obtain ⟨one,m1,rfl⟩ := List.mem_map.mp hm
    have f1 : ∀ a ∈ [one],a ∈ zs := fun a ha => by cases List.mem_singleton.mp ha; exact m1
    have c0 : 1 ≤ c ∧ c ≤ 40000 := by omega
    refine ⟨_,rfl,_,rfl,_,_,rfl,rfl,⟨by decide,by decide⟩,_,rfl,ls,_,rfl,.inl hS,_,_,rfl,rfl,l0,ls,_,_,_,rfl,rfl,hS,hv,?_⟩
    obtain ⟨v,hv2,hm2⟩ := atI_mod ([("count" : Str), "sum", "least", "greatest"].map V.str) 4 rfl (by decide) (nn / 49)
    obtain ⟨so,ms,rfl⟩ := List.mem_map.mp hm2
    have ms : so ∈ SORTS := ms
    refine ⟨Nat.le_of_ble_eq_true rfl,fun p1 hp1 => ?_⟩
    have s1 := Same.upd' (o := .lst [V.str "count", .str "sum", .str "least", .str "greatest"]) hp1
    refine ⟨_,rfl,_,_,rfl,rfl,⟨by decide,by decide⟩,_,_,rfl,rfl,(by decide : (0 : Int) < 4),p1,_,_,_,rfl,rfl,SqL.of upd_same,hv2,?_⟩
    generalize upd H p1 (.lst [V.str "count", .str "sum", .str "least", .str "greatest"]) = H1 at s1 ⊢
    refine ⟨_,rfl,_,_,rfl,rfl,(by decide : (0 : Int) < 7),rfl,_,rfl,iteVI (fun _ => ?_) fun _ => ?_⟩
    · refine ⟨_,rfl,_,rfl,_,rfl,_,rfl,_,_,rfl,rfl,⟨by decide,by decide⟩,_,_,rfl,rfl,(by decide : (0 : Int) < 6),_,rfl,_,_,rfl,rfl,.inr ⟨by omega,by omega⟩,Nat.le_of_ble_eq_true rfl,fun p hp => ?_⟩
      exact k p _ (.gap n one so _) (s1.upd hp) upd_same rfl ⟨rfl,f1,trivial,txt3 m1 (.inr ms)⟩
    · have b5 : 0 ≤ nn / 343 % 5 ∧ nn / 343 % 5 < 5 := ⟨Int.emod_nonneg _ (by decide),Int.emod_lt_of_pos _ (by decide)⟩
      refine ⟨_,rfl,_,_,rfl,rfl,⟨by decide,by decide⟩,_,_,rfl,rfl,(by decide : (0 : Int) < 5),_,_,rfl,rfl,_,rfl,_,_,rfl,rfl,.inr ⟨by omega,by omega⟩,?_⟩
      have hp : 0 < (1 + nn / 343 % 5) * c := Int.mul_pos (by omega) (by omega)
      refine ⟨_,rfl,_,rfl,_,rfl,_,rfl,_,rfl,_,_,rfl,rfl,⟨by decide,by decide⟩,_,rfl,_,_,rfl,rfl,.inl ⟨by decide,by decide⟩,_,_,rfl,rfl,(show (0 : Int) < 3 * ((1 + nn / 343 % 5) * c) by omega),_,_,rfl,rfl,_,rfl,Nat.le_of_ble_eq_true rfl,fun p hp => ?_⟩
      exact k p _ (.each n one so _ _) (s1.upd hp) upd_same rfl ⟨rfl,f1,trivial,txt3 m1 (.inr ms)⟩
def szK (sn : List Str) (z : Str → Nat) : List (Key × V) := sn.map fun a => (.inr a,.int (z a : Int))
theorem valV_sz {sn : List Str} {z : Str → Nat} {a : Str} (h : a ∈ sn) : valV (szK sn z) (.inr a) = some (.int (z a : Int)) := by
  unfold valV szK
  rw [List.find?_map]
  have hs : (sn.find? ((fun kv : Key × V => decide (kv.1 = .inr a)) ∘ fun a => ((.inr a : Key),V.int (z a : Int)))).isSome = true := by
    rw [List.find?_isSome]
    exact ⟨a,h,by simp⟩
  obtain ⟨b,hb⟩ := Option.isSome_iff_exists.mp hs
  have e := List.find?_some hb
  have e : b = a := by simpa using e
  rw [hb,e]
  rfl
def putZ (z : Str → Nat) (n : Str) (m : Nat) : Str → Nat := fun a => if a = n then m else z a
theorem putK_sz {sn : List Str} {z : Str → Nat} {n : Str} {m : Nat} (h : n ∉ sn) : putK (szK sn z) (.inr n) (.int (m : Int)) = szK (sn ++ [n]) (putZ z n m) := by
  unfold putK
  rw [if_neg]
  · unfold szK
    rw [List.map_append]
    congr 1
    · refine List.map_congr_left fun a ha => ?_
      have : putZ z n m a = z a := if_neg fun e => h (by rw [← e]; exact ha)
      rw [this]
    · show [_] = [((.inr n : Key),V.int (putZ z n m n : Int))]
      rw [show putZ z n m n = m from if_pos rfl]
  · intro q
    obtain ⟨kv,hk,e⟩ := List.any_eq_true.mp q
    obtain ⟨a,ha,rfl⟩ := List.mem_map.mp hk
    have e : a = n := by simpa using e
    exact h (by rw [← e]; exact ha)
theorem szK_keys (sn : List Str) (z : Str → Nat) : (szK sn z).map (fun p => kV p.1) = sn.map V.str := by
  unfold szK
  rw [List.map_map]
  rfl
theorem bndS_congr {s : Stp} {z z' : Str → Nat} {m : Nat} (h : ∀ a ∈ s.feeds,z' a = z a) : bndS s z' m = bndS s z m := by
  cases s with
  | take => rfl
  | only n a => exact h a (.head _)
  | turn n a => exact h a (.head _)
  | gap n a => exact h a (.head _)
  | each n a => exact h a (.head _)
  | both n a b => show z' a + z' b = z a + z b; rw [h a (.head _),h b (.tail _ (.head _))]
  | join n a b => show z' a * z' b = z a * z b; rw [h a (.head _),h b (.tail _ (.head _))]
structure PlnI (zs : List Str) (ss : List Stp) (z : Str → Nat) (sn : List Str) : Prop where
  nms : ∀ (i : Nat) s,ss[i]? = some s → zs[i]? = some s.nm
  fed : ∀ (i : Nat) s a,ss[i]? = some s → a ∈ s.feeds → ∃ (i' : Nat) (s' : Stp),i' < i ∧ ss[i']? = some s' ∧ s'.nm = a ∧ s'.tell = false
  ok : ∀ s ∈ ss,stOk s
  txt : ∀ s ∈ ss,∀ t ∈ s.txt,AS t
  str : ∀ a ∈ sn,∃ (i : Nat) (s : Stp),ss[i]? = some s ∧ s.nm = a ∧ s.tell = false
  siz : ∀ (i : Nat) s,ss[i]? = some s → s.tell = false → z s.nm = bndS s z 6 ∧ z s.nm ≤ 600
  ne : 0 < sn.length
structure StpG (sn : List Str) (n : Str) (s : Stp) : Prop where
  nm : s.nm = n
  fed : ∀ a ∈ s.feeds,a ∈ sn
  ok : stOk s
  txt : ∀ t ∈ s.txt,AS t
theorem SORTS_as : ∀ t ∈ SORTS,AS t := by
  have : ∀ t ∈ SORTS,∀ c ∈ t.cps.toList,c < 128 := by decide +kernel
  exact this
theorem StpOf.g {zs sn : List Str} {n : Str} {s : Stp} (h : StpOf zs n s) (hs : ∀ a ∈ zs,a ∈ sn) (hn : AS n) (ha : ∀ a ∈ sn,AS a) : StpG sn n s :=
  ⟨h.nm,fun a m => hs a (h.fed a m),h.ok,fun t m => by
    rcases h.txt t m with rfl | q | q
    · exact hn
    · exact ha _ (hs _ q)
    · exact SORTS_as _ q⟩
theorem take_g {sn : List Str} {n k : Str} (hn : AS n) (hk : AS k) : StpG sn n (.take n k) := by
  refine ⟨rfl,fun a h => (by cases h),trivial,fun t h => ?_⟩
  have h : t ∈ [n,k] := h
  simp only [List.mem_cons,List.not_mem_nil,or_false] at h
  rcases h with rfl | rfl
  · exact hn
  · exact hk
theorem snoc_at {α : Type} {l : List α} {x y : α} {i : Nat} (h : (l ++ [x])[i]? = some y) : l[i]? = some y ∨ (i = l.length ∧ y = x) := by
  rcases Nat.lt_trichotomy i l.length with q | q | q
  · rw [List.getElem?_append_left q] at h; exact .inl h
  · subst q
    rw [List.getElem?_append_right (Nat.le_refl _),Nat.sub_self] at h
    exact .inr ⟨rfl,(Option.some.inj h).symm⟩
  · rw [List.getElem?_eq_none (by rw [List.length_append]; show l.length + 1 ≤ i; omega)] at h; cases h
theorem snoc_old {α : Type} {l : List α} {x y : α} {i : Nat} (h : l[i]? = some y) : (l ++ [x])[i]? = some y := by
  rw [List.getElem?_append_left (List.getElem?_eq_some_iff.mp h).1]; exact h
theorem PlnI.new {zs sn : List Str} {ss : List Stp} {z : Str → Nat} (h : PlnI zs ss z sn) (hd : zs.Nodup) {n : Str} (hn : zs[ss.length]? = some n) : ∀ (i : Nat) s,ss[i]? = some s → s.nm ≠ n := fun i s ei e => by
  have q := h.nms i s ei
  rw [e] at q
  obtain ⟨h1,g1⟩ := List.getElem?_eq_some_iff.mp q
  obtain ⟨h2,g2⟩ := List.getElem?_eq_some_iff.mp hn
  have hi := (List.getElem?_eq_some_iff.mp ei).1
  exact (List.pairwise_iff_getElem.mp hd) i ss.length h1 h2 hi (g1.trans g2.symm)
theorem PlnI.notin {zs sn : List Str} {ss : List Stp} {z : Str → Nat} (h : PlnI zs ss z sn) (hd : zs.Nodup) {n : Str} (hn : zs[ss.length]? = some n) : n ∉ sn := fun m => by
  obtain ⟨i,s,ei,e,_⟩ := h.str n m
  exact h.new hd hn i s ei e
theorem PlnI.push {zs sn sn' : List Str} {ss : List Stp} {z z' : Str → Nat} (h : PlnI zs ss z sn) (hd : zs.Nodup) {n : Str} (hn : zs[ss.length]? = some n) {s : Stp} (g : StpG sn n s)
    (hs : s.tell = true ∧ sn' = sn ∧ z' = z ∨ s.tell = false ∧ sn' = sn ++ [n] ∧ z' = putZ z n (bndS s z 6) ∧ bndS s z 6 ≤ 600) : PlnI zs (ss ++ [s]) z' sn' := by
  have hz : ∀ a,a ≠ n → z' a = z a := fun a ha => by
    rcases hs with ⟨_,_,rfl⟩ | ⟨_,_,rfl,_⟩
    · rfl
    · exact if_neg ha
  have fn : ∀ a ∈ sn,a ≠ n := fun a m e => h.notin hd hn (by rw [← e]; exact m)
  refine ⟨fun i t ei => ?_,fun i t a ei ha => ?_,fun t ht => ?_,fun t ht => ?_,fun a ha => ?_,fun i t ei ht => ?_,?_⟩
  · rcases snoc_at ei with q | ⟨rfl,rfl⟩
    · exact h.nms i t q
    · rw [g.nm]; exact hn
  · rcases snoc_at ei with q | ⟨rfl,rfl⟩
    · obtain ⟨i',s',l,e',r⟩ := h.fed i t a q ha
      exact ⟨i',s',l,snoc_old e',r⟩
    · obtain ⟨i',s',e',r⟩ := h.str a (g.fed a ha)
      exact ⟨i',s',(List.getElem?_eq_some_iff.mp e').1,snoc_old e',r⟩
  · rcases List.mem_append.mp ht with q | q
    · exact h.ok t q
    · cases List.mem_singleton.mp q; exact g.ok
  · rcases List.mem_append.mp ht with q | q
    · exact h.txt t q
    · cases List.mem_singleton.mp q; exact g.txt
  · have old : a ∈ sn → ∃ (i : Nat) (s' : Stp),(ss ++ [s])[i]? = some s' ∧ s'.nm = a ∧ s'.tell = false := fun m => by
      obtain ⟨i',s',e',r⟩ := h.str a m
      exact ⟨i',s',snoc_old e',r⟩
    rcases hs with ⟨_,rfl,_⟩ | ⟨tf,rfl,_⟩
    · exact old ha
    · rcases List.mem_append.mp ha with q | q
      · exact old q
      · cases List.mem_singleton.mp q
        exact ⟨ss.length,s,by rw [List.getElem?_append_right (Nat.le_refl _),Nat.sub_self]; rfl,g.nm,tf⟩
  · rcases snoc_at ei with q | ⟨rfl,rfl⟩
    · rw [hz _ (h.new hd hn i t q),bndS_congr (z' := z') (z := z) fun a ha => ?_]
      · exact h.siz i t q ht
      · obtain ⟨i',s',_,e',rfl,_⟩ := h.fed i t a q ha
        exact hz _ (h.new hd hn i' s' e')
    · rw [bndS_congr (z' := z') (z := z) fun a ha => hz a (fn a (g.fed a ha)),g.nm]
      rcases hs with ⟨q,_⟩ | ⟨_,_,rfl,hb⟩
      · rw [q] at ht; cases ht
      · rw [show putZ z n (bndS t z 6) n = bndS t z 6 from if_pos rfl]
        exact ⟨rfl,hb⟩
  · rcases hs with ⟨_,rfl,_⟩ | ⟨_,rfl,_⟩
    · exact h.ne
    · rw [List.length_append]; exact Nat.lt_of_lt_of_le h.ne (Nat.le_add_right _ _)
theorem PlnI.plan {zs sn : List Str} {ss : List Stp} {z : Str → Nat} (h : PlnI zs ss z sn) (hd : zs.Nodup) : PlanOk ss :=
  ⟨fun i i' s s' e e' q => by
    have h1 := h.nms i s e
    have h2 := h.nms i' s' e'
    rw [q] at h1
    obtain ⟨l1,g1⟩ := List.getElem?_eq_some_iff.mp h1
    obtain ⟨l2,g2⟩ := List.getElem?_eq_some_iff.mp h2
    have pw := List.pairwise_iff_getElem.mp hd
    rcases Nat.lt_trichotomy i i' with r | r | r
    · exact absurd (g1.trans g2.symm) (pw _ _ l1 l2 r)
    · exact r
    · exact absurd (g2.trans g1.symm) (pw _ _ l2 l1 r),h.fed,h.ok⟩
theorem crossI_len (wi : Int) (A B : List It) : (crossI wi A B).length ≤ A.length * B.length := by
  have h := crossL_len wi A B
  rw [crossI_key,List.length_map] at h
  exact h
theorem meant_len {ss : List Stp} (ok : PlanOk ss) {z : Str → Nat} (siz : ∀ (i : Nat) s,ss[i]? = some s → s.tell = false → z s.nm = bndS s z 6 ∧ z s.nm ≤ 600) {L : Str → List It} {evs : List Ev} (le : evs.length ≤ 6) {N : Nat} (hm : ∀ (i : Nat) s,i < N → ss[i]? = some s → s.tell = false → L s.nm = meantS s L evs) :
    ∀ (m i : Nat) s,m ≤ N → i < m → ss[i]? = some s → s.tell = false → (L s.nm).length ≤ z s.nm
  | 0,i,s,_,hi,_,_ => absurd hi (Nat.not_lt_zero _)
  | m + 1,i,s,hN,hi,ei,ht => by
    have f : ∀ a ∈ s.feeds,(L a).length ≤ z a := fun a ha => by
      obtain ⟨i',s',l,e',rfl,t'⟩ := ok.fed i s a ei ha
      exact meant_len ok siz le hm m i' s' (by omega) (by omega) e' t'
    rw [hm i s (by omega) ei ht,(siz i s ei ht).1]
    cases s with
    | take n k =>
      show ((evs.filter _).map evI).length ≤ 6
      rw [List.length_map]
      exact Nat.le_trans (List.length_filter_le _ _) le
    | only n a lo hi => exact Nat.le_trans (List.length_filter_le _ _) (f a (.head _))
    | turn n a x y => show ((L a).map _).length ≤ _; rw [List.length_map]; exact f a (.head _)
    | both n a b => show (L b ++ L a).length ≤ z a + z b; have h1 := f a (.head _); have h2 := f b (.tail _ (.head _)); rw [List.length_append]; omega
    | join n a b wi => exact Nat.le_trans (crossI_len ..) (Nat.mul_le_mul (f a (.head _)) (f b (.tail _ (.head _))))
    | gap => cases ht
    | each => cases ht
theorem cutV_last (sn : List Str) (h : 0 < sn.length) : ∃ x,x ∈ sn ∧ cutV (sn.map V.str) (some (-1)) none = [x].map V.str := by
  have hl : (sn.map V.str).length = sn.length := List.length_map _
  have e1 : HT.sIx (sn.map V.str).length 0 (some (-1)) = sn.length - 1 := by
    show (if (-1 : Int) < 0 then ((-1 : Int) + ((sn.map V.str).length : Int)).toNat else min (-1 : Int).toNat (sn.map V.str).length) = _
    rw [if_pos (by decide),hl]
    omega
  have e2 : HT.sIx (sn.map V.str).length (sn.map V.str).length none = sn.length := hl
  refine ⟨sn[sn.length - 1]'(by omega),List.getElem_mem _,?_⟩
  unfold cutV
  rw [e1,e2,← List.map_drop,← List.map_take,List.drop_eq_getElem_cons (by omega),show sn.length - (sn.length - 1) = 0 + 1 by omega,List.take_succ_cons]
  rfl
theorem PlanR.snoc {H : Hp} {ps : List V} {ss : List Stp} {p : Addr} {s : Stp} (h : PlanR H ps ss) (e : StA H p s) : PlanR H (ps ++ [.ref p]) (ss ++ [s]) := paired_app h (.cons ⟨p,rfl,e⟩ .nil)
def spPlan (K : W.Frag) : Sp := fun vs H Q _ => ∃ (a : Addr) (ns : List Int),vs = [.ref a,.int 6] ∧ SqL K H a (ns.map V.int) ∧ ns.length ≤ 63 ∧ ∀ l H' ps ss z,Same H H' → H l = none → H' l = some (.lst ps) → PlanR H' ps ss → PlanOk ss → ss.length ≤ 8 → (∀ s ∈ ss,∀ t ∈ s.txt,AS t) →
  (∀ (i : Nat) s,ss[i]? = some s → s.tell = false → z s.nm = bndS s z 6 ∧ z s.nm ≤ 600) → Q (.ref l) H'
theorem ok_plan (T : Tx K mg ad) : FnOk P w K mg base CX0 3 ad.a_uplan ad.d_uplan ["_law_script", "_law_most"] (spPlan K) := by
  have G_ucell_at := ok_at (P := P) (w := w) (base := base) T
  have G_unumber := ok_number (P := P) (w := w) (base := base) T
  have G_unames := ok_names (P := P) (w := w) (base := base) T
  have G_uscale := ok_scale (P := P) (w := w) (base := base) T
  have G_ustream := ok_stream (P := P) (w := w) (base := base) T
  have G_uteller := ok_teller (P := P) (w := w) (base := base) T
  have G_ubound := ok_bound (P := P) (w := w) (base := base) T
  refine T.F_uplan.ok sc_uplan (fun vs H Q E h => ?_) (fun cdv A outer s H vs Q E hr h => ?_)
  · obtain ⟨a,ns,rfl,_⟩ := h
    rfl
  · obtain ⟨a,ns,rfl,hS,hl,k⟩ := h
    have nd := sc_uplan.nd
    refine ⟨_,(pss_cons (ps_set (i := 2) nd rfl (Or.inl rfl) (pe_call G_unames (hr.mono (by decide)) (by rfl) T.m_unames T.F_unames.kp T.b_unames .nil pass0 (pa_cons (pv 0) (pa_cons pe_int (pa_cons pe_int pa_nil)))))
        (pss_cons (ps_set (i := 3) nd rfl (Or.inl rfl) (pe_call G_unames (hr.mono (by decide)) (by rfl) T.m_unames T.F_unames.kp T.b_unames .nil pass0 (pa_cons (pv 0) (pa_cons pe_int (pa_cons pe_int pa_nil)))))
        (pss_cons (ps_set (i := 4) nd rfl (Or.inl rfl) (pe_call G_uscale (hr.mono (by decide)) (by rfl) T.m_uscale T.F_uscale.kp T.b_uscale .nil pass0 (pa_cons (pv 0) pa_nil)))
        (pss_cons (ps_set (i := 5) nd rfl (Or.inl rfl) (pe_lst (pa_cons (pe_tup (pa_cons pe_str (pa_cons (pe_ix (ix_listK (K := K)) (pv 2) pe_int (fun _ _ => rfl)) (pa_cons (pe_ix (ix_listK (K := K)) (pv 3) pe_int (fun _ _ => rfl)) pa_nil)))) pa_nil)))
        (pss_cons (ps_set (i := 6) nd rfl (Or.inl rfl) (pe_disp (pps_cons (pe_ix (ix_listK (K := K)) (pv 2) pe_int (fun _ _ => rfl)) (pv 1) pps_nil) (by rfl) (by rfl) (by intro z; cases z) (by decide)))
        (pss_cons (ps_set (i := 7) nd rfl (Or.inl rfl) pe_int)
        (pss_cons (ps_set (i := 8) nd rfl (Or.inl rfl) (pe_op op_add pe_int (pe_op op_mod (pe_call G_ucell_at (hr.mono (by decide)) (by rfl) T.m_ucell_at T.F_ucell_at.kp T.b_ucell_at .nil pass0 (pa_cons (pv 0) (pa_cons pe_int pa_nil))) pe_int)))
        (pss_cons (ps_set (i := 9) nd rfl (Or.inl rfl) (pe_op op_mod (pe_op op_fdiv (pe_call G_ucell_at (hr.mono (by decide)) (by rfl) T.m_ucell_at T.F_ucell_at.kp T.b_ucell_at .nil pass0 (pa_cons (pv 0) (pa_cons pe_int pa_nil))) pe_int) pe_int))
        (pss_cons (ps_for PassesOwn.never rfl (pi_range2 (by rfl) T.z_range (pa_cons pe_int (pa_cons (pe_op op_add (pv 8) pe_int) pa_nil))) (pg_name (i := 10) nd rfl (Or.inl rfl))
        (pss_cons (ps_set (i := 11) nd rfl (Or.inl rfl) (pe_call G_unumber (hr.mono (by decide)) (by rfl) T.m_unumber T.F_unumber.kp T.b_unumber .nil pass0 (pa_cons (pv 0) (pa_cons (pe_op op_add pe_int (pv 10)) pa_nil))))
        (pss_cons (ps_set (i := 12) nd rfl (Or.inl rfl) (pe_callTy (call_listD (K := K) rfl) (by rfl) T.z_list PyProof.Rows.boot_list (pa_cons (pv 6) pa_nil)))
        (pss_cons (ps_set (i := 13) nd rfl (Or.inl rfl) (pe_call G_ustream (hr.mono (by decide)) (by rfl) T.m_ustream T.F_ustream.kp T.b_ustream .nil pass0 (pa_cons (pe_ix (ix_listK (K := K)) (pv 2) (pv 10) (fun _ _ => rfl)) (pa_cons (pv 11) (pa_cons (pv 12) (pa_cons (pv 4) pa_nil))))))
        (pss_cons (ps_cut (ps_if (pt_cmpR op_eq (pv 10) (pv 8) (nomark _))
        (pss_one (ps_set (i := 13) nd rfl (Or.inl rfl) (pe_call G_uteller (hr.mono (by decide)) (by rfl) T.m_uteller T.F_uteller.kp T.b_uteller .nil pass0 (pa_cons (pe_ix (ix_listK (K := K)) (pv 2) (pv 10) (fun _ _ => rfl)) (pa_cons (pv 11) (pa_cons (pe_op op_cat (pe_slice (sl_listK (K := K)) (pv 12) (po_some (pe_un un_neg pe_int)) po_none) (pe_op op_rep (pv 12) (pe_op op_sub pe_int (pv 9)))) (pa_cons (pv 4) pa_nil)))))))
        (pss_one (ps_if (PW.pt (pw_and (pt_cmpR op_eq (pv 10) (pe_op op_sub (pv 8) pe_int) (nomark _)) (pw_and1 (pt_cmpR op_eq (pv 9) pe_int (nomark _)))))
        (pss_one (ps_set (i := 13) nd rfl (Or.inl rfl) (pe_call G_ustream (hr.mono (by decide)) (by rfl) T.m_ustream T.F_ustream.kp T.b_ustream .nil pass0 (pa_cons (pe_ix (ix_listK (K := K)) (pv 2) (pv 10) (fun _ _ => rfl)) (pa_cons (pe_op op_add (pe_op op_mul (pe_op op_fdiv (pv 11) pe_int) pe_int) pe_int) (pa_cons (pv 12) (pa_cons (pv 4) pa_nil)))))))
        (pss_one (ps_if (pt_cmpR op_eq (pe_op op_mod (pv 11) pe_int) pe_int (nomark _))
        (pss_one (ps_set (i := 13) nd rfl (Or.inl rfl) (pe_tup (pa_cons pe_str (pa_cons (pe_ix (ix_listK (K := K)) (pv 2) (pv 10) (fun _ _ => rfl)) (pa_cons (pe_ix (ix_listK (K := K)) (pv 3) (pe_op op_mod (pe_op op_fdiv (pv 11) pe_int) pe_int) (fun _ _ => rfl)) pa_nil))))))
        (pss_one (ps_if (PW.pt (pw_or (pt_cmpR op_eq (pe_op op_mod (pv 11) pe_int) pe_int (nomark _)) (pw_or (pt_cmpR op_eq (pe_op op_mod (pv 11) pe_int) pe_int (nomark _)) (pw_or1 (pt_cmpR op_eq (pv 7) pe_int (nomark _))))))
        (pss_one (ps_set (i := 13) nd rfl (Or.inl rfl) (pe_call G_uteller (hr.mono (by decide)) (by rfl) T.m_uteller T.F_uteller.kp T.b_uteller .nil pass0 (pa_cons (pe_ix (ix_listK (K := K)) (pv 2) (pv 10) (fun _ _ => rfl)) (pa_cons (pv 11) (pa_cons (pv 12) (pa_cons (pv 4) pa_nil)))))))
        pss_nil))))))))
        (pss_cons (ps_cut (ps_if (pt_cmpR (op_notIn_seqK (K := K)) (pe_ix (ix_tupK (K := K)) (pv 13) pe_int (fun _ _ => rfl)) (pe_tup (pa_cons pe_str (pa_cons pe_str pa_nil))) (by with_unfolding_all rfl))
        (pss_cons (ps_cut (ps_if (pt_cmpR op_gt (pe_call G_ubound (hr.mono (by decide)) (by rfl) T.m_ubound T.F_ubound.kp T.b_ubound .nil pass0 (pa_cons (pv 13) (pa_cons (pv 6) (pa_cons (pv 1) pa_nil)))) pe_int (nomark _))
        (pss_one (ps_set (i := 13) nd rfl (Or.inl rfl) (pe_tup (pa_cons pe_str (pa_cons (pe_ix (ix_listK (K := K)) (pv 2) (pv 10) (fun _ _ => rfl)) (pa_cons (pe_ix (ix_listK (K := K)) (pv 3) pe_int (fun _ _ => rfl)) pa_nil))))))
        pss_nil))
        (pss_cons (ps_dput hr.u1 (pv 6) (pe_ix (ix_listK (K := K)) (pv 2) (pv 10) (fun _ _ => rfl)) (pe_call G_ubound (hr.mono (by decide)) (by rfl) T.m_ubound T.F_ubound.kp T.b_ubound .nil pass0 (pa_cons (pv 13) (pa_cons (pv 6) (pa_cons (pv 1) pa_nil)))) rfl)
        (pss_one (ps_set (i := 7) nd rfl (Or.inl rfl) (pe_op op_add (pv 7) (pe_callTy call_int1 (by rfl) T.z_int PyProof.Rows.boot_int (pa_cons (pe_cmpR (op_in_seqK (K := K)) (pe_ix (ix_tupK (K := K)) (pv 13) pe_int (fun _ _ => rfl)) (pe_tup (pa_cons pe_str (pa_cons pe_str pa_nil))) (by with_unfolding_all rfl)) pa_nil)))))))
        pss_nil))
        (pss_one (ps_expr (pe_bmK (K := K) F.plainAttrs_list F.slot_list_append F.type_list_append mt_append (pv 5) (pa_cons (pv 13) pa_nil))))))))))
        (pss_one (ps_ret (pv 5)))))))))))),?_⟩
    have sz : sizeLine = 16777216 := sizeLine_eq
    refine ⟨_,rfl,a,ns,1,8,rfl,hS,hl,by decide,by decide,by decide,fun ln Ha zs sa hln eln lz dz az => ?_⟩
    refine ⟨_,rfl,a,ns,2,2,rfl,sa.seq hS,hl,by decide,by decide,by decide,fun lk Hk ks sk hlk elk lks _ ak => ?_⟩
    have lz : zs.length = 8 := by omega
    have lks : ks.length = 2 := by omega
    have sak := sa.trans sk
    refine ⟨_,rfl,a,ns,rfl,sak.seq hS,hl,fun c Hb sb hc => ?_⟩
    have s0b := sak.trans sb
    have elnb := sb _ _ (sk _ _ eln)
    have elkb := sb _ _ elk
    have hSb := s0b.seq hS
    clear sa sk hln hlk eln elk sak sb
    have natz : ∀ {i : Nat} {n : Str},zs[i]? = some n → atI (zs.map V.str) (i : Int) = some (.str n) := fun {i n} e => atI_nat (xs := zs.map V.str) (v := .str n) (by rw [List.getElem?_map,e]; rfl)
    obtain ⟨n0,en0⟩ : ∃ n,zs[0]? = some n := ⟨_,List.getElem?_eq_getElem (by omega)⟩
    obtain ⟨k0,ek0⟩ : ∃ n,ks[0]? = some n := ⟨_,List.getElem?_eq_getElem (by omega)⟩
    have atk0 : atI (ks.map V.str) 0 = some (.str k0) := atI_nat (xs := ks.map V.str) (j := 0) (v := .str k0) (by rw [List.getElem?_map,ek0]; rfl)
    have an0 : AS n0 := az _ (List.mem_of_getElem? en0)
    have ak0 : AS k0 := ak _ (List.mem_of_getElem? ek0)
    refine ⟨_,rfl,ln,_,_,_,rfl,rfl,SqL.of elnb,natz en0,_,rfl,lk,_,_,_,rfl,rfl,SqL.of elkb,atk0,Nat.le_of_ble_eq_true rfl,fun p0 hp0 => ?_⟩
    have g1 := Same.upd' (o := .tup [V.str "take", .str n0,.str k0]) hp0
    have ep0 : StA (upd Hb p0 (.tup [V.str "take", .str n0,.str k0])) p0 (.take n0 k0) := upd_same
    generalize upd Hb p0 (.tup [V.str "take", .str n0,.str k0]) = Hc at g1 ep0 ⊢
    refine ⟨Nat.le_of_ble_eq_true rfl,fun u hu => ?_⟩
    have g2 := Same.upd' (o := .lst [V.ref p0]) hu
    have eu : (upd Hc u (.lst [V.ref p0])) u = some (.lst [V.ref p0]) := upd_same
    generalize upd Hc u (.lst [V.ref p0]) = Hd at g2 eu ⊢
    refine fun d hd => ?_
    have g3 := Same.upd' (o := .dK []) hd
    have ed : (upd Hd d (.dK [])) d = some (.dK []) := upd_same
    generalize hHe : upd Hd d (.dK []) = He at g3 ed ⊢
    refine ⟨_,rfl,ln,_,_,_,rfl,rfl,SqL.of (g3 _ _ (g2 _ _ (g1 _ _ elnb))),natz en0,_,rfl,ed,[(.inr n0,.int 6)],rfl,Nat.le_of_ble_eq_true rfl,?_⟩
    have g4 : Same Hb (upd He d (.dK (mergeK [] [(.inr n0,.int 6)]))) := by
      rw [← hHe]
      exact ((g1.trans g2).trans (Same.upd' hd)).updN ((g1.trans g2).free hd)
    have ed4 : (upd He d (.dK (mergeK [] [(.inr n0,.int 6)]))) d = some (.dK (szK [n0] fun _ => 6)) := upd_same
    have nud : u ≠ d := ne_of_none eu hd
    have npd : p0 ≠ d := ne_of_none (g2 _ _ ep0) hd
    have eu4 : (upd He d (.dK (mergeK [] [(.inr n0,.int 6)]))) u = some (.lst [V.ref p0]) := by rw [upd_ne nud]; exact g3 _ _ eu
    have ep4 : StA (upd He d (.dK (mergeK [] [(.inr n0,.int 6)]))) p0 (.take n0 k0) := by
      show (upd He d _) p0 = _
      rw [upd_ne npd]
      exact g3 _ _ (g2 _ _ ep0)
    have fu : Hb u = none := g1.free hu
    have fd : Hb d = none := (g1.trans g2).free hd
    generalize upd He d (.dK (mergeK [] [(.inr n0,.int 6)])) = H0 at g4 ed4 eu4 ep4 ⊢
    clear g1 g2 g3 ed eu ep0 hHe
    refine ⟨_,rfl,a,ns,_,rfl,g4.seq hSb,by decide,hl,fun c1 => ⟨_,_,rfl,rfl,(by decide : (0 : Int) < 6),_,_,rfl,rfl,?_⟩⟩
    refine ⟨_,rfl,a,ns,_,rfl,g4.seq hSb,by decide,hl,fun c2 => ⟨_,_,rfl,rfl,⟨by decide,by decide⟩,_,_,rfl,rfl,(by decide : (0 : Int) < 2),?_⟩⟩
    have b6 : 0 ≤ c1 % 6 ∧ c1 % 6 < 6 := ⟨Int.emod_nonneg _ (by decide),Int.emod_lt_of_pos _ (by decide)⟩
    have b2 : 0 ≤ c2 / 6 % 2 ∧ c2 / 6 % 2 < 2 := ⟨Int.emod_nonneg _ (by decide),Int.emod_lt_of_pos _ (by decide)⟩
    generalize c1 % 6 = m1 at b6 ⊢
    have pl0 : PlnI zs [.take n0 k0] (fun _ => 6) [n0] := by
      refine ⟨fun i s e => ?_,fun i s x e hx => ?_,fun s hs => ?_,fun s hs => ?_,fun x hx => ?_,fun i s e _ => ?_,Nat.one_pos⟩
      · match i,e with
        | 0,e => cases e; exact en0
      · match i,e with
        | 0,e => cases e; cases hx
      · cases List.mem_singleton.mp hs; trivial
      · cases List.mem_singleton.mp hs; exact (take_g (sn := []) an0 ak0).txt
      · cases List.mem_singleton.mp hx; exact ⟨0,_,rfl,rfl,rfl⟩
      · match i,e with
        | 0,e => cases e; exact ⟨rfl,by decide⟩
    refine ⟨_,rfl,_,_,rfl,rfl,1,_,rfl,⟨by decide,by decide,by omega,by omega⟩,?_⟩
    refine for_range (fun j σ H' => ∃ (o10 o11 o12 o13 : Option V) (wd : Int) (ps : List V) (ss : List Stp) (z : Str → Nat) (sn : List Str),σ = [some (.ref a),some (.int 6),some (.ref ln),some (.ref lk),some (.int c),some (.ref u),some (.ref d),some (.int wd),some (.int (2 + m1)),some (.int (c2 / 6 % 2)),o10,o11,o12,o13] ∧ Same Hb H' ∧ H' u = some (.lst ps) ∧ PlanR H' ps ss ∧ ss.length = j + 1 ∧ H' d = some (.dK (szK sn z)) ∧ sn.length ≤ j + 1 ∧ PlnI zs ss z sn)
      ⟨none,none,none,none,1,_,_,_,_,rfl,g4,eu4,.cons ⟨p0,rfl,ep4⟩ .nil,rfl,ed4,Nat.le_refl _,pl0⟩ ?_ ?_
    · clear g4 ed4 eu4 ep4 pl0
      rintro j σ H1 hj ⟨o10,o11,o12,o13,wd,ps,ss,z,sn,rfl,s1,eu1,pr1,ls1,ed1,lsn,pl1⟩
      have hj8 : j < 7 := by omega
      obtain ⟨n,en⟩ : ∃ n,zs[j + 1]? = some n := ⟨_,List.getElem?_eq_getElem (by omega)⟩
      have an : AS n := az _ (List.mem_of_getElem? en)
      have atn : atI (zs.map V.str) (1 + (j : Int)) = some (.str n) := by
        have := natz en
        rwa [show (((j + 1 : Nat)) : Int) = 1 + (j : Int) by omega] at this
      have asn : ∀ x ∈ sn,AS x := fun x hx => by
        obtain ⟨i,s,ei,rfl,_⟩ := pl1.str x hx
        exact az _ (List.mem_of_getElem? (pl1.nms i s ei))
      have enl : zs[ss.length]? = some n := by rw [ls1]; exact en
      refine ⟨_,rfl,_,rfl,_,_,rfl,rfl,a,ns,_,rfl,s1.seq hSb,hl,by omega,fun nn nn0 => ?_⟩
      refine ⟨_,rfl,d,_,rfl,ed1,fun ls hls => ?_⟩
      rw [szK_keys]
      have g1 := Same.upd' (o := .lst (sn.map V.str)) hls
      have els : (upd H1 ls (.lst (sn.map V.str))) ls = some (.lst (sn.map V.str)) := upd_same
      generalize upd H1 ls (.lst (sn.map V.str)) = H2 at g1 els ⊢
      refine ⟨_,rfl,_,rfl,ln,_,_,_,rfl,rfl,SqL.of (g1 _ _ (s1 _ _ elnb)),atn,_,rfl,_,rfl,_,rfl,n,nn,c,ls,sn,rfl,els,pl1.ne,hc,fun p1 H3 st1 g2 ep1 ht1 so1 => ?_⟩
      have s3 := s1.trans (g1.trans g2)
      have els3 := g2 _ _ els
      have hln3 : SqL K H3 ln _ := SqL.of (s3 _ _ elnb)
      have rest : ∀ {x : V} {p : Addr} {st : Stp} {H' : Hp},Same H3 H' → StA H' p st → StpG sn n st → x = .ref p → ∃ (p : Addr) (st : Stp),[some (V.ref a),some (.int 6),some (.ref ln),some (.ref lk),some (.int c),some (.ref u),some (.ref d),some (.int wd),some (.int (2 + m1)),some (.int (c2 / 6 % 2)),some (.int (1 + (j : Int))),some (.int nn),some (.ref ls),some x] = [some (V.ref a),some (.int 6),some (.ref ln),some (.ref lk),some (.int c),some (.ref u),some (.ref d),some (.int wd),some (.int (2 + m1)),some (.int (c2 / 6 % 2)),some (.int (1 + (j : Int))),some (.int nn),some (.ref ls),some (.ref p)] ∧ Same H3 H' ∧ StA H' p st ∧ StpG sn n st := fun s e g q => ⟨_,_,by rw [q],s,e,g⟩
      refine cutBy (fun σ' H' => ∃ (p : Addr) (st : Stp),σ' = [some (V.ref a),some (.int 6),some (.ref ln),some (.ref lk),some (.int c),some (.ref u),some (.ref d),some (.int wd),some (.int (2 + m1)),some (.int (c2 / 6 % 2)),some (.int (1 + (j : Int))),some (.int nn),some (.ref ls),some (.ref p)] ∧ Same H3 H' ∧ StA H' p st ∧ StpG sn n st) ?_ ?_
      · refine ⟨_,rfl,_,rfl,rfl,_,rfl,iteVI (fun _ => ?_) fun _ => ?_⟩
        · obtain ⟨x,hx,ex⟩ := cutV_last sn pl1.ne
          refine ⟨_,rfl,_,rfl,ln,_,_,_,rfl,rfl,hln3,atn,_,rfl,_,rfl,_,rfl,(-1 : Int),rfl,ls,_,rfl,SqL.of els3,fun l1 hl1 => ?_⟩
          rw [ex]
          have h1 := Same.upd' (o := .lst ([x].map V.str)) hl1
          have el1 : (upd H3 l1 (.lst ([x].map V.str))) l1 = some (.lst ([x].map V.str)) := upd_same
          generalize upd H3 l1 (.lst ([x].map V.str)) = H4 at h1 el1 ⊢
          have jb : (1 - c2 / 6 % 2).toNat ≤ 1 := by omega
          refine ⟨_,rfl,_,rfl,_,_,rfl,rfl,ls,_,_,rfl,rfl,h1 _ _ els3,by omega,by omega,?_,fun l2 hl2 => ?_⟩
          · rw [List.length_map]
            have := Nat.mul_le_mul (show sn.length ≤ 8 by omega) jb
            omega
          have el2 : (upd H4 l2 (.lst (List.replicate (1 - c2 / 6 % 2).toNat (sn.map V.str)).flatten)) l2 = some (.lst ((List.replicate (1 - c2 / 6 % 2).toNat sn).flatten.map V.str)) := by
            rw [upd_same,List.map_flatten,List.map_replicate]
          have h2 := Same.upd' (o := .lst (List.replicate (1 - c2 / 6 % 2).toNat (sn.map V.str)).flatten) hl2
          generalize upd H4 l2 (.lst (List.replicate (1 - c2 / 6 % 2).toNat (sn.map V.str)).flatten) = H5 at h2 el2 ⊢
          have lr := len_rep sn (1 - c2 / 6 % 2).toNat
          have lr1 := Nat.mul_le_mul jb (show sn.length ≤ 8 by omega)
          refine ⟨l1,l2,_,_,rfl,rfl,h2 _ _ el1,el2,?_,fun l3 hl3 => ?_⟩
          · rw [List.length_map,List.length_map,lr]
            show 1 + _ ≤ _
            omega
          have el3 : (upd H5 l3 (.lst ([x].map V.str ++ (List.replicate (1 - c2 / 6 % 2).toNat sn).flatten.map V.str))) l3 = some (.lst (([x] ++ (List.replicate (1 - c2 / 6 % 2).toNat sn).flatten).map V.str)) := by
            rw [upd_same,List.map_append]
          have h3 := Same.upd' (o := .lst ([x].map V.str ++ (List.replicate (1 - c2 / 6 % 2).toNat sn).flatten.map V.str)) hl3
          generalize upd H5 l3 (.lst ([x].map V.str ++ (List.replicate (1 - c2 / 6 % 2).toNat sn).flatten.map V.str)) = H6 at h3 el3 ⊢
          refine ⟨_,rfl,n,nn,c,l3,_,rfl,el3,Nat.succ_pos _,hc,fun p H' st s ep ht so => rest ((h1.trans (h2.trans h3)).trans s) ep (so.g (fun y hy => ?_) an asn) rfl⟩
          rcases List.mem_append.mp hy with q | q
          · cases List.mem_singleton.mp q; exact hx
          · obtain ⟨l,hl,hy⟩ := List.mem_flatten.mp q
            rw [(List.mem_replicate.mp hl).2] at hy
            exact hy
        · have tk : ∀ {H' : Hp} {kd : Str},Same H3 H' → kd ∈ ks → ∀ p,H' p = none → ∃ (p' : Addr) (st : Stp),[some (V.ref a),some (.int 6),some (.ref ln),some (.ref lk),some (.int c),some (.ref u),some (.ref d),some (.int wd),some (.int (2 + m1)),some (.int (c2 / 6 % 2)),some (.int (1 + (j : Int))),some (.int nn),some (.ref ls),some (.ref p)] = [some (V.ref a),some (.int 6),some (.ref ln),some (.ref lk),some (.int c),some (.ref u),some (.ref d),some (.int wd),some (.int (2 + m1)),some (.int (c2 / 6 % 2)),some (.int (1 + (j : Int))),some (.int nn),some (.ref ls),some (.ref p')] ∧ Same H3 (upd H' p (.tup [.str "take", .str n,.str kd])) ∧ StA (upd H' p (.tup [.str "take", .str n,.str kd])) p' st ∧ StpG sn n st := fun {H' kd} s hk p hp => rest (s.upd hp) (st := .take n kd) upd_same (take_g an (ak _ hk)) rfl
          obtain ⟨v,hvk,hmk⟩ := atI_mod (ks.map V.str) 2 (by rw [List.length_map,lks]; rfl) (by decide) (nn / 7)
          obtain ⟨kd,mk,rfl⟩ := List.mem_map.mp hmk
          refine ⟨_,rfl,_,rfl,_,_,rfl,rfl,rfl,_,rfl,iteVI (fun _ => ⟨_,rfl,rfl,_,rfl,iteVI (fun _ => ?_) fun _ => ?_⟩) fun _ => iteF ?_⟩
          · exact ⟨_,rfl,_,rfl,ln,_,_,_,rfl,rfl,hln3,atn,_,rfl,_,_,rfl,rfl,⟨by decide,by decide⟩,_,_,rfl,rfl,.inr ⟨by decide,by decide⟩,_,_,rfl,rfl,_,rfl,_,rfl,n,_,c,ls,sn,rfl,els3,pl1.ne,hc,fun p H' st s ep ht so => rest s ep (so.g (fun _ h => h) an asn) rfl⟩
          · refine ⟨_,rfl,_,_,rfl,rfl,(by decide : (0 : Int) < 7),rfl,_,rfl,iteVI (fun _ => ?_) fun _ => ?_⟩
            · exact ⟨_,rfl,_,rfl,ln,_,_,_,rfl,rfl,hln3,atn,_,rfl,_,rfl,_,_,rfl,rfl,⟨by decide,by decide⟩,_,_,rfl,rfl,(by decide : (0 : Int) < 2),lk,_,_,_,rfl,rfl,SqL.of (s3 _ _ elkb),hvk,Nat.le_of_ble_eq_true rfl,fun p hp => tk (Same.refl _) mk p hp⟩
            · refine ⟨_,rfl,_,_,rfl,rfl,(by decide : (0 : Int) < 7),rfl,_,rfl,iteVI (fun _ => iteT ?_) fun _ => ⟨_,rfl,_,_,rfl,rfl,(by decide : (0 : Int) < 7),rfl,_,rfl,iteVI (fun _ => iteT ?_) fun _ => ⟨_,rfl,rfl,_,rfl,iteVI (fun _ => ?_) fun _ => rest (Same.refl _) ep1 (so1.g (fun _ h => h) an asn) rfl⟩⟩⟩ <;>
                exact ⟨_,rfl,_,rfl,ln,_,_,_,rfl,rfl,hln3,atn,_,rfl,_,rfl,_,rfl,n,nn,c,ls,sn,rfl,els3,pl1.ne,hc,fun p H' st s ep ht so => rest s ep (so.g (fun _ h => h) an asn) rfl⟩
          · refine ⟨_,rfl,_,_,rfl,rfl,(by decide : (0 : Int) < 7),rfl,_,rfl,iteVI (fun _ => ?_) fun _ => ?_⟩
            · exact ⟨_,rfl,_,rfl,ln,_,_,_,rfl,rfl,hln3,atn,_,rfl,_,rfl,_,_,rfl,rfl,⟨by decide,by decide⟩,_,_,rfl,rfl,(by decide : (0 : Int) < 2),lk,_,_,_,rfl,rfl,SqL.of (s3 _ _ elkb),hvk,Nat.le_of_ble_eq_true rfl,fun p hp => tk (Same.refl _) mk p hp⟩
            · refine ⟨_,rfl,_,_,rfl,rfl,(by decide : (0 : Int) < 7),rfl,_,rfl,iteVI (fun _ => iteT ?_) fun _ => ⟨_,rfl,_,_,rfl,rfl,(by decide : (0 : Int) < 7),rfl,_,rfl,iteVI (fun _ => iteT ?_) fun _ => ⟨_,rfl,rfl,_,rfl,iteVI (fun _ => ?_) fun _ => rest (Same.refl _) ep1 (so1.g (fun _ h => h) an asn) rfl⟩⟩⟩ <;>
                exact ⟨_,rfl,_,rfl,ln,_,_,_,rfl,rfl,hln3,atn,_,rfl,_,rfl,_,rfl,n,nn,c,ls,sn,rfl,els3,pl1.ne,hc,fun p H' st s ep ht so => rest s ep (so.g (fun _ h => h) an asn) rfl⟩
      · rintro σ' H4 ⟨p,st,rfl,s4,ep,sg⟩
        have sb4 := s3.trans s4
        have g14 := (g1.trans g2).trans s4
        have eu4 := g14 _ _ eu1
        have ed4 := g14 _ _ ed1
        have pr4 := pr1.keep g14.tp
        clear rest g1 g2 g14 els els3 hln3 s3 s4 eu1 ed1 pr1 ep1 so1
        have nin := pl1.notin dz enl
        refine cutBy (fun σ' H' => ∃ (p : Addr) (st : Stp) (wd : Int) (z' : Str → Nat) (sn' : List Str),σ' = [some (V.ref a),some (.int 6),some (.ref ln),some (.ref lk),some (.int c),some (.ref u),some (.ref d),some (.int wd),some (.int (2 + m1)),some (.int (c2 / 6 % 2)),some (.int (1 + (j : Int))),some (.int nn),some (.ref ls),some (.ref p)] ∧ Same Hb H' ∧ H' u = some (.lst ps) ∧ PlanR H' ps ss ∧ H' d = some (.dK (szK sn' z')) ∧ sn'.length ≤ j + 2 ∧ StA H' p st ∧ PlnI zs (ss ++ [st]) z' sn') ?_ ?_
        · obtain ⟨e0,e1,_⟩ := ep.word (K := K)
          refine ⟨_,rfl,p,_,_,_,rfl,rfl,e0,e1,Nat.le_of_ble_eq_true rfl,fun q hq => ?_⟩
          have g5 := Same.upd' (o := .tup TEL) hq
          refine ⟨_,TEL,rfl,.inr (SqT.of upd_same),rfl,rfl,_,rfl,iteB (fun ht => ?_) fun ht => ?_⟩
          · have tf : st.tell = false := by
              have ht : (!inV (.str st.word) TEL) = true := ht
              rw [word_tell] at ht
              simpa using ht
            have sb5 := sb4.trans g5
            have eu5 := g5 _ _ eu4
            have ed5 := g5 _ _ ed4
            have pr5 := pr4.keep g5.tp
            have ep5 := ep.tp g5.tp
            have g5 : Same H4 (upd H4 q (.tup [V.str "each", .str "gap"])) := g5
            have sb5 : Same Hb (upd H4 q (.tup [V.str "each", .str "gap"])) := sb5
            have eu5 : (upd H4 q (.tup [V.str "each", .str "gap"])) u = _ := eu5
            have ed5 : (upd H4 q (.tup [V.str "each", .str "gap"])) d = _ := ed5
            have pr5 : PlanR (upd H4 q (.tup [V.str "each", .str "gap"])) ps ss := pr5
            have ep5 : StA (upd H4 q (.tup [V.str "each", .str "gap"])) p st := ep5
            generalize upd H4 q (.tup [V.str "each", .str "gap"]) = H5 at g5 sb5 eu5 ed5 pr5 ep5 ⊢
            have hz : ∀ {st : Stp},StpG sn n st → ∀ a ∈ st.feeds,valV (szK sn z) (.inr a) = some (.int (z a : Int)) ∧ z a ≤ 600 := fun {st} g x hx => by
              refine ⟨valV_sz (g.fed x hx),?_⟩
              obtain ⟨i,s',ei,rfl,t'⟩ := pl1.str x (g.fed x hx)
              exact (pl1.siz i s' ei t').2
            refine cutBy (fun σ' H' => ∃ (p : Addr) (st : Stp),σ' = [some (V.ref a),some (.int 6),some (.ref ln),some (.ref lk),some (.int c),some (.ref u),some (.ref d),some (.int wd),some (.int (2 + m1)),some (.int (c2 / 6 % 2)),some (.int (1 + (j : Int))),some (.int nn),some (.ref ls),some (.ref p)] ∧ Same H5 H' ∧ StA H' p st ∧ StpG sn n st ∧ st.tell = false ∧ bndS st z 6 ≤ 600) ?_ ?_
            · refine ⟨_,rfl,_,rfl,_,rfl,p,d,st,_,z,6,rfl,ep5,ed5,hz sg,_,_,rfl,rfl,_,rfl,iteP (fun h => ?_) fun h => ⟨p,st,rfl,Same.refl _,ep5,sg,tf,by omega⟩⟩
              exact ⟨_,rfl,_,rfl,ln,_,_,_,rfl,rfl,SqL.of (sb5 _ _ elnb),atn,_,rfl,lk,_,_,_,rfl,rfl,SqL.of (sb5 _ _ elkb),atk0,Nat.le_of_ble_eq_true rfl,fun p2 hp2 => ⟨p2,.take n k0,rfl,Same.upd' hp2,upd_same,take_g an ak0,rfl,by show 6 ≤ 600; decide⟩⟩
            · rintro σ' H6 ⟨p,st,rfl,s6,ep6,sg6,tf6,hb6⟩
              have ed6 := s6 _ _ ed5
              refine ⟨_,rfl,_,rfl,_,rfl,p,d,st,_,z,6,rfl,ep6,ed6,hz sg6,_,rfl,_,rfl,_,rfl,ln,_,_,_,rfl,rfl,SqL.of (s6 _ _ (sb5 _ _ elnb)),atn,d,_,rfl,DPut.k (k := .inr n) ed6 ?_,?_⟩
              · unfold szK
                rw [List.length_map]
                omega
              rw [putK_sz nin]
              have ndo : ∀ {b : Addr} {o : HO},H6 b = some o → (∀ kv,o ≠ .dK kv) → b ≠ d := fun eo hn z => by rw [z,ed6] at eo; exact hn _ (Option.some.inj eo).symm
              have k7 : ∀ {b : Addr} {o : HO},H6 b = some o → (∀ kv,o ≠ .dK kv) → (upd H6 d (.dK (szK (sn ++ [n]) (putZ z n (bndS st z 6))))) b = some o := fun eo hn => by rw [upd_ne (ndo eo hn)]; exact eo
              have tp7 : Tp H6 (upd H6 d (.dK (szK (sn ++ [n]) (putZ z n (bndS st z 6))))) := fun b xs eo => k7 eo (by intro kv z; cases z)
              have sb7 : Same Hb (upd H6 d (.dK (szK (sn ++ [n]) (putZ z n (bndS st z 6))))) := (sb5.trans s6).updN fd
              have eu7 := k7 (s6 _ _ eu5) (by intro kv z; cases z)
              have ed7 : (upd H6 d (.dK (szK (sn ++ [n]) (putZ z n (bndS st z 6))))) d = some (.dK (szK (sn ++ [n]) (putZ z n (bndS st z 6)))) := upd_same
              have pr7 := (pr5.keep s6.tp).keep tp7
              have ep7 := ep6.tp tp7
              generalize upd H6 d (.dK (szK (sn ++ [n]) (putZ z n (bndS st z 6)))) = H7 at sb7 eu7 ed7 pr7 ep7 ⊢
              obtain ⟨f0,f1,_⟩ := ep7.word (K := K)
              refine ⟨_,rfl,_,rfl,p,_,_,_,rfl,rfl,f0,f1,Nat.le_of_ble_eq_true rfl,fun q7 hq7 => ?_⟩
              have g8 := Same.upd' (o := .tup PAI) hq7
              refine ⟨_,PAI,rfl,.inr (SqT.of upd_same),rfl,rfl,.inr ⟨_,rfl,_,_,rfl,rfl,?_⟩⟩
              refine ⟨p,st,_,putZ z n (bndS st z 6),sn ++ [n],rfl,sb7.trans g8,g8 _ _ eu7,pr7.keep g8.tp,g8 _ _ ed7,?_,ep7.tp g8.tp,pl1.push dz enl sg6 (.inr ⟨tf6,rfl,rfl,hb6⟩)⟩
              rw [List.length_append]
              show sn.length + 1 ≤ _
              omega
          · have tt : st.tell = true := by
              have ht : (!inV (.str st.word) TEL) = false := ht
              rw [word_tell] at ht
              simpa using ht
            exact ⟨p,st,wd,z,sn,rfl,sb4.trans g5,g5 _ _ eu4,pr4.keep g5.tp,g5 _ _ ed4,by omega,ep.tp g5.tp,pl1.push dz enl sg (.inl ⟨tt,rfl,rfl⟩)⟩
        · rintro σ' H5 ⟨p,st,wd,z',sn',rfl,s5,eu5,pr5,ed5,l5,ep5,pl5⟩
          refine ⟨_,rfl,.inl ⟨rfl,_,SqL.of eu5⟩,_,rfl,u,ps,_,rfl,rfl,eu5,?_,?_⟩
          · rw [pr5.len]; omega
          have tp6 : Tp H5 (upd H5 u (.lst (ps ++ [.ref p]))) := (Tp.refl H5).upd eu5 fun xs => by intro z; cases z
          have ndu : d ≠ u := fun z => by rw [z,eu5] at ed5; cases ed5
          exact ⟨_,_,_,_,_,_,_,_,_,rfl,s5.updN fu,upd_same,(pr5.snoc ep5).keep tp6,by rw [List.length_append,ls1]; rfl,by rw [upd_ne ndu]; exact ed5,by omega,pl5⟩
    · rintro σ H1 ⟨o10,o11,o12,o13,wd,ps,ss,z,sn,rfl,s1,eu1,pr1,ls1,ed1,lsn,pl1⟩
      exact ⟨_,rfl,k u H1 ps ss z (s0b.trans s1) (s0b.free fu) eu1 pr1 (pl1.plan dz) (by omega) pl1.txt pl1.siz⟩
def spEvent (K : W.Frag) : Sp := fun vs H Q _ => ∃ (a : Addr) (ns : List Int) (k : Int),vs = [.ref a,.int k] ∧ SqL K H a (ns.map V.int) ∧ ns.length ≤ 63 ∧ 0 ≤ k ∧ ∀ p H' e,Same H H' → EvA H' p e → AS e.2.2.1 → Q (.ref p) H'
theorem ok_event (T : Tx K mg ad) : FnOk P w K mg base CX0 3 ad.a_uevent ad.d_uevent ["_law_script", "_law_k"] (spEvent K) := by
  have G_ucell_at := ok_at (P := P) (w := w) (base := base) T
  have G_unumber := ok_number (P := P) (w := w) (base := base) T
  have G_unames := ok_names (P := P) (w := w) (base := base) T
  have G_uscale := ok_scale (P := P) (w := w) (base := base) T
  refine T.F_uevent.ok sc_uevent (fun vs H Q E h => ?_) (fun cdv A outer s H vs Q E hr h => ?_)
  · obtain ⟨a,ns,k,rfl,_⟩ := h
    rfl
  · obtain ⟨a,ns,i,rfl,hS,hl,i0,k⟩ := h
    have nd := sc_uevent.nd
    refine ⟨_,(pss_cons (ps_set (i := 2) nd rfl (Or.inl rfl) (pe_call G_unumber (hr.mono (by decide)) (by rfl) T.m_unumber T.F_unumber.kp T.b_unumber .nil pass0 (pa_cons (pv 0) (pa_cons (pe_op op_add (pv 1) pe_int) pa_nil))))
        (pss_cons (ps_set (i := 3) nd rfl (Or.inl rfl) (pe_call G_uscale (hr.mono (by decide)) (by rfl) T.m_uscale T.F_uscale.kp T.b_uscale .nil pass0 (pa_cons (pv 0) pa_nil)))
        (pss_cons (ps_set (i := 4) nd rfl (Or.inl rfl) (pe_op op_add (pe_op op_mul (pe_op op_mod (pe_call G_ucell_at (hr.mono (by decide)) (by rfl) T.m_ucell_at T.F_ucell_at.kp T.b_ucell_at .nil pass0 (pa_cons (pv 0) (pa_cons (pv 1) pa_nil))) pe_int) (pv 3)) (pe_op op_mul (pe_op op_mod (pv 2) pe_int) (pe_callTy call_int1 (by rfl) T.z_int PyProof.Rows.boot_int (pa_cons (pe_cmpR op_gt (pv 3) pe_int (nomark _)) pa_nil)))))
        (pss_cons (ps_cut (ps_if (pt_cmpR op_eq (pe_op op_mod (pe_op op_fdiv (pe_call G_ucell_at (hr.mono (by decide)) (by rfl) T.m_ucell_at T.F_ucell_at.kp T.b_ucell_at .nil pass0 (pa_cons (pv 0) (pa_cons (pv 1) pa_nil))) pe_int) pe_int) pe_int (nomark _))
        (pss_one (ps_set (i := 4) nd rfl (Or.inl rfl) (pe_op op_mod (pe_op op_mod (pe_op op_mul (pv 2) pe_int) pe_int) pe_int)))
        pss_nil))
        (pss_cons (ps_cut (ps_if (pt_cmpR op_eq (pe_op op_mod (pe_op op_fdiv (pe_call G_ucell_at (hr.mono (by decide)) (by rfl) T.m_ucell_at T.F_ucell_at.kp T.b_ucell_at .nil pass0 (pa_cons (pv 0) (pa_cons (pv 1) pa_nil))) pe_int) pe_int) pe_int (nomark _))
        (pss_one (ps_set (i := 4) nd rfl (Or.inl rfl) (pe_op op_sub pe_int (pe_op op_mod (pe_op op_fdiv (pe_call G_ucell_at (hr.mono (by decide)) (by rfl) T.m_ucell_at T.F_ucell_at.kp T.b_ucell_at .nil pass0 (pa_cons (pv 0) (pa_cons (pv 1) pa_nil))) pe_int) pe_int))))
        pss_nil))
        (pss_cons (ps_set (i := 5) nd rfl (Or.inl rfl) (pe_ix (ix_listK (K := K)) (pe_call G_unames (hr.mono (by decide)) (by rfl) T.m_unames T.F_unames.kp T.b_unames .nil pass0 (pa_cons (pv 0) (pa_cons pe_int (pa_cons pe_int pa_nil)))) (pe_op op_mod (pe_op op_fdiv (pv 2) pe_int) pe_int) (fun _ _ => rfl)))
        (pss_cons (ps_set (i := 6) nd rfl (Or.inl rfl) (pe_call G_unames (hr.mono (by decide)) (by rfl) T.m_unames T.F_unames.kp T.b_unames .nil pass0 (pa_cons (pv 0) (pa_cons pe_int (pa_cons (pe_ix (ix_listK (K := K)) (pe_lst (pa_cons pe_int (pa_cons pe_int (pa_cons pe_int pa_nil)))) (pe_op op_mod (pe_op op_fdiv (pe_call G_ucell_at (hr.mono (by decide)) (by rfl) T.m_ucell_at T.F_ucell_at.kp T.b_ucell_at .nil pass0 (pa_cons (pv 0) (pa_cons pe_int pa_nil))) pe_int) pe_int) (fun _ _ => rfl)) pa_nil)))))
        (pss_cons (ps_set (i := 7) nd rfl (Or.inl rfl) (pe_ix (ix_listK (K := K)) (pv 6) (pe_op op_mod (pe_op op_fdiv (pv 2) pe_int) (pe_callB (call_len_seqK (K := K)) (by rfl) T.z_len PySem.boot_len (pa_cons (pv 6) pa_nil))) (fun _ _ => rfl)))
        (pss_cons (ps_set (i := 8) nd rfl (Or.inl rfl) (pe_op op_sub (pe_op op_mod (pe_op op_fdiv (pv 2) pe_int) pe_int) pe_int))
        (pss_cons (ps_cut (ps_if (pt_cmpR op_eq (pe_op op_mod (pe_op op_fdiv (pv 2) pe_int) pe_int) pe_int (nomark _))
        (pss_one (ps_set (i := 8) nd rfl (Or.inl rfl) (pe_op op_sub (pe_op op_mod (pe_op op_mul (pv 2) pe_int) pe_int) pe_int)))
        pss_nil))
        (pss_one (ps_ret (pe_tup (pa_cons (pv 4) (pa_cons (pv 5) (pa_cons (pv 7) (pa_cons (pv 8) pa_nil))))))))))))))))),?_⟩
    refine ⟨_,rfl,_,rfl,_,_,rfl,rfl,a,ns,_,rfl,hS,hl,by omega,fun nn nn0 => ?_⟩
    refine ⟨_,rfl,a,ns,rfl,hS,hl,fun c Hb sb hc => ?_⟩
    have hSb := sb.seq hS
    have c0 : 1 ≤ c ∧ c ≤ 40000 := by omega
    refine ⟨_,rfl,_,rfl,a,ns,_,rfl,hSb,i0,hl,fun c1 => ⟨_,_,rfl,rfl,(by decide : (0 : Int) < 40),_,rfl,_,_,rfl,rfl,.inr ⟨by omega,by omega⟩,_,rfl,_,_,rfl,rfl,(by decide : (0 : Int) < 3),_,rfl,_,_,rfl,rfl,.inr ⟨_,rfl,?_⟩⟩⟩
    have m3 : 0 ≤ nn % 3 ∧ nn % 3 < 3 := ⟨Int.emod_nonneg _ (by decide),Int.emod_lt_of_pos _ (by decide)⟩
    refine ⟨_,_,rfl,rfl,.inl ⟨by omega,by omega⟩,_,_,rfl,rfl,?_⟩
    refine cutBy (fun σ' H' => ∃ (t : Int),σ' = [some (.ref a),some (.int i),some (.int nn),some (.int c),some (.int t),none,none,none,none] ∧ H' = Hb) ?_ ?_
    · refine ⟨_,rfl,_,rfl,a,ns,_,rfl,hSb,i0,hl,fun c2 => ⟨_,_,rfl,rfl,⟨by decide,by decide⟩,_,_,rfl,rfl,(by decide : (0 : Int) < 9),rfl,_,rfl,iteVI (fun _ => ?_) fun _ => ⟨_,rfl,rfl⟩⟩⟩
      exact ⟨_,rfl,_,_,rfl,rfl,.inr ⟨by decide,by decide⟩,_,_,rfl,rfl,(by decide : (0 : Int) < 1000000007),_,_,rfl,rfl,(by decide : (0 : Int) < 1000000001),_,rfl,rfl⟩
    rintro σ' H' ⟨t,rfl,rfl⟩
    refine cutBy (fun σ' H2 => ∃ (t : Int),σ' = [some (.ref a),some (.int i),some (.int nn),some (.int c),some (.int t),none,none,none,none] ∧ H2 = H') ?_ ?_
    · refine ⟨_,rfl,_,rfl,a,ns,_,rfl,hSb,i0,hl,fun c2 => ⟨_,_,rfl,rfl,⟨by decide,by decide⟩,_,_,rfl,rfl,(by decide : (0 : Int) < 9),rfl,_,rfl,iteVI (fun _ => ?_) fun _ => ⟨_,rfl,rfl⟩⟩⟩
      exact ⟨_,rfl,_,rfl,a,ns,_,rfl,hSb,i0,hl,fun c3 => ⟨_,_,rfl,rfl,⟨by decide,by decide⟩,_,_,rfl,rfl,(by decide : (0 : Int) < 3),_,_,rfl,rfl,_,rfl,rfl⟩⟩
    rintro σ' H2 ⟨t,rfl,rfl⟩
    refine ⟨_,rfl,a,ns,2,2,rfl,hSb,hl,by decide,by decide,by decide,fun lk Hk ks sk _ elk lks _ _ => ?_⟩
    obtain ⟨v,hv,hm⟩ := atI_mod (ks.map V.str) 2 (by rw [List.length_map]; exact lks) (by decide) (nn / 16)
    obtain ⟨kd,_,rfl⟩ := List.mem_map.mp hm
    refine ⟨_,rfl,_,_,rfl,rfl,⟨by decide,by decide⟩,_,_,rfl,rfl,(by decide : (0 : Int) < 2),lk,_,_,_,rfl,rfl,SqL.of elk,hv,?_⟩
    have hSk := sk.seq hSb
    refine ⟨_,rfl,Nat.le_of_ble_eq_true rfl,fun p1 hp1 => ?_⟩
    have g1 := Same.upd' (o := .lst [V.int 3,.int 3,.int 9]) hp1
    have e1 : (upd Hk p1 (.lst [V.int 3,.int 3,.int 9])) p1 = some (.lst [V.int 3,.int 3,.int 9]) := upd_same
    generalize upd Hk p1 (.lst [V.int 3,.int 3,.int 9]) = H3 at g1 e1 ⊢
    refine ⟨_,rfl,a,ns,_,rfl,g1.seq hSk,by decide,hl,fun c4 => ?_⟩
    obtain ⟨v,hv3,hm3⟩ := atI_mod [V.int 3,.int 3,.int 9] 3 rfl (by decide) (c4 / 12)
    obtain ⟨m,rfl,hm4⟩ : ∃ m : Int,v = .int m ∧ (m = 3 ∨ m = 9) := by
      simp only [List.mem_cons,List.not_mem_nil,or_false] at hm3
      rcases hm3 with rfl | rfl | rfl
      · exact ⟨_,rfl,.inl rfl⟩
      · exact ⟨_,rfl,.inl rfl⟩
      · exact ⟨_,rfl,.inr rfl⟩
    refine ⟨_,_,rfl,rfl,⟨by decide,by decide⟩,_,_,rfl,rfl,(by decide : (0 : Int) < 3),p1,_,_,_,rfl,rfl,SqL.of e1,hv3,a,ns,3,m,rfl,g1.seq hSk,hl,by decide,by omega,by omega,fun ly H4 ys sy _ ely lys _ ay => ?_⟩
    have l0 : (0 : Int) < ((ys.map V.str).length : Int) := by rw [List.length_map]; omega
    obtain ⟨v,hv5,hm5⟩ := atI_mod (ys.map V.str) _ rfl l0 (nn / 32)
    obtain ⟨y,my,rfl⟩ := List.mem_map.mp hm5
    refine ⟨_,rfl,_,rfl,_,_,rfl,rfl,⟨by decide,by decide⟩,_,rfl,ly,_,rfl,.inl (SqL.of ely),_,_,rfl,rfl,l0,ly,_,_,_,rfl,rfl,SqL.of ely,hv5,?_⟩
    refine ⟨_,rfl,_,_,rfl,rfl,⟨by decide,by decide⟩,_,_,rfl,rfl,(by decide : (0 : Int) < 13),_,_,rfl,rfl,?_⟩
    refine cutBy (fun σ' H5 => ∃ (am : Int),σ' = [some (.ref a),some (.int i),some (.int nn),some (.int c),some (.int t),some (.str kd),some (.ref ly),some (.str y),some (.int am)] ∧ H5 = H4) ?_ ?_
    · refine ⟨_,rfl,_,_,rfl,rfl,⟨by decide,by decide⟩,_,_,rfl,rfl,(by decide : (0 : Int) < 8),rfl,_,rfl,iteVI (fun _ => ?_) fun _ => ⟨_,rfl,rfl⟩⟩
      exact ⟨_,rfl,_,_,rfl,rfl,.inr ⟨by decide,by decide⟩,_,_,rfl,rfl,(by decide : (0 : Int) < 2000000001),_,_,rfl,rfl,_,rfl,rfl⟩
    rintro σ' H5 ⟨am,rfl,rfl⟩
    exact ⟨_,rfl,_,rfl,_,rfl,_,rfl,Nat.le_of_ble_eq_true rfl,fun p hp => k p _ (t,kd,y,am) ((sb.trans (sk.trans (g1.trans sy))).upd hp) upd_same (ay _ my)⟩
def SameL (H H' : Hp) : Prop := ∀ b o,H b = some o → (∀ kv,o ≠ .dK kv) → H' b = some o
theorem same_l {H H' : Hp} (s : Same H H') : SameL H H' := fun b o e _ => s b o e
theorem SameL.tp {H H' : Hp} (s : SameL H H') : Tp H H' := fun b xs e => s b _ e (by intro kv z; cases z)
theorem SameL.lst {H H' : Hp} (s : SameL H H') {b : Addr} {xs : List V} (e : H b = some (.lst xs)) : H' b = some (.lst xs) := s b _ e (by intro kv z; cases z)
theorem SameL.trans {H H1 H2 : Hp} (a : SameL H H1) (b : SameL H1 H2) : SameL H H2 := fun c o e n => b c o (a c o e n) n
theorem samel_put {H : Hp} {d : Addr} {kvs kvs' : List (Key × V)} (e : H d = some (.dK kvs)) : SameL H (upd H d (.dK kvs')) := fun b o eo n => by
  rw [upd_ne fun z => by rw [z,e] at eo; exact n _ (Option.some.inj eo).symm]
  exact eo
def SrtR (H : Hp) (r : Addr) (kss : List (List Key)) : Prop := ∃ xs kss',H r = some (.lst xs) ∧ Rws H xs kss' ∧ kss'.Perm kss ∧ Sd kss'
theorem SrtR.keep {H H' : Hp} {r : Addr} {kss : List (List Key)} (h : SrtR H r kss) (s : SameL H H') : SrtR H' r kss := by
  obtain ⟨xs,k',e,w,p,q⟩ := h
  exact ⟨xs,k',s.lst e,w.keep s.tp,p,q⟩
theorem CameR.keepL {H H' : Hp} {c : Addr} {L : List It} (h : CameR H c L) (s : SameL H H') : CameR H' c L := h.keep (fun _ e => s.lst e) s.tp
theorem StrR.keepL {H H' : Hp} {kvs : List (Key × V)} {L : Str → List It} {a : Str} (h : StrR H kvs L a) (s : SameL H H') : StrR H' kvs L a := by
  obtain ⟨r,v,c,l⟩ := h
  exact ⟨r,v,c.keepL s,l⟩
theorem mem_putK {kvs : List (Key × V)} {k : Key} {v : V} {p : Key × V} (h : p ∈ putK kvs k v) : (∃ q ∈ kvs,p.1 = q.1) ∨ p.1 = k := by
  unfold putK at h
  split at h
  · obtain ⟨q,hq,rfl⟩ := List.mem_map.mp h
    by_cases e : q.1 = k
    · rw [if_pos e]; exact .inr e
    · rw [if_neg e]; exact .inl ⟨q,hq,rfl⟩
  · rcases List.mem_append.mp h with h | h
    · exact .inl ⟨p,h,rfl⟩
    · cases List.mem_singleton.mp h; exact .inr rfl
theorem meantS_congr {s : Stp} {L L' : Str → List It} {evs : List Ev} (h : ∀ a ∈ s.feeds,L' a = L a) : meantS s L' evs = meantS s L evs := by
  cases s with
  | take => rfl
  | gap => rfl
  | each => rfl
  | only n a lo hi => show (L' a).filter _ = (L a).filter _; rw [h a (.head _)]
  | turn n a => show (L' a).map _ = (L a).map _; rw [h a (.head _)]
  | both n a b => show L' b ++ L' a = L b ++ L a; rw [h a (.head _),h b (.tail _ (.head _))]
  | join n a b => show crossI _ (L' a) (L' b) = crossI _ (L a) (L b); rw [h a (.head _),h b (.tail _ (.head _))]
structure TdR (F : Addr → Prop) (H : Hp) (ss : List Stp) (L : Str → List It) (n : Nat) (kvT kvK : List (Key × V)) : Prop where
  keys : ∀ p ∈ kvT,∃ (i : Nat) (s : Stp),p.1 = .inl (i : Int) ∧ i < n ∧ ss[i]? = some s ∧ s.tell = true
  tell : ∀ (i : Nat) s a,i < n → ss[i]? = some s → s.tell = true → a ∈ s.feeds → ∃ r,F r ∧ valV kvT (.inl (i : Int)) = some (.ref r) ∧ SrtR H r ((L a).map itK)
  kept : ∀ (i : Nat) m a b wi,i < n → ss[i]? = some (.join m a b wi) → ∃ r r0 r1,(F r ∧ F r0 ∧ F r1) ∧ valV kvK (.inl (i : Int)) = some (.ref r) ∧ H r = some (.lst [.ref r0,.ref r1]) ∧ SrtR H r0 ((L a).map kpK) ∧ SrtR H r1 ((L b).map kpK)
theorem SrtR.keepF {F : Addr → Prop} {H H' : Hp} {r : Addr} {kss : List (List Key)} (h : SrtR H r kss) (f : F r) (s : ∀ b xs,F b → H b = some (.lst xs) → H' b = some (.lst xs)) (t : Tp H H') : SrtR H' r kss := by
  obtain ⟨xs,k',e,w,p,q⟩ := h
  exact ⟨xs,k',s _ _ f e,w.keep t,p,q⟩
theorem TdR.keepF {F : Addr → Prop} {H H' : Hp} {ss : List Stp} {L : Str → List It} {n : Nat} {kvT kvK : List (Key × V)} (h : TdR F H ss L n kvT kvK) (s : ∀ b xs,F b → H b = some (.lst xs) → H' b = some (.lst xs)) (tp : Tp H H') : TdR F H' ss L n kvT kvK := by
  refine ⟨h.keys,fun i t a hi ei ht ha => ?_,fun i m a b wi hi ei => ?_⟩
  · obtain ⟨r,f,v,q⟩ := h.tell i t a hi ei ht ha
    exact ⟨r,f,v,q.keepF f s tp⟩
  · obtain ⟨r,r0,r1,⟨f,f0,f1⟩,v,e,q0,q1⟩ := h.kept i m a b wi hi ei
    exact ⟨r,r0,r1,⟨f,f0,f1⟩,v,s _ _ f e,q0.keepF f0 s tp,q1.keepF f1 s tp⟩
theorem TdR.keep {F : Addr → Prop} {H H' : Hp} {ss : List Stp} {L : Str → List It} {n : Nat} {kvT kvK : List (Key × V)} (h : TdR F H ss L n kvT kvK) (s : SameL H H') : TdR F H' ss L n kvT kvK := h.keepF (fun _ _ _ e => s.lst e) s.tp
theorem TdR.mono {F F' : Addr → Prop} {H : Hp} {ss : List Stp} {L : Str → List It} {n : Nat} {kvT kvK : List (Key × V)} (h : TdR F H ss L n kvT kvK) (g : ∀ b o,F b → H b = some o → F' b) : TdR F' H ss L n kvT kvK := by
  refine ⟨h.keys,fun i t a hi ei ht ha => ?_,fun i m a b wi hi ei => ?_⟩
  · obtain ⟨r,f,v,q⟩ := h.tell i t a hi ei ht ha
    obtain ⟨xs,_,e,_⟩ := id q
    exact ⟨r,g _ _ f e,v,q⟩
  · obtain ⟨r,r0,r1,⟨f,f0,f1⟩,v,e,q0,q1⟩ := h.kept i m a b wi hi ei
    obtain ⟨_,_,e0,_⟩ := id q0
    obtain ⟨_,_,e1,_⟩ := id q1
    exact ⟨r,r0,r1,⟨g _ _ f e,g _ _ f0 e0,g _ _ f1 e1⟩,v,e,q0,q1⟩
theorem TdR.put {F : Addr → Prop} {H : Hp} {ss : List Stp} {L : Str → List It} {n : Nat} {kvT kvK : List (Key × V)} (h : TdR F H ss L n kvT kvK) (ok : PlanOk ss) {s : Stp} (es : ss[n]? = some s) (M : List It) : TdR F H ss (putN L s.nm M) n kvT kvK :=
  ⟨h.keys,fun i t a hi ei ht ha => by
    rw [ok.oldFed es ei (by omega) L M ha]
    exact h.tell i t a hi ei ht ha,fun i m a b wi hi ei => by
    rw [ok.oldFed es ei (by omega) L M (a := a) (.head _),ok.oldFed es ei (by omega) L M (a := b) (.tail _ (.head _))]
    exact h.kept i m a b wi hi ei⟩
theorem TdR.next {F : Addr → Prop} {H : Hp} {ss : List Stp} {L : Str → List It} {n : Nat} {kvT kvK kvT' kvK' : List (Key × V)} (h : TdR F H ss L n kvT kvK) {s : Stp} (es : ss[n]? = some s)
    (ht : (s.tell = false ∧ kvT' = kvT) ∨ (s.tell = true ∧ ∃ r,F r ∧ kvT' = putK kvT (.inl (n : Int)) (.ref r) ∧ ∀ a ∈ s.feeds,SrtR H r ((L a).map itK)))
    (hk : ((∀ m a b wi,s ≠ .join m a b wi) ∧ kvK' = kvK) ∨ ∃ m a b wi r r0 r1,s = .join m a b wi ∧ (F r ∧ F r0 ∧ F r1) ∧ kvK' = putK kvK (.inl (n : Int)) (.ref r) ∧ H r = some (.lst [.ref r0,.ref r1]) ∧ SrtR H r0 ((L a).map kpK) ∧ SrtR H r1 ((L b).map kpK)) : TdR F H ss L (n + 1) kvT' kvK' := by
  have ne : ∀ {i : Nat},i ≠ n → (Sum.inl (i : Int) : Key) ≠ .inl (n : Int) := fun h z => h (by have := Sum.inl.inj z; omega)
  refine ⟨fun p hp => ?_,fun i t a hi ei tt ha => ?_,fun i m a b wi hi ei => ?_⟩
  · rcases ht with ⟨_,rfl⟩ | ⟨tt,r,_,rfl,_⟩
    · obtain ⟨i,t,e,l,x⟩ := h.keys p hp
      exact ⟨i,t,e,by omega,x⟩
    · rcases mem_putK hp with ⟨q,hq,e⟩ | e
      · obtain ⟨i,t,e',l,x⟩ := h.keys q hq
        exact ⟨i,t,e.trans e',by omega,x⟩
      · exact ⟨n,s,e,by omega,es,tt⟩
  · by_cases hin : i = n
    · subst hin
      rw [es] at ei
      cases ei
      rcases ht with ⟨q,_⟩ | ⟨_,r,fr,rfl,hs⟩
      · rw [q] at tt; cases tt
      · exact ⟨r,fr,by rw [valV_put,if_pos rfl],hs a ha⟩
    · obtain ⟨r,fr,v,q⟩ := h.tell i t a (by omega) ei tt ha
      refine ⟨r,fr,?_,q⟩
      rcases ht with ⟨_,rfl⟩ | ⟨_,r,_,rfl,_⟩
      · exact v
      · rw [valV_put,if_neg (ne hin)]; exact v
  · by_cases hin : i = n
    · subst hin
      rw [es] at ei
      cases ei
      rcases hk with ⟨q,_⟩ | ⟨m',a',b',wi',r,r0,r1,ej,fr,rfl,x⟩
      · exact absurd rfl (q _ _ _ _)
      · cases ej
        exact ⟨r,r0,r1,fr,by rw [valV_put,if_pos rfl],x⟩
    · obtain ⟨r,r0,r1,fr,v,x⟩ := h.kept i m a b wi (by omega) ei
      refine ⟨r,r0,r1,fr,?_,x⟩
      rcases hk with ⟨_,rfl⟩ | ⟨_,_,_,_,_,_,_,_,_,rfl,_⟩
      · exact v
      · rw [valV_put,if_neg (ne hin)]; exact v
theorem srt_of {H : Hp} {ys : List V} {kss : List (List Key)} (h : Rws H ys kss) {l : Addr} {qs : List (V × List Key)} (hl : H l = none) (p : qs.Perm (ys.zip kss)) (sq : (qs.map (·.2)).Pairwise (fun a b => lexK b a = false)) : SrtR (upd H l (.lst (qs.map (·.1)))) l kss := by
  obtain ⟨g1,g2⟩ := h.sorted p
  exact ⟨_,_,upd_same,g1.keep (Same.upd' hl).tp,g2,sq⟩
def spTold : Sp := fun vs H Q _ => ∃ (lp le : Addr) (ps : List V) (ss : List Stp) (z : Str → Nat) (evs : List Ev),vs = [.ref lp,.ref le] ∧ H lp = some (.lst ps) ∧ PlanR H ps ss ∧ PlanOk ss ∧ ss.length ≤ 20 ∧
  (∀ (i : Nat) s,ss[i]? = some s → s.tell = false → z s.nm = bndS s z 6 ∧ z s.nm ≤ 600) ∧ EvsR H le evs ∧ evs.length ≤ 6 ∧
  ∀ q dt dk H' L kvT kvK,Same H H' → H dt = none → H dk = none → dt ≠ dk → H' q = some (.tup [.ref dt,.ref dk]) → H' dt = some (.dK kvT) → H' dk = some (.dK kvK) → TdR (fun b => H b = none) H' ss L ss.length kvT kvK →
    (∀ (i : Nat) s,ss[i]? = some s → s.tell = false → L s.nm = meantS s L evs ∧ (L s.nm).length ≤ 600) → Q (.ref q) H'
theorem ok_told (T : Tx K mg ad) : FnOk P w K mg base CX0 3 ad.a_utold ad.d_utold ["_law_plan_here", "_law_events"] spTold := by
  have G_umeant := ok_meant (P := P) (w := w) (base := base) T
  refine T.F_utold.ok sc_utold (fun vs H Q E h => ?_) (fun cdv A outer s H vs Q E hr h => ?_)
  · obtain ⟨lp,le,ps,ss,z,evs,rfl,_⟩ := h
    rfl
  · obtain ⟨lp,le,ps,ss,z,evs,rfl,elp,pr,pok,lss,siz,ev,lev,k⟩ := h
    have nd := sc_utold.nd
    refine ⟨_,(pss_cons (ps_set (i := 2) nd rfl (Or.inr rfl) pe_dnewK)
        (pss_cons (ps_set (i := 3) nd rfl (Or.inl rfl) pe_dnewK)
        (pss_cons (ps_set (i := 4) nd rfl (Or.inl rfl) pe_dnewK)
        (pss_cons (ps_for PassesOwn.never rfl (pi_enum (K := K) (by rfl) T.z_enumerate (pv 0)) (pg_tup rfl (pgs_cons (pg_name (i := 5) nd rfl (Or.inl rfl)) (pgs_cons (pg_name (i := 6) nd rfl (Or.inr rfl)) pgs_nil)))
        (pss_cons (ps_if (pt_cmpR (op_in_seqK (K := K)) (pe_ix (ix_tupK (K := K)) (pv 6) pe_int (fun _ _ => rfl)) (pe_tup (pa_cons pe_str (pa_cons pe_str pa_nil))) (by with_unfolding_all rfl))
        (pss_cons (ps_dput hr.u1 (pv 3) (pv 5) (pe_callB (call_sortedL (K := K)) (by rfl) T.z_sorted PyProof.Rows.boot_sorted (pa_cons (pe_dget hr.u1 (pv 2) (pe_ix (ix_tupK (K := K)) (pv 6) pe_int (fun _ _ => rfl)) (fun _ _ => rfl)) pa_nil)) rfl)
        (pss_one ps_continue))
        pss_nil)
        (pss_cons (ps_dput hr.u1 (pv 2) (pe_ix (ix_tupK (K := K)) (pv 6) pe_int (fun _ _ => rfl)) (pe_call G_umeant (hr.mono (by decide)) (by rfl) T.m_umeant T.F_umeant.kp T.b_umeant .nil pass0 (pa_cons (pv 6) (pa_cons (pv 2) (pa_cons (pv 1) pa_nil)))) rfl)
        (pss_one (ps_if (pt_cmpR op_eq (pe_ix (ix_tupK (K := K)) (pv 6) pe_int (fun _ _ => rfl)) pe_str (nomark _))
        (pss_one (ps_dput hr.u1 (pv 4) (pv 5) (pe_comp1 (osc := defScope s_utold) [("_law_streams", 2),("_law_step", 6)] rfl (pi_range1 (by rfl) T.z_range (pa_cons pe_int pa_nil)) rfl rfl (by decide +kernel) (by decide +kernel) (by decide +kernel) ⟨rfl,rfl,rfl,rfl,trivial⟩ rfl (by decide +kernel) (fun _ _ _ _ => pts_nil) (fun _ _ _ _ => (pe_callB (call_sortedL (K := K)) (by rfl) T.z_sorted PyProof.Rows.boot_sorted (pa_cons (pe_comp1 (osc := _) [] rfl (pi_listK (K := K) (pe_dget hr.u1 (pv 1) (pe_ix (ix_tupK (K := K)) (pv 2) (pe_op op_add pe_int (pv 0)) (fun _ _ => rfl)) (fun _ _ => rfl))) rfl rfl (by decide +kernel) (by decide +kernel) (by intro y hy he; simp only [List.mem_cons,List.not_mem_nil,or_false] at hy; rcases hy with rfl | rfl <;> first | exact absurd he (by decide) | exact Or.inr rfl | exact Or.inl rfl) trivial rfl (by decide +kernel) (fun _ _ _ _ => pts_nil) (fun _ _ _ _ => (pe_tup (pa_cons (pe_ix (ix_tupK (K := K)) (pv 0) pe_int (fun _ _ => rfl)) (pa_cons (pe_ix (ix_tupK (K := K)) (pv 0) pe_int (fun _ _ => rfl)) (pa_cons (pe_ix (ix_tupK (K := K)) (pv 0) pe_int (fun _ _ => rfl)) pa_nil)))))) pa_nil)))) rfl))
        pss_nil)))))
        (pss_one (ps_ret (pe_tup (pa_cons (pv 3) (pa_cons (pv 4) pa_nil))))))))),?_⟩
    have sz : sizeLine = 16777216 := sizeLine_eq
    have lps := pr.len
    refine fun dS hdS dT hdT dK hdK => ?_
    have s0 : Same H (upd (upd (upd H dS (.dK [])) dT (.dK [])) dK (.dK [])) := (((Same.refl H).upd hdS).upd hdT).upd hdK
    have fT : H dT = none := upd_none hdT
    have fK : H dK = none := upd_none (upd_none hdK)
    have nST : dS ≠ dT := ne_of_none upd_same hdT
    have nTK : dT ≠ dK := ne_of_none upd_same hdK
    have nSK : dS ≠ dK := ne_of_none upd_same (upd_none hdK)
    have eS0 : (upd (upd (upd H dS (.dK [])) dT (.dK [])) dK (.dK [])) dS = some (.dK []) := by rw [upd_ne nSK,upd_ne nST]; exact upd_same
    have eT0 : (upd (upd (upd H dS (.dK [])) dT (.dK [])) dK (.dK [])) dT = some (.dK []) := by rw [upd_ne nTK]; exact upd_same
    have eK0 : (upd (upd (upd H dS (.dK [])) dT (.dK [])) dK (.dK [])) dK = some (.dK []) := upd_same
    generalize upd (upd (upd H dS (.dK [])) dT (.dK [])) dK (.dK []) = H0 at s0 eS0 eT0 eK0 ⊢
    refine ⟨_,rfl,lp,rfl,⟨_,SqL.of (s0 _ _ elp)⟩,for_enum (K := K) (xs := ps) (fun n σ H' => ∃ (o5 o6 : Option V) (kvS kvT kvK : List (Key × V)) (L : Str → List It),σ = [some (.ref lp),some (.ref le),some (.ref dS),some (.ref dT),some (.ref dK),o5,o6] ∧ Same H H' ∧
        H' dS = some (.dK kvS) ∧ H' dT = some (.dK kvT) ∧ H' dK = some (.dK kvK) ∧ (kvS.length ≤ n ∧ kvT.length ≤ n ∧ kvK.length ≤ n) ∧ TdR (fun b => H b = none) H' ss L n kvT kvK ∧
        ∀ (i : Nat) s,i < n → ss[i]? = some s → s.tell = false → L s.nm = meantS s L evs ∧ StrR H' kvS L s.nm)
      ⟨none,none,[],[],[],fun _ => [],rfl,s0,eS0,eT0,eK0,⟨Nat.le_refl _,Nat.le_refl _,Nat.le_refl _⟩,⟨fun p hp => (by cases hp),fun i s a h => absurd h (Nat.not_lt_zero _),fun i m a b wi h => absurd h (Nat.not_lt_zero _)⟩,fun i s h => absurd h (Nat.not_lt_zero _)⟩
      (fun n σ H' _ ⟨_,_,_,_,_,_,_,s',_⟩ => SqL.of (s' _ _ elp)) ?_ ?_⟩
    · rintro n x σ H1 p hx ⟨o5,o6,kvS,kvT,kvK,L,rfl,s1,eS1,eT1,eK1,⟨lS,lT,lK⟩,td1,st1⟩ hp
      obtain ⟨a,st,rfl,es,ea⟩ := pr.at hx
      have hn : n < ss.length := (List.getElem?_eq_some_iff.mp es).1
      refine ⟨p,_,rfl,SqT.of upd_same,rfl,_,_,rfl,_,_,rfl,rfl,?_⟩
      have g2 := Same.upd' (o := .tup [.int (n : Int),.ref a]) hp
      generalize upd H1 p (.tup [.int (n : Int),.ref a]) = H2 at g2 ⊢
      have ea2 : StA H2 a st := g2 _ _ (s1 _ _ ea)
      obtain ⟨e0,e1,e2⟩ := ea2.word (K := K)
      refine ⟨_,rfl,a,_,_,_,rfl,rfl,e0,e1,Nat.le_of_ble_eq_true rfl,fun q hq => ?_⟩
      have g3 : Same H2 (upd H2 q (.tup [V.str "each", .str "gap"])) := Same.upd' hq
      refine ⟨_,TEL,rfl,.inr (SqT.of upd_same),rfl,rfl,_,rfl,?_⟩
      generalize upd H2 q (.tup [V.str "each", .str "gap"]) = H3 at g3 ⊢
      have g13 := g2.trans g3
      have ea3 : StA H3 a st := g3 _ _ ea2
      obtain ⟨e0,e1,e2⟩ := ea3.word (K := K)
      have eS3 := g13 _ _ eS1
      have eT3 := g13 _ _ eT1
      have eK3 := g13 _ _ eK1
      have s3 := s1.trans g13
      have td3 := td1.keep (same_l g13)
      have st3 : ∀ (i : Nat) s,i < n → ss[i]? = some s → s.tell = false → L s.nm = meantS s L evs ∧ StrR H3 kvS L s.nm := fun i s hi ei ht => ⟨(st1 i s hi ei ht).1,(st1 i s hi ei ht).2.keepL (same_l g13)⟩
      have fd : ∀ f ∈ st.feeds,StrR H3 kvS L f := fun f hf => by
        obtain ⟨i',s',li,ei',rfl,tf⟩ := pok.fed n st f es hf
        exact (st3 i' s' li ei' tf).2
      clear td1 st1 g13 g2 g3 ea2 eS1 eT1 eK1
      refine iteB (fun ht => ?_) fun ht => ?_
      · have tt : st.tell = true := by
          have ht : inV (.str st.word) TEL = true := ht
          rw [word_tell] at ht
          exact ht
        obtain ⟨f,hf,ef,only⟩ : ∃ f,f ∈ st.feeds ∧ atI (st.key.map kV) 2 = some (.str f) ∧ ∀ f' ∈ st.feeds,f' = f := by
          cases st with
          | gap n' f x y => exact ⟨f,.head _,atI_nat (j := 2) rfl,fun f' h => List.mem_singleton.mp h⟩
          | each n' f x y z => exact ⟨f,.head _,atI_nat (j := 2) rfl,fun f' h => List.mem_singleton.mp h⟩
          | _ => cases tt
        obtain ⟨r,v,⟨xs,er,hw⟩,lr⟩ := fd f hf
        refine ⟨_,rfl,_,rfl,a,_,_,_,rfl,rfl,e0,ef,dS,_,rfl,by rw [← v]; exact DGet.k (k := .inr f) eS3,r,xs,_,rfl,SqL.of er,hw.sorts (sh := [true,false,true]) (by simp) (fun ks hk => ?_),fun l qs hl pq sq => ?_⟩
        · obtain ⟨i,_,rfl⟩ := List.mem_map.mp hk
          rfl
        have so := srt_of hw hl pq sq
        have g4 := Same.upd' (o := .lst (qs.map (·.1))) hl
        generalize upd H3 l (.lst (qs.map (·.1))) = H4 at so g4 ⊢
        have eT4 := g4 _ _ eT3
        refine ⟨_,rfl,_,rfl,dT,_,rfl,DPut.k (k := .inl (n : Int)) eT4 (by omega),?_⟩
        have sp := samel_put (kvs' := putK kvT (.inl (n : Int)) (.ref l)) eT4
        have s5 : Same H (upd H4 dT (.dK (putK kvT (.inl (n : Int)) (.ref l)))) := (s3.trans g4).updN fT
        have eS5 : (upd H4 dT (.dK (putK kvT (.inl (n : Int)) (.ref l)))) dS = some (.dK kvS) := by rw [upd_ne nST]; exact g4 _ _ eS3
        have eK5 : (upd H4 dT (.dK (putK kvT (.inl (n : Int)) (.ref l)))) dK = some (.dK kvK) := by rw [upd_ne nTK.symm]; exact g4 _ _ eK3
        have lp := putK_len kvT (.inl (n : Int)) (.ref l)
        refine ⟨_,_,kvS,_,kvK,L,rfl,s5,eS5,upd_same,eK5,⟨by omega,by omega,by omega⟩,TdR.next (td3.keep ((same_l g4).trans sp)) es (.inr ⟨tt,l,s3.free hl,rfl,fun f' hf' => ?_⟩) (.inl ⟨fun m a b wi e => ?_,rfl⟩),fun i s hi ei tf => ?_⟩
        · rw [only f' hf']
          exact so.keep sp
        · rw [e] at tt; cases tt
        · have hin : i ≠ n := fun e => by
            subst e
            rw [es] at ei; cases ei
            rw [tt] at tf; cases tf
          obtain ⟨u1,u2⟩ := st3 i s (by omega) ei tf
          exact ⟨u1,u2.keepL ((same_l g4).trans sp)⟩
      · have tf : st.tell = false := by
          have ht : inV (.str st.word) TEL = false := ht
          rw [word_tell] at ht
          exact ht
        obtain ⟨xe,ele,wle⟩ := ev
        refine ⟨_,rfl,_,rfl,_,rfl,a,dS,le,st,kvS,L,evs,rfl,ea3,tf,pok.ok st (List.mem_of_getElem? es),eS3,fd,⟨xe,s3 _ _ ele,wle.keep s3.tp⟩,by omega,fun r H4 g4 hr4 cr4 => ?_⟩
        have eS4 := g4 _ _ eS3
        refine ⟨_,rfl,_,rfl,a,_,_,_,rfl,rfl,SqT.of (g4 _ _ ea3),e2,dS,_,rfl,DPut.k (k := .inr st.nm) eS4 (by omega),?_⟩
        have sp := samel_put (kvs' := putK kvS (.inr st.nm) (.ref r)) eS4
        have s5 : Same H (upd H4 dS (.dK (putK kvS (.inr st.nm) (.ref r)))) := (s3.trans g4).updN hdS
        have eS5 : (upd H4 dS (.dK (putK kvS (.inr st.nm) (.ref r)))) dS = some (.dK (putK kvS (.inr st.nm) (.ref r))) := upd_same
        have eT5 : (upd H4 dS (.dK (putK kvS (.inr st.nm) (.ref r)))) dT = some (.dK kvT) := by rw [upd_ne nST.symm]; exact g4 _ _ eT3
        have eK5 : (upd H4 dS (.dK (putK kvS (.inr st.nm) (.ref r)))) dK = some (.dK kvK) := by rw [upd_ne nSK.symm]; exact g4 _ _ eK3
        have g35 : SameL H3 (upd H4 dS (.dK (putK kvS (.inr st.nm) (.ref r)))) := (same_l g4).trans sp
        have cr5 := cr4.keepL sp
        generalize upd H4 dS (.dK (putK kvS (.inr st.nm) (.ref r))) = H5 at s5 eS5 eT5 eK5 g35 cr5 ⊢
        have ea5 : StA H5 a st := g35 _ _ ea3 (by intro kv z; cases z)
        have lp := putK_len kvS (.inr st.nm) (.ref r)
        have eqn : ∀ (i : Nat) s,i < n + 1 → ss[i]? = some s → s.tell = false → putN L st.nm (meantS st L evs) s.nm = meantS s (putN L st.nm (meantS st L evs)) evs := fun i s hi ei t => by
          have cg : meantS s (putN L st.nm (meantS st L evs)) evs = meantS s L evs := meantS_congr fun f hf => pok.oldFed es ei (by omega) L _ hf
          rw [cg]
          by_cases hin : i = n
          · subst hin
            rw [es] at ei; cases ei
            exact putN_same
          · rw [pok.old es ei (by omega)]
            exact (st3 i s (by omega) ei t).1
        have len : ∀ (i : Nat) s,i < n + 1 → ss[i]? = some s → s.tell = false → (putN L st.nm (meantS st L evs) s.nm).length ≤ 600 := fun i s hi ei t =>
          Nat.le_trans (meant_len pok siz lev eqn (n + 1) i s (Nat.le_refl _) hi ei t) (siz i s ei t).2
        have st5 : ∀ (i : Nat) s,i < n + 1 → ss[i]? = some s → s.tell = false → putN L st.nm (meantS st L evs) s.nm = meantS s (putN L st.nm (meantS st L evs)) evs ∧ StrR H5 (putK kvS (.inr st.nm) (.ref r)) (putN L st.nm (meantS st L evs)) s.nm := fun i s hi ei t => by
          refine ⟨eqn i s hi ei t,?_⟩
          by_cases hin : i = n
          · subst hin
            rw [es] at ei; cases ei
            refine ⟨r,by rw [valV_put,if_pos rfl],by rw [putN_same]; exact cr5,len i _ hi es t⟩
          · obtain ⟨r',v,c,l⟩ := (st3 i s (by omega) ei t).2
            have eo := pok.old es ei (by omega) L (meantS st L evs)
            refine ⟨r',?_,by rw [eo]; exact c.keepL g35,by rw [eo]; exact l⟩
            rw [valV_put,if_neg (fun z => hin (pok.apart i n s st ei es (Sum.inr.inj z)))]
            exact v
        have td5 := (td3.keep g35).put pok es (meantS st L evs)
        obtain ⟨e0,e1,_⟩ := ea5.word (K := K)
        refine ⟨_,rfl,a,_,_,_,rfl,rfl,e0,e1,rfl,_,rfl,iteW (i := 4) rfl (fun q4 => ?_) fun q4 => ?_⟩
        · obtain ⟨m,f,g,wi,rfl⟩ : ∃ m f g wi,st = .join m f g wi := by cases st <;> first | exact ⟨_,_,_,_,rfl⟩ | cases q4
          have fe : ∀ x ∈ [f,g],StrR H5 (putK kvS (.inr m) (.ref r)) (putN L m (meantS (.join m f g wi) L evs)) x := fun x hx => by
            obtain ⟨i',s',li,ei',rfl,t'⟩ := pok.fed n _ x es hx
            exact (st5 i' s' (by omega) ei' t').2
          have eS5 : H5 dS = some (.dK (putK kvS (.inr m) (.ref r))) := eS5
          have td5 : TdR (fun b => H b = none) H5 ss (putN L m (meantS (.join m f g wi) L evs)) n kvT kvK := td5
          have st5 : ∀ (i : Nat) s,i < n + 1 → ss[i]? = some s → s.tell = false → putN L m (meantS (.join m f g wi) L evs) s.nm = meantS s (putN L m (meantS (.join m f g wi) L evs)) evs ∧ StrR H5 (putK kvS (.inr m) (.ref r)) (putN L m (meantS (.join m f g wi) L evs)) s.nm := st5
          have lp : (putK kvS (.inr m) (.ref r)).length ≤ kvS.length + 1 := lp
          generalize putN L m (meantS (.join m f g wi) L evs) = L' at fe td5 st5
          generalize putK kvS (.inr m) (.ref r) = kvS' at fe eS5 st5 lp
          refine ⟨_,rfl,by decide,by decide,?_⟩
          refine comp_rangeN (lo := 0) (n := 2) (fun j τ acc H' => (∃ o,τ = [o,some (.ref dS),some (.ref a)]) ∧ Same H5 H' ∧ Paired (fun x kss => ∃ r,x = .ref r ∧ H r = none ∧ SrtR H' r kss) acc ([(L' f).map kpK,(L' g).map kpK].take j)) (by omega) ⟨⟨none,rfl⟩,Same.refl _,.nil⟩ ?_ ?_
          · rintro j τ acc H6 R1 hj _ ⟨⟨o,rfl⟩,s6,pr6⟩ k1
            obtain ⟨x,hx,ex,et⟩ : ∃ x,x ∈ [f,g] ∧ atI ((Stp.join m f g wi).key.map kV) (2 + (0 + (j : Int))) = some (.str x) ∧ [(L' f).map kpK,(L' g).map kpK][j]? = some ((L' x).map kpK) := by
              match j,hj with
              | 0,_ => exact ⟨f,.head _,atI_nat (j := 2) rfl,rfl⟩
              | 1,_ => exact ⟨g,.tail _ (.head _),atI_nat (j := 3) rfl,rfl⟩
            obtain ⟨rx,v,⟨xs,ex1,hw⟩,lx⟩ := fe x hx
            have lxs := hw.len
            rw [List.length_map] at lxs
            refine ⟨_,rfl,_,rfl,_,rfl,_,_,rfl,rfl,a,_,_,_,rfl,rfl,SqT.of (s6 _ _ ea5),ex,dS,_,rfl,by rw [← v]; exact DGet.k (k := .inr x) (s6 _ _ eS5),rx,rfl,⟨_,SqL.of (s6 _ _ ex1)⟩,?_⟩
            refine comp_listN (K := K) (xs := xs) (fun i τ acc H' => (∃ o,τ = [o]) ∧ Same H6 H' ∧ Rws H' acc (((L' x).take i).map kpK)) (by omega) ⟨⟨none,rfl⟩,Same.refl _,rws_nil _⟩ (fun i τ acc H' ⟨_,s,_⟩ => SqL.of (s _ _ (s6 _ _ ex1))) ?_ ?_
            · rintro i y τ acc H7 R2 hy _ ⟨⟨o,rfl⟩,s7,hw7⟩ k2
              obtain ⟨b,ks,rfl,ek,eb⟩ := hw.at hy
              rw [List.getElem?_map] at ek
              obtain ⟨⟨t,zz,am⟩,ei,rfl⟩ := Option.map_eq_some_iff.mp ek
              have b7 : SqT K H7 b _ := SqT.of (s7 _ _ (s6 _ _ eb))
              refine ⟨_,rfl,b,_,_,_,rfl,rfl,b7,atI_nat (j := 1) rfl,_,rfl,b,_,_,_,rfl,rfl,b7,atI_nat (j := 0) rfl,_,rfl,b,_,_,_,rfl,rfl,b7,atI_nat (j := 2) rfl,Nat.le_of_ble_eq_true rfl,fun p2 hp2 => k2 _ _ _ ⟨⟨_,rfl⟩,s7.upd hp2,?_⟩⟩
              rw [List.take_add_one,ei,List.map_append]
              exact (hw7.keep (Same.upd' hp2).tp).snoc (ks := kpK (t,zz,am)) upd_same
            · rintro τ acc2 H7 la ⟨_,s7,hw7⟩ D hD
              rw [List.take_of_length_le (by omega)] at hw7
              have s8 := s7.upd (o := .lst acc2) hD
              have eD : (upd H7 D (.lst acc2)) D = some (.lst acc2) := upd_same
              have hw8 := hw7.keep (Same.upd' (o := .lst acc2) hD).tp
              generalize upd H7 D (.lst acc2) = H8 at s8 eD hw8 ⊢
              refine ⟨D,acc2,_,rfl,SqL.of eD,hw8.sorts (sh := [false,true,true]) (by simp) (fun ks hk => ?_),fun l qs hl pq sq => k1 _ _ _ ⟨⟨_,rfl⟩,s6.trans (s8.upd hl),?_⟩⟩
              · obtain ⟨i,_,rfl⟩ := List.mem_map.mp hk
                rfl
              · rw [List.take_add_one,et]
                refine paired_app (paired_imp (fun x kss ⟨r,e,f,q⟩ => ⟨r,e,f,q.keep (same_l (s8.upd hl))⟩) pr6) (.cons ⟨l,rfl,(s5.trans (s6.trans s8)).free hl,srt_of hw8 hl pq sq⟩ .nil)
          · rintro τ acc H6 la ⟨_,s6,pr6⟩ D hD
            obtain ⟨r0,r1,rfl,f0,f1,q0,q1⟩ : ∃ r0 r1,acc = [.ref r0,.ref r1] ∧ H r0 = none ∧ H r1 = none ∧ SrtR H6 r0 ((L' f).map kpK) ∧ SrtR H6 r1 ((L' g).map kpK) := by
              cases pr6 with
              | cons a b =>
                cases b with
                | cons b c =>
                  cases c
                  obtain ⟨r0,rfl,f0,q0⟩ := a
                  obtain ⟨r1,rfl,f1,q1⟩ := b
                  exact ⟨r0,r1,rfl,f0,f1,q0,q1⟩
            have gD := Same.upd' (o := .lst [V.ref r0,.ref r1]) hD
            have eD : (upd H6 D (.lst [V.ref r0,.ref r1])) D = some (.lst [V.ref r0,.ref r1]) := upd_same
            generalize upd H6 D (.lst [V.ref r0,.ref r1]) = H7 at gD eD ⊢
            have s57 := s6.trans gD
            have eK7 := s57 _ _ eK5
            refine ⟨_,rfl,_,rfl,dK,_,rfl,DPut.k (k := .inl (n : Int)) eK7 (by omega),?_⟩
            have sp := samel_put (kvs' := putK kvK (.inl (n : Int)) (.ref D)) eK7
            have s8 : Same H (upd H7 dK (.dK (putK kvK (.inl (n : Int)) (.ref D)))) := (s5.trans s57).updN fK
            have eS8 : (upd H7 dK (.dK (putK kvK (.inl (n : Int)) (.ref D)))) dS = some (.dK kvS') := by rw [upd_ne nSK]; exact s57 _ _ eS5
            have eT8 : (upd H7 dK (.dK (putK kvK (.inl (n : Int)) (.ref D)))) dT = some (.dK kvT) := by rw [upd_ne nTK]; exact s57 _ _ eT5
            have lk := putK_len kvK (.inl (n : Int)) (.ref D)
            have sl := (same_l s57).trans sp
            exact ⟨_,_,kvS',kvT,_,L',rfl,s8,eS8,eT8,upd_same,⟨by omega,by omega,by omega⟩,(td5.keep sl).next es (.inl ⟨tf,rfl⟩) (.inr ⟨m,f,g,wi,D,r0,r1,rfl,⟨(s5.trans s6).free hD,f0,f1⟩,rfl,sp.lst eD,q0.keep ((same_l gD).trans sp),q1.keep ((same_l gD).trans sp)⟩),fun i s hi ei t => ⟨(st5 i s hi ei t).1,(st5 i s hi ei t).2.keepL sl⟩⟩
        · exact ⟨_,_,_,kvT,kvK,_,rfl,s5,eS5,eT5,eK5,⟨by omega,by omega,by omega⟩,td5.next es (.inl ⟨tf,rfl⟩) (.inl ⟨fun m a b wi e => q4 (by rw [e]; rfl),rfl⟩),st5⟩
    · rintro σ H1 ⟨o5,o6,kvS,kvT,kvK,L,rfl,s1,eS1,eT1,eK1,_,td1,st1⟩
      rw [lps] at td1 st1
      refine ⟨_,rfl,_,rfl,Nat.le_of_ble_eq_true rfl,fun q hq => ?_⟩
      have g2 := Same.upd' (o := .tup [V.ref dT,.ref dK]) hq
      refine k q dT dK _ L kvT kvK (s1.trans g2) fT fK nTK upd_same (g2 _ _ eT1) (g2 _ _ eK1) (td1.keep (same_l g2)) fun i s ei t => ?_
      obtain ⟨u1,_,_,_,u2⟩ := st1 i s (List.getElem?_eq_some_iff.mp ei).1 ei t
      exact ⟨u1,u2⟩
theorem tells_mem {ss : List Stp} {bt : Str → List It} : ∀ {n : Nat} {p : Int × It},p ∈ tellsN ss bt n → ∃ (i : Nat) (s : Stp),p.1 = (i : Int) ∧ i < n ∧ ss[i]? = some s ∧ s.tell = true ∧ p.2 ∈ bt s.nm
  | 0,p,h => by cases h
  | n + 1,p,h => by
    unfold tellsN at h
    rcases List.mem_append.mp h with h | h
    · obtain ⟨i,s,e,l,r⟩ := tells_mem h
      exact ⟨i,s,e,by omega,r⟩
    · cases es : ss[n]? with
      | none => rw [es] at h; cases h
      | some s =>
        rw [es] at h
        have h : p ∈ (if s.tell = true then (bt s.nm).map fun i => ((n : Int),i) else []) := h
        cases ht : s.tell with
        | false => rw [ht,if_neg Bool.false_ne_true] at h; cases h
        | true =>
          rw [if_pos ht] at h
          obtain ⟨i,hi,rfl⟩ := List.mem_map.mp h
          exact ⟨n,s,rfl,by omega,es,ht,hi⟩
theorem tells_sorted {ss : List Stp} {bt : Str → List It} : ∀ n : Nat,((tellsN ss bt n).map Prod.fst).Pairwise (· ≤ ·)
  | 0 => .nil
  | n + 1 => by
    unfold tellsN
    rw [List.map_append]
    refine List.pairwise_append.mpr ⟨tells_sorted n,?_,fun a ha b hb => ?_⟩
    · cases es : ss[n]? with
      | none => exact .nil
      | some s =>
        show ((if s.tell = true then (bt s.nm).map fun i => ((n : Int),i) else []).map Prod.fst).Pairwise (· ≤ ·)
        split
        · rw [List.map_map,List.pairwise_map]
          exact List.pairwise_iff_getElem.mpr fun _ _ _ _ _ => Int.le_refl _
        · exact .nil
    · obtain ⟨p,hp,rfl⟩ := List.mem_map.mp ha
      obtain ⟨i,s,e,l,_⟩ := tells_mem hp
      obtain ⟨q,hq,rfl⟩ := List.mem_map.mp hb
      have : q.1 = (n : Int) := by
        cases es : ss[n]? with
        | none => rw [es] at hq; cases hq
        | some s =>
          rw [es] at hq
          have hq : q ∈ (if s.tell = true then (bt s.nm).map fun i => ((n : Int),i) else []) := hq
          split at hq
          · obtain ⟨i,hi,rfl⟩ := List.mem_map.mp hq
            rfl
          · cases hq
      omega
theorem tells_filter {ss : List Stp} {bt : Str → List It} {i : Nat} {s : Stp} (ei : ss[i]? = some s) (ht : s.tell = true) : ∀ {n : Nat},i < n → ((tellsN ss bt n).filter fun p => decide (p.1 = (i : Int))).map Prod.snd = bt s.nm
  | 0,h => absurd h (Nat.not_lt_zero _)
  | n + 1,h => by
    unfold tellsN
    rw [List.filter_append,List.map_append]
    by_cases hin : i = n
    · subst hin
      rw [ei]
      show _ ++ ((if s.tell = true then (bt s.nm).map fun j => ((i : Int),j) else []).filter _).map Prod.snd = _
      rw [if_pos ht]
      have h1 : (tellsN ss bt i).filter (fun p => decide (p.1 = (i : Int))) = [] := by
        rw [List.filter_eq_nil_iff]
        intro p hp
        obtain ⟨j,t,e,l,_⟩ := tells_mem hp
        rw [decide_eq_true_eq]
        omega
      have h2 : ((bt s.nm).map fun j => ((i : Int),j)).filter (fun p => decide (p.1 = (i : Int))) = (bt s.nm).map fun j => ((i : Int),j) := by
        rw [List.filter_eq_self]
        intro p hp
        obtain ⟨j,_,rfl⟩ := List.mem_map.mp hp
        exact decide_eq_true rfl
      rw [h1,h2,List.map_map]
      show [] ++ (bt s.nm).map id = _
      rw [List.map_id,List.nil_append]
    · rw [tells_filter ei ht (n := n) (by omega)]
      have h1 : ((match ss[n]? with | some s => if s.tell = true then (bt s.nm).map fun j => ((n : Int),j) else [] | none => []) : List (Int × It)).filter (fun p => decide (p.1 = (i : Int))) = [] := by
        rw [List.filter_eq_nil_iff]
        intro p hp
        have : p.1 = (n : Int) := by
          cases es : ss[n]? with
          | none => rw [es] at hp; cases hp
          | some s =>
            rw [es] at hp
            have hp : p ∈ (if s.tell = true then (bt s.nm).map fun i => ((n : Int),i) else []) := hp
            split at hp
            · obtain ⟨i,hi,rfl⟩ := List.mem_map.mp hp
              rfl
            · cases hp
        rw [decide_eq_true_eq]
        omega
      exact (congrArg (fun l => bt s.nm ++ List.map Prod.snd l) h1).trans (List.append_nil _)
def unV : List Key → V
  | [.inl n] => .int n
  | _ => .non
theorem sorted_ints {ns : List Int} {qs : List (V × List Key)} (p : qs.Perm ((ns.map V.int).zip (ns.map fun n => [.inl n]))) (sq : (qs.map (·.2)).Pairwise (fun a b => lexK b a = false)) (hs : ns.Pairwise (· ≤ ·)) : qs.map (·.1) = ns.map V.int := by
  have ez : (ns.map V.int).zip (ns.map fun n => ([.inl n] : List Key)) = ns.map fun n => (V.int n,[.inl n]) := by
    rw [List.zip_map']
  rw [ez] at p
  have p2 := p.map (·.2)
  rw [List.map_map] at p2
  have sd : Sd (ns.map fun n => ([.inl n] : List Key)) := by
    unfold Sd
    rw [List.pairwise_map]
    refine hs.imp fun {a b} h => ?_
    show (if (Sum.inl b : Key) = .inl a then lexK [] [] else kLt (.inl b) (.inl a)) = false
    split
    · rfl
    · show decide (b < a) = false
      exact decide_eq_false (by omega)
  have e2 := sd_unique p2 sq sd
  have e1 : qs.map (·.1) = (qs.map (·.2)).map unV := by
    rw [List.map_map]
    refine List.map_congr_left fun q hq => ?_
    obtain ⟨n,_,rfl⟩ := List.mem_map.mp (p.mem_iff.mp hq)
    rfl
  rw [e1,e2,List.map_map]
  rfl
theorem meant_as {ss : List Stp} (ok : PlanOk ss) {L : Str → List It} {evs : List Ev} (ha : ∀ e ∈ evs,AS e.2.2.1) (hm : ∀ (i : Nat) s,ss[i]? = some s → s.tell = false → L s.nm = meantS s L evs) :
    ∀ (m i : Nat) s,i < m → ss[i]? = some s → s.tell = false → ∀ j ∈ L s.nm,AS j.2.1
  | 0,i,s,hi,_,_ => absurd hi (Nat.not_lt_zero _)
  | m + 1,i,s,hi,ei,ht => by
    have f : ∀ a ∈ s.feeds,∀ j ∈ L a,AS j.2.1 := fun a ha' => by
      obtain ⟨i',s',l,e',rfl,t'⟩ := ok.fed i s a ei ha'
      exact meant_as ok ha hm m i' s' (by omega) e' t'
    intro j hj
    rw [hm i s ei ht] at hj
    cases s with
    | take n k =>
      have hj : j ∈ (evs.filter fun e => decide (e.2.1 = k)).map evI := hj
      obtain ⟨e,he,rfl⟩ := List.mem_map.mp hj
      exact ha e (List.mem_filter.mp he).1
    | only n a lo hi => exact f a (.head _) j (List.mem_filter.mp hj).1
    | turn n a x y =>
      have hj : j ∈ (L a).map (trnI x y) := hj
      obtain ⟨i,hi,rfl⟩ := List.mem_map.mp hj
      exact f a (.head _) i hi
    | both n a b =>
      rcases List.mem_append.mp (show j ∈ L b ++ L a from hj) with h | h
      · exact f b (.tail _ (.head _)) j h
      · exact f a (.head _) j h
    | join n a b wi =>
      have hj : j ∈ crossI wi (L a) (L b) := hj
      obtain ⟨i,hi,h⟩ := List.mem_flatMap.mp hj
      obtain ⟨i2,_,rfl⟩ := List.mem_map.mp h
      exact f a (.head _) i hi
    | gap => cases ht
    | each => cases ht
def spComes : Sp := fun vs H Q _ => ∃ (m dB dT : Addr) (xs : List V) (ss : List Stp) (bt L L' : Str → List It) (kvB kvX kvT kvK : List (Key × V)) (F F' : Addr → Prop),vs = [.ref m,.ref dB,.ref dT] ∧ H m = some (.lst xs) ∧ Its H xs (tellsN ss bt ss.length) ∧ xs.length ≤ 20000 ∧ dB ≠ dT ∧ Rd H dB (.dK kvB) ∧ H dT = some (.dK kvT) ∧
  TdR F H ss L ss.length kvB kvX ∧ TdR F' H ss L' ss.length kvT kvK ∧
  (∀ (i : Nat) s,ss[i]? = some s → s.tell = true → ∃ a ∈ s.feeds,bt s.nm = bt a ∧ (L' a).Perm (L a ++ bt a) ∧ (L' a).length ≤ 600 ∧ ∀ j ∈ L' a,AS j.2.1) ∧
  ∀ H' o,SameX dT H H' → H' dT = some (.frz o (.dK kvT)) → Q (.bl true) H'
theorem ok_comes (T : Tx K mg ad) : FnOk P w K mg base CX0 1 ad.a_ucomes ad.d_ucomes ["_law_found", "_law_before", "_law_behind"] spComes := by
  refine T.F_ucomes.ok sc_ucomes (fun vs H Q E h => ?_) (fun cdv A outer s H vs Q E hr h => ?_)
  · obtain ⟨m,dB,dT,xs,ss,bt,L,L',kvB,kvX,kvT,kvK,F,F',rfl,_⟩ := h
    rfl
  · obtain ⟨m,dB,dT,xs,ss,bt,L,L',kvB,kvX,kvT,kvK,F,F',rfl,em,its,lx,nBT,rB,eT,tdB,tdT,hbr,k⟩ := h
    have nd := sc_ucomes.nd
    refine ⟨_,(pss_cons (ps_if (PW.pt (pw_or (pt_not (pt_val (pe_callB (call_isinst (K := K)) (by rfl) T.z_isinstance PyProof.Rows.boot_isinstance (pa_cons (pv 0) (pa_cons (pe_bltn (v := .ty "list") (by rfl) T.z_list PyProof.Rows.boot_list rfl) pa_nil))))) (pw_or1 (pt_cmpR (op_neD (K := K) hr.units) (pe_comp1 (osc := defScope s_ucomes) [] rfl (pi_listK (K := K) (pv 0)) rfl rfl (by decide +kernel) (by decide +kernel) (by decide +kernel) trivial rfl (by decide +kernel) (fun _ _ _ _ => pts_nil) (fun _ _ _ _ => (pe_ix (ix_tupK (K := K)) (pv 0) pe_int (fun _ _ => rfl)))) (pe_callB (call_sortedL (K := K)) (by rfl) T.z_sorted PyProof.Rows.boot_sorted (pa_cons (pe_comp1 (osc := defScope s_ucomes) [] rfl (pi_listK (K := K) (pv 0)) rfl rfl (by decide +kernel) (by decide +kernel) (by decide +kernel) trivial rfl (by decide +kernel) (fun _ _ _ _ => pts_nil) (fun _ _ _ _ => (pe_ix (ix_tupK (K := K)) (pv 0) pe_int (fun _ _ => rfl)))) pa_nil)) (nomark _)))))
        (pss_one (ps_ret pe_bl))
        pss_nil)
        (pss_cons (ps_for PassesOwn.never rfl (pi_listK (K := K) (pv 0)) (pg_name (i := 3) nd rfl (Or.inl rfl))
        (pss_one (ps_if (PW.pt (pw_or (pt_not (pt_val (pe_callB (call_isinst (K := K)) (by rfl) T.z_isinstance PyProof.Rows.boot_isinstance (pa_cons (pv 3) (pa_cons (pe_bltn (v := .ty "tuple") (by rfl) T.z_tuple PyProof.Rows.boot_tuple rfl) pa_nil))))) (pw_or (pt_cmpR op_ne (pe_callB (call_len_seqK (K := K)) (by rfl) T.z_len PySem.boot_len (pa_cons (pv 3) pa_nil)) pe_int (nomark _)) (pw_or (pt_cmp (pc_dnotin hr.u1 (pe_ix (ix_tupK (K := K)) (pv 3) pe_int (fun _ _ => rfl)) (pv 2))) (pw_or1 (pt_not (pt_val (pe_callB (call_isinst (K := K)) (by rfl) T.z_isinstance PyProof.Rows.boot_isinstance (pa_cons (pe_ix (ix_tupK (K := K)) (pv 3) pe_int (fun _ _ => rfl)) (pa_cons (pe_bltn (v := .ty "tuple") (by rfl) T.z_tuple PyProof.Rows.boot_tuple rfl) pa_nil))))))))))
        (pss_one (ps_ret pe_bl))
        pss_nil)))
        (pss_cons (ps_for PassesOwn.never rfl (pi_dictK (pv 2)) (pg_name (i := 4) nd rfl (Or.inr rfl))
        (pss_cons (ps_set (i := 5) nd rfl (Or.inl rfl) (pe_op op_cat (pe_dget hr.u1 (pv 1) (pv 4) (fun _ _ => rfl)) (pe_comp1 (osc := defScope s_ucomes) [("_law_place", 4)] rfl (pi_listK (K := K) (pv 0)) rfl rfl (by decide +kernel) (by decide +kernel) (by decide +kernel) ⟨rfl,rfl,trivial⟩ rfl (by decide +kernel) (fun _ _ _ _ => pts_one (pt_cmpR op_eq (pe_ix (ix_tupK (K := K)) (pv 0) pe_int (fun _ _ => rfl)) (pv 1) (nomark _))) (fun _ _ _ _ => (pe_ix (ix_tupK (K := K)) (pv 0) pe_int (fun _ _ => rfl))))))
        (pss_one (ps_if (pt_cmpR (op_neD (K := K) hr.units) (pe_callB (call_sortedL (K := K)) (by rfl) T.z_sorted PyProof.Rows.boot_sorted (pa_cons (pv 5) pa_nil)) (pe_dget hr.u1 (pv 2) (pv 4) (fun _ _ => rfl)) (nomark _))
        (pss_one (ps_ret pe_bl))
        pss_nil))))
        (pss_one (ps_ret pe_bl))))),?_⟩
    have sz : sizeLine = 16777216 := sizeLine_eq
    have lxs := its.len
    generalize hts : tellsN ss bt ss.length = ts at its lxs
    have sm : (ts.map Prod.fst).Pairwise (· ≤ ·) := by rw [← hts]; exact tells_sorted _
    refine ⟨_,rfl,_,_,_,true,rfl,.lst em,rfl,_,rfl,iteF ⟨_,rfl,m,rfl,⟨_,SqL.of em⟩,?_⟩⟩
    refine comp_listN (K := K) (xs := xs) (fun i τ acc H' => (∃ o,τ = [o]) ∧ H' = H ∧ acc = ((ts.take i).map Prod.fst).map V.int) (by omega) ⟨⟨none,rfl⟩,rfl,rfl⟩ (fun i τ acc H' ⟨_,e,_⟩ => by rw [e]; exact SqL.of em) ?_ ?_
    · rintro i x τ acc H' R1 hx _ ⟨⟨o,rfl⟩,rfl,rfl⟩ k1
      obtain ⟨a,q,pl,it,rfl,ep,ea,eq⟩ := its.at hx
      refine ⟨_,rfl,a,_,_,_,rfl,rfl,SqT.of ea,atI_nat (j := 0) rfl,k1 _ _ _ ⟨⟨_,rfl⟩,rfl,?_⟩⟩
      rw [List.take_add_one,ep,List.map_append,List.map_append]
      rfl
    · rintro τ acc H' la ⟨_,rfl,rfl⟩ D hD
      rw [List.take_of_length_le (by omega)]
      have g1 := Same.upd' (o := .lst ((ts.map Prod.fst).map V.int)) hD
      have e1 : (upd H' D (.lst ((ts.map Prod.fst).map V.int))) D = some (.lst ((ts.map Prod.fst).map V.int)) := upd_same
      generalize upd H' D (.lst ((ts.map Prod.fst).map V.int)) = H1 at g1 e1 ⊢
      refine ⟨_,rfl,m,rfl,⟨_,SqL.of (g1 _ _ em)⟩,?_⟩
      refine comp_listN (K := K) (xs := xs) (fun i τ acc H2 => (∃ o,τ = [o]) ∧ H2 = H1 ∧ acc = ((ts.take i).map Prod.fst).map V.int) (by omega) ⟨⟨none,rfl⟩,rfl,rfl⟩ (fun i τ acc H' ⟨_,e,_⟩ => by rw [e]; exact SqL.of (g1 _ _ em)) ?_ ?_
      · rintro i x τ acc H2 R1 hx _ ⟨⟨o,rfl⟩,rfl,rfl⟩ k1
        obtain ⟨a,q,pl,it,rfl,ep,ea,eq⟩ := its.at hx
        refine ⟨_,rfl,a,_,_,_,rfl,rfl,SqT.of (g1 _ _ ea),atI_nat (j := 0) rfl,k1 _ _ _ ⟨⟨_,rfl⟩,rfl,?_⟩⟩
        rw [List.take_add_one,ep,List.map_append,List.map_append]
        rfl
      · rintro τ acc H2 la ⟨_,rfl,rfl⟩ D2 hD2
        rw [List.take_of_length_le (by omega)]
        have g2 := Same.upd' (o := .lst ((ts.map Prod.fst).map V.int)) hD2
        have e2 : (upd H2 D2 (.lst ((ts.map Prod.fst).map V.int))) D2 = some (.lst ((ts.map Prod.fst).map V.int)) := upd_same
        generalize upd H2 D2 (.lst ((ts.map Prod.fst).map V.int)) = H3 at g2 e2 ⊢
        refine ⟨D2,_,_,rfl,SqL.of e2,.cI _,fun l qs hl pq sq => ?_⟩
        rw [sorted_ints pq sq sm]
        have g3 := Same.upd' (o := .lst ((ts.map Prod.fst).map V.int)) hl
        have e3 : (upd H3 l (.lst ((ts.map Prod.fst).map V.int))) l = some (.lst ((ts.map Prod.fst).map V.int)) := upd_same
        generalize upd H3 l (.lst ((ts.map Prod.fst).map V.int)) = H4 at g3 e3 ⊢
        have s4 := g1.trans (g2.trans g3)
        refine neD_same (.lst (SqL.of (g3 _ _ (g2 _ _ e1))) (dvs_ints _)) (.lst (SqL.of e3) (dvs_ints _)) (shaped_ints _) ⟨_,rfl,iteF ?_⟩
        refine ⟨_,rfl,m,rfl,⟨_,SqL.of (s4 _ _ em)⟩,for_list (K := K) (xs := xs) (fun n σ H5 => ∃ o3,σ = [some (.ref m),some (.ref dB),some (.ref dT),o3,none,none] ∧ H5 = H4) ⟨none,rfl,rfl⟩ (fun n σ H5 _ ⟨_,_,e⟩ => by rw [e]; exact SqL.of (s4 _ _ em)) ?_ ?_⟩
        · rintro n x σ H5 hx ⟨o3,rfl,rfl⟩
          obtain ⟨a,q,pl,it,rfl,ep,ea,eq⟩ := its.at hx
          have pm : (pl,it) ∈ tellsN ss bt ss.length := by rw [hts]; exact List.mem_of_getElem? ep
          obtain ⟨i,st,e,li,ei,ht,_⟩ := tells_mem pm
          have e : pl = (i : Int) := e
          subst e
          obtain ⟨f,hf,_⟩ := hbr i st ei ht
          obtain ⟨r,_,v,_⟩ := tdT.tell i st f li ei ht hf
          have ea5 := s4 _ _ ea
          refine ⟨_,rfl,_,_,_,true,rfl,.tup ea5,rfl,_,rfl,iteF ⟨_,rfl,a,_,rfl,.inr (SqT.of ea5),rfl,_,rfl,iteE0 (by show (!decide (V.int 2 = V.int 2)) = false; simp) ?_⟩⟩
          refine ⟨_,rfl,a,_,_,_,rfl,rfl,SqT.of ea5,atI_nat (j := 0) rfl,_,rfl,dT,some (.ref r),rfl,by rw [← v]; exact DGet.k (k := .inl (i : Int)) (s4 _ _ eT),_,rfl,iteF ?_⟩
          exact ⟨_,rfl,a,_,_,_,rfl,rfl,SqT.of ea5,atI_nat (j := 1) rfl,_,_,_,true,rfl,.tup (s4 _ _ eq),rfl,_,rfl,iteF ⟨_,rfl,rfl⟩⟩
        · rintro σ H5 ⟨o3,rfl,rfl⟩
          refine ⟨_,rfl,dT,kvT,rfl,.inl (s4 _ _ eT),fun o H6 eT0 ne0 => ?_⟩
          have sx0 : SameX dT H' H6 := fun b ob hb e => by rw [ne0 b hb]; exact s4 _ _ e
          have sl : ∀ {G : Hp},SameX dT H' G → SameL H' G := fun s b ob e n => s b ob (fun z => by rw [z,eT] at e; exact n _ (Option.some.inj e).symm) e
          refine for_dictK (fun n σ G => ∃ o4 o5,σ = [some (.ref m),some (.ref dB),some (.ref dT),o3,o4,o5] ∧ SameX dT H' G ∧ G dT = some (.frz o (.dK kvT))) ⟨none,none,rfl,sx0,eT0⟩ (fun n σ G _ ⟨_,_,_,_,e⟩ => e) ?_ ?_
          · rintro n ⟨pk,pv⟩ σ G hp ⟨o4,o5,rfl,sx,eG⟩
            obtain ⟨i,st,e,li,ei,ht⟩ := tdT.keys _ (List.mem_of_getElem? hp)
            have e : pk = .inl (i : Int) := e
            subst e
            obtain ⟨f,hf,bf,pf,lf,af⟩ := hbr i st ei ht
            obtain ⟨rb,_,vb,kb⟩ := tdB.tell i st f li ei ht hf
            obtain ⟨rt,_,vt,kt⟩ := tdT.tell i st f li ei ht hf
            obtain ⟨xb,ksb,eb,wb,pb,_⟩ := kb.keep (sl sx)
            have lpf := pf.length_eq
            rw [List.length_append] at lpf
            have lxb := wb.len
            have lpb := pb.length_eq
            rw [List.length_map] at lpb
            have em6 := (sl sx).lst em
            have its6 := its.keep (sl sx).tp
            have rB6 : Rd G dB (.dK kvB) := rd_map rB fun ob e => sx dB ob nBT e
            refine ⟨_,rfl,_,rfl,dB,.ref rb,rfl,by rw [← vb]; exact .inl ⟨kvB,.inl (i : Int),rB6,rfl,rfl⟩,_,rfl,m,rfl,⟨_,SqL.of em6⟩,?_⟩
            refine comp_list (K := K) (xs := xs) (fun j τ acc H' => (∃ o,τ = [o,some (.int (i : Int))]) ∧ H' = G ∧ Rws G acc ((((ts.take j).filter fun p => decide (p.1 = (i : Int))).map Prod.snd).map itK)) (by omega) ⟨⟨none,rfl⟩,rfl,rws_nil _⟩ (fun j τ acc H' ⟨_,e,_⟩ => by rw [e]; exact SqL.of em6) ?_ ?_
            · rintro j y τ acc H7 R1 R0 hy _ ⟨⟨oo,rfl⟩,rfl,hw⟩ k1 k0
              obtain ⟨a,q,pl,it,rfl,ep,ea,eq⟩ := its6.at hy
              have fs := filt_snoc' (p := fun p : Int × It => decide (p.1 = (i : Int))) ep
              refine ⟨_,rfl,a,_,_,_,rfl,rfl,SqT.of ea,atI_nat (j := 0) rfl,_,rfl,rfl,_,rfl,iteVI (fun h => ?_) fun h => k0 _ _ ⟨⟨_,rfl⟩,rfl,by rw [fs,if_neg (by rw [decide_eq_true_eq]; exact h),List.append_nil]; exact hw⟩⟩
              refine ⟨_,rfl,a,_,_,_,rfl,rfl,SqT.of ea,atI_nat (j := 1) rfl,k1 _ _ _ ⟨⟨_,rfl⟩,rfl,?_⟩⟩
              rw [fs,if_pos (by rw [decide_eq_true_eq]; exact h),List.map_append,List.map_append]
              exact hw.snoc (ks := itK it) eq
            · rintro τ acc H7 la ⟨_,rfl,hw⟩ D hD
              rw [List.take_of_length_le (by omega),← hts,tells_filter ei ht li,bf] at hw
              have lac := hw.len
              rw [List.length_map] at lac
              have g1 := Same.upd' (o := .lst acc) hD
              have eD : (upd H7 D (.lst acc)) D = some (.lst acc) := upd_same
              generalize upd H7 D (.lst acc) = H8 at g1 eD ⊢
              refine ⟨rb,D,xb,acc,rfl,rfl,g1 _ _ eb,eD,by omega,fun l hl => ?_⟩
              have g2 := Same.upd' (o := .lst (xb ++ acc)) hl
              have el : (upd H8 l (.lst (xb ++ acc))) l = some (.lst (xb ++ acc)) := upd_same
              have s78 := g1.trans g2
              have wl : Rws (upd H8 l (.lst (xb ++ acc))) (xb ++ acc) (ksb ++ (bt f).map itK) := paired_app (wb.keep s78.tp) (hw.keep s78.tp)
              generalize upd H8 l (.lst (xb ++ acc)) = H9 at g2 el wl s78 ⊢
              have pw : (ksb ++ (bt f).map itK).Perm ((L' f).map itK) := by
                refine (pb.append (.refl _)).trans ?_
                rw [← List.map_append]
                exact (pf.map itK).symm
              refine ⟨_,rfl,l,_,_,rfl,SqL.of el,wl.sorts (sh := [true,false,true]) (by simp) (fun ks hk => ?_),fun l2 qs hl2 pq sq => ?_⟩
              · obtain ⟨i,_,rfl⟩ := List.mem_map.mp (pw.mem_iff.mp hk)
                rfl
              obtain ⟨x2,k2,e2,w2,p2,d2⟩ := srt_of wl hl2 pq sq
              have g3 := Same.upd' (o := .lst (qs.map (·.1))) hl2
              generalize upd H9 l2 (.lst (qs.map (·.1))) = H10 at e2 w2 g3 ⊢
              have s710 := s78.trans g3
              have sx10 : SameX dT H' H10 := sx.trans (s710.x dT)
              obtain ⟨xt,k3,e3,w3,p3,d3⟩ := kt.keep (sl sx10)
              have ek : k2 = k3 := sd_unique ((p2.trans pw).trans p3.symm) d2 d3
              subst ek
              refine ⟨_,rfl,_,rfl,dT,.ref rt,rfl,by rw [← vt]; exact .inl ⟨kvT,.inl (i : Int),.inr ⟨o,s710 _ _ eG⟩,rfl,rfl⟩,neD_same (w2.dv e2) (w3.dv e3) (shaped_rows fun ks hk => ?_) ⟨_,rfl,iteF ⟨_,_,rfl,sx10,s710 _ _ eG⟩⟩⟩
              obtain ⟨j,hj,rfl⟩ := List.mem_map.mp (p3.mem_iff.mp hk)
              exact (it_ok (af j hj)).1
          · rintro σ G ⟨o4,o5,rfl,sx,eG⟩
            exact k G o sx eG
theorem take_at {α : Type} {l : List α} {n i : Nat} {x : α} (h : (l.take n)[i]? = some x) : i < n ∧ l[i]? = some x := by
  have hi := (List.getElem?_eq_some_iff.mp h).1
  rw [List.length_take] at hi
  have hn : i < n := by omega
  rw [List.getElem?_take_of_lt hn] at h
  exact ⟨hn,h⟩
theorem take_of {α : Type} {l : List α} {n i : Nat} {x : α} (hn : i < n) (h : l[i]? = some x) : (l.take n)[i]? = some x := by rw [List.getElem?_take_of_lt hn]; exact h
theorem isJ_take {ss : List Stp} {n i : Nat} (h : isJ (ss.take n) i) : i < n ∧ isJ ss i := by
  obtain ⟨m,a,b,wi,e⟩ := h
  obtain ⟨l,e⟩ := take_at e
  exact ⟨l,m,a,b,wi,e⟩
theorem isJ_of {ss : List Stp} {n i : Nat} (hn : i < n) (h : isJ ss i) : isJ (ss.take n) i := by
  obtain ⟨m,a,b,wi,e⟩ := h
  exact ⟨m,a,b,wi,take_of hn e⟩
theorem JoinsR.dks {ex : List Addr} {H : Hp} {ss : List Stp} {dj : Addr} {jkvs : List (Key × V)} {jd : Nat → JD} {sd : Nat → List It × List It} (h : JoinsR ad ex H ss dj jkvs jd sd) {b : Addr} (hb : isD ss jd b) : ∃ kvs,H b = some (.dK kvs) := by
  obtain ⟨i,⟨n,a,b',wi,ei⟩,hb⟩ := hb
  obtain ⟨⟨k0,e0⟩,k1,e1⟩ := (h.join i n a b' wi ei).2.dks
  rcases hb with rfl | rfl
  · exact ⟨_,e0⟩
  · exact ⟨_,e1⟩
theorem JoinsR.add {ex : List Addr} {H Hs : Hp} {ss : List Stp} {n : Nat} {dj : Addr} {jkvs : List (Key × V)} {jd : Nat → JD} {j sl x0 x1 d0 d1 : Addr} {m a b : Str} {wi : Int} (h : JoinsR ad ex H (ss.take n) dj jkvs jd fun _ => ([],[])) (hd : H dj = some (.dK jkvs)) (es : ss[n]? = some (.join m a b wi))
    (s : Same H Hs) (f0 : H d0 = none) (f1 : H d1 = none) (jr : JoinR ad ex Hs j sl x0 x1 d0 d1 wi [] []) :
    JoinsR ad ex (upd Hs dj (.dK (putK jkvs (.inl (n : Int)) (.ref j)))) (ss.take (n + 1)) dj (putK jkvs (.inl (n : Int)) (.ref j)) (fun i => if i = n then ⟨j,sl,x0,x1,d0,d1⟩ else jd i) fun _ => ([],[]) := by
  have sp : SameP (· = dj) Hs (upd Hs dj (.dK (putK jkvs (.inl (n : Int)) (.ref j)))) := fun b o nb e => by rw [upd_ne nb]; exact e
  have hp : ∀ b,b = dj → (b ∈ ex ∧ ∃ xs,Hs b = some (.lst xs)) ∨ ∃ kvs,Hs b = some (.dK kvs) := fun b hb => .inr ⟨jkvs,by rw [hb]; exact s _ _ hd⟩
  have n0 : d0 ≠ dj := (ne_of_none hd f0).symm
  have n1 : d1 ≠ dj := (ne_of_none hd f1).symm
  have old : ∀ {i : Nat},isJ (ss.take (n + 1)) i → i ≠ n → isJ (ss.take n) i := fun {i} hi hn => isJ_of (by have := (isJ_take hi).1; omega) (isJ_take hi).2
  have fr : ∀ {i : Nat},isJ (ss.take n) i → (d0 ≠ (jd i).d0 ∧ d0 ≠ (jd i).d1) ∧ d1 ≠ (jd i).d0 ∧ d1 ≠ (jd i).d1 := fun {i} hi => by
    obtain ⟨k0,e0⟩ := h.dks ⟨i,hi,.inl rfl⟩
    obtain ⟨k1,e1⟩ := h.dks ⟨i,hi,.inr rfl⟩
    exact ⟨⟨(ne_of_none e0 f0).symm,(ne_of_none e1 f0).symm⟩,(ne_of_none e0 f1).symm,(ne_of_none e1 f1).symm⟩
  refine ⟨.inl upd_same,fun i n' a' b' wi' ei => ?_,fun i i' hi hi' hne => ?_,fun i hi => ?_⟩
  · by_cases hin : i = n
    · subst hin
      have e := (take_at ei).2
      rw [es] at e
      cases e
      rw [if_pos rfl]
      exact ⟨by rw [valV_put,if_pos rfl],jr.keepP sp hp n0 n1⟩
    · rw [if_neg hin]
      have ei' : (ss.take n)[i]? = some (.join n' a' b' wi') := take_of (by have := (take_at ei).1; omega) (take_at ei).2
      obtain ⟨v,q⟩ := h.join i n' a' b' wi' ei'
      have nd := h.ndj i ⟨_,_,_,_,ei'⟩
      exact ⟨by rw [valV_put,if_neg (fun z => hin (by have := Sum.inl.inj z; omega))]; exact v,(q.same s).keepP sp hp nd.1.symm nd.2.symm⟩
  · by_cases h1 : i = n
    · subst h1
      have h2 : i' ≠ i := Ne.symm hne
      rw [if_pos rfl,if_neg h2]
      have f := fr (old hi' h2)
      exact ⟨⟨f.1.1.symm,f.2.1.symm⟩,f.1.2.symm,f.2.2.symm⟩
    · by_cases h2 : i' = n
      · subst h2
        rw [if_neg h1,if_pos rfl]
        exact fr (old hi h1)
      · rw [if_neg h1,if_neg h2]
        exact h.apart i i' (old hi h1) (old hi' h2) hne
  · by_cases h1 : i = n
    · subst h1
      rw [if_pos rfl]
      exact ⟨n0.symm,n1.symm⟩
    · rw [if_neg h1]
      exact h.ndj i (old hi h1)
theorem JoinsR.skip {ex : List Addr} {H : Hp} {ss : List Stp} {n : Nat} {s : Stp} {dj : Addr} {jkvs : List (Key × V)} {jd : Nat → JD} {sd : Nat → List It × List It} (h : JoinsR ad ex H (ss.take n) dj jkvs jd sd) (es : ss[n]? = some s) (hn : s.no ≠ 4) : JoinsR ad ex H (ss.take (n + 1)) dj jkvs jd sd := by
  have old : ∀ {i : Nat},isJ (ss.take (n + 1)) i → isJ (ss.take n) i := fun {i} hi => by
    obtain ⟨m,a,b,wi,e⟩ := hi
    obtain ⟨l,e2⟩ := take_at e
    clear e
    have e := e2
    refine ⟨m,a,b,wi,take_of ?_ e⟩
    by_cases q : i = n
    · subst q
      rw [es] at e
      cases e
      exact absurd rfl hn
    · omega
  refine ⟨h.dict,fun i n' a b wi ei => ?_,fun i i' hi hi' => h.apart i i' (old hi) (old hi'),fun i hi => h.ndj i (old hi)⟩
  obtain ⟨m',a',b',wi',e'⟩ := old ⟨n',a,b,wi,ei⟩
  have q := (take_at ei).2
  rw [(take_at e').2] at q
  cases q
  exact h.join i n' a b wi e'
theorem JoinsR.freeze {ex : List Addr} {H H' : Hp} {ss : List Stp} {dj : Addr} {jkvs : List (Key × V)} {jd : Nat → JD} {sd : Nat → List It × List It} {o : Obj} (h : JoinsR ad ex H ss dj jkvs jd sd) (e : H' dj = some (.frz o (.dK jkvs))) (ne : ∀ b,b ≠ dj → H' b = H b) : JoinsR ad ex H' ss dj jkvs jd sd := by
  rcases h.dict with hd | ⟨o',hd⟩
  · refine ⟨.inr ⟨o,e⟩,fun i n a b wi ei => ⟨(h.join i n a b wi ei).1,?_⟩,h.apart,h.ndj⟩
    have nd := h.ndj i ⟨_,_,_,_,ei⟩
    exact (h.join i n a b wi ei).2.keepP (p := (· = dj)) (fun b ob nb eo => by rw [ne b nb]; exact eo) (fun b hb => .inr ⟨jkvs,by rw [hb]; exact hd⟩) nd.1.symm nd.2.symm
  · refine ⟨.inr ⟨o,e⟩,fun i n a b wi ei => ⟨(h.join i n a b wi ei).1,?_⟩,h.apart,h.ndj⟩
    have nd := h.ndj i ⟨_,_,_,_,ei⟩
    obtain ⟨⟨dx,eo⟩,e2,r0,r1,nn,n2⟩ := (h.join i n a b wi ei).2
    have kb : ∀ {b : Addr} {ob : HO},H b = some ob → (∀ o u,ob ≠ .frz o u) → H' b = some ob := fun {b ob} eb nf => by
      rw [ne b fun z => by rw [z,hd] at eb; exact nf _ _ (Option.some.inj eb).symm]
      exact eb
    have tp : Tp H H' := fun b xs eb => kb eb (by intro o u z; cases z)
    exact ⟨⟨dx,kb eo (by intro o u z; cases z)⟩,kb e2 (by intro o u z; cases z),r0.keep (fun C dx fs e => kb e (by intro o u z; cases z)) (fun kvs e => kb e (by intro o u z; cases z)) (fun b xs n e => kb e (by intro o u z; cases z)) tp,
      r1.keep (fun C dx fs e => kb e (by intro o u z; cases z)) (fun kvs e => kb e (by intro o u z; cases z)) (fun b xs n e => kb e (by intro o u z; cases z)) tp,nn,n2⟩
theorem all_perm {ss : List Stp} (ok : PlanOk ss) {L L' bt : Str → List It} {evs : List Ev} {e : Ev} {sd : Nat → List It × List It} (hm : ∀ (i : Nat) s,ss[i]? = some s → s.tell = false → L s.nm = meantS s L evs ∧ L' s.nm = meantS s L' (evs ++ [e]))
    (hS : ∀ (i : Nat) n a b wi,ss[i]? = some (.join n a b wi) → (sd i).1.Perm (L a) ∧ (sd i).2.Perm (L b)) (hb : ∀ (i : Nat) s,ss[i]? = some s → BringS s bt (sd i) e) : ∀ (m i : Nat) s,i < m → ss[i]? = some s → s.tell = false → (L' s.nm).Perm (L s.nm ++ bt s.nm)
  | 0,i,s,hi,_,_ => absurd hi (Nat.not_lt_zero _)
  | m + 1,i,s,hi,ei,ht => bring_perm ht (hm i s ei ht).1 (hm i s ei ht).2 (fun a ha => by
      obtain ⟨i',s',l,e',rfl,t'⟩ := ok.fed i s a ei ha
      exact all_perm ok hm hS hb m i' s' (by omega) e' t') (fun n a b wi q => hS i n a b wi (by rw [← q]; exact ei)) (hb i s ei)
def tpD (p : Int × It) : PyData := .tuple [.int p.1,ktD (itK p.2)]
theorem Its.dvs {K : W.Frag} {H : Hp} : ∀ {xs : List V} {ts : List (Int × It)},Its H xs ts → Dvs K H xs (ts.map tpD)
  | _,_,.nil => .nil
  | _,_,.cons ⟨a,q,e,e1,e2⟩ r => by
    rw [e]
    exact .cons (.tup (SqT.of e1) (.cons (.int _) (.cons (.tup (SqT.of e2) (dvs_keys _)) .nil))) (Its.dvs r)
theorem tpD_ok : ∀ ts : List (Int × It),(∀ p ∈ ts,AS p.2.2.1) → PyData.canLayAll0 (ts.map tpD) = true ∧ PyData.depthAll (ts.map tpD) ≤ 2
  | [],_ => ⟨rfl,Nat.zero_le _⟩
  | p :: ts,h => by
    obtain ⟨a,b⟩ := tpD_ok ts fun q hq => h q (.tail _ hq)
    obtain ⟨c,d⟩ := lay_rows [itK p.2] (by intro ks hk; cases List.mem_singleton.mp hk; exact (it_ok (h p (.head _))).1)
    have c : PyData.canLayAll0 [ktD (itK p.2)] = true := c
    have d : PyData.depthAll [ktD (itK p.2)] ≤ 1 := d
    refine ⟨by simp [tpD,PyData.canLayAll0,PyData.canLay0] at a c ⊢; exact ⟨c,a⟩,?_⟩
    simp [tpD,PyData.depthAll,PyData.depth] at b d ⊢
    omega
theorem shaped_its {ts : List (Int × It)} (h : ∀ p ∈ ts,AS p.2.2.1) : SeqAt.shaped (.list (ts.map tpD)) = true := by
  obtain ⟨a,b⟩ := tpD_ok ts h
  simp [SeqAt.shaped,PyData.canLay0,PyData.depth,a]
  omega
theorem shaped_two {k0 k1 : List (List Key)} (h0 : ∀ ks ∈ k0,ksOk ks = true) (h1 : ∀ ks ∈ k1,ksOk ks = true) : SeqAt.shaped (.list [.list (k0.map ktD),.list (k1.map ktD)]) = true := by
  obtain ⟨a,b⟩ := lay_rows k0 h0
  obtain ⟨c,d⟩ := lay_rows k1 h1
  simp [SeqAt.shaped,PyData.canLay0,PyData.canLayAll0,PyData.depth,PyData.depthAll,a,c]
  omega
theorem key_ok {s : Stp} (h : ∀ t ∈ s.txt,AS t) : ksOk s.key = true := by
  have w : ∀ z ∈ wordAt,PyData.strOk z = true := by decide +kernel
  have ww : PyData.strOk s.word = true := w _ (List.mem_of_getElem? (word_at s))
  cases s with
  | take n k => simp [ksOk,Stp.key,kOk,(h n (.head _)).ok,(h k (.tail _ (.head _))).ok]; exact ww
  | only n a lo hi => simp [ksOk,Stp.key,kOk,(h n (.head _)).ok,(h a (.tail _ (.head _))).ok]; exact ww
  | turn n a f g => simp [ksOk,Stp.key,kOk,(h n (.head _)).ok,(h a (.tail _ (.head _))).ok]; exact ww
  | both n a b => simp [ksOk,Stp.key,kOk,(h n (.head _)).ok,(h a (.tail _ (.head _))).ok,(h b (.tail _ (.tail _ (.head _)))).ok]; exact ww
  | join n a b wi => simp [ksOk,Stp.key,kOk,(h n (.head _)).ok,(h a (.tail _ (.head _))).ok,(h b (.tail _ (.tail _ (.head _)))).ok]; exact ww
  | gap n a b wi => simp [ksOk,Stp.key,kOk,(h n (.head _)).ok,(h a (.tail _ (.head _))).ok,(h b (.tail _ (.tail _ (.head _)))).ok]; exact ww
  | each n a b x y => simp [ksOk,Stp.key,kOk,(h n (.head _)).ok,(h a (.tail _ (.head _))).ok,(h b (.tail _ (.tail _ (.head _)))).ok]; exact ww
theorem PlanR.rws {H : Hp} {ps : List V} {ss : List Stp} (h : PlanR H ps ss) : Rws H ps (ss.map Stp.key) := by
  induction h with
  | nil => exact rws_nil _
  | cons a _ ih =>
    obtain ⟨p,rfl,e⟩ := a
    exact .cons ⟨p,rfl,e⟩ ih
theorem putK_new {kvs : List (Key × V)} {k : Key} {v : V} (h : ∀ p ∈ kvs,p.1 ≠ k) : putK kvs k v = kvs ++ [(k,v)] := by
  unfold putK
  rw [if_neg]
  intro q
  obtain ⟨p,hp,e⟩ := List.any_eq_true.mp q
  exact h p hp (of_decide_eq_true e)
structure JKey (ss : List Stp) (n : Nat) (jkvs : List (Key × V)) : Prop where
  keys : ∀ p ∈ jkvs,∃ i : Nat,p.1 = .inl (i : Int) ∧ i < n ∧ isJ ss i
  len : jkvs.length = ((ss.take n).filter fun s => decide (s.no = 4)).length
theorem JKey.skip {ss : List Stp} {n : Nat} {jkvs : List (Key × V)} {s : Stp} (h : JKey ss n jkvs) (es : ss[n]? = some s) (hn : s.no ≠ 4) : JKey ss (n + 1) jkvs := by
  refine ⟨fun p hp => ?_,?_⟩
  · obtain ⟨i,e,l,q⟩ := h.keys p hp
    exact ⟨i,e,by omega,q⟩
  · rw [filt_snoc' es,if_neg (by rw [decide_eq_true_eq]; exact hn),List.append_nil]
    exact h.len
theorem JKey.add {ss : List Stp} {n : Nat} {jkvs : List (Key × V)} {m a b : Str} {wi : Int} (h : JKey ss n jkvs) (es : ss[n]? = some (.join m a b wi)) (v : V) : JKey ss (n + 1) (putK jkvs (.inl (n : Int)) v) := by
  have e : putK jkvs (.inl (n : Int)) v = jkvs ++ [(.inl (n : Int),v)] := putK_new fun p hp z => by
    obtain ⟨i,e,l,q⟩ := h.keys p hp
    rw [e] at z
    have := Sum.inl.inj z
    omega
  rw [e]
  refine ⟨fun p hp => ?_,?_⟩
  · rcases List.mem_append.mp hp with hp | hp
    · obtain ⟨i,e,l,q⟩ := h.keys p hp
      exact ⟨i,e,by omega,q⟩
    · cases List.mem_singleton.mp hp
      exact ⟨n,rfl,by omega,m,a,b,wi,es⟩
  · rw [filt_snoc' es,if_pos (by rfl),List.length_append,List.length_append,h.len]
    rfl
theorem seq_l {H H' : Hp} {a : Addr} {xs : List V} (h : SqL K H a xs) (s : SameL H H') : SqL K H' a xs := by
  rcases h with (h | ⟨u,h⟩) | h
  · exact .inl (.inl (s _ _ h (by intro kv z; cases z)))
  · exact .inl (.inr ⟨u,s _ _ h (by intro kv z; cases z)⟩)
  · exact .inr h
structure LI (ad : Ad) (Hc H : Hp) (le dj dB tm km : Addr) (ss : List Stp) (jkvs : List (Key × V)) (jd : Nat → JD) (sd : Nat → List It × List It) (kvB kvX : List (Key × V)) (L : Str → List It) (evs : List Ev) : Prop where
  sl : SameL Hc H
  ev : EvsR H le evs
  as : ∀ e ∈ evs,AS e.2.2.1
  jr : JoinsR ad [le] H ss dj jkvs jd sd
  sdp : ∀ (i : Nat) n a b wi,ss[i]? = some (.join n a b wi) → (sd i).1.Perm (L a) ∧ (sd i).2.Perm (L b)
  rB : Rd H dB (.dK kvB)
  nB : ¬ isD ss jd dB ∧ dB ≠ dj
  td : TdR (fun b => b ≠ le) H ss L ss.length kvB kvX
  eqn : ∀ (i : Nat) s,ss[i]? = some s → s.tell = false → L s.nm = meantS s L evs ∧ (L s.nm).length ≤ 600
  told : ∃ xt xk ts,H tm = some (.lst xt) ∧ H km = some (.lst xk) ∧ Its H xt ts ∧ Its H xk ts ∧ ∀ p ∈ ts,AS p.2.2.1
  nle : tm ≠ le ∧ km ≠ le
theorem meant_nil {ss : List Stp} (ok : PlanOk ss) {L : Str → List It} (hm : ∀ (i : Nat) s,ss[i]? = some s → s.tell = false → L s.nm = meantS s L []) : ∀ (m i : Nat) s,i < m → ss[i]? = some s → s.tell = false → L s.nm = []
  | 0,i,s,hi,_,_ => absurd hi (Nat.not_lt_zero _)
  | m + 1,i,s,hi,ei,ht => by
    have f : ∀ a ∈ s.feeds,L a = [] := fun a ha' => by
      obtain ⟨i',s',l,e',rfl,t'⟩ := ok.fed i s a ei ha'
      exact meant_nil ok hm m i' s' (by omega) e' t'
    rw [hm i s ei ht]
    cases s with
    | take n k => rfl
    | only n a lo hi => show (L a).filter _ = []; rw [f a (.head _)]; rfl
    | turn n a x y => show (L a).map _ = []; rw [f a (.head _)]; rfl
    | both n a b => show L b ++ L a = []; rw [f a (.head _),f b (.tail _ (.head _))]; rfl
    | join n a b wi => show crossI wi (L a) (L b) = []; rw [f a (.head _)]; rfl
    | gap => cases ht
    | each => cases ht
theorem ok_law (T : Tx K mg ad) : FnOk P w K mg base CX0 7 ad.a_law ad.d_law ["_law_script"] (sp_law K) := by
  have G_uplan := ok_plan (P := P) (w := w) (base := base) T
  have G_Join___init__ := ok_join0 (P := P) (w := w) (base := base) T
  have G_utold := ok_told (P := P) (w := w) (base := base) T
  have G_uevent := ok_event (P := P) (w := w) (base := base) T
  have G_spread := ok_spread (P := P) (w := w) (base := base) T
  have G_ucomes := ok_comes (P := P) (w := w) (base := base) T
  have G_Side_kept := ok_kept (P := P) (w := w) (base := base) T
  refine T.F_law.ok sc_law (fun vs H Q E h => ?_) (fun cdv A outer s H vs Q E hr h => ?_)
  · obtain ⟨a,ns,rfl,_⟩ := h
    rfl
  · obtain ⟨a,ns,rfl,hS,hl,k⟩ := h
    have nd := sc_law.nd
    refine ⟨_,(pss_cons (ps_set (i := 1) nd rfl (Or.inl rfl) (pe_call G_uplan (hr.mono (by decide)) (by rfl) T.m_uplan T.F_uplan.kp T.b_uplan .nil pass0 (pa_cons (pv 0) (pa_cons pe_int pa_nil))))
        (pss_cons (ps_set (i := 2) nd rfl (Or.inr rfl) pe_dnewK)
        (pss_cons (ps_for PassesOwn.never rfl (pi_enum (K := K) (by rfl) T.z_enumerate (pv 1)) (pg_tup rfl (pgs_cons (pg_name (i := 3) nd rfl (Or.inl rfl)) (pgs_cons (pg_name (i := 4) nd rfl (Or.inl rfl)) pgs_nil)))
        (pss_one (ps_cut (ps_if (pt_cmpR op_eq (pe_ix (ix_tupK (K := K)) (pv 4) pe_int (fun _ _ => rfl)) pe_str (nomark _))
        (pss_one (ps_dput hr.u1 (pv 2) (pv 3) (pe_make T.mk_Join G_Join___init__ (hr.mono (by decide)) (by rfl) T.mc_Join T.b_Join___init__ .nil pass0 (pa_cons (pe_ix (ix_tupK (K := K)) (pv 4) pe_int (fun _ _ => rfl)) pa_nil)) rfl))
        pss_nil))))
        (pss_cons (ps_set (i := 5) nd rfl (Or.inl rfl) (pe_callTy (call_list_ofK (K := K)) (by rfl) T.z_list PyProof.Rows.boot_list (pa_cons (pv 1) pa_nil)))
        (pss_cons (ps_set (i := 6) nd rfl (Or.inl rfl) (pe_lst pa_nil))
        (pss_cons (ps_set (i := 7) nd rfl (Or.inl rfl) (pe_ix (ix_tupK (K := K)) (pe_call G_utold (hr.mono (by decide)) (by rfl) T.m_utold T.F_utold.kp T.b_utold .nil pass0 (pa_cons (pv 1) (pa_cons (pv 6) pa_nil))) pe_int (fun _ _ => rfl)))
        (pss_cons (ps_set (i := 8) nd rfl (Or.inl rfl) (pe_lst pa_nil))
        (pss_cons (ps_set (i := 9) nd rfl (Or.inl rfl) (pe_lst pa_nil))
        (pss_cons (ps_for PassesOwn.never rfl (pi_range3 (by rfl) T.z_range (pa_cons pe_int (pa_cons (pe_callB (call_min2 rfl) (by rfl) T.z_min PyProof.Rows.boot_min (pa_cons (pe_op op_sub (pe_callB (call_len_seqK (K := K)) (by rfl) T.z_len PySem.boot_len (pa_cons (pv 0) pa_nil)) pe_int) (pa_cons pe_int pa_nil))) (pa_cons pe_int pa_nil)))) (pg_name (i := 10) nd rfl (Or.inl rfl))
        (pss_cons (ps_set (i := 11) nd rfl (Or.inl rfl) (pe_call G_uevent (hr.mono (by decide)) (by rfl) T.m_uevent T.F_uevent.kp T.b_uevent .nil pass0 (pa_cons (pv 0) (pa_cons (pv 10) pa_nil))))
        (pss_cons (ps_expr (pe_bmK (K := K) F.plainAttrs_list F.slot_list_append F.type_list_append mt_append (pv 6) (pa_cons (pv 11) pa_nil)))
        (pss_cons (ps_asg (pe_call G_utold (hr.mono (by decide)) (by rfl) T.m_utold T.F_utold.kp T.b_utold .nil pass0 (pa_cons (pv 1) (pa_cons (pv 6) pa_nil))) (pg_tup rfl (pgs_cons (pg_name (i := 12) nd rfl (Or.inl rfl)) (pgs_cons (pg_name (i := 13) nd rfl (Or.inr rfl)) pgs_nil))))
        (pss_cons (ps_set (i := 14) nd rfl (Or.inl rfl) (pe_call G_spread (hr.mono (by decide)) (by rfl) T.m_spread T.F_spread.kp T.b_spread .nil pass0 (pa_cons (pv 5) (pa_cons (pv 2) (pa_cons (pv 11) pa_nil)))))
        (pss_cons (ps_if (PW.pt (pw_or (pt_not (pt_val (pe_call G_ucomes (hr.mono (by decide)) (by rfl) T.m_ucomes T.F_ucomes.kp T.b_ucomes .nil pass0 (pa_cons (pv 14) (pa_cons (pv 7) (pa_cons (pv 12) pa_nil)))))) (pw_or (pt_cmpR (op_neD (K := K) hr.units) (pv 5) (pv 1) (nomark _)) (pw_or1 (pt_cmpR (op_neD (K := K) hr.units) (pv 8) (pv 9) (nomark _))))))
        (pss_one (ps_ret pe_bl))
        pss_nil)
        (pss_cons (ps_if (pt_cmpR (op_neNil (K := K) hr.units0) (pe_comp1 (osc := defScope s_law) [("_law_sides", 13),("_law_joins", 2)] rfl (pi_dictK (pv 2)) rfl rfl (by decide +kernel) (by decide +kernel) (by decide +kernel) ⟨rfl,rfl,rfl,rfl,trivial⟩ rfl (by decide +kernel) (fun _ _ _ _ => pts_one (pt_cmpR (op_neD (K := K) hr.units) (pe_comp1 (osc := _) [] rfl (pi_listK (K := K) (pe_fldK (K := K) (pe_dget hr.u1 (pv 2) (pv 0) (fun _ _ => rfl)) rfl)) rfl rfl (by decide +kernel) (by decide +kernel) (by intro y hy he; simp only [List.mem_cons,List.not_mem_nil,or_false] at hy; rcases hy with rfl | rfl <;> first | exact absurd he (by decide) | exact Or.inr rfl | exact Or.inl rfl) trivial rfl (by decide +kernel) (fun _ _ _ _ => pts_nil) (fun _ _ _ _ => (pe_meth0 (pv 0) T.cl_Side T.me_Side_kept G_Side_kept (hr.mono (by decide)) T.b_Side_kept .nil pass0))) (pe_dget hr.u1 (pv 1) (pv 0) (fun _ _ => rfl)) (nomark _))) (fun _ _ _ _ => (pv 0))) (pe_lst pa_nil) (nomark _))
        (pss_one (ps_ret pe_bl))
        pss_nil)
        (pss_cons (ps_set (i := 9) nd rfl (Or.inl rfl) (pe_op op_cat (pv 14) (pe_lst (pa_cons (pe_tup (pa_cons pe_int (pa_cons (pe_tup (pa_cons pe_int (pa_cons pe_str (pa_cons pe_int pa_nil)))) pa_nil))) pa_nil))))
        (pss_cons (ps_expr (pe_bmK (K := K) F.plainAttrs_list F.slot_list_append F.type_list_append mt_append (pv 14) (pa_cons (pe_tup (pa_cons pe_int (pa_cons (pe_tup (pa_cons pe_int (pa_cons pe_str (pa_cons pe_int pa_nil)))) pa_nil))) pa_nil)))
        (pss_cons (ps_set (i := 8) nd rfl (Or.inl rfl) (pv 14))
        (pss_one (ps_set (i := 7) nd rfl (Or.inl rfl) (pv 12)))))))))))))
        (pss_one (ps_ret (pe_cmpR op_eq (pe_callB call_lenDR (by rfl) T.z_len PySem.boot_len (pa_cons (pv 2) pa_nil)) (pe_callB (call_len_seqK (K := K)) (by rfl) T.z_len PySem.boot_len (pa_cons (pe_comp1 (osc := defScope s_law) [] rfl (pi_listK (K := K) (pv 1)) rfl rfl (by decide +kernel) (by decide +kernel) (by decide +kernel) trivial rfl (by decide +kernel) (fun _ _ _ _ => pts_one (pt_cmpR op_eq (pe_ix (ix_tupK (K := K)) (pv 0) pe_int (fun _ _ => rfl)) pe_str (nomark _))) (fun _ _ _ _ => (pv 0))) pa_nil)) (nomark _))))))))))))),?_⟩
    have sz : sizeLine = 16777216 := sizeLine_eq
    refine ⟨_,rfl,a,ns,rfl,hS,hl,fun lp Ha ps ss z sa hlp elp pr pok lss txt siz => ?_⟩
    have hSa := sa.seq hS
    have lps := pr.len
    refine fun dj hdj => ?_
    have g0 := Same.upd' (o := .dK []) hdj
    have ej0 : (upd Ha dj (.dK [])) dj = some (.dK []) := upd_same
    generalize upd Ha dj (.dK []) = Hb at g0 ej0 ⊢
    refine ⟨_,rfl,lp,rfl,⟨_,SqL.of (g0 _ _ elp)⟩,for_enum (K := K) (xs := ps) (fun n σ H' => ∃ (o3 o4 : Option V) (jkvs : List (Key × V)) (jd : Nat → JD),σ = [some (.ref a),some (.ref lp),some (.ref dj),o3,o4,none,none,none,none,none,none,none,none,none,none] ∧ Same Ha H' ∧
        H' dj = some (.dK jkvs) ∧ jkvs.length ≤ n ∧ JKey ss n jkvs ∧ JoinsR ad [] H' (ss.take n) dj jkvs jd fun _ => ([],[]))
      ⟨none,none,[],fun _ => ⟨0,0,0,0,0,0⟩,rfl,g0,ej0,Nat.le_refl _,⟨fun p hp => (by cases hp),rfl⟩,⟨.inl ej0,fun i n a b wi e => (by cases (take_at e).1),fun i i' hi => (by cases (isJ_take hi).1),fun i hi => (by cases (isJ_take hi).1)⟩⟩
      (fun n σ H' _ ⟨_,_,_,_,_,s',_⟩ => SqL.of (s' _ _ elp)) ?_ ?_⟩
    · rintro n x σ H1 p hx ⟨o3,o4,jkvs,jd,rfl,s1,ej1,lk1,jk1,jr1⟩ hp
      obtain ⟨b,st,rfl,es,eb⟩ := pr.at hx
      refine ⟨p,_,rfl,SqT.of upd_same,rfl,_,_,rfl,_,_,rfl,rfl,?_⟩
      have g2 := Same.upd' (o := .tup [.int (n : Int),.ref b]) hp
      generalize upd H1 p (.tup [.int (n : Int),.ref b]) = H2 at g2 ⊢
      have s2 := s1.trans g2
      have eb2 : StA H2 b st := s2 _ _ eb
      have jr2 := jr1.same g2
      have ej2 := g2 _ _ ej1
      obtain ⟨e0,e1,_⟩ := eb2.word (K := K)
      have hn : n < ss.length := (List.getElem?_eq_some_iff.mp es).1
      refine cutBy (fun σ' H' => ∃ (o3 o4 : Option V) (jkvs : List (Key × V)) (jd : Nat → JD),σ' = [some (.ref a),some (.ref lp),some (.ref dj),o3,o4,none,none,none,none,none,none,none,none,none,none] ∧ Same Ha H' ∧
        H' dj = some (.dK jkvs) ∧ jkvs.length ≤ n + 1 ∧ JKey ss (n + 1) jkvs ∧ JoinsR ad [] H' (ss.take (n + 1)) dj jkvs jd fun _ => ([],[])) ?_ fun σ' H' h => h
      refine ⟨_,rfl,b,_,_,_,rfl,rfl,e0,e1,rfl,_,rfl,iteW (i := 4) rfl (fun q4 => ?_) fun q4 => ⟨_,_,jkvs,jd,rfl,s2,ej2,by omega,jk1.skip es q4,jr2.skip es q4⟩⟩
      obtain ⟨m,f,g,wi,rfl⟩ : ∃ m f g wi,st = .join m f g wi := by cases st <;> first | exact ⟨_,_,_,_,rfl⟩ | cases q4
      refine ⟨_,rfl,b,_,_,_,rfl,rfl,e0,atI_nat (j := 4) rfl,fun j dxj hj hdj' hnj => ⟨[],j,dxj,wi,rfl,upd_same,(fun c hc => by cases hc),fun Hs sl x0 x1 d0 d1 sx hd0 hd1 jr => ⟨rfl,?_⟩⟩⟩
      have s3 : Same H2 Hs := fun b o e => sx _ _ (ne_of_none e hj) (by rw [upd_ne (ne_of_none e hj),upd_ne (ne_of_none e hdj')]; exact e)
      refine ⟨_,rfl,_,rfl,dj,_,rfl,DPut.k (k := .inl (n : Int)) (s3 _ _ ej2) (by omega),?_⟩
      have lk := putK_len jkvs (.inl (n : Int)) (.ref j)
      exact ⟨_,_,putK jkvs (.inl (n : Int)) (.ref j),_,rfl,(s2.trans s3).updN hdj,upd_same,by omega,jk1.add es _,jr2.add ej2 es s3 (upd_none (upd_none hd0)) (upd_none (upd_none hd1)) jr⟩
    · rintro σ H1 ⟨o3,o4,jkvs,jd,rfl,s1,ej1,lk1,jk1,jr1⟩
      rw [lps] at jk1 jr1 lk1
      rw [List.take_length] at jr1
      have sa1 := sa.trans s1
      refine ⟨_,rfl,lp,_,rfl,.inl (SqL.of (s1 _ _ elp)),fun lh hlh => ?_⟩
      have g1 := Same.upd' (o := .lst ps) hlh
      have elh : (upd H1 lh (.lst ps)) lh = some (.lst ps) := upd_same
      generalize upd H1 lh (.lst ps) = Hc at g1 elh ⊢
      have elpc := g1 _ _ (s1 _ _ elp)
      have prc := pr.keep (s1.trans g1).tp
      have hSc := (s1.trans g1).seq hSa
      have jrc := jr1.same g1
      refine ⟨Nat.zero_le _,fun le hle => ?_⟩
      have g2 := Same.upd' (o := .lst []) hle
      have ele : (upd Hc le (.lst [])) le = some (.lst []) := upd_same
      generalize upd Hc le (.lst []) = Hd at g2 ele ⊢
      have jrd := (jrc.grow hle).same g2
      refine ⟨_,rfl,_,rfl,lp,le,ps,ss,z,[],rfl,g2 _ _ elpc,prc.keep g2.tp,pok,by omega,siz,⟨[],ele,rws_nil _⟩,by decide,fun q dB dX He L kvB kvX g3 fB fX _ eq eB eX td eqn => ?_⟩
      refine ⟨q,_,_,_,rfl,rfl,SqT.of eq,atI_nat (j := 0) rfl,⟨Nat.zero_le _,fun tm htm => ⟨Nat.zero_le _,fun km hkm => ?_⟩⟩⟩
      have g4 := Same.upd' (o := .lst []) htm
      have etm : (upd He tm (.lst [])) tm = some (.lst []) := upd_same
      generalize upd He tm (.lst []) = Hf at g4 etm hkm ⊢
      have g5 := Same.upd' (o := .lst []) hkm
      have ekm : (upd Hf km (.lst [])) km = some (.lst []) := upd_same
      generalize upd Hf km (.lst []) = Hg at g5 ekm ⊢
      have g45 := g4.trans g5
      have gdg := g3.trans g45
      have dne : ∀ {b : Addr},isD ss jd b → Hd b ≠ none := fun hb e => by
        obtain ⟨kv,ek⟩ := jrd.dks hb
        rw [e] at ek; cases ek
      have li0 : LI ad Hc Hg le dj dB tm km ss jkvs jd (fun _ => ([],[])) kvB kvX L [] := by
        refine ⟨same_l (g2.trans gdg),⟨[],gdg _ _ ele,rws_nil _⟩,fun e he => (by cases he),jrd.same gdg,fun i n a b wi ei => ?_,.inl (g45 _ _ eB),⟨fun hb => dne hb fB,fun e => rd_ne jrd.dict (by rw [← e]; exact fB) rfl⟩,(td.mono fun b o hb _ e => by rw [e,ele] at hb; cases hb).keep (same_l g45),eqn,⟨[],[],[],g5 _ _ etm,ekm,.nil,.nil,fun p hp => (by cases hp)⟩,fun e => ?_,fun e => ?_⟩
        · have nl : ∀ x ∈ [a,b],L x = [] := fun x hx => by
            obtain ⟨i',s',l,e',rfl,t'⟩ := pok.fed i _ x ei hx
            exact meant_nil pok (fun i s ei ht => (eqn i s ei ht).1) (i' + 1) i' s' (Nat.lt_succ_self _) e' t'
          rw [nl a (.head _),nl b (.tail _ (.head _))]
          exact ⟨.refl _,.refl _⟩
        · rw [e,g3 _ _ ele] at htm; cases htm
        · rw [e,g4 _ _ (g3 _ _ ele)] at hkm; cases hkm
      clear td eqn g3 g4 g5 g45 gdg htm hkm eq eB eX fB fX etm ekm dne
      refine ⟨_,rfl,a,_,rfl,.inl (seq_l hSc li0.sl),_,_,rfl,rfl,_,_,rfl,15,_,2,rfl,?_,?_⟩
      · rw [List.length_map]
        exact ⟨by decide,by decide,by decide,by decide,by split <;> omega,by split <;> omega⟩
      generalize hmm : (if (27 : Int) < ((ns.map V.int).length : Int) - 1 then (27 : Int) else ((ns.map V.int).length : Int) - 1) = mm
      have hm27 : mm ≤ 27 := by rw [← hmm]; split <;> omega
      have hturn : turnsD 15 mm 2 ≤ 6 := by unfold turnsD; split <;> omega
      refine for_rangeD (fun i σ H' => ∃ (o10 o11 o12 o13 o14 : Option V) (dB tm km : Addr) (sd : Nat → List It × List It) (kvB kvX : List (Key × V)) (L : Str → List It) (evs : List Ev),σ = [some (.ref a),some (.ref lp),some (.ref dj),o3,o4,some (.ref lh),some (.ref le),some (.ref dB),some (.ref tm),some (.ref km),o10,o11,o12,o13,o14] ∧ evs.length = i ∧ LI ad Hc H' le dj dB tm km ss jkvs jd sd kvB kvX L evs)
        ⟨none,none,none,none,none,dB,tm,km,_,_,_,_,[],rfl,rfl,li0⟩ ?_ ?_
      · clear li0
        rintro i σ Ha' hi ⟨o10,o11,o12,o13,o14,dB,tm,km,sd,kvB,kvX,L,evs,rfl,lev,li⟩
        have hi6 : i < 6 := by omega
        refine ⟨_,rfl,_,rfl,a,ns,_,rfl,seq_l hSc li.sl,hl,by omega,fun pe H2 e g1 ee ae => ?_⟩
        obtain ⟨xe,ele1,we1⟩ := li.ev
        have lxe := we1.len
        rw [List.length_map] at lxe
        have ele2 := g1 _ _ ele1
        refine ⟨_,rfl,.inl ⟨rfl,_,SqL.of ele2⟩,_,rfl,le,xe,_,rfl,rfl,ele2,by omega,?_⟩
        have sx3 : SameX le H2 (upd H2 le (.lst (xe ++ [.ref pe]))) := fun b o nb eo => by rw [upd_ne nb]; exact eo
        have ele3 : (upd H2 le (.lst (xe ++ [.ref pe]))) le = some (.lst (xe ++ [.ref pe])) := upd_same
        have tp3 : Tp H2 (upd H2 le (.lst (xe ++ [.ref pe]))) := sx3.tp ele2 (by intro xs z; cases z)
        have we3 : Rws (upd H2 le (.lst (xe ++ [.ref pe]))) (xe ++ [.ref pe]) ((evs ++ [e]).map evK) := by
          rw [List.map_append]
          exact ((we1.keep g1.tp).snoc ee).keep tp3
        have nlej : dj ≠ le := fun z => by
          rcases (li.jr.same g1).dict with h | ⟨o,h⟩ <;> (rw [z,ele2] at h; cases h)
        have nlD : ¬ isD ss jd le := fun hb => by
          obtain ⟨kv,ek⟩ := (li.jr.same g1).dks hb
          rw [ele2] at ek; cases ek
        have jr3 : JoinsR ad [le] (upd H2 le (.lst (xe ++ [.ref pe]))) ss dj jkvs jd sd := (li.jr.same g1).keepP (p := (· = le)) sx3 (fun b hb => .inl ⟨by rw [hb]; exact .head _,xe,by rw [hb]; exact ele2⟩) (fun b hb => by rw [hb]; exact nlD) nlej
        have sl3 : SameL Hc (upd H2 le (.lst (xe ++ [.ref pe]))) := fun b o eo n => sx3 b o (ne_of_none eo hle) (g1 _ _ (li.sl b o eo n))
        have nBle : dB ≠ le := fun z => by
          rcases rd_map li.rB (g1 dB) with h | ⟨o,h⟩ <;> (rw [z,ele2] at h; cases h)
        have rB3 : Rd (upd H2 le (.lst (xe ++ [.ref pe]))) dB (.dK kvB) := rd_map (rd_map li.rB (g1 dB)) fun o => sx3 dB o nBle
        have td3 := (li.td.keep (same_l g1)).keepF (H' := upd H2 le (.lst (xe ++ [.ref pe]))) (fun b xs hb eb => sx3 b _ hb eb) tp3
        obtain ⟨xt,xk,ts,et1,ek1,it1,ik1,ats⟩ := li.told
        have et3 := sx3 _ _ li.nle.1 (g1 _ _ et1)
        have ek3 := sx3 _ _ li.nle.2 (g1 _ _ ek1)
        have it3 := (it1.keep g1.tp).keep tp3
        have ik3 := (ik1.keep g1.tp).keep tp3
        have ee3 : EvA (upd H2 le (.lst (xe ++ [.ref pe]))) pe e := tp3 _ _ ee
        generalize upd H2 le (.lst (xe ++ [.ref pe])) = H3 at ele3 we3 jr3 sl3 rB3 td3 et3 ek3 it3 ik3 ee3 ⊢
        clear sx3 tp3 g1 ele1 ele2 we1 ee et1 ek1 it1 ik1
        have aev : ∀ x ∈ evs ++ [e],AS x.2.2.1 := fun x hx => by
          rcases List.mem_append.mp hx with h | h
          · exact li.as x h
          · cases List.mem_singleton.mp h; exact ae
        refine ⟨_,rfl,_,rfl,lp,le,ps,ss,z,evs ++ [e],rfl,sl3.lst elpc,prc.keep sl3.tp,pok,by omega,siz,⟨_,ele3,we3⟩,by rw [List.length_append]; show evs.length + 1 ≤ 6; omega,fun q dT dK H4 L' kvT kvK g4 fT fK nTK eq4 eT4 eK4 td4 eqn4 => ?_⟩
        refine ⟨q,_,rfl,SqT.of eq4,rfl,_,_,rfl,_,_,rfl,rfl,?_⟩
        have sl4 := sl3.trans (same_l g4)
        have jr4 := jr3.same g4
        have hex : ∀ c ∈ [le],∃ o,H4 c = some o := fun c hc => by cases List.mem_singleton.mp hc; exact ⟨_,g4 _ _ ele3⟩
        have hL : ∀ (i : Nat) s,ss[i]? = some s → s.tell = false → L s.nm = meantS s L evs ∧ L' s.nm = meantS s L' (evs ++ [e]) ∧ (L' s.nm).length ≤ 600 := fun i s ei ht => ⟨(li.eqn i s ei ht).1,eqn4 i s ei ht⟩
        refine ⟨_,rfl,_,rfl,_,rfl,[le],lh,dj,pe,ps,ss,jkvs,jd,sd,L,L',evs,e,rfl,sl4.lst elh,prc.keep sl4.tp,pok,by omega,jr4,hex,g4 _ _ ee3,hL,li.sdp,fun H5 m xs bt sp5 jr5 hm em its5 hB => ?_⟩
        have d3 : ∀ {b : Addr},H3 b = none → ¬ isD ss jd b := fun hb h => by
          obtain ⟨kv,ek⟩ := jr3.dks h
          rw [hb] at ek; cases ek
        have sl45 : SameL H4 H5 := fun b o eo n => sp5 b o (fun h => by
          obtain ⟨kv,ek⟩ := jr4.dks h
          rw [eo] at ek
          exact n _ (Option.some.inj ek)) eo
        have nBT : dB ≠ dT := rd_ne rB3 fT
        have nTj : dT ≠ dj := (rd_ne jr3.dict fT).symm
        have nTD := d3 fT
        have rB5 : Rd H5 dB (.dK kvB) := rd_map (rd_map rB3 (g4 dB)) fun o => sp5 dB o li.nB.1
        have eT5 := sp5 _ _ nTD eT4
        have eK5 := sp5 _ _ (d3 fK) eK4
        have tdB5 := (td3.keep (same_l g4)).keep sl45
        have tdT5 := td4.keep sl45
        have pst : ∀ (i : Nat) s,ss[i]? = some s → s.tell = false → (L' s.nm).Perm (L s.nm ++ bt s.nm) := fun i s ei ht => all_perm pok (fun i s ei ht => ⟨(hL i s ei ht).1,(hL i s ei ht).2.1⟩) li.sdp hB (i + 1) i s (Nat.lt_succ_self _) ei ht
        have pfd : ∀ (i : Nat) s a,ss[i]? = some s → a ∈ s.feeds → (L' a).Perm (L a ++ bt a) ∧ (L' a).length ≤ 600 ∧ ∀ j ∈ L' a,AS j.2.1 := fun i s a ei ha => by
          obtain ⟨i',s',l,e',rfl,t'⟩ := pok.fed i s a ei ha
          exact ⟨pst i' s' e' t',(hL i' s' e' t').2.2,meant_as pok aev (fun i s ei ht => (hL i s ei ht).2.1) (i' + 1) i' s' (Nat.lt_succ_self _) e' t'⟩
        have hbr : ∀ (i : Nat) s,ss[i]? = some s → s.tell = true → ∃ a ∈ s.feeds,bt s.nm = bt a ∧ (L' a).Perm (L a ++ bt a) ∧ (L' a).length ≤ 600 ∧ ∀ j ∈ L' a,AS j.2.1 := fun i s ei ht => by
          obtain ⟨a,ha,eb⟩ : ∃ a ∈ s.feeds,bt s.nm = bt a := by
            have h := hB i s ei
            cases s with
            | gap n f x y => exact ⟨f,.head _,h⟩
            | each n f x y w => exact ⟨f,.head _,h⟩
            | _ => cases ht
          exact ⟨a,ha,eb,pfd i s a ei ha⟩
        have lbt : ∀ (i : Nat) s,i < ss.length → ss[i]? = some s → (bt s.nm).length ≤ 600 := fun i s _ ei => by
          cases ht : s.tell with
          | false =>
            have h1 := (pst i s ei ht).length_eq
            have h2 := (hL i s ei ht).2.2
            rw [List.length_append] at h1
            omega
          | true =>
            obtain ⟨a,ha,eb,p,l,_⟩ := hbr i s ei ht
            have h1 := p.length_eq
            rw [List.length_append] at h1
            rw [eb]
            omega
        have lxs : xs.length ≤ 4800 := by
          have h1 := tellsN_len (ss := ss) (bt := bt) (n := ss.length) lbt
          rw [its5.len]
          omega
        have ats5 : ∀ p ∈ tellsN ss bt ss.length,AS p.2.2.1 := fun p hp => by
          obtain ⟨i',s',e',l,ei,ht,hm⟩ := tells_mem hp
          obtain ⟨a,ha,eb,pp,_,as⟩ := hbr i' s' ei ht
          rw [eb] at hm
          exact as _ (pp.mem_iff.mpr (List.mem_append_right _ hm))
        refine ⟨_,rfl,_,rfl,_,rfl,m,dB,dT,xs,ss,bt,L,L',kvB,kvX,kvT,kvK,_,_,rfl,em,its5,by omega,nBT,rB5,eT5,tdB5,tdT5,hbr,fun H6 oT sx6 eT6 => ?_⟩
        have sl56 : SameL H5 H6 := fun b o eo n => sx6 b o (fun z => by rw [z,eT5] at eo; exact n _ (Option.some.inj eo).symm) eo
        have sl36 := (same_l g4).trans (sl45.trans sl56)
        have sl6 := sl3.trans sl36
        have pr6 := prc.keep sl6.tp
        have et6 := sl36.lst et3
        have ek6 := sl36.lst ek3
        refine ⟨_,rfl,iteF ⟨_,rfl,_,rfl,neD_same (pr6.rws.dv (sl6.lst elh)) (pr6.rws.dv (sl6.lst elpc)) (shaped_rows fun ks hk => ?_) ⟨_,rfl,iteF ⟨_,rfl,_,rfl,neD_same (.lst (SqL.of et6) (it3.keep sl36.tp).dvs) (.lst (SqL.of ek6) (ik3.keep sl36.tp).dvs) (shaped_its ats) ⟨_,rfl,iteF ?_⟩⟩⟩⟩⟩
        · obtain ⟨s',hs',rfl⟩ := List.mem_map.mp hk
          exact key_ok (txt s' hs')
        have jr6 : JoinsR ad (m :: [le]) H6 ss dj jkvs jd (sdN ss sd ss.length bt) := jr5.keepP (p := (· = dT)) sx6 (fun b hb => .inr ⟨kvT,by rw [hb]; exact eT5⟩) (fun b hb => by rw [hb]; exact nTD) (fun z => nTj z.symm)
        have nKT : dK ≠ dT := nTK.symm
        have eK6 := sx6 _ _ nKT eK5
        have em6 := sl56.lst em
        have its6 := its5.keep sl56.tp
        have tdT6 := tdT5.keep sl56
        refine ⟨_,rfl,dj,jkvs,rfl,jr6.dict,fun oj H7 ej7 ne7 => ?_⟩
        have jr7 := jr6.freeze ej7 ne7
        have nl7 : ∀ {b : Addr} {o : HO},H6 b = some o → (∀ kv,o ≠ .dK kv) → (∀ o' u,o ≠ .frz o' u) → b ≠ dj := fun {b o} eb n1 n2 z => by
          rcases jr6.dict with h | ⟨o',h⟩
          · rw [z,h] at eb; exact n1 _ (Option.some.inj eb).symm
          · rw [z,h] at eb; exact n2 _ _ (Option.some.inj eb).symm
        have k7 : ∀ {b : Addr} {o : HO},H6 b = some o → b ≠ dj → H7 b = some o := fun {b o} eb nb => by rw [ne7 b nb]; exact eb
        have l7 : ∀ {b : Addr} {xs : List V},H6 b = some (.lst xs) → H7 b = some (.lst xs) := fun eb => k7 eb (nl7 eb (by intro kv z; cases z) (by intro o u z; cases z))
        have tp7 : Tp H6 H7 := fun b xs eb => k7 eb (nl7 eb (by intro kv z; cases z) (by intro o u z; cases z))
        have eK7 := k7 eK6 (rd_ne jr3.dict fK).symm
        have tdT7 := tdT6.keepF (H' := H7) (fun b xs _ eb => l7 eb) tp7
        refine comp_dictK (o := oj) (kvs := jkvs) (fun n τ acc H' => (∃ o,τ = [o,some (.ref dK),some (.ref dj)]) ∧ acc = [] ∧ Same H7 H') (by omega) ⟨⟨none,rfl⟩,rfl,Same.refl _⟩ (fun n τ acc H' ⟨_,_,s'⟩ => s' _ _ ej7) ?_ ?_
        · rintro n ⟨pk,pv⟩ τ acc H8 R1 R0 hp _ ⟨⟨o,rfl⟩,rfl,s8⟩ k1 k0
          obtain ⟨ij,e',lij,⟨jn,ja,jb,wi,ej⟩⟩ := jk1.keys _ (List.mem_of_getElem? hp)
          have e' : pk = .inl (ij : Int) := e'
          subst e'
          obtain ⟨jv,jj⟩ := (jr7.same s8).join ij jn ja jb wi ej
          obtain ⟨dx,eo⟩ := jj.obj
          have esd : sdN ss sd ss.length bt ij = ((sd ij).1 ++ bt ja,(sd ij).2 ++ bt jb) := by rw [sdN_at ej,if_pos lij]
          rw [esd] at jj
          obtain ⟨q0,q1⟩ := li.sdp ij jn ja jb wi ej
          obtain ⟨pa,la,aa⟩ := pfd ij _ ja ej (.head _)
          obtain ⟨pb,lb,ab⟩ := pfd ij _ jb ej (.tail _ (.head _))
          have pa' : ((sd ij).1 ++ bt ja).Perm (L' ja) := (q0.append (.refl _)).trans pa.symm
          have pb' : ((sd ij).2 ++ bt jb).Perm (L' jb) := (q1.append (.refl _)).trans pb.symm
          have la' := pa'.length_eq
          have lb' := pb'.length_eq
          refine ⟨_,rfl,_,rfl,dj,.ref (jd ij).j,rfl,by rw [← jv]; exact .inl ⟨jkvs,.inl (ij : Int),(jr7.same s8).dict,rfl,rfl⟩,(jd ij).j,_,dx,_,_,rfl,eo,T.cl_Join,T.n_Join_sides,rfl,(jd ij).sl,rfl,⟨_,SqL.of jj.sides⟩,?_⟩
          generalize (sd ij).1 ++ bt ja = MA at jj pa' la'
          generalize (sd ij).2 ++ bt jb = MB at jj pb' lb'
          refine comp_listN (K := K) (xs := [.ref (jd ij).x0,.ref (jd ij).x1]) (fun n τ acc H' => (∃ o,τ = [o]) ∧ Same H8 H' ∧ Paired (fun x kss => ∃ r,x = .ref r ∧ SrtR H' r kss) acc ([MA.map kpK,MB.map kpK].take n)) (Nat.le_of_ble_eq_true rfl) ⟨⟨none,rfl⟩,Same.refl _,.nil⟩ (fun n τ acc H' ⟨_,s',_⟩ => SqL.of (s' _ _ jj.sides)) ?_ ?_
          · rintro n y τ acc H9 R2 hy _ ⟨⟨o,rfl⟩,s9,pr9⟩ k2
            obtain ⟨xx,dd,M,rfl,sr,et,lM⟩ : ∃ xx dd M,y = .ref xx ∧ SideR ad (m :: [le]) H8 xx dd M ∧ [MA.map kpK,MB.map kpK][n]? = some (M.map kpK) ∧ M.length ≤ 1000 := by
              match n,hy with
              | 0,hy => cases hy; exact ⟨_,_,MA,rfl,jj.s0,rfl,by omega⟩
              | 1,hy => cases hy; exact ⟨_,_,MB,rfl,jj.s1,rfl,by omega⟩
            have sr9 := sr.same s9
            obtain ⟨dxs,exs⟩ := sr9.obj
            refine ⟨_,rfl,xx,dxs,_,rfl,exs,by rfl,m :: [le],xx,dd,M,rfl,sr9,lM,fun HA r xs' kss sA hr er hw sd' pm => k2 _ _ _ ⟨⟨_,rfl⟩,s9.trans sA,?_⟩⟩
            rw [List.take_add_one,et]
            exact paired_app (paired_imp (fun x kss ⟨r,e,q⟩ => ⟨r,e,q.keep (same_l sA)⟩) pr9) (.cons ⟨r,rfl,_,_,er,hw,pm,sd'⟩ .nil)
          · rintro τ acc H9 _ ⟨_,s9,pr9⟩ D hD
            obtain ⟨r0,r1,rfl,c0,c1⟩ : ∃ r0 r1,acc = [.ref r0,.ref r1] ∧ SrtR H9 r0 (MA.map kpK) ∧ SrtR H9 r1 (MB.map kpK) := by
              cases pr9 with
              | cons a b =>
                cases b with
                | cons b c =>
                  cases c
                  obtain ⟨r0,rfl,q0⟩ := a
                  obtain ⟨r1,rfl,q1⟩ := b
                  exact ⟨r0,r1,rfl,q0,q1⟩
            have gD := Same.upd' (o := .lst [V.ref r0,.ref r1]) hD
            have eD : (upd H9 D (.lst [V.ref r0,.ref r1])) D = some (.lst [V.ref r0,.ref r1]) := upd_same
            generalize upd H9 D (.lst [V.ref r0,.ref r1]) = HA at gD eD ⊢
            have s7A := s8.trans (s9.trans gD)
            obtain ⟨x0,y0,f0,w0,p0,d0⟩ := c0.keep (same_l gD)
            obtain ⟨x1,y1,f1,w1,p1,d1⟩ := c1.keep (same_l gD)
            obtain ⟨rs,u0,u1,_,vs,es,t0,t1⟩ := (tdT7.keep (same_l s7A)).kept ij jn ja jb wi lij ej
            obtain ⟨x2,y2,f2,w2,p2,d2⟩ := t0
            obtain ⟨x3,y3,f3,w3,p3,d3'⟩ := t1
            have z0 : y0 = y2 := sd_unique (p0.trans ((pa'.map kpK).trans p2.symm)) d0 d2
            have z1 : y1 = y3 := sd_unique (p1.trans ((pb'.map kpK).trans p3.symm)) d1 d3'
            subst z0 z1
            refine ⟨_,rfl,_,rfl,dK,.ref rs,rfl,by rw [← vs]; exact DGet.k (k := .inl (ij : Int)) (s7A _ _ eK7),neD_same (.lst (SqL.of eD) (.cons (w0.dv f0) (.cons (w1.dv f1) .nil))) (.lst (SqL.of es) (.cons (w2.dv f2) (.cons (w3.dv f3) .nil))) (shaped_two (fun ks hk => ?_) fun ks hk => ?_) ⟨_,rfl,iteF (k0 _ _ ⟨⟨_,rfl⟩,rfl,s7A⟩)⟩⟩
            · exact kept_ok aa ks (p2.mem_iff.mp hk)
            · exact kept_ok ab ks (p3.mem_iff.mp hk)
        · rintro τ acc H8 _ ⟨_,rfl,s8⟩ D hD
          refine ⟨Nat.zero_le _,fun D2 hD2 => ⟨D,D2,[],rfl,rfl,SqL.of (by rw [upd_ne (ne_of_none upd_same hD2)]; exact upd_same),SqL.of upd_same,_,rfl,iteF ?_⟩⟩
          have s9 := (s8.upd hD).upd (o := .lst []) hD2
          generalize upd (upd H8 D (.lst [])) D2 (.lst []) = H9 at s9 ⊢
          have em9 := s9 _ _ (l7 em6)
          have its9 := (its6.keep tp7).keep s9.tp
          refine ⟨_,rfl,Nat.le_of_ble_eq_true rfl,fun p1 hp1 => ⟨Nat.le_of_ble_eq_true rfl,fun p2 hp2 => ⟨Nat.le_of_ble_eq_true rfl,fun p3 hp3 => ?_⟩⟩⟩
          have h1 := Same.upd' (o := .tup [V.int 0,.str "a", .int 0]) hp1
          have e1 : (upd H9 p1 (.tup [V.int 0,.str "a", .int 0])) p1 = some (.tup ((itK (0, "a", 0)).map kV)) := upd_same
          generalize upd H9 p1 (.tup [V.int 0,.str "a", .int 0]) = HA at h1 e1 hp2 hp3 ⊢
          have h2 := Same.upd' (o := .tup [V.int 0,.ref p1]) hp2
          have e2 : (upd HA p2 (.tup [V.int 0,.ref p1])) p2 = some (.tup [V.int 0,.ref p1]) := upd_same
          generalize upd HA p2 (.tup [V.int 0,.ref p1]) = HB at h2 e2 hp3 ⊢
          have h3 := Same.upd' (o := .lst [V.ref p2]) hp3
          have e3 : (upd HB p3 (.lst [V.ref p2])) p3 = some (.lst [V.ref p2]) := upd_same
          generalize upd HB p3 (.lst [V.ref p2]) = HC at h3 e3 ⊢
          have s9C := h1.trans (h2.trans h3)
          refine ⟨m,p3,xs,_,rfl,rfl,s9C _ _ em9,e3,by show _ + 1 ≤ _; omega,fun kn hkn => ?_⟩
          have h4 := Same.upd' (o := .lst (xs ++ [V.ref p2])) hkn
          have ekn : (upd HC kn (.lst (xs ++ [V.ref p2]))) kn = some (.lst (xs ++ [V.ref p2])) := upd_same
          generalize upd HC kn (.lst (xs ++ [V.ref p2])) = HD at h4 ekn ⊢
          have s9D := s9C.trans h4
          have ikn : Its HD (xs ++ [V.ref p2]) (tellsN ss bt ss.length ++ [((0,(0, "a", 0)) : Int × It)]) := paired_app (its9.keep s9D.tp) (.cons ⟨p2,p1,rfl,(h3.trans h4) _ _ e2,(h2.trans (h3.trans h4)) _ _ e1⟩ .nil)
          have emD := s9D _ _ em9
          refine ⟨_,rfl,.inl ⟨rfl,_,SqL.of emD⟩,Nat.le_of_ble_eq_true rfl,fun p4 hp4 => ⟨Nat.le_of_ble_eq_true rfl,fun p5 hp5 => ?_⟩⟩
          have h5 := Same.upd' (o := .tup [V.int 0,.str "a", .int 0]) hp4
          have e4 : (upd HD p4 (.tup [V.int 0,.str "a", .int 0])) p4 = some (.tup ((itK (0, "a", 0)).map kV)) := upd_same
          generalize upd HD p4 (.tup [V.int 0,.str "a", .int 0]) = HE at h5 e4 hp5 ⊢
          have h6 := Same.upd' (o := .tup [V.int 0,.ref p4]) hp5
          have e5 : (upd HE p5 (.tup [V.int 0,.ref p4])) p5 = some (.tup [V.int 0,.ref p4]) := upd_same
          generalize upd HE p5 (.tup [V.int 0,.ref p4]) = HF at h6 e5 ⊢
          have sDF := h5.trans h6
          have s9F := s9D.trans sDF
          have s7F := s9.trans s9F
          have emF := sDF _ _ emD
          refine ⟨m,xs,_,rfl,rfl,emF,by omega,?_⟩
          have sx : SameX m HF (upd HF m (.lst (xs ++ [V.ref p5]))) := fun b o nb eo => by rw [upd_ne nb]; exact eo
          have tpZ : Tp HF (upd HF m (.lst (xs ++ [V.ref p5]))) := sx.tp emF (by intro xs z; cases z)
          have emZ : (upd HF m (.lst (xs ++ [V.ref p5]))) m = some (.lst (xs ++ [V.ref p5])) := upd_same
          generalize upd HF m (.lst (xs ++ [V.ref p5])) = HZ at sx tpZ emZ ⊢
          have ejc := g1 _ _ ej1
          have nkm : kn ≠ m := fun z => by rw [z,s9C _ _ em9] at hkn; cases hkn
          have nml : m ≠ le := fun z => by rw [z,g4 _ _ ele3] at hm; cases hm
          have knl : kn ≠ le := fun z => by rw [z,s9C _ _ (s9 _ _ (l7 (sl36.lst ele3)))] at hkn; cases hkn
          have nmj : dj ≠ m := fun z => nl7 em6 (by intro kv z; cases z) (by intro o u z; cases z) z.symm
          have jrF := jr7.same s7F
          have nmD : ¬ isD ss jd m := fun h => by
            obtain ⟨kv,ek⟩ := jrF.dks h
            rw [emF] at ek; cases ek
          have nTm : dT ≠ m := fun z => by rw [z,em] at eT5; cases eT5
          have tdm : TdR (fun b => b ≠ le ∧ b ≠ m) H4 ss L' ss.length kvT kvK := td4.mono fun b o hb eo => ⟨fun z => (by rw [z,ele3] at hb; cases hb),fun z => (by rw [z,hm] at eo; cases eo)⟩
          have tdF := ((((tdm.keep sl45).keep sl56).keepF (H' := H7) (fun b xs _ eb => l7 eb) tp7).keep (same_l s7F)).keepF (H' := HZ) (fun b xs hb eb => sx b _ hb.2 eb) tpZ
          have liZ : LI ad Hc HZ le dj dT m kn ss jkvs jd (sdN ss sd ss.length bt) kvT kvK L' (evs ++ [e]) := by
            refine ⟨fun b o eo n => ?_,⟨_,sx _ _ nml.symm (s7F _ _ (l7 (sl36.lst ele3))),Rws.keep (((we3.keep sl36.tp).keep tp7).keep s7F.tp) tpZ⟩,aev,?_,fun i' jn ja jb wi ej => ?_,.inr ⟨oT,sx _ _ nTm (s7F _ _ (k7 eT6 nTj))⟩,⟨nTD,nTj⟩,tdF.mono fun b _ hb _ => hb.1,fun i s ei ht => (hL i s ei ht).2,⟨_,_,_,emZ,sx _ _ nkm (sDF _ _ ekn),?_,(ikn.keep sDF.tp).keep tpZ,fun p hp => ?_⟩,nml,knl⟩
            · have nb : b ≠ dj := fun z => by rw [z,ejc] at eo; exact n _ (Option.some.inj eo).symm
              have nm : b ≠ m := ne_of_none (sl4 b o eo n) hm
              exact sx _ _ nm (s7F _ _ (k7 (sl6 b o eo n) nb))
            · exact (jrF.keepP (p := (· = m)) sx (fun b hb => .inl ⟨by rw [hb]; exact .head _,xs,by rw [hb]; exact emF⟩) (fun b hb => by rw [hb]; exact nmD) nmj).weak
            · obtain ⟨q0,q1⟩ := li.sdp i' jn ja jb wi ej
              have l' : i' < ss.length := (List.getElem?_eq_some_iff.mp ej).1
              rw [sdN_at ej,if_pos l']
              exact ⟨(q0.append (.refl _)).trans (pfd i' _ ja ej (.head _)).1.symm,(q1.append (.refl _)).trans (pfd i' _ jb ej (.tail _ (.head _))).1.symm⟩
            · exact Its.keep (paired_app (its9.keep s9F.tp) (.cons ⟨p5,p4,rfl,e5,h6 _ _ e4⟩ .nil)) tpZ
            · rcases List.mem_append.mp hp with h | h
              · exact ats5 p h
              · cases List.mem_singleton.mp h
                intro c hc
                have hc : c ∈ [97] := hc
                cases List.mem_singleton.mp hc
                decide
          exact ⟨_,rfl,_,rfl,_,_,_,_,_,dT,m,kn,_,_,_,_,evs ++ [e],rfl,by rw [List.length_append,lev]; rfl,liZ⟩
      · clear li0
        rintro σ Hz ⟨o10,o11,o12,o13,o14,dB,tm,km,sd,kvB,kvX,L,evs,rfl,lev,li⟩
        have elpz := li.sl.lst elpc
        have prz := prc.keep li.sl.tp
        refine ⟨_,rfl,dj,jkvs,rfl,li.jr.dict,_,rfl,lp,rfl,⟨_,SqL.of elpz⟩,?_⟩
        refine comp_list (K := K) (xs := ps) (fun m τ acc H' => (∃ o,τ = [o]) ∧ H' = Hz ∧ acc.length = ((ss.take m).filter fun s => decide (s.no = 4)).length) (by omega) ⟨⟨none,rfl⟩,rfl,rfl⟩ (fun m τ acc H' ⟨_,e,_⟩ => by rw [e]; exact SqL.of elpz) ?_ ?_
        · rintro m y τ acc H' R1 R0 hy _ ⟨⟨o,rfl⟩,rfl,hla⟩ k1 k0
          obtain ⟨b,st,rfl,es,eb⟩ := prz.at hy
          obtain ⟨e0,e1,_⟩ := eb.word (K := K)
          have fs := filt_snoc' (p := fun s : Stp => decide (s.no = 4)) es
          refine ⟨_,rfl,b,_,_,_,rfl,rfl,e0,e1,rfl,_,rfl,iteW (i := 4) rfl (fun q4 => ⟨_,rfl,k1 _ _ _ ⟨⟨_,rfl⟩,rfl,?_⟩⟩) fun q4 => k0 _ _ ⟨⟨_,rfl⟩,rfl,?_⟩⟩
          · rw [fs,if_pos (by rw [decide_eq_true_eq]; exact q4),List.length_append,List.length_append,hla]
            rfl
          · rw [fs,if_neg (by rw [decide_eq_true_eq]; exact q4),List.append_nil]
            exact hla
        · rintro τ acc H' la ⟨_,rfl,hla⟩ D hD
          have e : jkvs.length = acc.length := by rw [hla,lps,jk1.len]
          refine ⟨D,_,rfl,.inl (SqL.of upd_same),rfl,?_⟩
          have e2 : decide (V.int (jkvs.length : Int) = V.int (acc.length : Int)) = true := by rw [e]; exact decide_eq_true rfl
          show Q (.bl (decide (V.int (jkvs.length : Int) = V.int (acc.length : Int)))) _
          rw [e2]
          exact k _
theorem all_mk {l : W.OpenLaw} {w : World} {K : W.Frag} {mg : Str → Option Value} {fa : Addr} {ad : Ad} (hfa : mg "law" = some (.ref fa)) (T : Tx K mg ad)
    : ∃ fd : FuncData,(∀ (s : Shared) (v : Value),BindsTo s fd ⟨[v],[]⟩ [("_law_script", v)]) ∧ ∀ base : Heap,K.In base → base.Ns mainGlobals mg → FnOk l.prog w K mg base CX0 depth fa fd ["_law_script"] (sp_law K) := by
  have e := hfa.symm.trans T.m_law
  cases e
  obtain ⟨_,_,_,_,_,_,_,_,_,e,_,_⟩ := T.F_law.ex
  exact ⟨ad.d_law,fun s v => by rw [e]; exact .of_eq rfl,fun base _ _ => ok_law T⟩
end K19
def PySem.W.Fast.tw12196706316347846986:Unit:=()
def PySem.W.Fast.tw2800165303074097221:Unit:=()
def PySem.W.Fast.tw5618367381861319370:Unit:=()
def PySem.W.Fast.tw1080432869874902676:Unit:=()
def PySem.W.Fast.tw8299614829954261021:Unit:=()
def PySem.W.Fast.tw11715427371967217596:Unit:=()
def PySem.W.Fast.tw9668163789312909533:Unit:=()
def PySem.W.Fast.tw13026252110731044243:Unit:=()
def PySem.W.Fast.tw16381720180840084662:Unit:=()
def PySem.W.Fast.tw8942268269547630723:Unit:=()
def PySem.W.Fast.tw2566308326308011841:Unit:=()
def PySem.W.Fast.tw12756488522575017744:Unit:=()
def PySem.W.Fast.tw18201680502984057307:Unit:=()
def PySem.W.Fast.tw6509166117472376949:Unit:=()
def PySem.W.Fast.tw14329375307915983319:Unit:=()
def PySem.W.Fast.tw12571277968869773360:Unit:=()
def PySem.W.Fast.tw11297446082247725280:Unit:=()
def PySem.W.Fast.tw8094155251347553966:Unit:=()
def PySem.W.Fast.tw1305119161698339650:Unit:=()
def PySem.W.Fast.tw9891477482597067893:Unit:=()
def PySem.W.Fast.tw10222055325761130884:Unit:=()
def PySem.W.Fast.tw16239514808510612709:Unit:=()
def PySem.W.Fast.tw4166797831856068295:Unit:=()
def PySem.W.Fast.tw17592934161168473057:Unit:=()
def PySem.W.Fast.tw2995189013490363246:Unit:=()
def PySem.W.Fast.tw8289346449869078747:Unit:=()
def PySem.W.Fast.tw17902565819391071484:Unit:=()
def PySem.W.Fast.tw17826644214494466725:Unit:=()
def PySem.W.Fast.tw17482723092302628276:Unit:=()
def PySem.W.Fast.tw12186157296909281951:Unit:=()
def PySem.W.Fast.tw15418094212540557557:Unit:=()
def PySem.W.Fast.tw726565205117599753:Unit:=()
def PySem.W.Fast.tw15433209496258178391:Unit:=()
def PySem.W.Fast.tw10476454516926820067:Unit:=()
def PySem.W.Fast.tw7755276993436828578:Unit:=()
def PySem.W.Fast.tw4867805983822468117:Unit:=()
def PySem.W.Fast.tw13029172907078302512:Unit:=()
def PySem.W.Fast.tw16294446034124631495:Unit:=()
def PySem.W.Fast.tw7168990742881226184:Unit:=()
def PySem.W.Fast.tw6208167590534466063:Unit:=()
def PySem.W.Fast.tw17532564863985304649:Unit:=()
def PySem.W.Fast.tw15172273580318139978:Unit:=()
def PySem.W.Fast.tw18260005509740854602:Unit:=()
def PySem.W.Fast.tw9644349264561408543:Unit:=()
def PySem.W.Fast.tw13079987086492636904:Unit:=()
def PySem.W.Fast.tw9309587178320220313:Unit:=()
def PySem.W.Fast.tw7047087837139441588:Unit:=()
def PySem.W.Fast.tw9271698508327313092:Unit:=()
def PySem.W.Fast.tw18225251437445993705:Unit:=()
def PySem.W.Fast.tw124948777383653525:Unit:=()
def PySem.W.Fast.tw10456869599788979834:Unit:=()
def PySem.W.Fast.tw5857552284310575173:Unit:=()
def PySem.W.Fast.tw5425501401521252578:Unit:=()
def PySem.W.Fast.tw2778519042417339063:Unit:=()
def PySem.W.Fast.tw9941045058160693150:Unit:=()
def PySem.W.Fast.tw13011255063492973000:Unit:=()
def PySem.W.Fast.tw4169409622250560175:Unit:=()
def PySem.W.Fast.tw10988816732140035317:Unit:=()
def PySem.W.Fast.tw10674006399295400336:Unit:=()
def PySem.W.Fast.tw5381323062010335364:Unit:=()
def PySem.W.Fast.tw8592480955654206044:Unit:=()
def PySem.W.Fast.tw14641564818247467609:Unit:=()
def PySem.W.Fast.tw389483581890857272:Unit:=()
def PySem.W.Fast.tw12533188837853082976:Unit:=()
def PySem.W.Fast.tw698223403899781379:Unit:=()
def PySem.W.Fast.tw10136221987031425079:Unit:=()
def PySem.W.Fast.tw6932576776265834430:Unit:=()
def PySem.W.Fast.tw7366823251570243237:Unit:=()
def PySem.W.Fast.tw8621633136482289584:Unit:=()
def PySem.W.Fast.tw5309314839532609373:Unit:=()
def PySem.W.Fast.tw6272734418480888835:Unit:=()
def PySem.W.Fast.tw2421612370192160085:Unit:=()
def PySem.W.Fast.tw9553915097897826716:Unit:=()
def PySem.W.Fast.tw8149658153534137431:Unit:=()
def PySem.W.Fast.tw16177403881092406462:Unit:=()
def PySem.W.Fast.tw3101815974308385259:Unit:=()
open PySem PySem.W PyProof.Rows
set_option maxRecDepth 100000 in
set_option maxHeartbeats 0 in
theorem PySem.Challenge.cw_brooktally_k19_what_an_event_brings_holds : PySem.Challenge.rw_brooktally_k19_what_an_event_brings.Holds := by
  w_on; o_law; k_head; (case hw => w_witness2)
  k_fill
  refine L2.walk_ofK (l := PySem.Challenge.rw_brooktally_k19_what_an_event_brings) (n := 63) (k := K19.depth) (x := "_law_script") (CX := L2.CX0) (sp := K19.sp_law) rfl (by decide) rfl ⟨rfl,by decide,by decide⟩ (fun w h Y => PySem.W.kIn_of Y) ?F K19.law_sp (fun _ _ _ _ z => z)
  case F =>
    intro w mg fa h KX G hmg
    refine' K19.all_mk hmg (K19.tx_mk KX G ?a_u_wall ?F_u_wall ?a_names_end ?F_names_end ?a_name_of ?F_name_of ?a_feeders ?F_feeders ?a_is_teller ?F_is_teller ?a_taken ?F_taken ?a_turned ?F_turned ?a_passed ?F_passed ?a_joined ?F_joined ?a_spread ?F_spread ?a_ahead ?F_ahead ?a_with_keys ?F_with_keys ?a_Side ?a_Side___init__ ?F_Side___init__ ?a_Side_put ?F_Side_put ?a_Side_near ?F_Side_near ?a_Side_drop ?F_Side_drop ?a_Side_kept ?F_Side_kept ?a_met_item ?F_met_item ?a_Join ?a_Join___init__ ?F_Join___init__ ?a_Join_come ?F_Join_come ?a_Join_drop ?F_Join_drop ?a_ucell_at ?F_ucell_at ?a_unumber ?F_unumber ?a_unames ?F_unames ?a_uscale ?F_uscale ?a_ustream ?F_ustream ?a_uteller ?F_uteller ?a_ubound ?F_ubound ?a_uplan ?F_uplan ?a_uevent ?F_uevent ?a_ujoined ?F_ujoined ?a_umeant ?F_umeant ?a_utold ?F_utold ?a_ucomes ?F_ucomes ?a_law ?F_law ?pg_Side ?hd_Side ?po_Side ?sa_Side ?n_Side_rows ?fn_Side___init__ ?fn_Side_put ?fn_Side_near ?fn_Side_drop ?fn_Side_kept ?mks_Side ?kp_Side ?pg_Join ?hd_Join ?po_Join ?sa_Join ?n_Join_within ?n_Join_sides ?fn_Join___init__ ?fn_Join_come ?fn_Join_drop ?mks_Join ?kp_Join ?g_PAIRED ?l_PAIRED ?g_TELLERS ?l_TELLERS ?z_abs ?z_enumerate ?z_int ?z_isinstance ?z_len ?z_list ?z_max ?z_min ?z_range ?z_sorted ?z_tuple)
    (case a_u_wall | a_names_end | a_name_of | a_feeders | a_is_teller | a_taken | a_turned | a_passed | a_joined | a_spread | a_ahead | a_with_keys | a_Side | a_Side___init__ | a_Side_put | a_Side_near | a_Side_drop | a_Side_kept | a_met_item | a_Join | a_Join___init__ | a_Join_come | a_Join_drop | a_ucell_at | a_unumber | a_unames | a_uscale | a_ustream | a_uteller | a_ubound | a_uplan | a_uevent | a_ujoined | a_umeant | a_utold | a_ucomes | a_law | pg_Side | hd_Side | po_Side | sa_Side | n_Side_rows | fn_Side___init__ | fn_Side_put | fn_Side_near | fn_Side_drop | fn_Side_kept | mks_Side | kp_Side | pg_Join | hd_Join | po_Join | sa_Join | n_Join_within | n_Join_sides | fn_Join___init__ | fn_Join_come | fn_Join_drop | mks_Join | kp_Join | g_PAIRED | l_PAIRED | g_TELLERS | l_TELLERS | z_abs | z_enumerate | z_int | z_isinstance | z_len | z_list | z_max | z_min | z_range | z_sorted | z_tuple => k_is)
    (case F_u_wall | F_names_end | F_name_of | F_feeders | F_is_teller | F_taken | F_turned | F_passed | F_joined | F_spread | F_ahead | F_with_keys | F_Side___init__ | F_Side_put | F_Side_near | F_Side_drop | F_Side_kept | F_met_item | F_Join___init__ | F_Join_come | F_Join_drop | F_ucell_at | F_unumber | F_unames | F_uscale | F_ustream | F_uteller | F_ubound | F_uplan | F_uevent | F_ujoined | F_umeant | F_utold | F_ucomes | F_law => refine' L2.fun_mk ?l ?c ?k; (case l => k_is); (case c => k_is); (case k => k_is))
