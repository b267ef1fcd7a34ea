import PyProof.Rows.All
import Wide.All
import OpenK.AllK
import Wide.FinOn
import Lean
import PyProof.EqAt
import PyProof.EqKinds
import PyProof.TupleCall
import PySem.Challenge.RW_brooktally_k13_whole_pieces_of_gaps
set_option Elab.async false
set_option linter.all false
set_option maxRecDepth 100000
namespace L2
open PySem PySem.Spec PyProof.Rows
abbrev Key := Sum Int Str
def keyIs : Key → Value → Bool
  | .inl k, v => Value.isInt k v
  | .inr x, v => Value.isStrOf x v
def keyH (w : World) : Key → Int
  | .inl k => hashInt k
  | .inr x => hashStr w x
theorem keyIs_shape : ∀ {k : Key} {v : Value}, keyIs k v = true → (∃ i t, k = Sum.inl i ∧ v = Value.int i t) ∨ (∃ x t, k = Sum.inr x ∧ v = Value.str x t)
  | .inl i, v, h => by
    obtain ⟨t, e⟩ := Value.isInt_shape (k := i) (v := v) h
    exact .inl ⟨i, t, rfl, e⟩
  | .inr x, v, h => by
    obtain ⟨t, e⟩ := Value.isStrOf_shape (x := x) (v := v) h
    exact .inr ⟨x, t, rfl, e⟩
theorem key_ll (a b : Int) : decide ((Sum.inl a : Key) = Sum.inl b) = (a == b) := by
  by_cases e : a = b
  · subst e; simp
  · have h : ¬ (Sum.inl a : Key) = Sum.inl b := fun q => e (Sum.inl.inj q)
    rw [decide_eq_false h]
    exact (beq_eq_false_iff_ne.mpr e).symm
theorem key_rr (a b : Str) : decide ((Sum.inr a : Key) = Sum.inr b) = decide (a = b) := by
  by_cases e : a = b
  · subst e; simp
  · have h : ¬ (Sum.inr a : Key) = Sum.inr b := fun q => e (Sum.inr.inj q)
    rw [decide_eq_false h, decide_eq_false e]
theorem key_lr (a : Int) (b : Str) : decide ((Sum.inl a : Key) = Sum.inr b) = false := decide_eq_false (fun q => nomatch q)
theorem key_rl (a : Str) (b : Int) : decide ((Sum.inr a : Key) = Sum.inl b) = false := decide_eq_false (fun q => nomatch q)
def mixKind (prog : Program) (w : World) : PySem.KeyKind prog w Key where
  is := keyIs
  hash := keyH w
  inj := fun v a b ha hb => by
    rcases keyIs_shape ha with ⟨i, t, rfl, rfl⟩ | ⟨x, t, rfl, rfl⟩
    · rcases keyIs_shape hb with ⟨j, u, rfl, e⟩ | ⟨y, u, rfl, e⟩
      · injection e with e1 _; rw [e1]
      · exact nomatch e
    · rcases keyIs_shape hb with ⟨j, u, rfl, e⟩ | ⟨y, u, rfl, e⟩
      · exact nomatch e
      · injection e with e1 _; rw [e1]
  byValue := fun k v h => by
    rcases keyIs_shape h with ⟨i, t, rfl, rfl⟩ | ⟨x, t, rfl, rfl⟩ <;> rfl
  pyHash := fun hv h => by
    rcases keyIs_shape hv with ⟨i, t, rfl, rfl⟩ | ⟨x, t, rfl, rfl⟩
    · exact wpAny_pyHash_int h
    · exact wpAny_pyHash_str h
  eqBool := fun hu hv h => by
    rcases keyIs_shape hu with ⟨i, t, rfl, rfl⟩ | ⟨x, t, rfl, rfl⟩
    · rcases keyIs_shape hv with ⟨j, u, rfl, rfl⟩ | ⟨y, u, rfl, rfl⟩
      · rw [key_ll] at h; exact wpAny_eqBool_int h
      · rw [key_lr] at h; exact SeqAt.EqAt.int_str i t y u _ _ _ _ h
    · rcases keyIs_shape hv with ⟨j, u, rfl, rfl⟩ | ⟨y, u, rfl, rfl⟩
      · rw [key_rl] at h; exact SeqAt.EqAt.str_int x t j u _ _ _ _ h
      · rw [key_rr] at h; exact wpAny_eqBool_str h
  «strs» := fun k x t v h => by
    rcases keyIs_shape h with ⟨i, u, rfl, e⟩ | ⟨y, u, rfl, e⟩
    · exact nomatch e
    · injection e with e1 _
      subst e1
      cases v <;> rfl
end L2
namespace L2
open PySem PySem.Spec PyProof.Rows
inductive V where
  | non | bl (b : Bool) | int (i : Int) | str (x : Str) | byt (b : Array UInt8) | flt (b : UInt64) | ref (a : Addr) | ty (n : String)
  deriving DecidableEq
def RelV : V → Value → Prop
  | .non, u => u = Value.none
  | .bl b, u => u = Value.bool b
  | .int i, u => ∃ t, u = Value.int i t
  | .str x, u => ∃ t, u = Value.str x t
  | .byt b, u => ∃ t, u = Value.bytes b t
  | .flt b, u => ∃ t, u = Value.float b t
  | .ref a, u => u = Value.ref a
  | .ty n, u => u = Value.type n
abbrev Vals : List V → List Value → Prop := Paired RelV
theorem Vals.length {xs : List V} {us : List Value} (r : Vals xs us) : xs.length = us.length := Paired.length r
theorem Vals.get : ∀ {xs : List V} {us : List Value} {i : Nat} {x : V}, Vals xs us → xs[i]? = some x → ∃ u, us[i]? = some u ∧ RelV x u
  | _, _, _, _, .nil, e => by simp at e
  | _, _, 0, _, .cons r _, e => by simp at e; subst e; exact ⟨_, rfl, r⟩
  | _, _, i + 1, x, .cons _ t, e => by
    obtain ⟨u, h1, h2⟩ := Vals.get (i := i) (x := x) t (by simpa using e)
    exact ⟨u, by simpa using h1, h2⟩
theorem Vals.set {x : V} {u : Value} (r : RelV x u) : ∀ {xs : List V} {us : List Value} (i : Nat), Vals xs us → Vals (xs.set i x) (us.set i u)
  | _, _, _, .nil => .nil
  | _, _, 0, .cons _ t => .cons r t
  | _, _, i + 1, .cons q t => .cons q (Vals.set r i t)
theorem Vals.append : ∀ {xs ys : List V} {us ws : List Value}, Vals xs us → Vals ys ws → Vals (xs ++ ys) (us ++ ws)
  | _, _, _, _, .nil, s => s
  | _, _, _, _, .cons r t, s => .cons r (Vals.append t s)
theorem Vals.take : ∀ {xs : List V} {us : List Value} (n : Nat), Vals xs us → Vals (xs.take n) (us.take n)
  | _, _, 0, _ => .nil
  | _, _, _ + 1, .nil => .nil
  | _, _, n + 1, .cons r t => .cons r (Vals.take n t)
theorem Vals.drop : ∀ {xs : List V} {us : List Value} (n : Nat), Vals xs us → Vals (xs.drop n) (us.drop n)
  | _, _, 0, r => r
  | _, _, _ + 1, .nil => .nil
  | _, _, n + 1, .cons _ t => Vals.drop n t
def RelO : Option V → Option Value → Prop
  | some v, some u => RelV v u
  | none, none => True
  | _, _ => False
def KV {κ : Type} : List (κ × V) → List (κ × Value) → Prop := Paired fun (p : κ × V) (q : κ × Value) => p.1 = q.1 ∧ RelV p.2 q.2
def kV : Key → V
  | .inl i => .int i
  | .inr x => .str x
inductive HO where
  | lst (xs : List V)
  | tup (xs : List V)
  | dK (kvs : List (Key × V)) | dT (kvs : List (List Key × V))
  | set (S : Int → Bool) (n : Nat)
  | ins (C dx : Addr) (fs : List (Str × V))
  | own (x : Addr)
  | xd (fs : List (Str × V))
  | met (f x : Addr)
  | rng (lo hi : Int)
  | frz (o : Obj) (u : HO)
  | tbl (ps : Array Value)
  | ext (φ : Heap → Prop)
abbrev Hp := Addr → Option HO
def upd (H : Hp) (a : Addr) (o : HO) : Hp := fun b => if b = a then some o else H b
theorem upd_same {H : Hp} {a : Addr} {o : HO} : upd H a o a = some o := by unfold upd; rw [if_pos rfl]
theorem upd_ne {H : Hp} {a b : Addr} {o : HO} (h : b ≠ a) : upd H a o b = H b := by unfold upd; rw [if_neg h]
theorem ne_of_none {H : Hp} {a b : Addr} {o : HO} (h : H a = some o) (h' : H b = none) : a ≠ b := by
  intro e; subst e; rw [h] at h'; cases h'
section
variable (P : Program) (w : World)
def ObjOk (H : Hp) (h : Heap) (a : Addr) : HO → Prop
  | .lst xs => xs.length ≤ sizeLine ∧ ∃ (its : List Value) (n : Nat), Vals xs its ∧ h.get? a = some { cls := .type "list", data := .seq its.toArray n }
  | .tup xs => xs.length ≤ sizeLine ∧ ∃ its : List Value, Vals xs its ∧ IsTup h a its.toArray
  | .dK kvs => kvs.length ≤ sizeLine ∧ (a == sysModules) = false ∧ ∃ vs, KV kvs vs ∧ h.DictOf (mixKind P w) a vs
  | .dT kvs => kvs.length ≤ sizeLine ∧ (a == sysModules) = false ∧ ∃ xs : List (List Key × Addr × Value),
      Paired (fun (p : List Key × V) (q : List Key × Addr × Value) => p.1 = q.1 ∧ H q.2.1 = some (.tup (p.1.map kV)) ∧ RelV p.2 q.2.2) kvs xs ∧
      ∃ o es ep, h.get? a = some o ∧ o.ExactDict ∧ o.data = .dict es ep ∧ es.toList = xs.map (entryOfKey (tupleKind (mixKind P w))) ∧ (xs.map (·.1)).Nodup
  | .set S n => h.SetOf (intKind P w) a S n
  | .ins C dx fs => H dx = some (.own a) ∧ fs.length ≤ 1000 ∧ dx ≠ a ∧ h.get? a = some (PySem.W.instObj C dx) ∧
      ∃ mA, h.Ns1 dx mA ∧ (∀ f, RelO (fs.lookup f) (mA f)) ∧ PySem.Within mA (fs.map (·.1))
  | .own _ => ∃ o, h.get? a = some o
  | .xd fs => ∃ mA, h.Ns1 a mA ∧ ∀ f, RelO (fs.lookup f) (mA f)
  | .rng lo hi => ∃ t u v, h.get? a = some { cls := .type "range", data := .fields #[.int lo t, .int hi u, .int 1 v] }
  | .frz o u => h.get? a = some o ∧ ObjOk H h a u
  | .tbl ps => h.get? a = some { cls := .none, data := .fields ps }
  | .met f x => h.get? a = some (PySem.W.methodObj (.ref f) (.ref x))
  | .ext φ => φ h ∧ (∃ o, h.get? a = some o) ∧ ∀ h1 h2 : Heap, φ h1 → (∀ o, h1.get? a = some o → h2.get? a = some o) → φ h2
def HOk (H : Hp) (h : Heap) : Prop := ∀ a o, H a = some o → ObjOk P w H h a o
end
section
variable {P : Program} {w : World} {H H' : Hp} {h h' : Heap} {a : Addr} {o : HO}
theorem ObjOk.lt (x : ObjOk P w H h a o) : a < h.objs.size := by
  cases o with
  | lst xs => obtain ⟨_, _, _, _, e⟩ := x; exact Heap.lt_size e
  | tup xs => obtain ⟨_, _, _, p⟩ := x; exact p.lt
  | dK kvs => obtain ⟨_, _, _, _, o, _, _, e, _⟩ := x; exact Heap.lt_size e
  | dT kvs => obtain ⟨_, _, _, _, o, _, _, e, _⟩ := x; exact Heap.lt_size e
  | set S n => obtain ⟨o, _, _, _, e, _⟩ := x; exact Heap.lt_size e
  | ins C dx fs => obtain ⟨_, _, _, e, _⟩ := x; exact Heap.lt_size e
  | own y => obtain ⟨_, e⟩ := x; exact Heap.lt_size e
  | xd fs => obtain ⟨_, ⟨_, _, _, e, _⟩, _⟩ := x; exact Heap.lt_size e
  | rng lo hi => obtain ⟨_, _, _, e⟩ := x; exact Heap.lt_size e
  | frz ob u => obtain ⟨e, _⟩ := x; exact Heap.lt_size e
  | tbl ps => exact Heap.lt_size (show h.get? a = some _ from x)
  | met f y => exact Heap.lt_size (show h.get? a = some _ from x)
  | ext φ => obtain ⟨_, ⟨_, e⟩, _⟩ := x; exact Heap.lt_size e
theorem Paired.mapP {α β : Type} {F G : α → β → Prop} : ∀ {l₁ : List α} {l₂ : List β}, Paired F l₁ l₂ → (∀ a b, F a b → G a b) → Paired G l₁ l₂
  | _, _, .nil, _ => .nil
  | _, _, .cons r t, f => .cons (f _ _ r) (Paired.mapP t f)
theorem ObjOk.stay (x : ObjOk P w H h a o) (k : ∀ b u, (b = a ∨ H b = some (.own a)) → h.get? b = some u → h'.get? b = some u)
    (ho : ∀ b, H b = some (.own a) → H' b = some (.own a)) (ht : ∀ b xs, H b = some (.tup xs) → H' b = some (.tup xs)) : ObjOk P w H' h' a o := by
  induction o with
  | lst xs => obtain ⟨z, its, n, r, e⟩ := x; exact ⟨z, its, n, r, k _ _ (.inl rfl) e⟩
  | tup xs => obtain ⟨z, its, r, ob, e, c⟩ := x; exact ⟨z, its, r, ob, k _ _ (.inl rfl) e, c⟩
  | dK kvs => obtain ⟨z, y, vs, r, ob, es, ep, e, c⟩ := x; exact ⟨z, y, vs, r, ob, es, ep, k _ _ (.inl rfl) e, c⟩
  | dT kvs =>
    obtain ⟨z, y, xs, r, ob, es, ep, e, c⟩ := x
    exact ⟨z, y, xs, Paired.mapP r fun p q z => ⟨z.1, ht _ _ z.2.1, z.2.2⟩, ob, es, ep, k _ _ (.inl rfl) e, c⟩
  | set S n => obtain ⟨ob, es, ep, t, e, c⟩ := x; exact ⟨ob, es, ep, t, k _ _ (.inl rfl) e, c⟩
  | ins C dx fs =>
    obtain ⟨d, z, ne, e, mA, ⟨od, es, ep, e2, c⟩, r⟩ := x
    exact ⟨ho _ d, z, ne, k _ _ (.inl rfl) e, mA, ⟨od, es, ep, k _ _ (.inr d) e2, c⟩, r⟩
  | own y => obtain ⟨ob, e⟩ := x; exact ⟨ob, k _ _ (.inl rfl) e⟩
  | xd fs => obtain ⟨mA, ⟨od, es, ep, e, c⟩, r⟩ := x; exact ⟨mA, ⟨od, es, ep, k _ _ (.inl rfl) e, c⟩, r⟩
  | rng lo hi => obtain ⟨t, u, v, e⟩ := x; exact ⟨t, u, v, k _ _ (.inl rfl) e⟩
  | frz ob u ih => obtain ⟨e, q⟩ := x; exact ⟨k _ _ (.inl rfl) e, ih q⟩
  | tbl ps =>
    have e : h.get? a = some { cls := .none, data := .fields ps } := x
    show h'.get? a = some { cls := .none, data := .fields ps }
    exact k a _ (.inl rfl) e
  | met f y =>
    have e : h.get? a = some (PySem.W.methodObj (.ref f) (.ref y)) := x
    show h'.get? a = some (PySem.W.methodObj (.ref f) (.ref y))
    exact k a _ (.inl rfl) e
  | ext φ => obtain ⟨p, ⟨o, e⟩, st⟩ := x; exact ⟨st _ _ p fun o q => k _ _ (.inl rfl) q, ⟨o, k _ _ (.inl rfl) e⟩, st⟩
theorem HOk.lt (x : HOk P w H h) (e : H a = some o) : a < h.objs.size := (x a o e).lt
theorem HOk.fresh (x : HOk P w H h) (e : h.objs.size ≤ a) : H a = none := by
  cases q : H a with
  | none => rfl
  | some u => exact absurd (Nat.lt_of_lt_of_le (x.lt q) e) (Nat.lt_irrefl _)
theorem HOk.kept (x : HOk P w H h) (k : ∀ b u, h.get? b = some u → h'.get? b = some u) : HOk P w H h' := fun a o e =>
  (x a o e).stay (fun b u _ q => k b u q) (fun _ q => q) fun _ _ q => q
theorem HOk.laid (x : HOk P w H h) (k : ∀ b u, h.get? b = some u → h'.get? b = some u) (hp : h.objs.size ≤ a) (new : ObjOk P w (upd H a o) h' a o) : HOk P w (upd H a o) h' := fun b u e => by
  have hn := x.fresh hp
  by_cases hb : b = a
  · subst hb; rw [upd_same] at e; cases e; exact new
  · rw [upd_ne hb] at e
    exact (x b u e).stay (fun c v _ q => k c v q) (fun c q => by rw [upd_ne (ne_of_none q hn)]; exact q) fun c xs q => by rw [upd_ne (ne_of_none q hn)]; exact q
end
def Rd (H : Hp) (a : Addr) (u : HO) : Prop := H a = some u ∨ ∃ o, H a = some (.frz o u)
theorem Rd.of {H : Hp} {a : Addr} {u : HO} (h : H a = some u) : Rd H a u := .inl h
theorem Rd.ok {P : Program} {w : World} {H : Hp} {h : Heap} {a : Addr} {u : HO} (r : Rd H a u) (x : HOk P w H h) : ObjOk P w H h a u := by
  rcases r with r | ⟨o, r⟩
  · exact x a u r
  · obtain ⟨_, q⟩ := x a _ r
    exact q
def Mut : Option HO → Prop
  | some (.lst _) => True
  | some (.dK _) => True
  | some (.dT _) => True
  | some (.set _ _) => True
  | some (.ins _ _ _) => True
  | some (.ext _) => True
  | _ => False
section
variable {P : Program} {w : World} {H : Hp} {h h' : Heap} {x e : Addr} {o' : HO}
theorem HOk.write (ok : HOk P w H h) (mu : Mut (H x)) (he : e = x ∨ H e = some (.own x)) (k : ∀ b u, b ≠ e → h.get? b = some u → h'.get? b = some u) (heo : ∃ u, h'.get? e = some u)
    (new : ObjOk P w (upd H x o') h' x o') : HOk P w (upd H x o') h' := fun b u q => by
  have nown : ∀ c y, H c = some (.own y) → c ≠ x := fun c y r z => by subst z; rw [r] at mu; exact mu
  have ntup : ∀ c xs, H c = some (.tup xs) → c ≠ x := fun c xs r z => by subst z; rw [r] at mu; exact mu
  by_cases hb : b = x
  · subst hb; rw [upd_same] at q; cases q; exact new
  · rw [upd_ne hb] at q
    by_cases hbe : b = e
    · have q' : H b = some (.own x) := by
        rcases he with z | z
        · exact absurd (hbe.trans z) hb
        · rw [hbe]; exact z
      rw [q] at q'; cases q'
      obtain ⟨v, hv⟩ := heo
      exact ⟨v, by rw [hbe]; exact hv⟩
    · refine (ok b u q).stay (fun c v hc r => k c v ?_ r) (fun c r => by rw [upd_ne (nown c b r)]; exact r) fun c xs r => by rw [upd_ne (ntup c xs r)]; exact r
      rcases hc with rfl | hc
      · exact hbe
      · rintro rfl
        rcases he with z | z
        · exact nown c b hc z
        · rw [hc] at z; cases z; exact hb rfl
end
structure Un (fs ex : List Addr) (H H' : Hp) (h h' : Heap) : Prop where
  keep : ∀ b o, h.get? b = some o → H b = none → b ∉ fs → b ∉ ex → h'.get? b = some o
  slot : ∀ b o, h.get? b = some o → H b = none → b ∈ fs → b ∉ ex → ∃ sl, h'.get? b = some { o with slots := sl }
  free : ∀ b o, h.get? b = some o → H b = none → b ∉ ex → H' b = none
  there : ∀ b o, h.get? b = some o → b ∉ ex → ∃ o', h'.get? b = some o'
  tups : ∀ b xs, H b = some (.tup xs) → H' b = some (.tup xs)
  frzs : ∀ b o u, H b = some (.frz o u) → H' b = some (.frz o u)
  tbls : ∀ b ps, H b = some (.tbl ps) → ∃ more, H' b = some (.tbl (ps ++ more))
section
variable {fs fs' ex ex' : List Addr} {H H1 H2 : Hp} {h h1 h2 h' : Heap} {a x e : Addr} {o : HO}
theorem Un.any (u : Un fs ex H H1 h h1) {b : Addr} {ob : Obj} (q : h.get? b = some ob) (n : H b = none) (hx : b ∉ ex) : ∃ sl, h1.get? b = some { ob with slots := sl } := by
  by_cases hb : b ∈ fs
  · exact u.slot b ob q n hb hx
  · exact ⟨ob.slots, u.keep b ob q n hb hx⟩
theorem Un.trans (a : Un fs ex H H1 h h1) (b : Un fs ex H1 H2 h1 h2) : Un fs ex H H2 h h2 where
  keep := fun c ob q n hc hx => b.keep c ob (a.keep c ob q n hc hx) (a.free c ob q n hx) hc hx
  slot := fun c ob q n hc hx => by
    obtain ⟨sl, e1⟩ := a.slot c ob q n hc hx
    obtain ⟨sl', e2⟩ := b.slot c _ e1 (a.free c ob q n hx) hc hx
    exact ⟨sl', e2⟩
  free := fun c ob q n hx => by
    obtain ⟨o', e1⟩ := a.there c ob q hx
    exact b.free c o' e1 (a.free c ob q n hx) hx
  there := fun c ob q hx => by
    obtain ⟨o', e1⟩ := a.there c ob q hx
    exact b.there c o' e1 hx
  tups := fun c xs q => b.tups c xs (a.tups c xs q)
  frzs := fun c ob xs q => b.frzs c ob xs (a.frzs c ob xs q)
  tbls := fun c ps q => by
    obtain ⟨m1, e1⟩ := a.tbls c ps q
    obtain ⟨m2, e2⟩ := b.tbls c _ e1
    exact ⟨m1 ++ m2, by rw [e2, Array.append_assoc]⟩
theorem Un.kept (k : ∀ b u, h.get? b = some u → h'.get? b = some u) : Un fs ex H H h h' :=
  ⟨fun b ob q _ _ _ => k b ob q, fun b ob q _ _ _ => ⟨ob.slots, k b ob q⟩, fun _ _ _ n _ => n, fun b ob q _ => ⟨ob, k b ob q⟩, fun _ _ q => q, fun _ _ _ q => q, fun _ ps q => ⟨#[], by rw [q]; simp⟩⟩
theorem Un.refl : Un fs ex H H h h := Un.kept fun _ _ q => q
theorem Un.laid (k : ∀ b u, h.get? b = some u → h'.get? b = some u) (hp : h.objs.size ≤ a) (hn : H a = none) : Un fs ex H (upd H a o) h h' where
  keep := fun b u q _ _ _ => k b u q
  slot := fun b u q _ _ _ => ⟨u.slots, k b u q⟩
  free := fun b u q n _ => by rw [upd_ne (Nat.ne_of_lt (Nat.lt_of_lt_of_le (Heap.lt_size q) hp))]; exact n
  there := fun b u q _ => ⟨u, k b u q⟩
  tups := fun b xs q => by rw [upd_ne (ne_of_none q hn)]; exact q
  frzs := fun b u xs q => by rw [upd_ne (ne_of_none q hn)]; exact q
  tbls := fun b ps q => ⟨#[], by rw [upd_ne (ne_of_none q hn), q]; simp⟩
theorem Un.write (mu : Mut (H x)) (he : e = x ∨ H e = some (.own x)) (k : ∀ b u, b ≠ e → h.get? b = some u → h'.get? b = some u) (heo : ∃ u, h'.get? e = some u) : Un fs ex H (upd H x o) h h' := by
  have hx : ∀ b, H b = none → b ≠ x := fun b n z => by subst z; rw [n] at mu; exact mu
  have hb : ∀ b, H b = none → b ≠ e := fun b n z => by
    subst z
    rcases he with r | r
    · exact hx b n r
    · rw [n] at r; cases r
  have hm : ∀ b u, H b = some u → ¬ Mut (some u) → b ≠ x := fun b u q nm z => by subst z; rw [q] at mu; exact nm mu
  refine ⟨fun b u q n _ _ => k b u (hb b n) q, fun b u q n _ _ => ⟨u.slots, k b u (hb b n) q⟩, fun b u q n _ => by rw [upd_ne (hx b n)]; exact n, fun b u q _ => ?_,
    fun b xs q => by rw [upd_ne (hm b _ q fun z => z)]; exact q, fun b u xs q => by rw [upd_ne (hm b _ q fun z => z)]; exact q, fun b ps q => ⟨#[], by rw [upd_ne (hm b _ q fun z => z), q]; simp⟩⟩
  by_cases hbe : b = e
  · subst hbe; exact heo
  · exact ⟨u, k b u hbe q⟩
theorem Un.mono (u : Un fs ex H H1 h h1) (hs : ∀ b ∈ fs, b ∈ fs') (hx : ∀ b ∈ ex, b ∈ ex') : Un fs' ex' H H1 h h1 :=
  ⟨fun b ob q n hb he => u.keep b ob q n (fun z => hb (hs b z)) fun z => he (hx b z), fun _ _ q n _ he => u.any q n fun z => he (hx _ z), fun b ob q n he => u.free b ob q n fun z => he (hx b z), fun b ob q he => u.there b ob q fun z => he (hx b z), u.tups, u.frzs, u.tbls⟩
end
def trk (h : Heap) (H : Hp) : List Addr := (List.range h.objs.size).filter fun a => (H a).isSome
def hidT (h : Heap) (H : Hp) : Heap := PySem.W.hideAll h (trk h H)
theorem hidT_size (h : Heap) (H : Hp) : (hidT h H).objs.size = h.objs.size := PySem.W.hideAll_size _ _
theorem hidT_get {h : Heap} {H : Hp} {b : Addr} {o : Obj} (e : h.get? b = some o) (n : H b = none) : (hidT h H).get? b = some o :=
  PySem.W.hideAll_get _ e fun hm => by
    have q : (H b).isSome = true := (List.mem_filter.mp hm).2
    rw [n] at q; simp at q
theorem of_hidT {h : Heap} {H : Hp} {b : Addr} {o : Obj} (e : (hidT h H).get? b = some o) : h.get? b = some o ∧ H b = none := by
  have e' : h.get? b = some o := PySem.W.of_hideAll (trk h H) e
  refine ⟨e', ?_⟩
  cases q : H b with
  | none => rfl
  | some x =>
    have hm : b ∈ trk h H := List.mem_filter.mpr ⟨List.mem_range.mpr (Heap.lt_size e'), by simp [q]⟩
    have z : (hidT h H).get? b = none := PySem.W.hideAll_none (trk h H) hm
    rw [z] at e; cases e
def allNews (g h : Heap) (L : Addr) : List (Addr × Obj) := (List.range h.objs.size).filterMap fun a => if a = L ∨ (g.get? a).isSome = true then none else (h.get? a).map fun o => (a, o)
def rest (g h : Heap) (L d : Addr) : List (Addr × Obj) := (allNews g h L).filter fun p => decide (p.1 ≠ d)
end L2
namespace L2
open PySem PySem.Spec PyProof.Rows
structure Mod (K : PySem.W.Frag) (mg : Str → Option Value) (base : Heap) : Prop where
  kin : K.In base
  glob : base.Ns mainGlobals mg
  blt : ∃ mb, base.Ns builtinsNs mb ∧ ∀ x : Str, x ≠ "__name__" → mb x = bootBuiltins x
  nolimit : base.NoLimit
structure Cx where
  prog : Program
  w : World
  K : PySem.W.Frag
  mg : Str → Option Value
  base : Heap
  A : Around
  N : List Str
  s₀ : Shared
  H₀ : Hp
  env : Env
  outer : List Env
  stack : List Env
  ex : List Addr
  fn : Str → Bool
  calm : Bool
  pn : List (Addr × Obj)
  xe : Value → Shared → Prop
def frs (l : List Env) : List Addr := l.filterMap (·.frame)
abbrev Cx.fs (X : Cx) : List Addr := frs X.outer
def Vis (sc : Scope) (x : Str) : Prop := sc.names.lookup x = some .local ∨ sc.names.lookup x = some .cell ∨ sc.names.lookup x = some .free
def Loc (sc : Scope) (x : Str) : Prop := sc.names.lookup x = some .local ∨ sc.names.lookup x = some .cell
def Look (env : Env) (h : Heap) (m : Str → Option Value) (x : Str) (u : Value) : Prop :=
  (env.kindOf x = some .local ∧ m x = some u) ∨ ((env.kindOf x = some .cell ∨ env.kindOf x = some .free) ∧ ∃ c, env.cells.lookup x = some c ∧ h.IsCell c (some u))
structure Cx.Ok (X : Cx) : Prop where
  mod : Mod X.K X.mg X.base
  kind : X.env.scope.kind = .function
  glob : X.env.globals = mainGlobals
  blt : X.env.builtins = builtinsNs
  above : X.s₀.heap.objs.size ≤ X.env.locals
  inj : ∀ x y c, X.env.cells.lookup x = some c → X.env.cells.lookup y = some c → x = y
  has : ∀ x, (X.env.kindOf x = some .cell ∨ X.env.kindOf x = some .free) → ∃ c, X.env.cells.lookup x = some c
  cab : ∀ x c, X.fn x = true → X.env.cells.lookup x = some c → X.s₀.heap.objs.size ≤ c
  hd : X.calm = true → X.A.handled = none
  frames : X.A.frames = some X.stack
  stk : X.stack = X.outer ∨ (X.stack = X.env :: X.outer ∧ X.env.frame = some X.env.locals)
  exf : ∀ b ∈ X.ex, b ≠ X.env.locals ∧ ∀ x c, X.env.cells.lookup x = some c → c ≠ b
  bs : ∀ b o, X.base.get? b = some o → X.s₀.heap.get? b = some o ∧ X.H₀ b = none
  bsz : X.base.objs.size ≤ X.s₀.heap.objs.size
  noex : ∀ b o, X.base.get? b = some o → b ∉ X.ex
  exfs : ∀ b ∈ X.ex, b ∉ X.fs
  funs : X.s₀.heap.FunFrames X.base X.outer
  frf : ∀ b ∈ X.fs, X.H₀ b = none
structure Inv (X : Cx) (pins : List (Addr × Obj)) (σ : List (Option V)) (H : Hp) (s : Shared) : Prop where
  ok : X.Ok
  os : s.os = X.s₀.os
  bare : AllBare s.gens
  base : Un X.fs X.ex X.H₀ H X.s₀.heap s.heap
  loc : ∃ m, s.heap.Ns X.env.locals m ∧ ∀ (i : Nat) (x : Str) (v : V), X.N[i]? = some x → σ[i]? = some (some v) → Vis X.env.scope x → ∃ u, RelV v u ∧ Look X.env s.heap m x u
  cell : ∀ x c, X.env.cells.lookup x = some c → ∃ v, s.heap.IsCell c v
  free : H X.env.locals = none
  freeC : ∀ x c, X.env.cells.lookup x = some c → H c = none
  pin : ∀ p ∈ X.pn ++ pins, s.heap.get? p.1 = some p.2 ∧ H p.1 = none ∧ p.1 ≠ X.env.locals ∧ p.1 ∉ X.fs ∧ ∀ v, p.2.data ≠ .cell v
  hok : HOk X.prog X.w H s.heap
  len : σ.length = X.N.length
section
variable {X : Cx} {pins : List (Addr × Obj)} {σ : List (Option V)} {H H' : Hp} {s : Shared} {h' : Heap}
theorem Cx.Ok.nofr (ok : X.Ok) {b : Addr} {o : Obj} (e : X.base.get? b = some o) : b ∉ X.fs := fun hb => by
  have := (ok.funs.mem hb).1
  rw [e] at this; cases this
theorem Inv.bs (I : Inv X pins σ H s) : ∀ b o, X.base.get? b = some o → s.heap.get? b = some o ∧ H b = none := fun b o e =>
  ⟨I.base.keep b o (I.ok.bs b o e).1 (I.ok.bs b o e).2 (I.ok.nofr e) (I.ok.noex b o e), I.base.free b o (I.ok.bs b o e).1 (I.ok.bs b o e).2 (I.ok.noex b o e)⟩
theorem Inv.bk (I : Inv X pins σ H s) : ∀ b o, X.base.get? b = some o → s.heap.get? b = some o := fun b o e => (I.bs b o e).1
theorem Inv.mod (I : Inv X pins σ H s) : Mod X.K X.mg X.base := I.ok.mod
theorem Inv.kIn (I : Inv X pins σ H s) : X.K.In s.heap := I.ok.mod.kin.keeps I.bk
theorem Inv.nolimit (I : Inv X pins σ H s) : s.heap.NoLimit := I.ok.mod.nolimit.keeps I.bk
theorem Inv.fr (I : Inv X pins σ H s) : ∃ m, Fr X.base X.env.locals s.heap m :=
  let ⟨m, hn, _⟩ := I.loc
  ⟨m, hn, I.bk, Nat.le_trans I.ok.bsz I.ok.above⟩
theorem Inv.lt (I : Inv X pins σ H s) : X.env.locals < s.heap.objs.size := let ⟨_, hn, _⟩ := I.loc; hn.lt
theorem Inv.sz (I : Inv X pins σ H s) : X.s₀.heap.objs.size ≤ s.heap.objs.size := Nat.le_trans I.ok.above (Nat.le_of_lt I.lt)
theorem Inv.nofs (I : Inv X pins σ H s) {a : Addr} (h : s.heap.objs.size ≤ a) : a ∉ X.fs := fun hb => by
  obtain ⟨_, o, ho, _⟩ := I.ok.funs.mem hb
  exact absurd (Nat.lt_of_lt_of_le (Heap.lt_size ho) (Nat.le_trans I.sz h)) (Nat.lt_irrefl _)
theorem Inv.cne (I : Inv X pins σ H s) : ∀ x c, X.env.cells.lookup x = some c → c ≠ X.env.locals := fun x c e z => by
  obtain ⟨v, o, ho, hd⟩ := I.cell x c e
  obtain ⟨m, ⟨o', es, ep, ho', hd', _⟩, _⟩ := I.loc
  rw [z, ho'] at ho; cases ho; rw [hd'] at hd; cases hd
theorem Inv.funs (I : Inv X pins σ H s) : s.heap.FunFrames X.base X.outer := by
  have all : ∀ (l : List Env), (∀ b ∈ frs l, b ∈ X.fs) → X.s₀.heap.FunFrames X.base l → s.heap.FunFrames X.base l := by
    intro l
    induction l with
    | nil => intro _ _; trivial
    | cons env r ih =>
      intro hs hl
      obtain ⟨hk, ⟨L, o, hf, hn, ho, hd⟩, hr⟩ := hl
      have hL : L ∈ X.fs := hs L (by unfold frs; rw [List.filterMap_cons, hf]; exact List.mem_cons_self)
      obtain ⟨sl, e⟩ := I.base.slot L o ho (I.ok.frf L hL) hL fun z => I.ok.exfs L z hL
      exact ⟨hk, ⟨L, _, hf, hn, e, hd⟩, ih (fun b hb => hs b (by unfold frs; rw [List.filterMap_cons, hf]; exact List.mem_cons_of_mem _ hb)) hr⟩
  exact all X.outer (fun _ hb => hb) I.ok.funs
theorem Inv.stack (I : Inv X pins σ H s) : s.heap.FunFrames X.base X.stack := by
  rcases I.ok.stk with e | ⟨e, hf⟩
  · rw [e]; exact I.funs
  · rw [e]
    obtain ⟨m, hn, _⟩ := I.loc
    refine .cons (by rw [I.ok.kind]; decide) hf hn ?_ I.funs
    exact Heap.get?_none_of_le (Nat.le_trans I.ok.bsz I.ok.above)
theorem Inv.stkSub (I : Inv X pins σ H s) : ∀ b ∈ frs X.stack, b ∈ X.env.locals :: X.fs := fun b hb => by
  rcases I.ok.stk with e | ⟨e, hf⟩
  · rw [e] at hb; exact List.mem_cons_of_mem _ hb
  · rw [e] at hb
    unfold frs at hb
    rw [List.filterMap_cons, hf] at hb
    exact hb
theorem Inv.stkFree (I : Inv X pins σ H s) : ∀ b ∈ frs X.stack, H b = none := fun b hb => by
  rcases List.mem_cons.mp (I.stkSub b hb) with e | hb
  · rw [e]; exact I.free
  · obtain ⟨_, o, ho, _⟩ := I.ok.funs.mem hb
    exact I.base.free b o ho (I.ok.frf b hb) fun z => I.ok.exfs b z hb
theorem Inv.step {g' : Array GenState} {t' : Nat} {d' : Drawn} {ch : List Addr} (I : Inv X pins σ H s)
    (hch : ∀ b ∈ ch, (b ∈ X.ex ∨ X.s₀.heap.objs.size ≤ b) ∧ b ≠ X.env.locals ∧ (∀ x c, X.env.cells.lookup x = some c → c ≠ b) ∧ ∀ p ∈ X.pn ++ pins, p.1 ≠ b)
    (keep : ∀ b o, b ≠ X.env.locals → b ∉ X.fs → b ∉ ch → s.heap.get? b = some o → H b = none → h'.get? b = some o)
    (slot : ∀ b o, b ≠ X.env.locals → b ∈ X.fs → b ∉ ch → s.heap.get? b = some o → H b = none → ∃ sl, h'.get? b = some { o with slots := sl }) (free : ∀ b o, b ∉ ch → s.heap.get? b = some o → H b = none → H' b = none)
    (there : ∀ b o, b ∉ ch → s.heap.get? b = some o → ∃ o', h'.get? b = some o')
    (tups : ∀ b xs, H b = some (.tup xs) → H' b = some (.tup xs)) (frzs : ∀ b o u, H b = some (.frz o u) → H' b = some (.frz o u)) (tbls : ∀ b ps, H b = some (.tbl ps) → ∃ more, H' b = some (.tbl (ps ++ more)))
    (ns : ∀ m, s.heap.Ns X.env.locals m → h'.Ns X.env.locals m) (hok : HOk X.prog X.w H' h') (hg : AllBare g') :
    Inv X pins σ H' { s with heap := h', gens := g', drawn := d', toks := t' } := by
  have neL : ∀ b o, X.s₀.heap.get? b = some o → b ≠ X.env.locals := fun b o e => Nat.ne_of_lt (Nat.lt_of_lt_of_le (Heap.lt_size e) I.ok.above)
  have neC : ∀ b o, X.s₀.heap.get? b = some o → b ∉ X.ex → b ∉ ch := fun b o e hx hb => by
    rcases (hch b hb).1 with z | z
    · exact hx z
    · exact absurd (Nat.lt_of_lt_of_le (Heap.lt_size e) z) (Nat.lt_irrefl _)
  have cellK : ∀ x c, X.env.cells.lookup x = some c → ∀ v, s.heap.IsCell c v → h'.IsCell c v := fun x c e v ⟨o, ho, hd⟩ => by
    have nch : c ∉ ch := fun z => (hch c z).2.2.1 x c e rfl
    by_cases hc : c ∈ X.fs
    · obtain ⟨sl, q⟩ := slot c o (I.cne x c e) hc nch ho (I.freeC x c e)
      exact ⟨_, q, hd⟩
    · exact ⟨o, keep c o (I.cne x c e) hc nch ho (I.freeC x c e), hd⟩
  refine ⟨I.ok, I.os, hg, ⟨fun b o e n hb hx => ?_, fun b o e n hb hx => ?_, fun b o e n hx => ?_, fun b o e hx => ?_, fun b xs e => tups b xs (I.base.tups b xs e), fun b o xs e => frzs b o xs (I.base.frzs b o xs e), fun b ps e => ?_⟩, ?_, fun x c e => ?_, ?_, fun x c e => ?_, fun p hp => ?_, hok, I.len⟩
  · exact keep b o (neL b o e) hb (neC b o e hx) (I.base.keep b o e n hb hx) (I.base.free b o e n hx)
  · obtain ⟨sl, e1⟩ := I.base.slot b o e n hb hx
    obtain ⟨sl', e2⟩ := slot b _ (neL b o e) hb (neC b o e hx) e1 (I.base.free b o e n hx)
    exact ⟨sl', e2⟩
  · obtain ⟨o', e1⟩ := I.base.there b o e hx
    exact free b o' (neC b o e hx) e1 (I.base.free b o e n hx)
  · obtain ⟨o', e1⟩ := I.base.there b o e hx
    exact there b o' (neC b o e hx) e1
  · obtain ⟨m1, e1⟩ := I.base.tbls b ps e
    obtain ⟨m2, e2⟩ := tbls b _ e1
    exact ⟨m1 ++ m2, by rw [e2, Array.append_assoc]⟩
  · obtain ⟨m, hn, hl⟩ := I.loc
    refine ⟨m, ns m hn, fun i x v e1 e2 e3 => ?_⟩
    obtain ⟨u, r, l⟩ := hl i x v e1 e2 e3
    refine ⟨u, r, ?_⟩
    rcases l with l | ⟨k, c, e, z⟩
    · exact .inl l
    · exact .inr ⟨k, c, e, cellK x c e _ z⟩
  · obtain ⟨v, z⟩ := I.cell x c e
    exact ⟨v, cellK x c e v z⟩
  · obtain ⟨m, ⟨o, _, _, ho, _⟩, _⟩ := I.loc
    exact free _ o (fun z => (hch _ z).2.1 rfl) ho I.free
  · obtain ⟨v, o, ho, hd⟩ := I.cell x c e
    exact free c o (fun z => (hch c z).2.2.1 x c e rfl) ho (I.freeC x c e)
  · obtain ⟨e, n, ne, nf, d⟩ := I.pin p hp
    have nch : p.1 ∉ ch := fun z => (hch p.1 z).2.2.2 p hp rfl
    exact ⟨keep p.1 p.2 ne nf nch e n, free p.1 p.2 nch e n, ne, nf, d⟩
theorem Inv.un {t' : Nat} (I : Inv X pins σ H s) (u : Un X.fs [] H H' s.heap h') (hok : HOk X.prog X.w H' h') : Inv X pins σ H' { s with heap := h', toks := t' } := by
  obtain ⟨m, ⟨o, es, ep, ho, r⟩, _⟩ := id I.loc
  obtain ⟨sl, hL⟩ := u.any ho I.free (by simp)
  exact I.step (g' := s.gens) (d' := s.drawn) (ch := []) (fun _ z => nomatch z) (fun b o _ hb _ e n => u.keep b o e n hb (by simp)) (fun b o _ hb _ e n => u.slot b o e n hb (by simp)) (fun b o _ e n => u.free b o e n (by simp)) (fun b o _ e => u.there b o e (by simp)) u.tups u.frzs u.tbls (fun m' hm => by
    obtain ⟨o', es', ep', ho', r'⟩ := hm
    rw [ho] at ho'; cases ho'
    exact ⟨_, es', ep', hL, r'⟩) hok I.bare
theorem Inv.call {g' : Array GenState} {t' : Nat} {d' : Drawn} {ch : List Addr} (I : Inv X pins σ H s) (u : Un (frs X.stack) ch H H' s.heap h') (hok : HOk X.prog X.w H' h') (hg : AllBare g')
    (hch : ∀ b ∈ ch, (b ∈ X.ex ∨ X.s₀.heap.objs.size ≤ b) ∧ b ≠ X.env.locals ∧ (∀ x c, X.env.cells.lookup x = some c → c ≠ b) ∧ ∀ p ∈ X.pn ++ pins, p.1 ≠ b) :
    Inv X pins σ H' { s with heap := h', gens := g', drawn := d', toks := t' } := by
  obtain ⟨m, ⟨o, es, ep, ho, r⟩, _⟩ := id I.loc
  obtain ⟨sl, hL⟩ := u.any ho I.free fun z => (hch _ z).2.1 rfl
  exact I.step (ch := ch) hch (fun b o hL hb hc e n => u.keep b o e n (fun z => (List.mem_cons.mp (I.stkSub b z)).elim hL hb) hc) (fun b o _ _ hc e n => u.any e n hc) (fun b o hc e n => u.free b o e n hc) (fun b o hc e => u.there b o e hc) u.tups u.frzs u.tbls (fun m' hm => by
    obtain ⟨o', es', ep', ho', r'⟩ := hm
    rw [ho] at ho'; cases ho'
    exact ⟨_, es', ep', hL, r'⟩) hok hg
theorem Inv.turned {t' : Nat} {it : Addr} (I : Inv X pins σ H s) (k : ∀ b o, b ≠ it → s.heap.get? b = some o → h'.get? b = some o) (hn : H it = none) (hL : it ≠ X.env.locals)
    (h1 : it ∈ X.ex ∨ X.s₀.heap.objs.size ≤ it) (h2 : ∀ x c, X.env.cells.lookup x = some c → c ≠ it) (h3 : ∀ p ∈ X.pn ++ pins, p.1 ≠ it) : Inv X pins σ H { s with heap := h', toks := t' } := by
  have nit : ∀ b u, H b = some u → b ≠ it := fun b u e z => by rw [z, hn] at e; cases e
  refine I.step (g' := s.gens) (d' := s.drawn) (ch := [it]) (fun b hb => ?_) (fun b o _ _ hc e _ => k b o (fun z => hc (by simp [z])) e) (fun b o _ _ hc e _ => ⟨o.slots, k b o (fun z => hc (by simp [z])) e⟩) (fun _ _ _ _ n => n)
    (fun b o hc e => ⟨o, k b o (fun z => hc (by simp [z])) e⟩) (fun _ _ e => e) (fun _ _ _ e => e) (fun b ps e => ⟨#[], by rw [e]; simp⟩) (fun m hm => ?_) (fun b u e => ?_) I.bare
  · have e : b = it := by simpa using hb
    subst e
    exact ⟨h1, hL, h2, h3⟩
  · obtain ⟨o, es, ep, ho, r⟩ := hm
    exact ⟨o, es, ep, k _ o (Ne.symm hL) ho, r⟩
  · refine (I.hok b u e).stay (fun c v hc q => k c v ?_ q) (fun _ q => q) fun _ _ q => q
    rcases hc with z | z
    · rw [z]; exact nit b u e
    · exact nit c _ z
theorem Inv.tok (I : Inv X pins σ H s) (t : Nat) : Inv X pins σ H { s with toks := t } := I.un (h' := s.heap) (t' := t) Un.refl I.hok
theorem Inv.kept {t' : Nat} (I : Inv X pins σ H s) (k : ∀ b u, s.heap.get? b = some u → h'.get? b = some u) : Inv X pins σ H { s with heap := h', toks := t' } := I.un (Un.kept k) (I.hok.kept k)
theorem Inv.laid {a : Addr} {o : HO} {t' : Nat} (I : Inv X pins σ H s) (k : ∀ b u, s.heap.get? b = some u → h'.get? b = some u) (hp : s.heap.objs.size ≤ a) (new : ObjOk X.prog X.w (upd H a o) h' a o) :
    Inv X pins σ (upd H a o) { s with heap := h', toks := t' } := I.un (Un.laid k hp (I.hok.fresh hp)) (I.hok.laid k hp new)
theorem Inv.write {x e : Addr} {o : HO} {t' : Nat} (I : Inv X pins σ H s) (mu : Mut (H x)) (he : e = x ∨ H e = some (.own x)) (k : ∀ b u, b ≠ e → s.heap.get? b = some u → h'.get? b = some u) (heo : ∃ u, h'.get? e = some u)
    (new : ObjOk X.prog X.w (upd H x o) h' x o) : Inv X pins σ (upd H x o) { s with heap := h', toks := t' } := I.un (Un.write mu he k heo) (I.hok.write mu he k heo new)
theorem Inv.pins_of {pins' : List (Addr × Obj)} (I : Inv X pins σ H s) (h : ∀ p ∈ pins', s.heap.get? p.1 = some p.2 ∧ H p.1 = none ∧ p.1 ≠ X.env.locals ∧ p.1 ∉ X.fs ∧ ∀ v, p.2.data ≠ .cell v) : Inv X pins' σ H s :=
  ⟨I.ok, I.os, I.bare, I.base, I.loc, I.cell, I.free, I.freeC, fun p hp => (List.mem_append.mp hp).elim (fun z => I.pin p (List.mem_append_left _ z)) (h p), I.hok, I.len⟩
theorem nodup_ix {N : List Str} (hN : N.Nodup) {i j : Nat} {x : Str} (a : N[i]? = some x) (b : N[j]? = some x) : i = j := by
  obtain ⟨h1, e1⟩ := List.getElem?_eq_some_iff.mp a
  obtain ⟨h2, e2⟩ := List.getElem?_eq_some_iff.mp b
  exact (List.getElem_inj hN).mp (e1.trans e2.symm)
theorem store_ok2 {M : Model} {A : Around} {E : Value → Shared → Prop} {i : Nat} {x : Str} {v : V} {u : Value} {Q : Unit → Shared → Prop} (I : Inv X pins σ H s) (hN : X.N.Nodup) (hi : X.N[i]? = some x) (hx : Loc X.env.scope x) (r : RelV v u)
    (h : ∀ s', Inv X pins (σ.set i (some v)) H s' → (∃ a, Heap.SameBut a s.heap s'.heap ∧ (a = X.env.locals ∨ X.env.cells.lookup x = some a)) → Q () s') (hf : X.fn x = true ∨ X.env.scope.names.lookup x = some .local := by first | exact .inl rfl | exact .inr rfl | assumption) : wpAny M A (storeName X.env x u) Q E s := by
  obtain ⟨m, hn, hl⟩ := id I.loc
  have hcls : (X.env.scope.kind == .class || (X.env.scope.kind == .module && X.env.locals != X.env.globals)) = false := by rw [I.ok.kind]; rfl
  have hiσ : i < σ.length := by rw [I.len]; exact (List.getElem?_eq_some_iff.mp hi).1
  have cne := I.cne
  have tracked : ∀ {a : Addr} {h' : Heap}, (∃ o, s.heap.get? a = some o ∧ H a = none) → Heap.SameBut a s.heap h' → HOk X.prog X.w H h' := fun {a h'} ha hs b ob e => by
    obtain ⟨_, _, hfree⟩ := ha
    refine (I.hok b ob e).stay (fun c w' hc q => (hs.2 c ?_).trans q) (fun _ q => q) fun _ _ q => q
    rintro rfl
    rcases hc with rfl | hc
    · rw [hfree] at e; cases e
    · rw [hfree] at hc; cases hc
  rcases hx with hk | hk
  · refine wpAny_storeName_local hk hn (fun h' hn' hs => ?_) hcls
    obtain ⟨oL, _, _, hoL, _⟩ := id hn
    refine h _ ⟨I.ok, I.os, I.bare, ⟨fun b o e n hb hx => ?_, fun b o e n hb hx => ?_, I.base.free, fun b o e hx => ?_, I.base.tups, I.base.frzs, I.base.tbls⟩, ⟨_, hn', fun j y v' e1 e2 e3 => ?_⟩, fun y c e => ?_, I.free, I.freeC, fun p hp => ?_, tracked ⟨oL, hoL, I.free⟩ hs, by simpa using I.len⟩ ⟨_, hs, .inl rfl⟩
    · exact (hs.2 b (Nat.ne_of_lt (Nat.lt_of_lt_of_le (Heap.lt_size e) I.ok.above))).trans (I.base.keep b o e n hb hx)
    · obtain ⟨sl, e1⟩ := I.base.slot b o e n hb hx
      exact ⟨sl, (hs.2 b (Nat.ne_of_lt (Nat.lt_of_lt_of_le (Heap.lt_size e) I.ok.above))).trans e1⟩
    · obtain ⟨o', e1⟩ := I.base.there b o e hx
      exact ⟨o', (hs.2 b (Nat.ne_of_lt (Nat.lt_of_lt_of_le (Heap.lt_size e) I.ok.above))).trans e1⟩
    · by_cases hj : j = i
      · subst hj
        rw [hi] at e1; cases e1
        rw [List.getElem?_set_self hiσ] at e2
        cases e2
        exact ⟨u, r, .inl ⟨hk, by simp⟩⟩
      · rw [List.getElem?_set_ne (Ne.symm hj)] at e2
        obtain ⟨u', r', q⟩ := hl j y v' e1 e2 e3
        refine ⟨u', r', ?_⟩
        rcases q with ⟨k, e⟩ | ⟨k, c, e, z⟩
        · refine .inl ⟨k, ?_⟩
          have : y ≠ x := fun e => hj (nodup_ix hN e1 (e ▸ hi))
          simp [this, e]
        · exact .inr ⟨k, c, e, z.sameBut hs (cne y c e)⟩
    · obtain ⟨w', z⟩ := I.cell y c e
      exact ⟨w', z.sameBut hs (cne y c e)⟩
    · obtain ⟨e, n, ne, nf, d⟩ := I.pin p hp
      exact ⟨(hs.2 p.1 ne).trans e, n, ne, nf, d⟩
  · have hfn : X.fn x = true := by
      rcases hf with z | z
      · exact z
      · rw [z] at hk; cases hk
    obtain ⟨c, hc⟩ := I.ok.has x (.inl hk)
    obtain ⟨w', z⟩ := I.cell x c hc
    refine wpAny_storeName_cell I.ok.kind hk hc z (fun h' hc' hs => ?_)
    obtain ⟨oc, hoc, hocd⟩ := id z
    refine h { s with heap := h' } ⟨I.ok, I.os, I.bare, ⟨fun b o e n hb hx => ?_, fun b o e n hb hx => ?_, I.base.free, fun b o e hx => ?_, I.base.tups, I.base.frzs, I.base.tbls⟩, ⟨m, hn.sameBut hs (Ne.symm (cne x c hc)), fun j y v' e1 e2 e3 => ?_⟩, fun y c' e => ?_, I.free, I.freeC, fun p hp => ?_, tracked ⟨oc, hoc, I.freeC x c hc⟩ hs, by simpa using I.len⟩ ⟨c, hs, .inr hc⟩
    · exact (hs.2 b (Nat.ne_of_lt (Nat.lt_of_lt_of_le (Heap.lt_size e) (I.ok.cab x c hfn hc)))).trans (I.base.keep b o e n hb hx)
    · obtain ⟨sl, e1⟩ := I.base.slot b o e n hb hx
      exact ⟨sl, (hs.2 b (Nat.ne_of_lt (Nat.lt_of_lt_of_le (Heap.lt_size e) (I.ok.cab x c hfn hc)))).trans e1⟩
    · obtain ⟨o', e1⟩ := I.base.there b o e hx
      exact ⟨o', (hs.2 b (Nat.ne_of_lt (Nat.lt_of_lt_of_le (Heap.lt_size e) (I.ok.cab x c hfn hc)))).trans e1⟩
    · by_cases hj : j = i
      · subst hj
        rw [hi] at e1; cases e1
        rw [List.getElem?_set_self hiσ] at e2
        cases e2
        exact ⟨u, r, .inr ⟨.inl hk, c, hc, hc'⟩⟩
      · rw [List.getElem?_set_ne (Ne.symm hj)] at e2
        obtain ⟨u', r', q⟩ := hl j y v' e1 e2 e3
        refine ⟨u', r', ?_⟩
        rcases q with q | ⟨k, c', e, z'⟩
        · exact .inl q
        · refine .inr ⟨k, c', e, z'.sameBut hs ?_⟩
          rintro rfl
          exact hj (nodup_ix hN e1 (I.ok.inj _ _ _ e hc ▸ hi))
    · by_cases hcc : c' = c
      · subst hcc; exact ⟨_, hc'⟩
      · obtain ⟨w2, z2⟩ := I.cell y c' e
        exact ⟨w2, z2.sameBut hs hcc⟩
    · obtain ⟨e, n, ne, nf, d⟩ := I.pin p hp
      refine ⟨(hs.2 p.1 ?_).trans e, n, ne, nf, d⟩
      intro q
      rw [q, hoc] at e
      have q' : oc = p.2 := Option.some.inj e
      exact d w' (by rw [← q']; exact hocd)
theorem store_ok {M : Model} {A : Around} {E : Value → Shared → Prop} {i : Nat} {x : Str} {v : V} {u : Value} {Q : Unit → Shared → Prop} (I : Inv X pins σ H s) (hN : X.N.Nodup) (hi : X.N[i]? = some x) (hx : Loc X.env.scope x) (r : RelV v u)
    (h : ∀ s', Inv X pins (σ.set i (some v)) H s' → Q () s') (hf : X.fn x = true ∨ X.env.scope.names.lookup x = some .local := by first | exact .inl rfl | exact .inr rfl | assumption) : wpAny M A (storeName X.env x u) Q E s :=
  store_ok2 I hN hi hx r (fun s' I' _ => h s' I') hf
theorem Inv.call' {s' : Shared} {ch : List Addr} (I : Inv X pins σ H s) (ho : s'.os = s.os) (u : Un (frs X.stack) ch H H' s.heap s'.heap) (hok : HOk X.prog X.w H' s'.heap) (hg : AllBare s'.gens)
    (hch : ∀ b ∈ ch, (b ∈ X.ex ∨ X.s₀.heap.objs.size ≤ b) ∧ b ≠ X.env.locals ∧ (∀ x c, X.env.cells.lookup x = some c → c ≠ b) ∧ ∀ p ∈ X.pn ++ pins, p.1 ≠ b) : Inv X pins σ H' s' := by
  obtain ⟨h', g', d', t', o'⟩ := s'
  have e : o' = s.os := ho
  subst e
  exact I.call (g' := g') (t' := t') (d' := d') u hok hg hch
end
abbrev XK := Value → Option Addr → Hp → Prop
abbrev St := List (Option V)
abbrev VK := V → Hp → Prop
abbrev TE := St → Hp → VK → Prop
abbrev TT := St → Hp → (Bool → Hp → Prop) → Prop
abbrev TA := St → Hp → (List V → Hp → Prop) → Prop
structure Ends where
  nx : St → Hp → Prop
  rt : VK
  bk : St → Hp → Prop := fun _ _ => False
  ct : St → Hp → Prop := fun _ _ => False
abbrev TS := Ends → St → Hp → Prop
def EP (X : Cx) (pins : List (Addr × Obj)) (σ : St) (Q : VK) (u : Value) (s' : Shared) : Prop := ∃ v H', Inv X pins σ H' s' ∧ RelV v u ∧ Q v H'
def TP (X : Cx) (pins : List (Addr × Obj)) (σ : St) (Q : Bool → Hp → Prop) (b : Bool) (s' : Shared) : Prop := ∃ H', Inv X pins σ H' s' ∧ Q b H'
def AP (X : Cx) (pins : List (Addr × Obj)) (σ : St) (Q : List V → Hp → Prop) (us : List Value) (s' : Shared) : Prop := ∃ vs H', Inv X pins σ H' s' ∧ Vals vs us ∧ Q vs H'
def SP (X : Cx) (pins : List (Addr × Obj)) (D : Ends) (f : Flow) (s' : Shared) : Prop :=
  match f with
  | .next => ∃ σ' H', Inv X pins σ' H' s' ∧ D.nx σ' H'
  | .brk => ∃ σ' H', Inv X pins σ' H' s' ∧ D.bk σ' H'
  | .cont => ∃ σ' H', Inv X pins σ' H' s' ∧ D.ct σ' H'
  | .ret u => ∃ v σ' H', Inv X pins σ' H' s' ∧ RelV v u ∧ D.rt v H'
def PE (X : Cx) (e : Expr) (t : TE) : Prop :=
  ∀ (pins : List (Addr × Obj)) (s : Shared) (σ : St) (H : Hp) (Q : VK), Inv X pins σ H s → t σ H Q → wpAny (model X.prog X.w) X.A (eval e X.env) (EP X pins σ Q) X.xe s
def PT (X : Cx) (e : Expr) (t : TT) : Prop :=
  ∀ (pins : List (Addr × Obj)) (s : Shared) (σ : St) (H : Hp) (Q : Bool → Hp → Prop), Inv X pins σ H s → t σ H Q → wpAny (model X.prog X.w) X.A (isTrue e X.env (eval e X.env)) (TP X pins σ Q) X.xe s
def PW (X : Cx) (e : Expr) (t : TT) : Prop :=
  ∀ (whole : Sem Value) (pins : List (Addr × Obj)) (s : Shared) (σ : St) (H : Hp) (Q : Bool → Hp → Prop), Inv X pins σ H s → t σ H Q → wpAny (model X.prog X.w) X.A (isTrue e X.env whole) (TP X pins σ Q) X.xe s
theorem PW.pt {X : Cx} {e : Expr} {t : TT} (h : PW X e t) : PT X e t := h _
def PA (X : Cx) (es : List Expr) (t : TA) : Prop :=
  ∀ (pos : Pos) (pins : List (Addr × Obj)) (s : Shared) (σ : St) (H : Hp) (Q : List V → Hp → Prop), Inv X pins σ H s → t σ H Q → wpAny (model X.prog X.w) X.A (spliced (backTo pos (starEach es X.env))) (AP X pins σ Q) X.xe s
def PS (X : Cx) (st : Stmt) (t : TS) : Prop :=
  ∀ (pins : List (Addr × Obj)) (s : Shared) (σ : St) (H : Hp) (D : Ends), Inv X pins σ H s → t D σ H → wpAny (model X.prog X.w) X.A (exec st X.env) (SP X pins D) X.xe s
def PSs (X : Cx) (st : List Stmt) (t : TS) : Prop :=
  ∀ (pins : List (Addr × Obj)) (s : Shared) (σ : St) (H : Hp) (D : Ends), Inv X pins σ H s → t D σ H → wpAny (model X.prog X.w) X.A (execs st X.env) (SP X pins D) X.xe s
theorem thn {α : Type} {t : Sem α} {Q Q' : α → Shared → Prop} {M : Model} {A : Around} {E : Value → Shared → Prop} {s : Shared} (h : wpAny M A t Q E s) (hQ : ∀ a s, Q a s → Q' a s) : wpAny M A t Q' E s := wpAny_mono h hQ fun _ _ x => x
end L2
namespace L2
open PySem PySem.Spec PyProof.Rows
section
variable {X : Cx}
def tVar (i : Nat) : TE := fun σ H Q => ∃ v, σ[i]? = some (some v) ∧ Q v H
def tC (v : V) : TE := fun _ H Q => Q v H
theorem pe_var {i : Nat} {x : Str} {pos : Pos} (hN : X.N[i]? = some x) (hv : Vis X.env.scope x) (hd : (x == ("__debug__" : Str)) = false := by decide) (hcd : (x == ("__classdict__" : Str)) = false := by decide) : PE X (.Name x pos) (tVar i) := by
  intro pins s σ H Q I h
  obtain ⟨v, e, h⟩ := h
  obtain ⟨m, hn, hl⟩ := I.loc
  obtain ⟨u, r, l⟩ := hl i x v hN e hv
  have fin : EP X pins σ Q u s := ⟨v, H, I, r, h⟩
  rcases l with ⟨hk, hm⟩ | ⟨hk, c, hc, hcell⟩
  · exact wpAny_Name (wpAny_loadName_local I.ok.kind hk hn hm fin) hd
  · rcases hk with hk | hk
    · exact wpAny_Name (wpAny_loadName_cell I.ok.kind hk hc hcell fin) hd
    · exact wpAny_Name (wpAny_loadName_free I.ok.kind hk hc hcell fin hcd) hd
theorem pe_int {i j pos} : PE X (.Constant (.int i) j pos) (tC (.int i)) := fun _ _ _ H _ I h => wpAny_Constant_int ⟨.int i, H, I.tok _, ⟨_, rfl⟩, h⟩
theorem pe_bl {b j pos} : PE X (.Constant (.bool b) j pos) (tC (.bl b)) := fun _ _ _ H _ I h => Constant_bool ⟨.bl b, H, I, rfl, h⟩
def Gl (X : Cx) (x : Str) : Prop := X.env.kindOf x = some .globalImplicit
theorem ld_glob {E : Value → Shared → Prop} {pins : List (Addr × Obj)} {s : Shared} {σ : St} {H : Hp} {x : Str} {u : Value} {pos : Pos} {Q : Value → Shared → Prop} (I : Inv X pins σ H s) (hg : Gl X x) (hm : X.mg x = some u) (h : Q u s)
    (hd : (x == ("__debug__" : Str)) = false := by decide) : wpAny (model X.prog X.w) X.A (eval (.Name x pos) X.env) Q E s :=
  Calls.Name_function_global I.ok.kind hg (Calls.loadGlobal_global (by rw [I.ok.glob]; exact I.mod.glob.keeps I.bk) hm h) hd
theorem ld_blt {E : Value → Shared → Prop} {pins : List (Addr × Obj)} {s : Shared} {σ : St} {H : Hp} {x : Str} {u : Value} {pos : Pos} {Q : Value → Shared → Prop} (I : Inv X pins σ H s) (hg : Gl X x) (hm : X.mg x = none) (hv : bootBuiltins x = some u) (h : Q u s)
    (hn : x ≠ "__name__" := by decide) (hd : (x == ("__debug__" : Str)) = false := by decide) : wpAny (model X.prog X.w) X.A (eval (.Name x pos) X.env) Q E s := by
  obtain ⟨mb, h1, h2⟩ := I.mod.blt
  exact Calls.Name_function_global I.ok.kind hg (Calls.loadGlobal_builtin (by rw [I.ok.glob]; exact I.mod.glob.keeps I.bk) hm (by rw [I.ok.blt]; exact h1.keeps I.bk) ((h2 x hn).trans hv) h) hd
theorem pe_bltn {x : Str} {v : V} {u : Value} {pos : Pos} (hg : Gl X x) (hm : X.mg x = none) (hv : bootBuiltins x = some u) (r : RelV v u) (hn : x ≠ "__name__" := by decide) (hd : (x == ("__debug__" : Str)) = false := by decide) : PE X (.Name x pos) (tC v) :=
  fun _ _ _ H _ I h => ld_blt I hg hm hv ⟨v, H, I, r, h⟩ hn hd
variable {a b : Expr} {ta tb : TE} {pos : Pos}
def PC (X : Cx) (op : CmpOp) (a b : Expr) (t : TE) : Prop :=
  ∀ (pins : List (Addr × Obj)) (s : Shared) (σ : St) (H : Hp) (Q : VK), Inv X pins σ H s → t σ H Q →
    wpAny (model X.prog X.w) X.A (eval a X.env) (fun v s₁ => wpAny (model X.prog X.w) X.A (eval b X.env) (fun u s₂ => wpAny (model X.prog X.w) X.A (compareOp op v u) (EP X pins σ Q) X.xe s₂) X.xe s₁) X.xe s
def tB (t : TE) : TT := fun σ H Q => t σ H fun x H1 => ∃ c, x = .bl c ∧ Q c H1
theorem pt_val {e : Expr} {t : TE} (h : PE X e t) (he : ∀ whole, isTrue e X.env whole = (do let v ← whole; standAt e.pos; holding [v] (truthy v)) := by intro _; rfl) : PT X e (tB t) := by
  intro pins s σ H Q I hw
  refine isTrue_plain (thn (h pins s σ H _ I hw) fun v s1 ⟨x, H1, I1, r1, q1⟩ => ?_) (he _)
  obtain ⟨d, rfl, q⟩ := q1
  cases r1
  exact wpAny_truthy_bool ⟨H1, I1, q⟩
variable {tA tB' : TT} {rest : List Expr}
def tAnd (t u : TT) : TT := fun σ H Q => t σ H fun c H1 => if c = true then u σ H1 Q else Q false H1
def tOr (t u : TT) : TT := fun σ H Q => t σ H fun c H1 => if c = true then Q true H1 else u σ H1 Q
def tNot (t : TT) : TT := fun σ H Q => t σ H fun c H1 => Q (!c) H1
theorem pw_and1 (ha : PT X a tA) : PW X (.BoolOp .And [a] pos) tA := by
  intro wh pins s σ H Q I h
  refine isTrue_and (thn (ha pins s σ H Q I h) fun c s1 e => ?_)
  cases c with
  | true => exact isTrue_and_nil e
  | false => exact e
theorem pw_or1 (ha : PT X a tA) : PW X (.BoolOp .Or [a] pos) tA := by
  intro wh pins s σ H Q I h
  refine isTrue_or (thn (ha pins s σ H Q I h) fun c s1 e => ?_)
  cases c with
  | false => exact isTrue_or_nil e
  | true => exact e
theorem pw_and (ha : PT X a tA) (hb : PW X (.BoolOp .And (b :: rest) pos) tB') : PW X (.BoolOp .And (a :: b :: rest) pos) (tAnd tA tB') := by
  intro wh pins s σ H Q I h
  refine isTrue_and (thn (ha pins s σ H _ I h) fun c s1 ⟨H1, I1, q1⟩ => ?_)
  cases c with
  | true => exact hb wh pins s1 σ H1 Q I1 q1
  | false => exact ⟨H1, I1, q1⟩
theorem pw_or (ha : PT X a tA) (hb : PW X (.BoolOp .Or (b :: rest) pos) tB') : PW X (.BoolOp .Or (a :: b :: rest) pos) (tOr tA tB') := by
  intro wh pins s σ H Q I h
  refine isTrue_or (thn (ha pins s σ H _ I h) fun c s1 ⟨H1, I1, q1⟩ => ?_)
  cases c with
  | true => exact ⟨H1, I1, q1⟩
  | false => exact hb wh pins s1 σ H1 Q I1 q1
theorem pt_not (ha : PT X a tA) : PT X (.UnaryOp .Not a pos) (tNot tA) := by
  intro pins s σ H Q I h
  exact isTrue_not (ha pins s σ H (fun c H1 => Q (!c) H1) I h)
def tAndV (ta tb : TE) : TE := fun σ H Q => ta σ H fun x H1 => ∃ c, x = .bl c ∧ if c = true then tb σ H1 Q else Q (.bl false) H1
theorem pe_one {op} {t : TE} (h : PE X a t) : PE X (.BoolOp op [a] pos) t := fun pins s σ H Q I hw => BoolOp_one (h pins s σ H Q I hw)
theorem pe_and (ha : PE X a ta) (hb : PE X (.BoolOp .And (b :: rest) pos) tb) : PE X (.BoolOp .And (a :: b :: rest) pos) (tAndV ta tb) := by
  intro pins s σ H Q I h
  refine BoolOp_and (thn (ha pins s σ H _ I h) fun v s1 ⟨x, H1, I1, r1, q1⟩ => ?_)
  obtain ⟨c, rfl, q1⟩ := q1
  cases r1
  refine wpAny_truthy_bool ?_
  cases c with
  | true => exact hb pins s1 σ H1 Q I1 q1
  | false => exact ⟨.bl false, H1, I1, rfl, q1⟩
end
end L2
namespace L2
open PySem PySem.Spec PyProof.Rows
def SqL (K : PySem.W.Frag) (H : Hp) (a : Addr) (xs : List V) : Prop :=
  Rd H a (.lst xs) ∨
    ∃ (o : Obj) (its : Array Value) (n : Nat), K.lookup a = some o ∧ o.cls = .type "list" ∧ o.dict = none ∧ o.data = .seq its n ∧ its.size ≤ sizeLine ∧ Vals xs its.toList
def SqT (K : PySem.W.Frag) (H : Hp) (a : Addr) (xs : List V) : Prop :=
  Rd H a (.tup xs) ∨
    ∃ (o : Obj) (its : Array Value) (n : Nat), K.lookup a = some o ∧ o.cls = .type "tuple" ∧ o.data = .seq its n ∧ its.size ≤ sizeLine ∧ Vals xs its.toList
def absV : Value → Option V
  | .none => some .non
  | .bool b => some (.bl b)
  | .int i _ => some (.int i)
  | .str x _ => some (.str x)
  | .bytes b _ => some (.byt b)
  | .float b _ => some (.flt b)
  | .ref a => some (.ref a)
  | .type n => some (.ty n)
  | _ => none
theorem RelV.abs {x : V} {u : Value} (r : RelV x u) : absV u = some x := by
  cases x with
  | non => cases r; rfl
  | bl _ => cases r; rfl
  | int _ => obtain ⟨t, rfl⟩ := r; rfl
  | str _ => obtain ⟨t, rfl⟩ := r; rfl
  | byt _ => obtain ⟨t, rfl⟩ := r; rfl
  | flt _ => obtain ⟨t, rfl⟩ := r; rfl
  | ref _ => cases r; rfl
  | ty _ => cases r; rfl
theorem RelV.inj {x y : V} {u : Value} (r : RelV x u) (q : RelV y u) : x = y := Option.some.inj (r.abs.symm.trans q.abs)
theorem Vals.inj : ∀ {xs ys : List V} {us : List Value}, Vals xs us → Vals ys us → xs = ys
  | _, _, _, .nil, .nil => rfl
  | _, _, _, .cons r t, .cons r' t' => by rw [r.inj r', Vals.inj t t']
section
variable {X : Cx} {pins : List (Addr × Obj)} {σ : St} {H : Hp} {s : Shared} {a : Addr} {xs ys : List V}
theorem SqL.of {K : PySem.W.Frag} (h : H a = some (.lst xs)) : SqL K H a xs := .inl (.inl h)
theorem SqT.of {K : PySem.W.Frag} (h : H a = some (.tup xs)) : SqT K H a xs := .inl (.inl h)
theorem Inv.list (I : Inv X pins σ H s) (h : SqL X.K H a xs) : ∃ its : List Value, Vals xs its ∧ PlainL s.heap a its.toArray ∧ xs.length ≤ sizeLine := by
  rcases h with h | ⟨o, its, n, hk, hc, hd, hs, hz, r⟩
  · obtain ⟨z, its, n, r, e⟩ := h.ok I.hok
    exact ⟨its, r, ⟨_, n, e, rfl, rfl, rfl⟩, z⟩
  · refine ⟨its.toList, r, ⟨o, n, I.kIn a o hk, hc, hd, by simpa using hs⟩, ?_⟩
    have e := r.length
    simp only [Array.length_toList] at e
    omega
theorem Inv.tuple (I : Inv X pins σ H s) (h : SqT X.K H a xs) : ∃ its : List Value, Vals xs its ∧ IsTup s.heap a its.toArray ∧ xs.length ≤ sizeLine := by
  rcases h with h | ⟨o, its, n, hk, hc, hs, hz, r⟩
  · obtain ⟨z, its, r, p⟩ := h.ok I.hok
    exact ⟨its, r, p, z⟩
  · refine ⟨its.toList, r, ⟨o, I.kIn a o hk, hc, n, by simpa using hs⟩, ?_⟩
    have e := r.length
    simp only [Array.length_toList] at e
    omega
theorem Inv.list_inj (I : Inv X pins σ H s) (h : SqL X.K H a xs) (h' : SqL X.K H a ys) : xs = ys := by
  obtain ⟨its, r, ⟨o, n, e, _, _, d⟩, _⟩ := I.list h
  obtain ⟨its', r', ⟨o', n', e', _, _, d'⟩, _⟩ := I.list h'
  rw [e] at e'; cases e'
  rw [d] at d'
  injection d' with d1 _
  have : its = its' := by simpa using congrArg Array.toList d1
  subst this
  exact r.inj r'
theorem Inv.tuple_inj (I : Inv X pins σ H s) (h : SqT X.K H a xs) (h' : SqT X.K H a ys) : xs = ys := by
  obtain ⟨its, r, ⟨o, e, _, n, d⟩, _⟩ := I.tuple h
  obtain ⟨its', r', ⟨o', e', _, n', d'⟩, _⟩ := I.tuple h'
  rw [e] at e'; cases e'
  rw [d] at d'
  injection d' with d1 _
  have : its = its' := by simpa using congrArg Array.toList d1
  subst this
  exact r.inj r'
end
abbrev Cx.wish (X : Cx) (E : Value → Shared → Prop) : Cx := { X with xe := E }
abbrev Cx.nox (X : Cx) : Cx := X.wish fun _ _ => False
theorem Cx.Ok.wish {X : Cx} (ok : X.Ok) (E : Value → Shared → Prop) : (X.wish E).Ok :=
  ⟨ok.mod, ok.kind, ok.glob, ok.blt, ok.above, ok.inj, ok.has, ok.cab, ok.hd, ok.frames, ok.stk, ok.exf, ok.bs, ok.bsz, ok.noex, ok.exfs, ok.funs, ok.frf⟩
theorem Cx.Ok.unwish {X : Cx} {E : Value → Shared → Prop} (ok : (X.wish E).Ok) : X.Ok :=
  ⟨ok.mod, ok.kind, ok.glob, ok.blt, ok.above, ok.inj, ok.has, ok.cab, ok.hd, ok.frames, ok.stk, ok.exf, ok.bs, ok.bsz, ok.noex, ok.exfs, ok.funs, ok.frf⟩
section
variable {X : Cx} {pins : List (Addr × Obj)} {σ : St} {H : Hp} {s : Shared} {E : Value → Shared → Prop}
theorem Inv.wish (I : Inv X pins σ H s) (E : Value → Shared → Prop) : Inv (X.wish E) pins σ H s := ⟨I.ok.wish E, I.os, I.bare, I.base, I.loc, I.cell, I.free, I.freeC, I.pin, I.hok, I.len⟩
theorem Inv.unwish (I : Inv (X.wish E) pins σ H s) : Inv X pins σ H s := ⟨I.ok.unwish, I.os, I.bare, I.base, I.loc, I.cell, I.free, I.freeC, I.pin, I.hok, I.len⟩
theorem SP.unwish {D : Ends} {f : Flow} {s' : Shared} (h : SP (X.wish E) pins D f s') : SP X pins D f s' := by
  cases f with
  | next => obtain ⟨σ', H', I, q⟩ := h; exact ⟨σ', H', I.unwish, q⟩
  | brk => obtain ⟨σ', H', I, q⟩ := h; exact ⟨σ', H', I.unwish, q⟩
  | cont => obtain ⟨σ', H', I, q⟩ := h; exact ⟨σ', H', I.unwish, q⟩
  | ret u => obtain ⟨v, σ', H', I, r, q⟩ := h; exact ⟨v, σ', H', I.unwish, r, q⟩
theorem PE.nox {e : Expr} {t : TE} (h : PE X.nox e t) : PE X e t := fun pins s σ H Q I hw =>
  wpAny_mono (h pins s σ H Q (I.wish _) hw) (fun _ _ ⟨v, H', I', r, q⟩ => ⟨v, H', I'.unwish, r, q⟩) fun _ _ z => False.elim z
theorem PT.nox {e : Expr} {t : TT} (h : PT X.nox e t) : PT X e t := fun pins s σ H Q I hw =>
  wpAny_mono (h pins s σ H Q (I.wish _) hw) (fun _ _ ⟨H', I', q⟩ => ⟨H', I'.unwish, q⟩) fun _ _ z => False.elim z
theorem PSs.nox {st : List Stmt} {t : TS} (h : PSs X.nox st t) : PSs X st t := fun pins s σ H D I hw =>
  wpAny_mono (h pins s σ H D (I.wish _) hw) (fun _ _ q => q.unwish) fun _ _ z => False.elim z
end
section
variable {X : Cx} {st : Stmt} {rest : List Stmt} {t u : TS} {e : Expr} {te : TE} {pos : Pos}
def tNext : TS := fun D σ H => D.nx σ H
def tSeq (t u : TS) : TS := fun D σ H => t { D with nx := u D } σ H
theorem pss_nil : PSs X [] tNext := fun _ _ σ H _ I h => wpAny_execs_nil ⟨σ, H, I, h⟩
theorem pss_cons (h1 : PS X st t) (h2 : PSs X rest u) : PSs X (st :: rest) (tSeq t u) := by
  intro pins s σ H D I h
  refine wpAny_execs_cons (thn (h1 pins s σ H { D with nx := u D } I h) fun f s1 q => ?_)
  cases f with
  | next =>
    obtain ⟨σ', H', I', q⟩ := q
    exact h2 pins s1 σ' H' D I' q
  | ret v => exact q
  | brk => exact q
  | cont => exact q
theorem pss_one (h1 : PS X st t) : PSs X [st] t := by
  intro pins s σ H D I h
  refine wpAny_execs_cons (thn (h1 pins s σ H D I h) fun f s1 q => ?_)
  cases f with
  | next => exact wpAny_execs_nil q
  | ret v => exact q
  | brk => exact q
  | cont => exact q
theorem Inv.quiet {pins : List (Addr × Obj)} {σ : St} {H : Hp} {s : Shared} (I : Inv X pins σ H s) : interactive X.env = false := by simp [interactive, I.ok.kind]
def tDrop (te : TE) : TS := fun D σ H => te σ H fun _ H1 => D.nx σ H1
theorem ps_expr (he : PE X e te) (hs : swapsWith e none pos.line X.env = pure false := by rfl) : PS X (.Expr e pos) (tDrop te) := by
  intro pins s σ H D I h
  exact wpAny_Expr_any (thn (he pins s σ H _ I h) fun v s1 ⟨x, H1, I1, r1, q1⟩ => ⟨σ, H1, I1, q1⟩) I.quiet hs
def tRet (te : TE) : TS := fun D σ H => te σ H D.rt
theorem ps_ret (he : PE X e te) : PS X (.Return (some e) pos) (tRet te) := by
  intro pins s σ H D I h
  exact wpAny_Return_some (thn (he pins s σ H _ I h) fun v s1 ⟨x, H1, I1, r1, q1⟩ => ⟨x, σ, H1, I1, r1, q1⟩)
def tIfS (c : TT) (t u : TS) : TS := fun D σ H => c σ H fun b H1 => if b = true then t D σ H1 else u D σ H1
theorem ps_if {c : Expr} {a b : List Stmt} {tc : TT} (hc : PT X c tc) (ha : PSs X a t) (hb : PSs X b u) : PS X (.If c a b pos) (tIfS tc t u) := by
  intro pins s σ H D I h
  refine wpAny_If (thn (hc pins s σ H _ I h) fun d s1 ⟨H1, I1, q1⟩ => ?_)
  cases d with
  | true => exact ha pins s1 σ H1 D I1 q1
  | false => exact hb pins s1 σ H1 D I1 q1
end
abbrev TG := V → St → Hp → (St → Hp → Prop) → Prop
abbrev TGs := List V → St → Hp → (St → Hp → Prop) → Prop
def PG (X : Cx) (target : Expr) (t : TG) : Prop :=
  ∀ (pins : List (Addr × Obj)) (s : Shared) (σ : St) (H : Hp) (v : V) (u : Value) (Q : St → Hp → Prop), Inv X pins σ H s → RelV v u → t v σ H Q →
    wpAny (model X.prog X.w) X.A (assign target X.env u) (fun _ s' => ∃ σ' H', Inv X pins σ' H' s' ∧ Q σ' H') X.xe s
def PGs (X : Cx) (ts : List Expr) (t : TGs) : Prop :=
  ∀ (pins : List (Addr × Obj)) (s : Shared) (σ : St) (H : Hp) (vs : List V) (us : List Value) (Q : St → Hp → Prop), Inv X pins σ H s → Vals vs us → t vs σ H Q →
    wpAny (model X.prog X.w) X.A (assignInOrder ((assignEach ts X.env).map (·.2)) us) (fun _ s' => ∃ σ' H', Inv X pins σ' H' s' ∧ Q σ' H') X.xe s
section
variable {X : Cx} {pos : Pos}
def gName (i : Nat) : TG := fun v σ H Q => Q (σ.set i (some v)) H
theorem pg_name {i : Nat} {x : Str} (hN : X.N.Nodup) (hi : X.N[i]? = some x) (hx : Loc X.env.scope x) (hf : X.fn x = true ∨ X.env.scope.names.lookup x = some .local := by first | exact .inl rfl | exact .inr rfl | assumption) : PG X (.Name x pos) (gName i) := by
  intro pins s σ H v u Q I r h
  exact wpAny_assign_Name (store_ok I hN hi hx r (fun s' I' => ⟨_, H, I', h⟩) hf)
def gNil : TGs := fun vs σ H Q => vs = [] ∧ Q σ H
def gCons (t : TG) (u : TGs) : TGs := fun vs σ H Q => ∃ v r, vs = v :: r ∧ t v σ H fun σ' H' => u r σ' H' Q
theorem pgs_nil : PGs X [] gNil := by
  intro pins s σ H vs us Q I r h
  obtain ⟨e, h⟩ := h
  subst e
  cases r
  exact assignInOrder_nil ⟨σ, H, I, h⟩
theorem pgs_cons {e : Expr} {es : List Expr} {t : TG} {u : TGs} (h1 : PG X e t) (h2 : PGs X es u)
    (hs : (assignEach (e :: es) X.env).map (·.2) = assign e X.env :: (assignEach es X.env).map (·.2) := by rfl) : PGs X (e :: es) (gCons t u) := by
  intro pins s σ H vs us Q I r h
  obtain ⟨v, vr, e1, h⟩ := h
  subst e1
  cases r with
  | cons r rr =>
    rw [hs]
    refine assignInOrder_cons (thn (h1 pins s σ H _ _ _ I r h) fun _ s1 ⟨σ1, H1, I1, q1⟩ => ?_)
    exact h2 pins s1 σ1 H1 _ _ Q I1 rr q1
def gTup (K : PySem.W.Frag) (n : Nat) (t : TGs) : TG := fun v σ H Q => ∃ a xs, v = .ref a ∧ SqT K H a xs ∧ xs.length = n ∧ t xs σ H Q
theorem pg_tup {es : List Expr} {k : Nat} {t : TGs} {n : Nat} (hc : X.calm = true) (h : PGs X es t)
    (hn : (assignEach es X.env).length = n := by rfl) (hst : (assignEach es X.env).findIdx? (·.1) = none := by rfl) : PG X (.Tuple es k pos) (gTup X.K n t) := by
  intro pins s σ H v u Q I r hw
  obtain ⟨a, xs, e1, hq, hl, hw⟩ := hw
  subst e1
  cases r
  obtain ⟨its, rv, ht, hz⟩ := I.tuple hq
  refine assign_Tuple_tuple (I.ok.hd hc) ht (by simp [hn, ← hl, rv.length]) hst fun h' hx => ?_
  have I1 : Inv X pins σ H { s with heap := h' } := I.kept (t' := s.toks) fun b o e => hx b o (Nat.ne_of_lt (Heap.lt_size e)) e
  exact h pins _ σ H xs _ Q I1 (by simpa using rv) hw
def tAsg (te : TE) (g : TG) : TS := fun D σ H => te σ H fun x H1 => g x σ H1 D.nx
theorem ps_set {i : Nat} {x : Str} {e : Expr} {te : TE} {pos' : Pos} (hN : X.N.Nodup) (hi : X.N[i]? = some x) (hx : Loc X.env.scope x) (he : PE X e te) (hs : swapsWith e (some (.Name x pos')) pos.line X.env = pure false := by rfl) (hf : X.fn x = true ∨ X.env.scope.names.lookup x = some .local := by first | exact .inl rfl | exact .inr rfl | assumption) :
    PS X (.Assign [.Name x pos'] e pos) (tAsg te (gName i)) := by
  intro pins s σ H D I h
  refine wpAny_Assign_Name (thn (he pins s σ H _ I h) fun v s1 ⟨y, H1, I1, r1, q1⟩ => ?_) hs
  exact store_ok I1 hN hi hx r1 (fun s2 I2 => ⟨_, H1, I2, q1⟩) hf
end
section
variable {X : Cx} {pos : Pos}
def tWhile (c : TT) (tb : TS) : TS := fun D σ H => ∃ W : Nat → St → Hp → Prop, (∃ m, W m σ H) ∧ ∀ m σ H, W m σ H →
  c σ H fun b H1 => if b = true then ∃ N : St → Hp → Prop, (∀ σ' H', N σ' H' → ∃ m', m' < m ∧ W m' σ' H') ∧ tb { D with nx := N, ct := N, bk := D.nx } σ H1 else D.nx σ H1
theorem ps_while {c : Expr} {body : List Stmt} {tc : TT} {tb : TS} (hp : PassesOwn (model X.prog X.w) X.A X.env X.xe) (hc : PT X c tc) (hb : PSs X body tb) : PS X (.While c body [] pos) (tWhile tc tb) := by
  intro pins s σ H D I h
  obtain ⟨W, ⟨m0, w0⟩, turn⟩ := h
  refine wpAny_While (codeAny_whileLoop (fun n s' => ∃ σ' H', Inv X pins σ' H' s' ∧ W n σ' H') ?_ m0 ⟨σ, H, I, w0⟩)
  rintro n s1 ⟨σ1, H1, I1, w1⟩
  refine wpAny_passesOwn hp (thn (hc pins s1 σ1 H1 _ I1 (turn n σ1 H1 w1)) fun b s2 ⟨H2, I2, q2⟩ => ?_)
  cases b with
  | true =>
    obtain ⟨N, hN, q2⟩ := q2
    rw [if_pos rfl]
    refine wpAny_passesOwn hp (thn (hb pins s2 σ1 H2 _ I2 q2) fun f s3 q3 => ?_)
    cases f with
    | next =>
      obtain ⟨σ3, H3, I3, n3⟩ := q3
      obtain ⟨m', hm, w3⟩ := hN σ3 H3 n3
      exact ⟨m', hm, σ3, H3, I3, w3⟩
    | cont =>
      obtain ⟨σ3, H3, I3, n3⟩ := q3
      obtain ⟨m', hm, w3⟩ := hN σ3 H3 n3
      exact ⟨m', hm, σ3, H3, I3, w3⟩
    | brk => exact q3
    | ret v => exact q3
  | false =>
    rw [if_neg Bool.false_ne_true]
    exact wpAny_execs_nil ⟨σ1, H2, I2, q2⟩
end
structure It where
  go : Nat → Hp → Prop
  yld : Nat → Hp → V → Hp → Prop
  stop : Nat → Hp → Prop
def FpOk (X : Cx) (pins : List (Addr × Obj)) (H : Hp) (b : Addr) : Prop :=
  H b = none ∧ b ≠ X.env.locals ∧ b ∉ X.fs ∧ (b ∈ X.ex ∨ X.s₀.heap.objs.size ≤ b) ∧ (∀ x c, X.env.cells.lookup x = some c → c ≠ b) ∧ ∀ p ∈ X.pn ++ pins, p.1 ≠ b
theorem Inv.fpOk {X : Cx} {pins : List (Addr × Obj)} {σ : St} {H H' : Hp} {s : Shared} {b : Addr} (I : Inv X pins σ H s) (hb : s.heap.objs.size ≤ b) (hn : H' b = none) : FpOk X pins H' b := by
  refine ⟨hn, Nat.ne_of_gt (Nat.lt_of_lt_of_le I.lt hb), I.nofs hb, .inr (Nat.le_trans I.sz hb), fun x c e z => ?_, fun p hp z => ?_⟩
  · obtain ⟨v, q⟩ := I.cell x c e
    exact absurd (Nat.lt_of_lt_of_le q.lt (by rw [z]; exact hb)) (Nat.lt_irrefl _)
  · exact absurd (Nat.lt_of_lt_of_le (Heap.lt_size (I.pin p hp).1) (by rw [z]; exact hb)) (Nat.lt_irrefl _)
structure Turn (P : Program) (w : World) (K : PySem.W.Frag) (tg : Expr) (J : It) (fp : List Addr) (it : Addr) (tn : Nat → Heap → Prop) : Prop where
  mem : it ∈ fp
  obj : ∀ i h, tn i h → ∀ b ∈ fp, ∃ o, h.get? b = some o ∧ ∀ v, o.data ≠ .cell v
  keep : ∀ i h h', tn i h → (∀ b ∈ fp, ∀ o, h.get? b = some o → h'.get? b = some o) → tn i h'
  item : ∀ (X : Cx), X.prog = P → X.w = w → X.K = K → X.calm = true → ∀ (i : Nat) (pins : List (Addr × Obj)) (s : Shared) (σ : St) (H : Hp) (E : Value → Shared → Prop), Inv X pins σ H s → (∀ b ∈ fp, FpOk X pins H b) → tn i s.heap → J.go i H →
    wpAny (model P w) X.A (pyNext (.ref it)) (fun r s1 => ∃ u, r = some u ∧
      wpAny (model P w) X.A (letOwnedTupleGo tg (.ref it) u) (fun _ s2 => ∃ x H', Inv X pins σ H' s2 ∧ RelV x u ∧ J.yld i H x H' ∧ tn (i + 1) s2.heap ∧ ∀ b ∈ fp, H' b = none) E s1) E s
  done : ∀ (X : Cx), X.prog = P → X.w = w → X.K = K → X.calm = true → ∀ (i : Nat) (pins : List (Addr × Obj)) (s : Shared) (σ : St) (H : Hp) (E : Value → Shared → Prop), Inv X pins σ H s → (∀ b ∈ fp, FpOk X pins H b) → tn i s.heap → J.stop i H →
    wpAny (model P w) X.A (pyNext (.ref it)) (fun r s1 => r = none ∧ Inv X pins σ H s1) E s
  self : ∀ (A : Around) (i : Nat) (s : Shared) (Q : Value → Shared → Prop) (E : Value → Shared → Prop), tn i s.heap → Q (.ref it) s → wpAny (model P w) A (pyIter (.ref it)) Q E s
abbrev TI := St → Hp → (It → Hp → Prop) → Prop
def PIE (X : Cx) (pins : List (Addr × Obj)) (σ : St) (tg : Expr) (R : It → Hp → Prop) (itv : Value) (s2 : Shared) : Prop :=
  ∃ (it : Addr) (fp : List Addr) (tn : Nat → Heap → Prop) (J : It) (H' : Hp), itv = .ref it ∧ Inv X pins σ H' s2 ∧ Turn X.prog X.w X.K tg J fp it tn ∧ tn 0 s2.heap ∧ (∀ b ∈ fp, FpOk X pins H' b) ∧ R J H'
def PI (X : Cx) (tg iter : Expr) (wi : TI) : Prop :=
  ∀ (pins : List (Addr × Obj)) (s : Shared) (σ : St) (H : Hp) (R : It → Hp → Prop), Inv X pins σ H s → wi σ H R →
    wpAny (model X.prog X.w) X.A (eval iter X.env) (fun v s1 => wpAny (model X.prog X.w) X.A (pyIter v) (PIE X pins σ tg R) X.xe s1) X.xe s
theorem go_of {M : Model} {A : Around} {E : Value → Shared → Prop} {s : Shared} {tg : Expr} {it : Addr} {u : Value} {o : Obj} {n : String} {vs : Array Value} {Q : Unit → Shared → Prop} (ho : s.heap.get? it = some o) (hc : o.cls = .type n) (hd : o.data = .fields vs)
    (hn : ["enumerate", "zip", "dict_itemiterator", "dict_reverseitemiterator", "odict_iterator", "itertools.zip_longest", "itertools.pairwise"].contains n = false) (hQ : Q () s) : wpAny M A (letOwnedTupleGo tg (.ref it) u) Q E s := by
  unfold letOwnedTupleGo
  cases tg <;> first
    | exact wpAny_pure hQ
    | (cases u <;> first
        | exact wpAny_pure hQ
        | (refine wpAny_bind (wpAny_load ho ?_)
           rw [hc, hd]
           show wpAny M A (if (["enumerate", "zip", "dict_itemiterator", "dict_reverseitemiterator", "odict_iterator", "itertools.zip_longest", "itertools.pairwise"].contains n && vs[0]? == some (rawInt _)) = true then _ else _) Q E s
           rw [if_neg (by intro h; rw [hn, Bool.false_and] at h; cases h)]
           exact wpAny_pure hQ))
def Itl (K : PySem.W.Frag) (a : Addr) : It :=
  ⟨fun i H => ∃ xs x, SqL K H a xs ∧ xs[i]? = some x, fun i H x H' => H' = H ∧ ∀ xs, SqL K H a xs → xs[i]? = some x, fun i H => ∃ xs, SqL K H a xs ∧ xs.length ≤ i⟩
def Itt (K : PySem.W.Frag) (a : Addr) : It :=
  ⟨fun i H => ∃ xs x, SqT K H a xs ∧ xs[i]? = some x, fun i H x H' => H' = H ∧ ∀ xs, SqT K H a xs → xs[i]? = some x, fun i H => ∃ xs, SqT K H a xs ∧ xs.length ≤ i⟩
theorem turn_list {P : Program} {w : World} {K : PySem.W.Frag} {tg : Expr} (a it : Addr) : Turn P w K tg (Itl K a) [it] it (fun i h => h.IsListIter it a i) where
  mem := by simp
  obj := fun i h st b hb => by
    have e : b = it := by simpa using hb
    subst e
    obtain ⟨o, e, c, d⟩ := st
    exact ⟨o, e, fun v z => by rw [d] at z; cases z⟩
  keep := fun i h h' st k => st.at fun o e => k it (by simp) o e
  item := by
    intro X hP hw hK hc i pins s σ H E I hf st hg
    subst hP hw hK
    obtain ⟨xs, x, hq, hx⟩ := hg
    obtain ⟨its, rv, p, hz⟩ := I.list hq
    obtain ⟨u, hu, ru⟩ := rv.get hx
    obtain ⟨f0, f1, f2, f3, f4, f5⟩ := hf it (by simp)
    refine wpAny_pyNext_list_item st p.isList (x := u) (by simpa using hu) fun h' st' sb => ?_
    have I1 : Inv X pins σ H { s with heap := h' } := I.turned (t' := s.toks) (fun b o hb e => (sb.2 b hb).trans e) f0 f1 f3 f4 f5
    obtain ⟨o, e, c, d⟩ := id st'
    exact ⟨u, rfl, go_of (s := { s with heap := h' }) e c d (by decide) ⟨x, H, I1, ru, ⟨rfl, fun ys hy => by rw [I.list_inj hy hq]; exact hx⟩, st', fun b hb => (hf b hb).1⟩⟩
  done := by
    intro X hP hw hK hc i pins s σ H E I hf st hg
    subst hP hw hK
    obtain ⟨xs, hq, hx⟩ := hg
    obtain ⟨its, rv, p, hz⟩ := I.list hq
    obtain ⟨f0, f1, f2, f3, f4, f5⟩ := hf it (by simp)
    have hl := rv.length
    exact wpAny_pyNext_list_end (I.ok.hd hc) st p.isList (by simp; omega) fun h' eb => ⟨rfl, I.turned (t' := s.toks) (fun b o hb e => eb b o hb e) f0 f1 f3 f4 f5⟩
  self := fun _ _ _ _ _ st h => wpAny_pyIter_listiter st h
theorem turn_tuple {P : Program} {w : World} {K : PySem.W.Frag} {tg : Expr} (a it : Addr) : Turn P w K tg (Itt K a) [it] it (fun i h => h.IsTupleIter it a i) where
  mem := by simp
  obj := fun i h st b hb => by
    have e : b = it := by simpa using hb
    subst e
    obtain ⟨o, e, c, d⟩ := st
    exact ⟨o, e, fun v z => by rw [d] at z; cases z⟩
  keep := fun i h h' st k => st.at fun o e => k it (by simp) o e
  item := by
    intro X hP hw hK hc i pins s σ H E I hf st hg
    subst hP hw hK
    obtain ⟨xs, x, hq, hx⟩ := hg
    obtain ⟨its, rv, p, hz⟩ := I.tuple hq
    obtain ⟨u, hu, ru⟩ := rv.get hx
    obtain ⟨f0, f1, f2, f3, f4, f5⟩ := hf it (by simp)
    refine wpAny_pyNext_tuple_item st (show s.heap.IsTuple a its.toArray from p) (x := u) (by simpa using hu) fun h' st' sb => ?_
    have I1 : Inv X pins σ H { s with heap := h' } := I.turned (t' := s.toks) (fun b o hb e => (sb.2 b hb).trans e) f0 f1 f3 f4 f5
    obtain ⟨o, e, c, d⟩ := id st'
    exact ⟨u, rfl, go_of (s := { s with heap := h' }) e c d (by decide) ⟨x, H, I1, ru, ⟨rfl, fun ys hy => by rw [I.tuple_inj hy hq]; exact hx⟩, st', fun b hb => (hf b hb).1⟩⟩
  done := by
    intro X hP hw hK hc i pins s σ H E I hf st hg
    subst hP hw hK
    obtain ⟨xs, hq, hx⟩ := hg
    obtain ⟨its, rv, p, hz⟩ := I.tuple hq
    obtain ⟨f0, f1, f2, f3, f4, f5⟩ := hf it (by simp)
    have hl := rv.length
    exact wpAny_pyNext_tuple_end (I.ok.hd hc) st (show s.heap.IsTuple a its.toArray from p) (by simp; omega) fun h' eb => ⟨rfl, I.turned (t' := s.toks) (fun b o hb e => eb b o hb e) f0 f1 f3 f4 f5⟩
  self := fun _ _ _ _ _ st h => wpAny_pyIter_tupleiter st h
end L2
namespace L2
open PySem PySem.Spec PyProof.Rows
section
variable {X : Cx} {tg : Expr}
def iList (K : PySem.W.Frag) (tl : TE) : TI := fun σ H R => tl σ H fun x H1 => ∃ a, x = .ref a ∧ (∃ xs, SqL K H1 a xs) ∧ R (Itl K a) H1
def iTup (K : PySem.W.Frag) (tl : TE) : TI := fun σ H R => tl σ H fun x H1 => ∃ a, x = .ref a ∧ (∃ xs, SqT K H1 a xs) ∧ R (Itt K a) H1
theorem pi_list {l : Expr} {tl : TE} (hl : PE X l tl) : PI X tg l (iList X.K tl) := by
  intro pins s σ H R I h
  refine thn (hl pins s σ H _ I h) fun v s1 ⟨x, H1, I1, r1, q1⟩ => ?_
  obtain ⟨a, e, ⟨xs, hq⟩, q⟩ := q1
  subst e
  cases r1
  obtain ⟨its, rv, p, hz⟩ := I1.list hq
  refine wpAny_pyIter_list p.isList ?_
  refine ⟨s1.heap.objs.size, [s1.heap.objs.size], _, _, H1, rfl, I1.kept (t' := s1.toks) fun b o e => Heap.get?_push_of_some _ e, turn_list a _, ⟨_, Heap.get?_push_size _ rfl, rfl, rfl⟩, fun b hb => ?_, q⟩
  have e : b = s1.heap.objs.size := by simpa using hb
  subst e
  exact I1.fpOk (Nat.le_refl _) (I1.hok.fresh (Nat.le_refl _))
theorem pi_tup {l : Expr} {tl : TE} (hl : PE X l tl) : PI X tg l (iTup X.K tl) := by
  intro pins s σ H R I h
  refine thn (hl pins s σ H _ I h) fun v s1 ⟨x, H1, I1, r1, q1⟩ => ?_
  obtain ⟨a, e, ⟨xs, hq⟩, q⟩ := q1
  subst e
  cases r1
  obtain ⟨its, rv, p, hz⟩ := I1.tuple hq
  refine wpAny_pyIter_tuple (show s1.heap.IsTuple a its.toArray from p) ?_
  refine ⟨s1.heap.objs.size, [s1.heap.objs.size], _, _, H1, rfl, I1.kept (t' := s1.toks) fun b o e => Heap.get?_push_of_some _ e, turn_tuple a _, ⟨_, Heap.get?_push_size _ rfl, rfl, rfl⟩, fun b hb => ?_, q⟩
  have e : b = s1.heap.objs.size := by simpa using hb
  subst e
  exact I1.fpOk (Nat.le_refl _) (I1.hok.fresh (Nat.le_refl _))
def tFor (wi : TI) (g : TG) (tb : TS) : TS := fun D σ H => wi σ H fun J H1 => ∃ W : Nat → Nat → St → Hp → Prop, (∃ m, W 0 m σ H1) ∧ ∀ i m σ H, W i m σ H →
  (J.stop i H ∧ D.nx σ H) ∨ (J.go i H ∧ ∃ N : St → Hp → Prop, (∀ σ' H', N σ' H' → ∃ m', m' < m ∧ W (i + 1) m' σ' H') ∧ ∀ x H', J.yld i H x H' → g x σ H' fun σ2 H2 => tb { D with nx := N, ct := N, bk := D.nx } σ2 H2)
def pinsAt (fp : List Addr) (h : Heap) : List (Addr × Obj) := fp.filterMap fun b => (h.get? b).map fun o => (b, o)
theorem mem_pinsAt {fp : List Addr} {h : Heap} {b : Addr} {o : Obj} (hb : b ∈ fp) (e : h.get? b = some o) : (b, o) ∈ pinsAt fp h := List.mem_filterMap.mpr ⟨b, hb, by rw [e]; rfl⟩
theorem of_pinsAt {fp : List Addr} {h : Heap} {p : Addr × Obj} (hp : p ∈ pinsAt fp h) : p.1 ∈ fp ∧ h.get? p.1 = some p.2 := by
  obtain ⟨b, hb, e⟩ := List.mem_filterMap.mp hp
  cases q : h.get? b with
  | none => rw [q] at e; cases e
  | some o =>
    rw [q] at e
    have e' : (b, o) = p := Option.some.inj e
    subst e'
    exact ⟨hb, q⟩
theorem Inv.pinned {pins : List (Addr × Obj)} {σ : St} {H : Hp} {s : Shared} {fp : List Addr} (I : Inv X pins σ H s) (hf : ∀ b ∈ fp, FpOk X pins H b) (ho : ∀ b ∈ fp, ∃ o, s.heap.get? b = some o ∧ ∀ v, o.data ≠ .cell v) : Inv X (pins ++ pinsAt fp s.heap) σ H s :=
  I.pins_of fun p hp => (List.mem_append.mp hp).elim (fun z => I.pin p (List.mem_append_right _ z)) fun z => by
    obtain ⟨hb, e⟩ := of_pinsAt z
    obtain ⟨f0, f1, f2, _⟩ := hf p.1 hb
    obtain ⟨o, e', d⟩ := ho p.1 hb
    rw [e] at e'; cases e'
    exact ⟨e, f0, f1, f2, d⟩
theorem Inv.unpinned {pins pl : List (Addr × Obj)} {σ : St} {H : Hp} {s : Shared} (I : Inv X (pins ++ pl) σ H s) : Inv X pins σ H s := I.pins_of fun p hp => I.pin p (List.mem_append_right _ (List.mem_append_left _ hp))
theorem ps_for {iter : Expr} {body : List Stmt} {wi : TI} {g : TG} {tb : TS} {pos : Pos} (hp : PassesOwn (model X.prog X.w) X.A X.env X.xe) (hc : X.calm = true) (hi : PI X tg iter wi) (hg : PG X tg g) (hb : PSs X body tb)
    (hs : ∀ x, foldedSetIterable iter X.env x = pure x := by intro _; rfl) : PS X (.For tg iter body [] pos) (tFor wi g tb) := by
  intro pins s σ H D I h
  refine wpAny_For (thn (hi pins s σ H _ I h) fun v s1 h1 => thn h1 fun itv s2 h2 => ?_) hs
  obtain ⟨it, fp, tn, J, H2, e, I2, T, st2, f2, W, ⟨m0, w0⟩, turn⟩ := h2
  subst e
  have stat : ∀ {H' : Hp}, (∀ b ∈ fp, H' b = none) → ∀ b ∈ fp, FpOk X pins H' b := fun hn b hb => ⟨hn b hb, (f2 b hb).2⟩
  refine codeAny_forLoop_any (fun n s' => ∃ i σ' H', Inv X pins σ' H' s' ∧ tn i s'.heap ∧ (∀ b ∈ fp, H' b = none) ∧ W i n σ' H') ?_ m0 ⟨0, σ, H2, I2, st2, fun b hb => (f2 b hb).1, w0⟩
  rintro n s3 ⟨i, σ3, H3, I3, st3, fr3, w3⟩
  rcases turn i n σ3 H3 w3 with ⟨stop, qn⟩ | ⟨go, N, hN, step⟩
  · refine wpAny_passesOwn hp (thn (T.done X rfl rfl rfl hc i pins s3 σ3 H3 X.xe I3 (stat fr3) st3 stop) fun r s4 ⟨hr, I4⟩ => ?_)
    subst hr
    exact wpAny_execs_nil ⟨σ3, H3, I4, qn⟩
  · refine wpAny_passesOwn hp (thn (T.item X rfl rfl rfl hc i pins s3 σ3 H3 X.xe I3 (stat fr3) st3 go) fun r s4 ⟨u, hr, h4⟩ => ?_)
    subst hr
    refine wpAny_passesOwn hp (thn h4 fun _ s5 ⟨x, H5, I5, r5, y5, st5, fr5⟩ => ?_)
    have I5' := I5.pinned (stat fr5) (T.obj _ _ st5)
    refine wpAny_passesOwn hp (thn (hg _ s5 σ3 H5 x u _ I5' r5 (step x H5 y5)) fun _ s6 ⟨σ6, H6, I6, q6⟩ => ?_)
    refine wpAny_passesOwn hp (thn (hb _ s6 σ6 H6 _ I6 q6) fun f s7 q7 => ?_)
    have again : ∀ {σ7 : St} {H7 : Hp}, Inv X (pins ++ pinsAt fp s5.heap) σ7 H7 s7 → N σ7 H7 → ∃ m, m < n ∧ ∃ i σ' H', Inv X pins σ' H' s7 ∧ tn i s7.heap ∧ (∀ b ∈ fp, H' b = none) ∧ W i m σ' H' := fun {σ7 H7} I7 n7 => by
      obtain ⟨m', hm, w7⟩ := hN σ7 H7 n7
      refine ⟨m', hm, i + 1, σ7, H7, I7.unpinned, T.keep _ _ _ st5 fun b hb o e => (I7.pin (b, o) (List.mem_append_right _ (List.mem_append_right _ (mem_pinsAt hb e)))).1, fun b hb => ?_, w7⟩
      obtain ⟨o, e, d⟩ := T.obj _ _ st5 b hb
      exact (I7.pin (b, o) (List.mem_append_right _ (List.mem_append_right _ (mem_pinsAt hb e)))).2.1
    cases f with
    | next => obtain ⟨σ7, H7, I7, n7⟩ := q7; exact again I7 n7
    | cont => obtain ⟨σ7, H7, I7, n7⟩ := q7; exact again I7 n7
    | brk => obtain ⟨σ7, H7, I7, q7⟩ := q7; exact ⟨σ7, H7, I7.unpinned, q7⟩
    | ret v => obtain ⟨x7, σ7, H7, I7, r7, q7⟩ := q7; exact ⟨x7, σ7, H7, I7.unpinned, r7, q7⟩
end
theorem for_list {K : PySem.W.Frag} {a : Addr} {xs : List V} {g : TG} {tb : TS} {D : Ends} {σ : St} {H : Hp} (Pv : Nat → St → Hp → Prop) (h0 : Pv 0 σ H) (hl : ∀ i σ H, i ≤ xs.length → Pv i σ H → SqL K H a xs)
    (hs : ∀ i x σ H, xs[i]? = some x → Pv i σ H → g x σ H fun σ2 H2 => tb { D with nx := Pv (i + 1), ct := Pv (i + 1), bk := D.nx } σ2 H2) (hd : ∀ σ H, Pv xs.length σ H → D.nx σ H) :
    ∃ W : Nat → Nat → St → Hp → Prop, (∃ m, W 0 m σ H) ∧ ∀ i m σ H, W i m σ H →
      ((Itl K a).stop i H ∧ D.nx σ H) ∨ ((Itl K a).go i H ∧ ∃ N : St → Hp → Prop, (∀ σ' H', N σ' H' → ∃ m', m' < m ∧ W (i + 1) m' σ' H') ∧ ∀ x H', (Itl K a).yld i H x H' → g x σ H' fun σ2 H2 => tb { D with nx := N, ct := N, bk := D.nx } σ2 H2) := by
  refine ⟨fun i m σ H => m = xs.length - i ∧ i ≤ xs.length ∧ Pv i σ H, ⟨xs.length, by simp, Nat.zero_le _, h0⟩, ?_⟩
  rintro i m σ H ⟨rfl, hi, p⟩
  have q := hl i σ H hi p
  by_cases hlt : i < xs.length
  · refine .inr ⟨⟨xs, xs[i], q, by simp [hlt]⟩, Pv (i + 1), fun σ' H' p' => ⟨xs.length - (i + 1), by omega, rfl, hlt, p'⟩, fun x H' y => ?_⟩
    obtain ⟨e, y⟩ := y
    subst e
    exact hs i x σ _ (y xs q) p
  · have e : i = xs.length := by omega
    subst e
    exact .inl ⟨⟨xs, q, Nat.le_refl _⟩, hd σ H p⟩
theorem for_tup {K : PySem.W.Frag} {a : Addr} {xs : List V} {g : TG} {tb : TS} {D : Ends} {σ : St} {H : Hp} (Pv : Nat → St → Hp → Prop) (h0 : Pv 0 σ H) (hl : ∀ i σ H, i ≤ xs.length → Pv i σ H → SqT K H a xs)
    (hs : ∀ i x σ H, xs[i]? = some x → Pv i σ H → g x σ H fun σ2 H2 => tb { D with nx := Pv (i + 1), ct := Pv (i + 1), bk := D.nx } σ2 H2) (hd : ∀ σ H, Pv xs.length σ H → D.nx σ H) :
    ∃ W : Nat → Nat → St → Hp → Prop, (∃ m, W 0 m σ H) ∧ ∀ i m σ H, W i m σ H →
      ((Itt K a).stop i H ∧ D.nx σ H) ∨ ((Itt K a).go i H ∧ ∃ N : St → Hp → Prop, (∀ σ' H', N σ' H' → ∃ m', m' < m ∧ W (i + 1) m' σ' H') ∧ ∀ x H', (Itt K a).yld i H x H' → g x σ H' fun σ2 H2 => tb { D with nx := N, ct := N, bk := D.nx } σ2 H2) := by
  refine ⟨fun i m σ H => m = xs.length - i ∧ i ≤ xs.length ∧ Pv i σ H, ⟨xs.length, by simp, Nat.zero_le _, h0⟩, ?_⟩
  rintro i m σ H ⟨rfl, hi, p⟩
  have q := hl i σ H hi p
  by_cases hlt : i < xs.length
  · refine .inr ⟨⟨xs, xs[i], q, by simp [hlt]⟩, Pv (i + 1), fun σ' H' p' => ⟨xs.length - (i + 1), by omega, rfl, hlt, p'⟩, fun x H' y => ?_⟩
    obtain ⟨e, y⟩ := y
    subst e
    exact hs i x σ _ (y xs q) p
  · have e : i = xs.length := by omega
    subst e
    exact .inl ⟨⟨xs, q, Nat.le_refl _⟩, hd σ H p⟩
theorem while_by {c : TT} {tb : TS} {D : Ends} {σ : St} {H : Hp} (Pv : St → Hp → Prop) (μ : St → Hp → Nat) (h0 : Pv σ H)
    (hs : ∀ σ H, Pv σ H → c σ H fun b H1 => if b = true then tb { D with nx := fun σ' H' => Pv σ' H' ∧ μ σ' H' < μ σ H, ct := fun σ' H' => Pv σ' H' ∧ μ σ' H' < μ σ H, bk := D.nx } σ H1 else D.nx σ H1)
    (mono : ∀ σ H Q Q', (∀ b H1, Q b H1 → Q' b H1) → c σ H Q → c σ H Q') : tWhile c tb D σ H := by
  refine ⟨fun m σ H => m = μ σ H ∧ Pv σ H, ⟨_, rfl, h0⟩, ?_⟩
  rintro m σ H ⟨rfl, p⟩
  refine mono σ H _ _ (fun b H1 q => ?_) (hs σ H p)
  cases b with
  | true => exact ⟨_, fun σ' H' ⟨p', l⟩ => ⟨_, l, rfl, p'⟩, q⟩
  | false => exact q
end L2
namespace L2
open PySem PySem.Spec PyProof.Rows
abbrev R2 := V → V → Hp → VK → Prop
def OpR (X : Cx) (f : Value → Value → Sem Value) (r : R2) : Prop :=
  ∀ (pins : List (Addr × Obj)) (s : Shared) (σ : St) (H : Hp) (x y : V) (v u : Value) (Q : VK), Inv X pins σ H s → RelV x v → RelV y u → r x y H Q →
    wpAny (model X.prog X.w) X.A (f v u) (EP X pins σ Q) X.xe s
def UnR (X : Cx) (f : Value → Sem Value) (r : V → Hp → VK → Prop) : Prop :=
  ∀ (pins : List (Addr × Obj)) (s : Shared) (σ : St) (H : Hp) (x : V) (v : Value) (Q : VK), Inv X pins σ H s → RelV x v → r x H Q →
    wpAny (model X.prog X.w) X.A (f v) (EP X pins σ Q) X.xe s
def CallR (X : Cx) (f : Value) (r : List V → Hp → VK → Prop) : Prop :=
  ∀ (pins : List (Addr × Obj)) (s : Shared) (σ : St) (H : Hp) (xs : List V) (us : List Value) (Q : VK), Inv X pins σ H s → Vals xs us → r xs H Q →
    wpAny (model X.prog X.w) X.A (call f us) (EP X pins σ Q) X.xe s
def TruR (X : Cx) (r : V → Hp → (Bool → Hp → Prop) → Prop) : Prop :=
  ∀ (pins : List (Addr × Obj)) (s : Shared) (σ : St) (H : Hp) (x : V) (v : Value) (Q : Bool → Hp → Prop), Inv X pins σ H s → RelV x v → r x H Q →
    wpAny (model X.prog X.w) X.A (truthy v) (TP X pins σ Q) X.xe s
def tOp (r : R2) (ta tb : TE) : TE := fun σ H Q => ta σ H fun x H1 => tb σ H1 fun y H2 => r x y H2 Q
def tUn (r : V → Hp → VK → Prop) (ta : TE) : TE := fun σ H Q => ta σ H fun x H1 => r x H1 Q
def rI (C : Int → Int → Prop) (g : Int → Int → V) : R2 := fun x y H Q => ∃ i j, x = .int i ∧ y = .int j ∧ C i j ∧ Q (g i j) H
def rI0 (g : Int → Int → V) : R2 := fun x y H Q => ∃ i j, x = .int i ∧ y = .int j ∧ Q (g i j) H
def rU (g : Int → V) : V → Hp → VK → Prop := fun x H Q => ∃ i, x = .int i ∧ Q (g i) H
section
variable {X : Cx} {a b c : Expr} {ta tb tc : TE} {pos : Pos}
theorem binT (ha : PE X a ta) (hb : PE X b tb) {pins : List (Addr × Obj)} {s : Shared} {σ : St} {H : Hp} {R : V → V → Hp → Prop} (I : Inv X pins σ H s)
    (h : ta σ H fun x H1 => tb σ H1 fun y H2 => R x y H2) {Q : Value → Shared → Prop} {f : Value → Value → Sem Value}
    (hf : ∀ v u s2 x y H2, Inv X pins σ H2 s2 → RelV x v → RelV y u → R x y H2 → wpAny (model X.prog X.w) X.A (f v u) Q X.xe s2) :
    wpAny (model X.prog X.w) X.A (eval a X.env) (fun v s₁ => wpAny (model X.prog X.w) X.A (eval b X.env) (fun u s₂ => wpAny (model X.prog X.w) X.A (f v u) Q X.xe s₂) X.xe s₁) X.xe s := by
  refine thn (ha pins s σ H _ I h) fun v s1 ⟨x, H1, I1, r1, q1⟩ => ?_
  refine thn (hb pins s1 σ H1 _ I1 q1) fun u s2 ⟨y, H2, I2, r2, q2⟩ => ?_
  exact hf v u s2 x y H2 I2 r1 r2 q2
theorem pe_op {op : Operator} {r : R2} (ho : OpR X (binaryOp op) r) (ha : PE X a ta) (hb : PE X b tb) : PE X (.BinOp a op b pos) (tOp r ta tb) := by
  intro pins s σ H Q I h
  exact wpAny_BinOp (binT ha hb I h fun v u s2 x y H2 I2 rx ry q => ho pins s2 σ H2 x y v u Q I2 rx ry q)
theorem pe_un {op : UnaryOp} {r : V → Hp → VK → Prop} (ho : UnR X (unaryOp op) r) (ha : PE X a ta) : PE X (.UnaryOp op a pos) (tUn r ta) := by
  intro pins s σ H Q I h
  exact UnaryOp_ (thn (ha pins s σ H _ I h) fun v s1 ⟨x, H1, I1, r1, q1⟩ => ho pins s1 σ H1 x v Q I1 r1 q1)
theorem opI {f : Value → Value → Sem Value} {C : Int → Int → Prop} {g : Int → Int → Int}
    (rule : ∀ (i j : Int) (t u : Tok) (s : Shared) (Q : Value → Shared → Prop) (E : Value → Shared → Prop), C i j → Q (.int (g i j) s.toks) { s with toks := s.toks + 1 } → wpAny (model X.prog X.w) X.A (f (.int i t) (.int j u)) Q E s) :
    OpR X f (rI C fun i j => .int (g i j)) := by
  intro pins s σ H x y v u Q I rx ry h
  obtain ⟨i, j, rfl, rfl, hc, q⟩ := h
  obtain ⟨t, rfl⟩ := rx
  obtain ⟨t', rfl⟩ := ry
  exact rule i j t t' s _ _ hc ⟨.int (g i j), H, I.tok _, ⟨_, rfl⟩, q⟩
theorem opI0 {f : Value → Value → Sem Value} {g : Int → Int → Int}
    (rule : ∀ (i j : Int) (t u : Tok) (s : Shared) (Q : Value → Shared → Prop) (E : Value → Shared → Prop), Q (.int (g i j) s.toks) { s with toks := s.toks + 1 } → wpAny (model X.prog X.w) X.A (f (.int i t) (.int j u)) Q E s) :
    OpR X f (rI0 fun i j => .int (g i j)) := by
  intro pins s σ H x y v u Q I rx ry h
  obtain ⟨i, j, rfl, rfl, q⟩ := h
  obtain ⟨t, rfl⟩ := rx
  obtain ⟨t', rfl⟩ := ry
  exact rule i j t t' s _ _ ⟨.int (g i j), H, I.tok _, ⟨_, rfl⟩, q⟩
theorem opB0 {f : Value → Value → Sem Value} {g : Int → Int → Bool}
    (rule : ∀ (i j : Int) (t u : Tok) (s : Shared) (Q : Value → Shared → Prop) (E : Value → Shared → Prop), Q (.bool (g i j)) s → wpAny (model X.prog X.w) X.A (f (.int i t) (.int j u)) Q E s) :
    OpR X f (rI0 fun i j => .bl (g i j)) := by
  intro pins s σ H x y v u Q I rx ry h
  obtain ⟨i, j, rfl, rfl, q⟩ := h
  obtain ⟨t, rfl⟩ := rx
  obtain ⟨t', rfl⟩ := ry
  exact rule i j t t' s _ _ ⟨.bl (g i j), H, I, rfl, q⟩
def CDiv (i j : Int) : Prop := 0 < j ∧ j < 1073741824
def CPow (i j : Int) : Prop := 0 ≤ j ∧ j ≤ 1000000 ∧ i.natAbs < 2 ^ 64
def CMul (i j : Int) : Prop := (-(2 ^ 64) < i ∧ i < 2 ^ 64) ∨ (-(2 ^ 64) < j ∧ j < 2 ^ 64)
theorem CMul.ok {i j : Int} (h : CMul i j) : IntMulOk i j := by
  rcases h with ⟨h1, h2⟩ | ⟨h1, h2⟩
  · exact .of_left (intBits_le_64 h1 h2)
  · exact .of_right (intBits_le_64 h1 h2)
theorem op_add : OpR X (binaryOp .Add) (rI0 fun i j => .int (i + j)) := opI0 fun _ _ _ _ _ _ _ q => add_int q
theorem op_sub : OpR X (binaryOp .Sub) (rI0 fun i j => .int (i - j)) := opI0 fun _ _ _ _ _ _ _ q => sub_int q
theorem op_mul : OpR X (binaryOp .Mult) (rI CMul fun i j => .int (i * j)) := opI fun _ _ _ _ _ _ _ hc q => mul_int q hc.ok
theorem op_fdiv : OpR X (binaryOp .FloorDiv) (rI CDiv fun i j => .int (i / j)) := opI fun i j _ _ _ _ _ hc q => by
  have h1 : (0 : Int) < j := hc.1
  have h2 : j < 1073741824 := hc.2
  exact floordiv_int (by omega) (by rw [Int.fdiv_eq_ediv_of_nonneg i (by omega)]; exact q) (.inl (PyProof.noPylong_small (by omega)))
theorem op_mod : OpR X (binaryOp .Mod) (rI (fun _ j => 0 < j) fun i j => .int (i % j)) := opI fun i j _ _ _ _ _ hc q => by
  have h1 : (0 : Int) < j := hc
  exact mod_int' (by omega) (by rw [Int.fmod_eq_emod_of_nonneg i (by omega)]; exact q)
theorem op_pow : OpR X (binaryOp .Pow) (rI CPow fun i j => .int (i ^ j.toNat)) := opI fun _ _ _ _ _ _ _ hc q => pow_int_small hc.1 hc.2.1 hc.2.2 q
theorem unI {f : Value → Sem Value} {g : Int → Int}
    (rule : ∀ (i : Int) (t : Tok) (s : Shared) (Q : Value → Shared → Prop) (E : Value → Shared → Prop), Q (.int (g i) s.toks) { s with toks := s.toks + 1 } → wpAny (model X.prog X.w) X.A (f (.int i t)) Q E s) :
    UnR X f (rU fun i => .int (g i)) := by
  intro pins s σ H x v Q I rx h
  obtain ⟨i, rfl, q⟩ := h
  obtain ⟨t, rfl⟩ := rx
  exact rule i t s _ _ ⟨.int (g i), H, I.tok _, ⟨_, rfl⟩, q⟩
theorem un_neg : UnR X (unaryOp .USub) (rU fun i => .int (-i)) := unI fun _ _ _ _ _ q => neg_int q
end
def scal : V → V → Bool
  | .non, .non => true | .non, .int _ => true | .int _, .non => true | .non, .bl _ => true | .bl _, .non => true | .non, .str _ => true | .str _, .non => true
  | .int _, .int _ => true | .bl _, .bl _ => true | .str _, .str _ => true | .byt _, .byt _ => true
  | .int _, .str _ => true | .str _, .int _ => true | .bl _, .str _ => true | .str _, .bl _ => true
  | _, _ => false
def rEq : R2 := fun x y H Q => scal x y = true ∧ Q (.bl (decide (x = y))) H
def rNe : R2 := fun x y H Q => scal x y = true ∧ Q (.bl (!decide (x = y))) H
theorem dec_int {i j : Int} : decide (V.int i = V.int j) = (i == j) := by
  rw [Bool.eq_iff_iff]
  simp
theorem dec_bl {i j : Bool} : decide (V.bl i = V.bl j) = (i == j) := by
  rw [Bool.eq_iff_iff]
  simp
theorem dec_str {i j : Str} : decide (V.str i = V.str j) = (i == j) := by
  rw [Bool.eq_iff_iff]
  simp
theorem dec_byt {i j : Array UInt8} : decide (V.byt i = V.byt j) = (i.toList == j.toList) := by
  rw [Bool.eq_iff_iff]
  cases i
  cases j
  simp
section
variable {X : Cx} {a b c : Expr} {ta tb tc : TE} {pos : Pos}
theorem fin_bl {pins : List (Addr × Obj)} {σ : St} {H : Hp} {s : Shared} {Q : VK} {k k' : Bool} (I : Inv X pins σ H s) (q : Q (.bl k) H) (e : k = k') : EP X pins σ Q (.bool k') s := by
  subst e
  exact ⟨.bl k, H, I, rfl, q⟩
theorem op_eq : OpR X (compareOp .Eq) rEq := by
  intro pins s σ H x y v u Q I rx ry h
  obtain ⟨hs, q⟩ := h
  cases x with
  | non =>
    cases rx
    cases y with
    | non => cases ry; exact PySem.EqNone.eq_none_none (fin_bl I q (by simp))
    | bl j => cases ry; exact PySem.EqNone.eq_none_bool (fin_bl I q (by simp))
    | int j => obtain ⟨t', rfl⟩ := ry; exact PySem.EqNone.eq_none_int (fin_bl I q (by simp))
    | str j => obtain ⟨t', rfl⟩ := ry; exact PySem.EqNone.eq_none_str (fin_bl I q (by simp))
    | _ => exact absurd (show false = true from hs) Bool.false_ne_true
  | bl i =>
    cases rx
    cases y with
    | non => cases ry; exact PySem.EqNone.eq_bool_none (fin_bl I q (by simp))
    | bl j => cases ry; exact eq_bool (fin_bl I q dec_bl)
    | str j => obtain ⟨t', rfl⟩ := ry; exact PySem.EqMixed.eq_bool_str (fin_bl I q (by simp))
    | _ => exact absurd (show false = true from hs) Bool.false_ne_true
  | int i =>
    obtain ⟨t, rfl⟩ := rx
    cases y with
    | non => cases ry; exact PySem.EqNone.eq_int_none (fin_bl I q (by simp))
    | int j => obtain ⟨t', rfl⟩ := ry; exact eq_int (fin_bl I q dec_int)
    | str j => obtain ⟨t', rfl⟩ := ry; exact PySem.EqMixed.eq_int_str (fin_bl I q (by simp))
    | _ => exact absurd (show false = true from hs) Bool.false_ne_true
  | str i =>
    obtain ⟨t, rfl⟩ := rx
    cases y with
    | non => cases ry; exact PySem.EqNone.eq_str_none (fin_bl I q (by simp))
    | bl j => cases ry; exact PySem.EqMixed.eq_str_bool (fin_bl I q (by simp))
    | int j => obtain ⟨t', rfl⟩ := ry; exact PySem.EqMixed.eq_str_int (fin_bl I q (by simp))
    | str j => obtain ⟨t', rfl⟩ := ry; exact eq_str (fin_bl I q dec_str)
    | _ => exact absurd (show false = true from hs) Bool.false_ne_true
  | byt i =>
    obtain ⟨t, rfl⟩ := rx
    cases y with
    | byt j => obtain ⟨t', rfl⟩ := ry; exact PySem.W.eq_bytes (fin_bl I q dec_byt)
    | _ => exact absurd (show false = true from hs) Bool.false_ne_true
  | _ => cases y <;> exact absurd (show false = true from hs) Bool.false_ne_true
theorem op_ne : OpR X (compareOp .NotEq) rNe := by
  intro pins s σ H x y v u Q I rx ry h
  obtain ⟨hs, q⟩ := h
  cases x with
  | non =>
    cases rx
    cases y with
    | non => cases ry; exact PySem.EqNone.ne_none_none (fin_bl I q (by simp))
    | bl j => cases ry; exact PySem.EqNone.ne_none_bool (fin_bl I q (by simp))
    | int j => obtain ⟨t', rfl⟩ := ry; exact PySem.EqNone.ne_none_int (fin_bl I q (by simp))
    | str j => obtain ⟨t', rfl⟩ := ry; exact PySem.EqNone.ne_none_str (fin_bl I q (by simp))
    | _ => exact absurd (show false = true from hs) Bool.false_ne_true
  | bl i =>
    cases rx
    cases y with
    | non => cases ry; exact PySem.EqNone.ne_bool_none (fin_bl I q (by simp))
    | bl j => cases ry; exact ne_bool (fin_bl I q (congrArg not dec_bl))
    | str j => obtain ⟨t', rfl⟩ := ry; exact PySem.EqMixed.ne_bool_str (fin_bl I q (by simp))
    | _ => exact absurd (show false = true from hs) Bool.false_ne_true
  | int i =>
    obtain ⟨t, rfl⟩ := rx
    cases y with
    | non => cases ry; exact PySem.EqNone.ne_int_none (fin_bl I q (by simp))
    | int j => obtain ⟨t', rfl⟩ := ry; exact ne_int (fin_bl I q (congrArg not dec_int))
    | str j => obtain ⟨t', rfl⟩ := ry; exact PySem.EqMixed.ne_int_str (fin_bl I q (by simp))
    | _ => exact absurd (show false = true from hs) Bool.false_ne_true
  | str i =>
    obtain ⟨t, rfl⟩ := rx
    cases y with
    | non => cases ry; exact PySem.EqNone.ne_str_none (fin_bl I q (by simp))
    | bl j => cases ry; exact PySem.EqMixed.ne_str_bool (fin_bl I q (by simp))
    | int j => obtain ⟨t', rfl⟩ := ry; exact PySem.EqMixed.ne_str_int (fin_bl I q (by simp))
    | str j => obtain ⟨t', rfl⟩ := ry; exact ne_str (fin_bl I q (congrArg not dec_str))
    | _ => exact absurd (show false = true from hs) Bool.false_ne_true
  | byt i =>
    obtain ⟨t, rfl⟩ := rx
    cases y with
    | byt j => obtain ⟨t', rfl⟩ := ry; exact PySem.W.ne_bytes (fin_bl I q (congrArg not dec_byt))
    | _ => exact absurd (show false = true from hs) Bool.false_ne_true
  | _ => cases y <;> exact absurd (show false = true from hs) Bool.false_ne_true
theorem op_lt : OpR X (compareOp .Lt) (rI0 fun i j => .bl (decide (i < j))) := opB0 fun _ _ _ _ _ _ _ q => lt_int q
theorem op_le : OpR X (compareOp .LtE) (rI0 fun i j => .bl (decide (i ≤ j))) := opB0 fun _ _ _ _ _ _ _ q => le_int q
theorem op_gt : OpR X (compareOp .Gt) (rI0 fun i j => .bl (decide (j < i))) := opB0 fun _ _ _ _ _ _ _ q => gt_int q
theorem nomark (b : Expr) {op : CmpOp} (h : op ≠ .In := by decide) (h2 : op ≠ .NotIn := by decide) : behindInMarks op b = false := by
  have e1 : (op == CmpOp.In) = false := by cases op <;> first | rfl | exact absurd rfl h
  have e2 : (op == CmpOp.NotIn) = false := by cases op <;> first | rfl | exact absurd rfl h2
  cases b <;> simp [behindInMarks, e1, e2]
theorem pe_cmpR {op : CmpOp} {r : R2} (ho : OpR X (compareOp op) r) (ha : PE X a ta) (hb : PE X b tb) (hm : behindInMarks op b = false) : PE X (.Compare a [op] [b] pos) (tOp r ta tb) := by
  intro pins s σ H Q I h
  exact wpAny_Compare1 (binT ha hb I h fun v u s2 x y H2 I2 rx ry q => ho pins s2 σ H2 x y v u Q I2 rx ry q) hm
def tTest (t : TE) : TT := fun σ H Q => t σ H fun x H' => ∃ k, x = .bl k ∧ Q k H'
theorem pt_cmpR {op : CmpOp} {r : R2} (ho : OpR X (compareOp op) r) (ha : PE X a ta) (hb : PE X b tb) (hm : behindInMarks op b = false) : PT X (.Compare a [op] [b] pos) (tTest (tOp r ta tb)) := by
  intro pins s σ H Q I h
  refine wpAny_isTrue_Compare1 (thn (ha pins s σ H _ I h) fun v s1 ⟨x, H1, I1, r1, q1⟩ => thn (hb pins s1 σ H1 _ I1 q1) fun u s2 ⟨y, H2, I2, r2, q2⟩ =>
    thn (ho pins s2 σ H2 x y v u _ I2 r1 r2 q2) fun c s3 ⟨z, H3, I3, r3, k, e, q3⟩ => ?_) hm
  subst e
  cases r3
  exact wpAny_truthy_bool ⟨H3, I3, q3⟩
theorem line63 : (sizeLine : Nat) < 2 ^ 63 := by rw [sizeLine_eq]; decide
theorem vals1 {x : V} {us : List Value} (r : Vals [x] us) : ∃ u, us = [u] ∧ RelV x u := by
  cases r with
  | cons r1 r2 => cases r2; exact ⟨_, rfl, r1⟩
theorem vals2 {x y : V} {us : List Value} (r : Vals [x, y] us) : ∃ u w', us = [u, w'] ∧ RelV x u ∧ RelV y w' := by
  cases r with
  | cons r1 r2 =>
    cases r2 with
    | cons r3 r4 => cases r4; exact ⟨_, _, rfl, r1, r3⟩
theorem call_max2 (hc : X.calm = true) : CallR X (.builtin "max") (fun xs H Q => ∃ i j, xs = [.int i, .int j] ∧ Q (.int (if j > i then j else i)) H) := by
  intro pins s σ H xs us Q I r h
  obtain ⟨i, j, rfl, q⟩ := h
  obtain ⟨u, w', rfl, ⟨t, rfl⟩, ⟨t', rfl⟩⟩ := vals2 r
  refine max_two_ints (I.ok.hd hc) fun h' tk k => ⟨_, H, I.kept k, ?_, q⟩
  by_cases hj : j > i
  · rw [if_pos hj, if_pos hj]; exact ⟨_, rfl⟩
  · rw [if_neg hj, if_neg hj]; exact ⟨_, rfl⟩
theorem call_min2 (hc : X.calm = true) : CallR X (.builtin "min") (fun xs H Q => ∃ i j, xs = [.int i, .int j] ∧ Q (.int (if j < i then j else i)) H) := by
  intro pins s σ H xs us Q I r h
  obtain ⟨i, j, rfl, q⟩ := h
  obtain ⟨u, w', rfl, ⟨t, rfl⟩, ⟨t', rfl⟩⟩ := vals2 r
  refine min_two_ints (I.ok.hd hc) fun h' tk k => ⟨_, H, I.kept k, ?_, q⟩
  by_cases hj : j < i
  · rw [if_pos hj, if_pos hj]; exact ⟨_, rfl⟩
  · rw [if_neg hj, if_neg hj]; exact ⟨_, rfl⟩
end
end L2
namespace L2
open PySem PySem.Spec PyProof.Rows
structure ObjM (h : Heap) (x dx C : Addr) (mA : Str → Option Value) : Prop where
  obj : h.get? x = some (PySem.W.instObj C dx)
  ns : h.Ns1 dx mA
  ne : dx ≠ x
theorem lookIn_ns {h : Heap} {dx : Addr} {mA : Str → Option Value} (n : h.Ns1 dx mA) : ∃ od, h.get? dx = some od ∧ ∀ name, PySem.W.lookIn name od = some (mA name) := by
  obtain ⟨o, es, ep, ho, hd, hk, _, hm⟩ := n
  refine ⟨o, ho, fun name => ?_⟩
  have e := hm name
  unfold nsFind findBy at e
  rw [← Array.find?_toList] at e
  unfold PySem.W.lookIn
  rw [hd]
  dsimp only
  split
  · rename_i y q
    rw [q] at e
    exact congrArg some e
  · rename_i q
    rw [q] at e
    have a : es.toList.any (·.refKey) = false := by
      rw [List.any_eq_false]
      intro y hy
      obtain ⟨z, t, hkey⟩ := hk y (Array.mem_toList_iff.mp hy)
      simp [DictEntry.refKey, hkey]
    have a' : ¬ es.toList.any (·.refKey) = true := by rw [a]; exact Bool.false_ne_true
    rw [if_neg a']
    exact congrArg some e
theorem ObjM.look {h : Heap} {x dx C : Addr} {mA : Str → Option Value} (I : ObjM h x dx C mA) : ∃ od, PySem.W.InstAt h x (PySem.W.instObj C dx) C (some od) ∧ ∀ name, PySem.W.lookIn name od = some (mA name) :=
  let ⟨od, ho, hl⟩ := lookIn_ns I.ns
  ⟨od, ⟨I.obj, rfl, rfl, ho⟩, hl⟩
section
variable {prog : Program} {w : World} {A : Around} {E : Value → Shared → Prop} {s : Shared} {K : PySem.W.Frag} {x dx C f : Addr} {mA : Str → Option Value} {name : Str} {v : Value}
end
section
variable {P : Program} {w : World} {H H' : Hp} {h h' : Heap} {a C dx : Addr} {fs fs' : List (Str × V)}
theorem ins_get (hok : HOk P w H h) (e : H a = some (.ins C dx fs)) : ∃ mA, ObjM h a dx C mA ∧ (∀ f, RelO (fs.lookup f) (mA f)) ∧ PySem.Within mA (fs.map (·.1)) ∧ fs.length ≤ 1000 ∧ H dx = some (.own a) := by
  obtain ⟨d, z, ne, ob, mA, n, r, q⟩ := (show ObjOk P w H h a (.ins C dx fs) from hok a _ e)
  exact ⟨mA, ⟨ob, n, ne⟩, r, q, z, d⟩
end
structure Cls (K : PySem.W.Frag) (C : Addr) : Prop where
  pg : PySem.W.plainGet K C Str.empty = true
  hd : PySem.W.hasDictIn K C = true
  po : PySem.W.plainOver K C = true
  sa : PySem.W.findIn K (.ref C) "__setattr__" = some (some (.builtin "object.__setattr__"))
theorem Cls.get {K : PySem.W.Frag} {C : Addr} (c : Cls K C) (f : Str) : PySem.W.plainGet K C f = true := c.pg
structure Con (K : PySem.W.Frag) (C : Addr) (f : Str) (v : V) (u : Value) : Prop where
  at_ : PySem.W.findIn K (.ref C) f = some (some u)
  rel : RelV v u
  get : PySem.W.specialIn K u "__get__" = some none
  cp : PySem.W.copiedNames.contains f = false
structure Meth (K : PySem.W.Frag) (C : Addr) (m : Str) (f : Addr) : Prop where
  at_ : PySem.W.findIn K (.ref C) m = some (some (.ref f))
  fn : PySem.W.isFn K (.ref f) = true
  kp : PySem.W.keepIn K (.ref f) = true
section
variable {X : Cx} {pins : List (Addr × Obj)} {σ : St} {H : Hp} {s : Shared} {a C dx : Addr} {fs : List (Str × V)} {f : Str} {v : V} {A : Around} {E : Value → Shared → Prop}
end
section
variable {X : Cx} {o e value : Expr} {f : Str} {pos pos' tpos : Pos} {ta tv : TE}
end
section
variable {X : Cx} {pins : List (Addr × Obj)} {σ : St} {H : Hp} {s : Shared} {A : Around} {E : Value → Shared → Prop} {Q : Value → Shared → Prop} {c : Value} {b : Bool}
inductive TyOf (K : PySem.W.Frag) (H : Hp) : V → Value → Prop where
  | non : TyOf K H .non (.type "NoneType")
  | bl (x : Bool) : TyOf K H (.bl x) (.type "bool")
  | int (i : Int) : TyOf K H (.int i) (.type "int")
  | str (x : Str) : TyOf K H (.str x) (.type "str")
  | flt (x : UInt64) : TyOf K H (.flt x) (.type "float")
  | lst {a : Addr} {xs : List V} (e : H a = some (.lst xs)) : TyOf K H (.ref a) (.type "list")
  | frz {a : Addr} {o : Obj} {xs : List V} (e : H a = some (.frz o (.lst xs))) : TyOf K H (.ref a) (.type "list")
  | tup {a : Addr} {xs : List V} (e : H a = some (.tup xs)) : TyOf K H (.ref a) (.type "tuple")
  | dK {a : Addr} {kvs : List (Key × V)} (e : H a = some (.dK kvs)) : TyOf K H (.ref a) (.type "dict")
  | dT {a : Addr} {kvs : List (List Key × V)} (e : H a = some (.dT kvs)) : TyOf K H (.ref a) (.type "dict")
  | ins {a C dx : Addr} {fs : List (Str × V)} (e : H a = some (.ins C dx fs)) (cl : Cls K C) (ha : PySem.W.findIn K (.ref C) "__class__" = some (some (.builtin "object.__class__")))
      (hn : PySem.W.specialIn K (.builtin "object.__class__") "__get__" = some (some (.builtin "getset_descriptor.__get__"))) (htk : PySem.W.takesIn K (.builtin "object.__class__") = some true)
      (hm : PySem.W.mroIn K C (.type "object") = some true) : TyOf K H (.ref a) (.ref C)
theorem isinst_ok {x : V} {u t : Value} (I : Inv X pins σ H s) (rx : RelV x u) (ty : TyOf X.K H x t) (e : PySem.W.kitOne X.K t c = some b) (h : ∀ tk, Q (.bool b) { s with toks := tk }) :
    wpAny (model X.prog X.w) A (call (.builtin "isinstance") [u, c]) Q E s := by
  cases ty with
  | non => cases (show u = Value.none from rx); exact PySem.W.kia_one PySem.W.kitx_none I.kIn True.intro e (fun z => nomatch z) h
  | bl y => cases (show u = Value.bool y from rx); exact PySem.W.kia_one PySem.W.kitx_bool I.kIn True.intro e (fun z => nomatch z) h
  | int i => obtain ⟨t, q⟩ := (show ∃ t, u = Value.int i t from rx); cases q; exact PySem.W.kia_one PySem.W.kitx_int I.kIn True.intro e (fun z => nomatch z) h
  | str y => obtain ⟨t, q⟩ := (show ∃ t, u = Value.str y t from rx); cases q; exact PySem.W.kia_one PySem.W.kitx_str I.kIn True.intro e (fun z => nomatch z) h
  | flt y => obtain ⟨t, q⟩ := (show ∃ t, u = Value.float y t from rx); cases q; exact PySem.W.kia_one PySem.W.kitx_float I.kIn True.intro e (fun z => nomatch z) h
  | @lst a xs ea =>
    cases (show u = Value.ref a from rx)
    obtain ⟨_, _, n, _, h1⟩ := (show ObjOk X.prog X.w H s.heap a (.lst xs) from I.hok a _ ea)
    exact PySem.W.kia_one PySem.W.kitx_list I.kIn ⟨_, h1, rfl⟩ e (fun z => nomatch z) h
  | @frz a ob xs ea =>
    cases (show u = Value.ref a from rx)
    obtain ⟨_, _, _, n, _, h1⟩ := (show ObjOk X.prog X.w H s.heap a (.frz ob (.lst xs)) from I.hok a _ ea)
    exact PySem.W.kia_one PySem.W.kitx_list I.kIn ⟨_, h1, rfl⟩ e (fun z => nomatch z) h
  | @tup a xs ea =>
    cases (show u = Value.ref a from rx)
    obtain ⟨_, _, _, p⟩ := (show ObjOk X.prog X.w H s.heap a (.tup xs) from I.hok a _ ea)
    obtain ⟨o, h1, h2, _⟩ := p
    exact PySem.W.kia_one PySem.W.kitx_tuple I.kIn ⟨o, h1, h2⟩ e (fun z => nomatch z) h
  | @dK a kvs ea =>
    cases (show u = Value.ref a from rx)
    obtain ⟨_, _, vs, _, p⟩ := (show ObjOk X.prog X.w H s.heap a (.dK kvs) from I.hok a _ ea)
    obtain ⟨o, es, ep, h1, h2, _⟩ := p
    exact PySem.W.kia_one PySem.W.kitx_dict I.kIn ⟨o, h1, h2.1⟩ e (fun z => nomatch z) h
  | @dT a kvs ea =>
    cases (show u = Value.ref a from rx)
    obtain ⟨_, _, xs, _, o, es, ep, h1, h2, _⟩ := (show ObjOk X.prog X.w H s.heap a (.dT kvs) from I.hok a _ ea)
    exact PySem.W.kia_one PySem.W.kitx_dict I.kIn ⟨o, h1, h2.1⟩ e (fun z => nomatch z) h
  | @ins a C dx fs ea cl ha hn htk hm =>
    cases (show u = Value.ref a from rx)
    obtain ⟨mA, O, _⟩ := ins_get I.hok ea
    obtain ⟨od, J, _⟩ := O.look
    exact PySem.W.kia_one (PySem.W.kitx_own (cl.get _) cl.hd ha hn htk hm) I.kIn J e (fun z => nomatch z) h
end
end L2
namespace L2
open PySem PySem.Spec PyProof.Rows
structure Room (k : Nat) (A : Around) : Prop where
  hd : A.handled = none
  dp : A.depth + 3 * k + 5 < recursionLimit
  un : A.units + 16 * k + 200 < cLine
theorem Room.mono {j k : Nat} {A : Around} (r : Room k A) (h : j ≤ k) : Room j A := ⟨r.hd, by have := r.dp; omega, by have := r.un; omega⟩
theorem Room.deeper {k : Nat} {A : Around} (r : Room (k + 1) A) (env : Env) : Room k (A.deeper env) :=
  ⟨r.hd, by have := r.dp; show A.depth + 1 + 3 * k + 5 < _; omega, by have := r.un; show A.units + 3 + 16 * k + 200 < _; omega⟩
theorem Room.in1 {k : Nat} {A : Around} (r : Room (k + 1) A) : Room k A.in1 :=
  ⟨r.hd, by have := r.dp; show A.depth + 3 * k + 5 < _; omega, by have := r.un; show A.units + 1 + 16 * k + 200 < _; omega⟩
theorem Room.depth {k : Nat} {A : Around} (r : Room k A) : A.depth < recursionLimit := by have := r.dp; omega
theorem Room.units {k : Nat} {A : Around} (r : Room k A) : A.units + 64 < cLine := by have := r.un; omega
theorem Room.units0 {k : Nat} {A : Around} (r : Room k A) : A.units < cLine := by have := r.un; omega
def tNil : TA := fun _ H Q => Q [] H
def tCons (ta : TE) (tr : TA) : TA := fun σ H Q => ta σ H fun x H1 => tr σ H1 fun xs H2 => Q (x :: xs) H2
section
variable {X : Cx} {e : Expr} {es : List Expr} {te : TE} {t : TA} {pos : Pos}
theorem pa_nil : PA X [] tNil := fun _ _ _ _ H Q I h => Calls.spliced_nil ⟨[], H, I, .nil, h⟩
theorem pa_cons (ha : PE X e te) (hr : PA X es t) (hs : starEach (e :: es) X.env = (false, eval e X.env) :: starEach es X.env := by rfl) : PA X (e :: es) (tCons te t) := by
  intro pos pins s σ H Q I h
  rw [hs]
  show wpAny _ _ (spliced ((false, eval e X.env) :: backTo pos (starEach es X.env))) _ _ s
  refine Calls.spliced_cons (thn (ha pins s σ H _ I h) fun u s1 ⟨x, H1, I1, r1, q1⟩ => ?_)
  exact thn (hr pos pins s1 σ H1 _ I1 q1) fun us s2 ⟨xs, H2, I2, r2, q2⟩ => ⟨x :: xs, H2, I2, .cons r1 r2, q2⟩
def tTup (t : TA) : TE := fun σ H Q => t σ H fun xs H1 => xs.length ≤ sizeLine ∧ ∀ p, H1 p = none → Q (.ref p) (upd H1 p (.tup xs))
def tLst (t : TA) : TE := fun σ H Q => t σ H fun xs H1 => xs.length ≤ sizeLine ∧ ∀ p, H1 p = none → Q (.ref p) (upd H1 p (.lst xs))
theorem pe_tup {x1} (h : PA X es t) : PE X (.Tuple es x1 pos) (tTup t) := by
  intro pins s σ H Q I hq
  refine wpAny_Tuple_spliced (thn (h pos pins s σ H _ I hq) fun us s1 ⟨xs, H1, I1, r, z, q⟩ => ⟨by rw [← r.length]; exact z, ?_⟩)
  have hf : H1 s1.heap.objs.size = none := I1.hok.fresh (Nat.le_refl _)
  refine ⟨.ref s1.heap.objs.size, upd H1 s1.heap.objs.size (.tup xs), I1.laid (t' := s1.toks) (fun b u e => Heap.get?_push_of_some _ e) (Nat.le_refl _) ?_, rfl, q _ hf⟩
  exact ⟨z, us, r, ⟨_, Heap.get?_push_size _ rfl, rfl, _, rfl⟩⟩
theorem pe_lst (h : PA X es t) : PE X (.List es pos) (tLst t) := by
  intro pins s σ H Q I hq
  refine wpAny_List_spliced (thn (h pos pins s σ H _ I hq) fun us s1 ⟨xs, H1, I1, r, z, q⟩ => ⟨by rw [← r.length]; exact z, ?_⟩)
  have hf : H1 s1.heap.objs.size = none := I1.hok.fresh (Nat.le_refl _)
  refine ⟨.ref s1.heap.objs.size, upd H1 s1.heap.objs.size (.lst xs), I1.laid (t' := s1.toks) (fun b u e => Heap.get?_push_of_some _ e) (Nat.le_refl _) ?_, rfl, q _ hf⟩
  exact ⟨z, us, 0, r, Heap.get?_push_size _ rfl⟩
end
abbrev Sp := List V → Hp → VK → XK → Prop
abbrev CXT := List Env → Hp → Shared → XK → Value → Shared → Prop
structure Env0 (P : Program) (w : World) (K : PySem.W.Frag) (mg : Str → Option Value) (base : Heap) (A : Around) (outer : List Env) (s : Shared) (H : Hp) : Prop where
  frames : A.frames = some outer
  mod : Mod K mg base
  bs : ∀ b o, base.get? b = some o → s.heap.get? b = some o ∧ H b = none
  bsz : base.objs.size ≤ s.heap.objs.size
  funs : s.heap.FunFrames base outer
  frf : ∀ b ∈ frs outer, H b = none
  hok : HOk P w H s.heap
  bare : AllBare s.gens
def CE (outer : List Env) (P : Program) (w : World) (H : Hp) (s : Shared) (Q : VK) (u : Value) (s' : Shared) : Prop :=
  ∃ v H', s'.os = s.os ∧ AllBare s'.gens ∧ Un (frs outer) [] H H' s.heap s'.heap ∧ HOk P w H' s'.heap ∧ RelV v u ∧ Q v H'
def CR (CX : CXT) (outer : List Env) (P : Program) (w : World) (H : Hp) (s : Shared) (Q : VK) (E : XK) (r : Result) (s' : Shared) : Prop :=
  match r with
  | .ok (.ret u) => CE outer P w H s Q u s'
  | .ok _ => False
  | .error e => CX outer H s E e s'
structure FnOk (P : Program) (w : World) (K : PySem.W.Frag) (mg : Str → Option Value) (base : Heap) (CX : CXT) (k : Nat) (f : Addr) (fd : FuncData) (ps : List Str) (sp : Sp) : Prop where
  len : ∀ vs H Q E, sp vs H Q E → vs.length = ps.length
  run : ∀ (A : Around) (outer : List Env) (s : Shared) (H : Hp) (args : Args) (us : List Value) (vs : List V) (Q : VK) (E : XK), Room k A → Env0 P w K mg base A outer s H → BindsTo s fd args (ps.zip us) → Vals vs us → sp vs H Q E →
    codeAny (model P w) A (.call (.ref f) args) (CR CX outer P w H s Q E) s
theorem FnOk.mono {P : Program} {w : World} {K : PySem.W.Frag} {mg : Str → Option Value} {base : Heap} {CX : CXT} {j k : Nat} {f : Addr} {fd : FuncData} {ps : List Str} {sp : Sp} (F : FnOk P w K mg base CX j f fd ps sp) (h : j ≤ k) :
    FnOk P w K mg base CX k f fd ps sp := ⟨F.len, fun A outer s H args us vs Q E hr => F.run A outer s H args us vs Q E (hr.mono h)⟩
theorem FnOk.imp {P : Program} {w : World} {K : PySem.W.Frag} {mg : Str → Option Value} {base : Heap} {CX : CXT} {k : Nat} {f : Addr} {fd : FuncData} {ps : List Str} {sp sp' : Sp} (F : FnOk P w K mg base CX k f fd ps sp)
    (h : ∀ vs H Q E, sp' vs H Q E → sp vs H Q E) : FnOk P w K mg base CX k f fd ps sp' :=
  ⟨fun vs H Q E q => F.len vs H Q E (h _ _ _ _ q), fun A outer s H args us vs Q E hr he hb hv hs => F.run A outer s H args us vs Q E hr he hb hv (h _ _ _ _ hs)⟩
theorem Env0.in1 {P : Program} {w : World} {K : PySem.W.Frag} {mg : Str → Option Value} {base : Heap} {A : Around} {outer : List Env} {s : Shared} {H : Hp} (e : Env0 P w K mg base A outer s H) :
    Env0 P w K mg base A.in1 outer s H := ⟨e.frames, e.mod, e.bs, e.bsz, e.funs, e.frf, e.hok, e.bare⟩
section
variable {X : Cx} {pins : List (Addr × Obj)} {σ : St} {H : Hp} {s s' : Shared}
theorem Inv.env0 (I : Inv X pins σ H s) : Env0 X.prog X.w X.K X.mg X.base X.A X.stack s H :=
  ⟨I.ok.frames, I.ok.mod, I.bs, Nat.le_trans I.ok.bsz I.sz, I.stack, I.stkFree, I.hok, I.bare⟩
theorem Inv.after {Q : VK} {u : Value} (I : Inv X pins σ H s) (h : CE X.stack X.prog X.w H s Q u s') : EP X pins σ Q u s' := by
  obtain ⟨v, H', os, bare, un, hok, r, q⟩ := h
  obtain ⟨hh, g, d, t, os'⟩ := s'
  obtain rfl : os' = s.os := os
  exact ⟨v, H', I.call (h' := hh) (g' := g) (d' := d) (t' := t) (ch := []) un hok bare (fun b z => absurd z (by simp)), r, q⟩
end
def tCall (sp : Sp) (dvs : List V) (E : XK) (t : TA) : TE := fun σ H Q => t σ H fun vs H1 => sp (vs ++ dvs) H1 Q E
def Binds (K : PySem.W.Frag) (fd : FuncData) (ps : List Str) (ds : List Value) : Prop :=
  ∀ (s : Shared) (us : List Value), K.In s.heap → (us ++ ds).length = ps.length → BindsTo s fd ⟨us, []⟩ (ps.zip (us ++ ds))
theorem Binds.all {K : PySem.W.Frag} {fd : FuncData} {ps : List Str} (h : ∀ us : List Value, us.length = ps.length → bindArgs fd ⟨us, []⟩ = pure (ps.zip us)) : Binds K fd ps [] := fun s us _ hl => by
  rw [List.append_nil] at hl ⊢
  exact .of_eq (h us hl)
def Passes (CX : CXT) (X : Cx) (E : XK) : Prop := ∀ (pins : List (Addr × Obj)) (σ : St) (H : Hp) (s : Shared) (e : Value) (s' : Shared), Inv X pins σ H s → CX X.stack H s E e s' → X.xe e s'
section
variable {X : Cx} {CX : CXT} {k : Nat} {f C : Addr} {fd : FuncData} {ps : List Str} {sp : Sp} {dvs : List V} {ds : List Value} {E : XK} {x m : Str} {p pos apos : Pos} {e o : Expr} {es : List Expr} {ta : TE} {t : TA}
theorem run_fn {pins : List (Addr × Obj)} {σ : St} {H : Hp} {s : Shared} {Q : VK} {us : List Value} {vs : List V} (F : FnOk X.prog X.w X.K X.mg X.base CX k f fd ps sp) (hr : Room k X.A) (hb : Binds X.K fd ps ds) (hd : Vals dvs ds) (hx : Passes CX X E)
    (I : Inv X pins σ H s) (r : Vals vs us) (h : sp (vs ++ dvs) H Q E) : wpAny (model X.prog X.w) X.A (call (.ref f) us) (EP X pins σ Q) X.xe s := by
  have r2 : Vals (vs ++ dvs) (us ++ ds) := r.append hd
  have hl : (us ++ ds).length = ps.length := by rw [← r2.length]; exact F.len _ _ _ _ h
  refine wpAny_call (codeAny_mono (F.run X.A X.stack s H ⟨us, []⟩ (us ++ ds) (vs ++ dvs) Q E hr I.env0 (hb s us I.kIn hl) r2 h) fun r s' hq => ?_)
  cases r with
  | error e => exact hx pins σ H s e s' I hq
  | ok fl =>
    cases fl with
    | ret u => exact I.after hq
    | next => exact False.elim hq
    | brk => exact False.elim hq
    | cont => exact False.elim hq
theorem pe_call (F : FnOk X.prog X.w X.K X.mg X.base CX k f fd ps sp) (hr : Room k X.A) (hg : Gl X x) (hm : X.mg x = some (.ref f)) (hk : PySem.W.keepIn X.K (.ref f) = true) (hb : Binds X.K fd ps ds) (hd : Vals dvs ds) (hx : Passes CX X E)
    (ha : PA X (e :: es) t) (hdb : (x == ("__debug__" : Str)) = false := by decide) (he : starEach (e :: es) X.env = (false, eval e X.env) :: starEach es X.env := by rfl) (hpl : (backTo pos (starEach es X.env)).any (·.1) = false := by rfl) :
    PE X (.Call (.Name x p) (e :: es) [] pos) (tCall sp dvs E t) := by
  intro pins s σ H Q I h
  refine wpAny_Call_Name_kw (ld_glob I hg hm ?_ hdb)
  refine PySem.W.callWith_K (h₀ := X.base) I.ok.mod.kin hk (thn (ha pos pins s σ H _ I h) fun us s1 ⟨vs, H1, I1, r, q⟩ => ⟨I1.kIn, ?_⟩) he hpl
  exact run_fn F hr hb hd hx I1 r q
structure Mk (K : PySem.W.Frag) (C f : Addr) : Prop where
  makes : PySem.W.makesIn K C = true
  init : PySem.W.findIn K (.ref C) "__init__" = some (some (.ref f))
  fn : PySem.W.isFn K (.ref f) = true
  kp : PySem.W.keepIn K (.ref C) = true
end
section
variable {X : Cx} {CX : CXT} {k : Nat} {f C : Addr} {fd : FuncData} {ps ks : List Str} {sp : Sp} {E : XK} {x m : Str} {p pos apos kpos : Pos} {e o : Expr} {es : List Expr} {kws : List Keyword} {te ta : TE} {t tk : TA} {nm : Option Str}
structure KBinds (K : PySem.W.Frag) (fd : FuncData) (ps ks : List Str) (g : List Value → List Value → List Value) (gV : List V → List V → List V) : Prop where
  to : ∀ (s : Shared) (us ws : List Value), K.In s.heap → (g us ws).length = ps.length → BindsTo s fd ⟨us, ks.zip ws⟩ (ps.zip (g us ws))
  rel : ∀ {vs : List V} {us : List Value} {zs : List V} {ws : List Value}, Vals vs us → Vals zs ws → Vals (gV vs zs) (g us ws)
variable {g : List Value → List Value → List Value} {gV : List V → List V → List V}
end
structure FnScope (N P : List Str) (sc : Scope) : Prop where
  kind : sc.kind = .function
  co : sc.isCoroutine = false
  gen : sc.isGenerator = false
  nd : N.Nodup
  pre : N.take P.length = P
  par : ∀ x ∈ P, sc.names.lookup x = some .local ∨ sc.names.lookup x = some .cell
  nofree : ∀ y ∈ sc.names, y.2 ≠ .free
theorem bindL_out {kindOf : Str → Option NameKind} {x : Str} : ∀ {binds : List (Str × Value)} {m : Str → Option Value}, (∀ v, (x, v) ∉ binds) → bindL kindOf binds m x = m x
  | [], _, _ => rfl
  | (n, v) :: r, m, h => by
    unfold bindL
    rw [bindL_out fun w hw => h w (List.mem_cons_of_mem _ hw)]
    split
    · have : x ≠ n := by rintro rfl; exact h v List.mem_cons_self
      simp [this]
    · rfl
theorem bindC_out {kindOf : Str → Option NameKind} {x : Str} : ∀ {binds : List (Str × Value)} {m : Str → Option Value}, (∀ v, (x, v) ∉ binds) → bindC kindOf binds m x = m x
  | [], _, _ => rfl
  | (n, v) :: r, m, h => by
    unfold bindC
    rw [bindC_out fun w hw => h w (List.mem_cons_of_mem _ hw)]
    split
    · rfl
    · have : x ≠ n := by rintro rfl; exact h v List.mem_cons_self
      simp [this]
theorem bindL_get {kindOf : Str → Option NameKind} {x : Str} {v : Value} : ∀ {P : List Str} {vs : List Value} {i : Nat} {m : Str → Option Value}, P.Nodup → P[i]? = some x → vs[i]? = some v → kindOf x = some .local →
    bindL kindOf (P.zip vs) m x = some v
  | [], _, _, _, _, h, _, _ => by simp at h
  | _ :: _, [], _, _, _, _, h, _ => by simp at h
  | p :: P, w :: vs, 0, m, nd, h1, h2, hk => by
    simp at h1 h2; subst h1; subst h2
    show bindL kindOf ((p, w) :: P.zip vs) m p = _
    unfold bindL
    rw [bindL_out fun v hv => (List.nodup_cons.mp nd).1 (List.of_mem_zip hv).1, if_pos hk]
    simp
  | p :: P, w :: vs, i + 1, m, nd, h1, h2, hk => by
    show bindL kindOf ((p, w) :: P.zip vs) m x = _
    unfold bindL
    exact bindL_get (i := i) (List.nodup_cons.mp nd).2 (by simpa using h1) (by simpa using h2) hk
theorem bindC_get {kindOf : Str → Option NameKind} {x : Str} {v : Value} : ∀ {P : List Str} {vs : List Value} {i : Nat} {m : Str → Option Value}, P.Nodup → P[i]? = some x → vs[i]? = some v → kindOf x ≠ some .local →
    bindC kindOf (P.zip vs) m x = some v
  | [], _, _, _, _, h, _, _ => by simp at h
  | _ :: _, [], _, _, _, _, h, _ => by simp at h
  | p :: P, w :: vs, 0, m, nd, h1, h2, hk => by
    simp at h1 h2; subst h1; subst h2
    show bindC kindOf ((p, w) :: P.zip vs) m p = _
    unfold bindC
    rw [bindC_out fun v hv => (List.nodup_cons.mp nd).1 (List.of_mem_zip hv).1, if_neg hk]
    simp
  | p :: P, w :: vs, i + 1, m, nd, h1, h2, hk => by
    show bindC kindOf ((p, w) :: P.zip vs) m x = _
    unfold bindC
    exact bindC_get (i := i) (List.nodup_cons.mp nd).2 (by simpa using h1) (by simpa using h2) hk
def start (N : List Str) (vs : List V) : St := vs.map some ++ List.replicate (N.length - vs.length) none
def cxOf (CX : CXT) (P : Program) (w : World) (K : PySem.W.Frag) (mg : Str → Option Value) (base : Heap) (N : List Str) (qual : Str) (scope : Scope) (f : Addr) (cd : Value) (A : Around) (outer : List Env) (s : Shared) (H : Hp) (E : XK) : Cx where
  prog := P
  w := w
  K := K
  mg := mg
  base := base
  A := A.deeper (envOfC qual scope s.heap.objs.size f cd)
  N := N
  s₀ := s
  H₀ := H
  env := envOfC qual scope s.heap.objs.size f cd
  outer := outer
  stack := envOfC qual scope s.heap.objs.size f cd :: outer
  ex := []
  calm := true
  fn := fun _ => true
  pn := []
  xe := fun e s' => wpAny (model P w) (A.deeper (envOfC qual scope s.heap.objs.size f cd)) (leaving (envOfC qual scope s.heap.objs.size f cd) e) (fun _ s'' => CX outer H s E e s'') (fun e' s'' => CX outer H s E e' s'') s'
theorem cell_has {sc : Scope} {n : Nat} {x : Str} (h : sc.names.lookup x = some .cell) : ∃ c, (cellsFrom n sc.names []).lookup x = some c := by
  have q := PySem.W.cellsFrom_some sc.names n [] (.inl h)
  exact Option.isSome_iff_exists.mp q
theorem inv_start {CX : CXT} {P : Program} {w : World} {K : PySem.W.Frag} {mg : Str → Option Value} {base : Heap} {N ps : List Str} {qual : Str} {scope : Scope} {f : Addr} {cd : Value} {A : Around} {outer : List Env} {s s1 : Shared} {H : Hp} {E : XK} {us : List Value} {vs : List V}
    (S : FnScope N ps scope) (hd : A.handled = none) (e0 : Env0 P w K mg base A outer s H) (hl : vs.length = ps.length) (r : Vals vs us)
    (x : InCallC s s.heap.objs.size (bindL (envOfC qual scope s.heap.objs.size f cd).kindOf (ps.zip us) fun _ => none) (cellsFrom (s.heap.objs.size + 1) scope.names []) (bindC (envOfC qual scope s.heap.objs.size f cd).kindOf (ps.zip us) fun _ => none) s1) :
    Inv (cxOf CX P w K mg base N qual scope f cd A outer s H E) [] (start N vs) H s1 := by
  have hpl : ps.length ≤ N.length := by have := congrArg List.length S.pre; rw [List.length_take] at this; omega
  obtain ⟨h1, tk, rfl, hk⟩ := x.done
  have noA : ∀ b : Addr, b ∉ (cxOf CX P w K mg base N qual scope f cd A outer s H E).ex := fun b z => absurd (show b ∈ ([] : List Addr) from z) (by simp)
  refine ⟨⟨e0.mod, S.kind, rfl, rfl, Nat.le_refl _, fun y z c h1 h2 => ?_, fun y hy => ?_, fun y c _ h => ?_, fun _ => hd, Around.frames_deeper e0.frames, .inr ⟨rfl, rfl⟩, fun b z => absurd z (noA b), e0.bs, e0.bsz, fun b _ _ => noA b, fun b z => absurd z (noA b), e0.funs, e0.frf⟩,
    rfl, e0.bare, Un.kept hk, ⟨_, x.toInCall.ns, fun i y v h1 h2 h3 => ?_⟩, fun y c h => ⟨_, x.cell y c h⟩, e0.hok.fresh (Nat.le_refl _), fun y c h => ?_, fun p hp => absurd (show p ∈ ([] : List (Addr × Obj)) from hp) (by simp), e0.hok.kept hk, ?_⟩
  · exact name_of_addr x.apart (PySem.mem_of_lookup h1) (PySem.mem_of_lookup h2)
  · have hy : scope.names.lookup y = some .cell ∨ scope.names.lookup y = some .free := hy
    rcases hy with hy | hy
    · exact cell_has hy
    · exact absurd rfl (S.nofree _ (PySem.mem_of_lookup hy))
  · exact Nat.le_of_lt (x.above y c (PySem.mem_of_lookup h))
  · have hi : i < vs.length := by
      unfold start at h2
      by_cases hi : i < vs.length
      · exact hi
      · rw [List.getElem?_append_right (by simpa using hi)] at h2
        rw [List.getElem?_replicate] at h2
        split at h2 <;> cases h2
    have ha : vs[i]? = some v := by
      unfold start at h2
      rw [List.getElem?_append_left (by simpa using hi), List.getElem?_map] at h2
      cases e : vs[i]? with
      | none => rw [e] at h2; cases h2
      | some a => rw [e] at h2; cases h2; rfl
    obtain ⟨u, hu, rv⟩ := r.get ha
    have hp : ps[i]? = some y := by
      rw [← S.pre, List.getElem?_take_of_lt (by omega)]; exact h1
    have ndP : ps.Nodup := by rw [← S.pre]; exact S.nd.sublist (List.take_sublist _ _)
    refine ⟨u, rv, ?_⟩
    rcases S.par y (List.mem_of_getElem? hp) with k | k
    · exact .inl ⟨k, bindL_get ndP hp hu k⟩
    · obtain ⟨c, e⟩ := cell_has (n := s.heap.objs.size + 1) k
      refine .inr ⟨.inl k, c, e, ?_⟩
      have q := x.cell y c e
      rw [bindC_get ndP hp hu (by show scope.names.lookup y ≠ _; rw [k]; decide)] at q
      exact q
  · exact e0.hok.fresh (Nat.le_of_lt (x.above y c (PySem.mem_of_lookup h)))
  · unfold start
    show _ = N.length
    rw [List.length_append, List.length_map, List.length_replicate]
    omega
theorem fn_of {CX : CXT} {P : Program} {w : World} {K : PySem.W.Frag} {mg : Str → Option Value} {base : Heap} {k : Nat} {f : Addr} {name qual : Str} {params : Arguments} {body : List Stmt} {scope : Scope} {dV kV doc pm cdv ct oc : Value} {an od : Option Addr}
    {osl : Array (Option Value)} {N ps : List Str} {sp : Sp} (lk : K.lookup f = some ⟨oc, od, .func (PySem.W.fnOf name qual params body scope dV kV doc pm an cdv ct), osl⟩) (hcd : PySem.W.codeIn K cdv qual = true) (S : FnScope N ps scope)
    (len : ∀ vs H Q E, sp vs H Q E → vs.length = ps.length)
    (hbody : ∀ (A : Around) (outer : List Env) (s : Shared) (H : Hp) (vs : List V) (Q : VK) (E : XK), Room k (A.deeper (envOfC qual scope s.heap.objs.size f cdv)) → sp vs H Q E →
      ∃ t, PSs (cxOf CX P w K mg base N qual scope f cdv A outer s H E) body t ∧ t { nx := fun _ H' => Q .non H', rt := Q } (start N vs) H) :
    FnOk P w K mg base CX (k + 1) f (PySem.W.fnOf name qual params body scope dV kV doc pm an cdv ct) ps sp := by
  refine ⟨len, fun A outer s H args us vs Q E hr e0 hb r hsp => ?_⟩
  have hl := len _ _ _ _ hsp
  have KX : K.In s.heap := e0.mod.kin.keeps fun b o e => (e0.bs b o e).1
  have lim : s.heap.NoLimit := e0.mod.nolimit.keeps fun b o e => (e0.bs b o e).1
  have hkind : ∀ y ∈ ps.zip us, scope.names.lookup y.1 = some .local ∨ (scope.names.lookup y.1 = some .cell ∧ ((cellsFrom (s.heap.objs.size + 1) scope.names []).lookup y.1).isSome = true) := fun ⟨n, v⟩ hy => by
    rcases S.par n (List.of_mem_zip hy).1 with q | q
    · exact .inl q
    · exact .inr ⟨q, PySem.W.cellsFrom_some _ _ _ (.inl q)⟩
  refine codeAny_call_function hr.depth (KX _ _ lk) rfl S.co S.gen rfl (PySem.W.codeRec_of KX hcd) (hb _ _ _ _ ?_)
  refine wpAny_newFunctionEnv_cells S.kind hkind fun env he s1 x => ?_
  subst he
  refine ⟨lim.keeps x.toInCall.keep, codeAny_func ?_⟩
  obtain ⟨t, ht, hq⟩ := hbody A outer s H vs Q E (hr.deeper _) hsp
  have I : Inv (cxOf CX P w K mg base N qual scope f cdv A outer s H E) [] (start N vs) H s1 := inv_start S hr.hd e0 hl r x
  refine wpAny_mono (ht [] s1 (start N vs) H _ I hq) (fun fl s' hs => ?_) fun e s' hs => hs
  have fin : ∀ {σ' : St} {H' : Hp} {v : V} {u : Value}, Inv (cxOf CX P w K mg base N qual scope f cdv A outer s H E) [] σ' H' s' → RelV v u → Q v H' → CE outer P w H s Q u s' :=
    fun {σ' H' v u} J rv q => ⟨v, H', J.os, J.bare, J.base, J.hok, rv, q⟩
  cases fl with
  | ret u =>
    obtain ⟨v, σ', H', J, rv, q⟩ := hs
    exact fin J rv q
  | next =>
    obtain ⟨σ', H', J, q⟩ := hs
    exact fin (v := V.non) (u := Value.none) J rfl q
  | brk =>
    obtain ⟨_, _, _, q⟩ := hs
    exact False.elim q
  | cont =>
    obtain ⟨_, _, _, q⟩ := hs
    exact False.elim q
end L2
namespace L2
open PySem PySem.Spec PyProof.Rows
section
variable {X : Cx} {x : Str} {p pos : Pos} {e : Expr} {es : List Expr} {t : TA} {id T : String} {r : List V → Hp → VK → Prop}
def tCB (r : List V → Hp → VK → Prop) (t : TA) : TE := fun σ H Q => t σ H fun vs H1 => r vs H1 Q
theorem pe_callB (hc : CallR X (.builtin id) r) (hg : Gl X x) (hm : X.mg x = none) (hv : bootBuiltins x = some (.builtin id)) (ha : PA X (e :: es) t) (hn : x ≠ "__name__" := by decide) (hdb : (x == ("__debug__" : Str)) = false := by decide)
    (he : starEach (e :: es) X.env = (false, eval e X.env) :: starEach es X.env := by rfl) (hpl : (backTo pos (starEach es X.env)).any (·.1) = false := by rfl) : PE X (.Call (.Name x p) (e :: es) [] pos) (tCB r t) := by
  intro pins s σ H Q I h
  refine wpAny_Call_Name_kw (ld_blt I hg hm hv ?_ hn hdb)
  exact PyProof.Rows.callWith_builtin1 (thn (ha pos pins s σ H _ I h) fun us s1 ⟨vs, H1, I1, r1, q1⟩ => hc pins s1 σ H1 vs us Q I1 r1 q1) he hpl
theorem pe_callTy (hc : CallR X (.type T) r) (hg : Gl X x) (hm : X.mg x = none) (hv : bootBuiltins x = some (.type T)) (ha : PA X (e :: es) t) (hn : x ≠ "__name__" := by decide) (hdb : (x == ("__debug__" : Str)) = false := by decide)
    (he : starEach (e :: es) X.env = (false, eval e X.env) :: starEach es X.env := by rfl) (hpl : (backTo pos (starEach es X.env)).any (·.1) = false := by rfl) : PE X (.Call (.Name x p) (e :: es) [] pos) (tCB r t) := by
  intro pins s σ H Q I h
  refine wpAny_Call_Name_kw (ld_blt I hg hm hv ?_ hn hdb)
  exact PyProof.Rows.callWith_type1 (thn (ha pos pins s σ H _ I h) fun us s1 ⟨vs, H1, I1, r1, q1⟩ => hc pins s1 σ H1 vs us Q I1 r1 q1) he hpl
end
end L2
namespace HT
open PySem PyProof.Rows
section
open PySem.SeqAt
open PySem.AutoSeq1 (wpAny_loadPart')
open PySem.MeetsSeq PySem.MeetsSeq2 PySem.MeetsSeq3
end
section
variable {prog : Program} {w : World} {A : Around} {E : Value → Shared → Prop} {s : Shared}
theorem cat_tup {t b : Addr} {vs ws : List Value} {Q : Value → Shared → Prop} (ht : IsTup s.heap t vs.toArray) (hb : IsTup s.heap b ws.toArray) (hv : vs ≠ [])
    (h1 : ws = [] → Q (.ref t) s) (h2 : ws ≠ [] → Q (.ref s.heap.objs.size) { s with heap := s.heap.push { cls := .type "tuple", data := .seq (vs ++ ws).toArray } })
    (hsz : vs.length + ws.length ≤ sizeLine) : wpAny (model prog w) A (binaryOp .Add (.ref t) (.ref b)) Q E s := by
  obtain ⟨⟨cls, dd, data, sl⟩, ho, hc, n, hd⟩ := id ht
  obtain ⟨⟨cls2, dd2, data2, sl2⟩, ho2, hc2, n2, hd2⟩ := id hb
  simp only at hc hd hc2 hd2
  subst hc hd hc2 hd2
  have e : vs.toArray ++ ws.toArray = (vs ++ ws).toArray := by simp
  by_cases hw : ws = []
  · exact concat_meets ⟨_, ho, rfl⟩ ⟨_, ho2, rfl⟩ noFill_tuple_add seq_tuple_add PySem.F.slot_tuple_add PySem.F.entry_tuple_add (PySem.F.args_tuple_add_2 _ _)
      (tuple_addW1 t b vs.toArray ws.toArray n n2 dd dd2 sl sl2 (by simpa using hv) (by simp [hw])) ⟨ho, ho2, h1 hw⟩
  · refine concat_meets ⟨_, ho, rfl⟩ ⟨_, ho2, rfl⟩ noFill_tuple_add seq_tuple_add PySem.F.slot_tuple_add PySem.F.entry_tuple_add (PySem.F.args_tuple_add_2 _ _)
      (tuple_addW2 t b vs.toArray ws.toArray n n2 dd dd2 sl sl2 (by simpa using hv) (by simpa using hw) (by rw [List.size_toArray, List.size_toArray]; exact hsz)) ⟨ho, ho2, ?_⟩
    rw [e]
    exact h2 hw
def sIx (n d : Nat) : Option Int → Nat
  | none => d
  | some v => if v < 0 then (v + (n : Int)).toNat else min v.toNat n
theorem sIx_le (n d : Nat) (hd : d ≤ n) (o : Option Int) : sIx n d o ≤ n := by
  cases o with
  | none => exact hd
  | some v =>
    show (if v < 0 then (v + (n : Int)).toNat else min v.toNat n) ≤ n
    by_cases hv : v < 0
    · rw [if_pos hv]; omega
    · rw [if_neg hv]; exact Nat.min_le_right _ _
theorem clip_eq (v : Int) (n d : Nat) : (if v < 0 then max (v + (n : Int)) 0 else min v (n : Int)) = ((sIx n d (some v) : Nat) : Int) := by
  show (if v < 0 then max (v + (n : Int)) 0 else min v (n : Int)) = (((if v < 0 then (v + (n : Int)).toNat else min v.toNat n) : Nat) : Int)
  by_cases hv : v < 0
  · simp only [if_pos hv]; omega
  · simp only [if_neg hv]; omega
theorem adjust_gen (lo hi : Option Int) (n : Nat) : Builtin.Slice.sliceAdjust lo hi 1 (n : Int) = (((sIx n 0 lo : Nat) : Int), ((sIx n n hi : Nat) : Int)) := by
  have h1 : ¬ ((1 : Int) < 0) := by omega
  unfold Builtin.Slice.sliceAdjust
  simp only [h1, if_false]
  refine Prod.ext ?_ ?_
  · cases lo with
    | none => rfl
    | some v => exact clip_eq v n 0
  · cases hi with
    | none => rfl
    | some v => exact clip_eq v n n
theorem places_gen (i j : Nat) : Builtin.Slice.slicePlaces (i : Int) (j : Int) 1 = j - i := by
  unfold Builtin.Slice.slicePlaces
  have h1 : (1 : Int) > 0 := by omega
  simp only [h1, if_true, Int.ediv_one]
  split <;> omega
theorem slicePart_ {v : Value} {o : Option Int} {Q : Option Int → Shared → Prop} (p : IsPart v o) (h : Q o s) : wpAny (model prog w) A (Builtin.Slice.slicePartIndex v) Q E s := by
  cases p with
  | none => exact slicePart_none h
  | int i t => exact slicePart_int h
theorem sliceApplied_gen {sl : Addr} {vl vu : Value} {lo hi : Option Int} {n : Nat} {Q : Int × Int × Nat → Shared → Prop} (hs : s.heap.IsSliceOf sl vl vu .none) (pl : IsPart vl lo) (pu : IsPart vu hi)
    (h : Q (((sIx n 0 lo : Nat) : Int), 1, sIx n n hi - sIx n 0 lo) s) : wpAny (model prog w) A (Builtin.Slice.sliceApplied (.ref sl) (pure (n : Int))) Q E s := by
  obtain ⟨os, hos, hcs, hds⟩ := id hs
  unfold Builtin.Slice.sliceApplied Builtin.Slice.sliceFields
  refine wpAny_bind (wpAny_bind (wpAny_field hos hds (x := vl) rfl (wpAny_bind (wpAny_field hos hds (x := vu) rfl (wpAny_bind (wpAny_field hos hds (x := .none) rfl (wpAny_pure ?_)))))))
  refine wpAny_bind (slicePart_none ?_)
  show wpAny _ _ (if ((1 : Int) == 0) = true then _ else _) _ _ s
  rw [if_neg (by decide)]
  refine wpAny_bind (slicePart_ pl (wpAny_bind (slicePart_ pu (wpAny_bind (wpAny_pure ?_)))))
  show wpAny _ _ (match Builtin.Slice.sliceAdjust lo hi 1 (n : Int) with | (lo, hi) => pure (lo, (1 : Int), Builtin.Slice.slicePlaces lo hi 1)) _ _ s
  rw [adjust_gen lo hi n]
  show wpAny _ _ (pure (((sIx n 0 lo : Nat) : Int), (1 : Int), Builtin.Slice.slicePlaces ((sIx n 0 lo : Nat) : Int) ((sIx n n hi : Nat) : Int) 1)) _ _ s
  rw [places_gen]
  exact wpAny_pure h
theorem pick_gen (xs : Array Value) (i k : Nat) : ((List.range k).filterMap fun (m : Nat) => xs[((i : Int) + (m : Int) * 1).toNat]?).toArray = ((xs.toList.drop i).take k).toArray := by
  have e : (fun (m : Nat) => xs[((i : Int) + (m : Int) * 1).toNat]?) = fun m => xs[i + m]? := by
    funext m
    have : ((i : Int) + (m : Int) * 1).toNat = i + m := by omega
    rw [this]
  rw [e]
  have := pick_run xs i k
  rw [List.filterMap_map] at this
  have e2 : ((fun x => xs[x]?) ∘ fun x => i + x) = fun m => xs[i + m]? := rfl
  rw [e2] at this
  rw [this]
theorem getItem_tuple_cut {t sl : Addr} {items : Array Value} {vl vu : Value} {lo hi : Option Int} {Q : Value → Shared → Prop} (ht : IsTup s.heap t items) (hs : s.heap.IsSliceOf sl vl vu .none) (pl : IsPart vl lo) (pu : IsPart vu hi)
    (hw : ¬ (sIx items.size 0 lo = 0 ∧ sIx items.size items.size hi = items.size))
    (h : Q (.ref s.heap.objs.size) { s with heap := s.heap.push { cls := .type "tuple", data := .seq ((items.toList.drop (sIx items.size 0 lo)).take (sIx items.size items.size hi - sIx items.size 0 lo)).toArray } })
    (hsz : items.size ≤ sizeLine) : wpAny (model prog w) A (getItem (.ref t) (.ref sl)) Q E s := by
  have htake : sizeOk (.seq ((items.toList.drop (sIx items.size 0 lo)).take (sIx items.size items.size hi - sIx items.size 0 lo)).toArray) := by
    show ((items.toList.drop (sIx items.size 0 lo)).take (sIx items.size items.size hi - sIx items.size 0 lo)).toArray.size ≤ sizeLine
    rw [List.size_toArray, List.length_take, List.length_drop, Array.length_toList]
    omega
  have hj : sIx items.size items.size hi ≤ items.size := sIx_le _ _ (Nat.le_refl _) hi
  obtain ⟨os, hos, hcs, hds⟩ := id hs
  have hTs : s.TypeIs (.ref sl) "slice" := ⟨os, hos, hcs⟩
  unfold getItem
  try with_reducible refine wpAny_holding ?_
  first | refine wpAny_bind (wpAny_pure ?_) | skip
  refine wpAny_bind (wpAny_sequenceKey ht.typeIs (by decide) ?_)
  refine wpAny_bind (wpAny_callSpecial?_slot (name := Str.ofString "__getitem__") ht.typeIs PyProof.Rows.slot_tuple_getitem
    (wpAny_call_entry PyProof.Rows.slot_tuple_getitem ht.typeIs entry_tuple_getitem ?_ (args_tuple_getitem _ _)))
  show wpAny _ _ (Builtin.Tuple.tupleItemsOf (.ref t) >>= _) _ _ s
  refine wpAny_bind (tupleItemsOf_ ht ?_)
  refine wpAny_bind (wpAny_typeOf hTs ?_)
  rw [if_pos (by decide)]
  refine wpAny_bind (sliceApplied_gen hs pl pu ?_)
  have hno : ¬ ((((sIx items.size 0 lo : Nat) : Int) == 0 && (1 : Int) == 1 && (sIx items.size items.size hi - sIx items.size 0 lo) == items.size) = true) := by
    intro q
    rw [Bool.and_eq_true, Bool.and_eq_true] at q
    have q1 : ((sIx items.size 0 lo : Nat) : Int) = 0 := eq_of_beq q.1.1
    have q2 : sIx items.size items.size hi - sIx items.size 0 lo = items.size := eq_of_beq q.2
    exact hw ⟨by omega, by omega⟩
  show wpAny _ _ (if (((sIx items.size 0 lo : Nat) : Int) == 0 && (1 : Int) == 1 && (sIx items.size items.size hi - sIx items.size 0 lo) == items.size) = true then _ else _) _ _ s
  rw [if_neg hno, pick_gen]
  first
    | exact wpAny_bind (m := Builtin.Tuple.tupleExact _) (wpAny_newObj_type (wpAny_pure ⟨_, rfl, wpAny_pure h⟩) htake)
    | exact wpAny_bind (m := Builtin.Tuple.tupleExact _) (wpAny_newObj_type (wpAny_bind (wpAny_pure (wpAny_pure ⟨_, rfl, wpAny_pure h⟩))) htake)
    | exact wpAny_bind (wpAny_bind (m := Builtin.Tuple.tupleExact _) (wpAny_newObj_type (wpAny_pure (wpAny_pure ⟨_, rfl, wpAny_pure h⟩)) htake))
    | exact wpAny_bind (wpAny_bind (m := Builtin.Tuple.tupleExact _) (wpAny_newObj_type (wpAny_pure ⟨_, rfl, wpAny_pure h⟩) htake))
end
end HT
namespace L2
open PySem PySem.Spec PyProof.Rows
abbrev TO := St → Hp → (Option Int → Hp → Prop) → Prop
def PO (X : Cx) (e : Option Expr) (t : TO) : Prop :=
  ∀ (pins : List (Addr × Obj)) (s : Shared) (σ : St) (H : Hp) (Q : Option Int → Hp → Prop), Inv X pins σ H s → t σ H Q →
    wpAny (model X.prog X.w) X.A (evalPart e X.env) (fun u s' => ∃ o H', Inv X pins σ H' s' ∧ IsPart u o ∧ Q o H') X.xe s
def tNoPart : TO := fun _ H Q => Q none H
def tPart (t : TE) : TO := fun σ H Q => t σ H fun x H1 => ∃ i, x = .int i ∧ Q (some i) H1
theorem intsAre_of {ns : List Int} : ∀ {us : List Value}, Vals (ns.map V.int) us → IntsAre us ns := by
  induction ns with
  | nil => intro us r; rw [List.map_nil] at r; cases r; exact .nil
  | cons n ns ih =>
    intro us r
    rw [List.map_cons] at r
    cases r with
    | cons r1 r2 =>
      obtain ⟨t, e⟩ := r1
      subst e
      exact .cons n t (ih r2)
section
variable {X : Cx} {e : Expr} {te : TE} {lo hi : Option Expr} {tl th : TO} {pos p2 : Pos}
theorem po_none : PO X none tNoPart := by
  intro pins s σ H Q I h
  rw [evalPart_none]
  exact wpAny_pure ⟨none, H, I, .none, h⟩
theorem po_some (h : PE X e te) : PO X (some e) (tPart te) := by
  intro pins s σ H Q I hw
  rw [evalPart_some]
  refine thn (h pins s σ H _ I hw) fun u s1 ⟨x, H1, I1, r1, q1⟩ => ?_
  obtain ⟨i, rfl, q⟩ := q1
  obtain ⟨t, rfl⟩ := r1
  exact ⟨some i, H1, I1, .int i t, q⟩
def SlR (X : Cx) (r : V → Option Int → Option Int → Hp → VK → Prop) : Prop :=
  ∀ (pins : List (Addr × Obj)) (s : Shared) (σ : St) (H : Hp) (x : V) (v vl vu : Value) (lo hi : Option Int) (sl : Addr) (Q : VK), Inv X pins σ H s → RelV x v → s.heap.IsSliceOf sl vl vu .none → IsPart vl lo → IsPart vu hi → r x lo hi H Q →
    ∃ T id, typeLookup (.type T) "__getitem__" = pure (some (.builtin id)) ∧ s.TypeIs v T ∧ wpAny (model X.prog X.w) X.A (getItem v (.ref sl)) (EP X pins σ Q) X.xe s
def tSl (r : V → Option Int → Option Int → Hp → VK → Prop) (te : TE) (tl th : TO) : TE := fun σ H Q => te σ H fun x H1 => tl σ H1 fun l H2 => th σ H2 fun u H3 => r x l u H3 Q
theorem pe_slice {r : V → Option Int → Option Int → Hp → VK → Prop} (hr : SlR X r) (he : PE X e te) (hl : PO X lo tl) (hu : PO X hi th) : PE X (.Subscript e (.Slice lo hi none p2) pos) (tSl r te tl th) := by
  intro pins s σ H Q I h
  refine Subscript_ (thn (he pins s σ H _ I h) fun v s1 ⟨x, H1, I1, r1, q1⟩ => ?_)
  refine wpAny_Slice (thn (hl pins s1 σ H1 _ I1 q1) fun vl s2 ⟨l, H2, I2, pl, q2⟩ => thn (hu pins s2 σ H2 _ I2 q2) fun vu s3 ⟨u, H3, I3, pu, q3⟩ => ?_)
  rw [evalPart_none]
  refine wpAny_pure ?_
  have I4 : Inv X pins σ H3 { s3 with heap := s3.heap.push { cls := .type "slice", data := .fields #[vl, vu, .none] } } := I3.kept (t' := s3.toks) fun b ob q => Heap.get?_push_of_some _ q
  obtain ⟨T, id, hT, ht, hg⟩ := hr pins { s3 with heap := s3.heap.push { cls := .type "slice", data := .fields #[vl, vu, .none] } } σ H3 x v vl vu l u s3.heap.objs.size Q I4 r1 (Heap.IsSliceOf.new ..) pl pu q3
  show wpAny (model X.prog X.w) X.A (subscriptTail e (.Slice lo hi none p2) v (.ref s3.heap.objs.size)) (EP X pins σ Q) X.xe { s3 with heap := s3.heap.push { cls := .type "slice", data := .fields #[vl, vu, .none] } }
  exact tail_any (ops := [.ref s3.heap.objs.size, v]) ht hT hg (by with_unfolding_all rfl)
def cutV (xs : List V) (lo hi : Option Int) : List V := (xs.drop (HT.sIx xs.length 0 lo)).take (HT.sIx xs.length xs.length hi - HT.sIx xs.length 0 lo)
theorem cutV_length (xs : List V) (lo hi : Option Int) : (cutV xs lo hi).length ≤ xs.length := by
  unfold cutV
  rw [List.length_take, List.length_drop]
  omega
def rSlT (K : PySem.W.Frag) : V → Option Int → Option Int → Hp → VK → Prop := fun x lo hi H Q => ∃ a xs, x = .ref a ∧ SqT K H a xs ∧
  ¬ (HT.sIx xs.length 0 lo = 0 ∧ HT.sIx xs.length xs.length hi = xs.length) ∧ ∀ p, H p = none → Q (.ref p) (upd H p (.tup (cutV xs lo hi)))
theorem sl_tup : SlR X (rSlT X.K) := by
  intro pins s σ H x v vl vu lo hi sl Q I rx hs pl pu h
  obtain ⟨a, xs, rfl, hx, hw, q⟩ := h
  cases rx
  obtain ⟨its, r, ht, hz⟩ := I.tuple hx
  have hlen : its.toArray.size = xs.length := by rw [List.size_toArray]; exact r.length.symm
  refine ⟨"tuple", _, PyProof.Rows.slot_tuple_getitem.lookup, ht.typeIs, ?_⟩
  refine HT.getItem_tuple_cut ht hs pl pu (by rw [hlen]; exact hw) ?_ (by rw [hlen]; exact hz)
  rw [hlen]
  refine ⟨.ref s.heap.objs.size, _, I.laid (t' := s.toks) (o := .tup (cutV xs lo hi)) (fun b ob q => Heap.get?_push_of_some _ q) (Nat.le_refl _) ?_, rfl, q _ (I.hok.fresh (Nat.le_refl _))⟩
  exact ⟨Nat.le_trans (cutV_length xs lo hi) hz, _, (r.drop (HT.sIx xs.length 0 lo)).take (HT.sIx xs.length xs.length hi - HT.sIx xs.length 0 lo), IsTup.new _ _⟩
def rCatT (K : PySem.W.Frag) : R2 := fun x y H Q => ∃ a b xs ys, x = .ref a ∧ y = .ref b ∧ SqT K H a xs ∧ SqT K H b ys ∧ xs ≠ [] ∧ xs.length + ys.length ≤ sizeLine ∧
  (ys = [] → Q (.ref a) H) ∧ (ys ≠ [] → ∀ p, H p = none → Q (.ref p) (upd H p (.tup (xs ++ ys))))
theorem Vals.nil_iff {xs : List V} {us : List Value} (r : Vals xs us) : us = [] ↔ xs = [] := by
  cases r with
  | nil => simp
  | cons _ _ => simp
theorem op_catT : OpR X (binaryOp .Add) (rCatT X.K) := by
  intro pins s σ H x y v u Q I rx ry h
  obtain ⟨a, b, xs, ys, rfl, rfl, ha, hb, hx, hz, q1, q2⟩ := h
  cases rx
  cases ry
  obtain ⟨its, r1, p1, _⟩ := I.tuple ha
  obtain ⟨its2, r2, p2, _⟩ := I.tuple hb
  refine HT.cat_tup p1 p2 (fun z => hx (r1.nil_iff.mp z)) (fun z => ⟨.ref a, H, I, rfl, q1 (r2.nil_iff.mp z)⟩) (fun z => ?_) (by rw [← r1.length, ← r2.length]; exact hz)
  refine ⟨.ref s.heap.objs.size, _, I.laid (t' := s.toks) (o := .tup (xs ++ ys)) (fun b ob q => Heap.get?_push_of_some _ q) (Nat.le_refl _) ?_, rfl, q2 (fun w => z (r2.nil_iff.mpr w)) _ (I.hok.fresh (Nat.le_refl _))⟩
  exact ⟨by rw [List.length_append]; exact hz, _, r1.append r2, IsTup.new _ _⟩
end
end L2
namespace L2
open PySem PySem.Spec PyProof.Rows
def ixN (n : Nat) (i : Int) : Option Nat := if 0 ≤ i then (if i < n then some i.toNat else none) else if -(n : Int) ≤ i then some (i + n).toNat else none
def atI {α : Type} (xs : List α) (i : Int) : Option α := (ixN xs.length i).bind fun j => xs[j]?
theorem ixN_seq {n : Nat} {i : Int} {j : Nat} (h : ixN n i = some j) : seqIndex? i n = some j ∧ j < n ∧ -(n : Int) ≤ i ∧ i < n := by
  unfold ixN at h
  by_cases h0 : 0 ≤ i
  · rw [if_pos h0] at h
    by_cases h1 : i < n
    · rw [if_pos h1] at h
      have e : i.toNat = j := Option.some.inj h
      exact ⟨by rw [seqIndex_of h0 h1, e], by omega, by omega, h1⟩
    · rw [if_neg h1] at h; cases h
  · rw [if_neg h0] at h
    by_cases h1 : -(n : Int) ≤ i
    · rw [if_pos h1] at h
      have e : (i + n).toNat = j := Option.some.inj h
      exact ⟨by rw [seqIndex_neg (by omega) h1, e], by omega, h1, by omega⟩
    · rw [if_neg h1] at h; cases h
theorem atI_get {α : Type} {xs : List α} {i : Int} {v : α} (h : atI xs i = some v) : ∃ j, seqIndex? i xs.length = some j ∧ xs[j]? = some v ∧ j < xs.length ∧ -(xs.length : Int) ≤ i ∧ i < xs.length := by
  unfold atI at h
  cases e : ixN xs.length i with
  | none => rw [e] at h; cases h
  | some j =>
    rw [e] at h
    obtain ⟨h1, h2, h3, h4⟩ := ixN_seq e
    exact ⟨j, h1, h, h2, h3, h4⟩
theorem atI_nat {α : Type} {xs : List α} {j : Nat} {v : α} (h : xs[j]? = some v) : atI xs (j : Int) = some v := by
  have hj : j < xs.length := (List.getElem?_eq_some_iff.mp h).1
  have e : ixN xs.length (j : Int) = some j := by
    unfold ixN
    rw [if_pos (by omega), if_pos (by omega)]; simp
  unfold atI; rw [e]; exact h
theorem atI_last {α : Type} (xs : List α) (v : α) : atI (xs ++ [v]) (-1) = some v := by
  have hl : (xs ++ [v]).length = xs.length + 1 := by simp
  have e : ixN (xs ++ [v]).length (-1) = some xs.length := by
    unfold ixN
    rw [hl, if_neg (by decide), if_pos (by omega)]
    congr 1
    omega
  unfold atI
  rw [e]
  show (xs ++ [v])[xs.length]? = some v
  simp
def PlainIx (b : Expr) : Prop := ∀ o i, subscripted b false o i = operate [o, i] (getItem o i)
def IxR (X : Cx) (r : R2) : Prop :=
  ∀ (value slice : Expr) (pins : List (Addr × Obj)) (s : Shared) (σ : St) (H : Hp) (x y : V) (v u : Value) (Q : VK), Inv X pins σ H s → RelV x v → RelV y u → r x y H Q →
    subscripted slice false v u = operate [v, u] (getItem v u) → wpAny (model X.prog X.w) X.A (subscriptTail value slice v u) (EP X pins σ Q) X.xe s
def MtR (X : Cx) (id : String) (r : V → List V → Hp → VK → Prop) : Prop :=
  ∀ (pins : List (Addr × Obj)) (s : Shared) (σ : St) (H : Hp) (x : V) (xs : List V) (v : Value) (us : List Value) (Q : VK), Inv X pins σ H s → RelV x v → Vals xs us → r x xs H Q →
    wpAny (model X.prog X.w) X.A (call (.builtin id) (v :: us)) (EP X pins σ Q) X.xe s
section
variable {X : Cx} {a b : Expr} {ta tb : TE} {pos : Pos}
theorem pe_ix {r : R2} (hr : IxR X r) (ha : PE X a ta) (hb : PE X b tb) (hs : PlainIx b) : PE X (.Subscript a b pos) (tOp r ta tb) := by
  intro pins s σ H Q I h
  exact Subscript_ (binT ha hb I h fun v u s2 x y H2 I2 rx ry q => hr a b pins s2 σ H2 x y v u Q I2 rx ry q (hs _ _))
def rIxL (K : PySem.W.Frag) : R2 := fun x y H Q => ∃ p xs i v, x = .ref p ∧ y = .int i ∧ SqL K H p xs ∧ atI xs i = some v ∧ Q v H
def rIxT (K : PySem.W.Frag) : R2 := fun x y H Q => ∃ p xs i v, x = .ref p ∧ y = .int i ∧ SqT K H p xs ∧ atI xs i = some v ∧ Q v H
theorem ix_list : IxR X (rIxL X.K) := by
  intro value slice pins s σ H x y v u Q I rx ry h hs
  obtain ⟨p, xs, i, z, rfl, rfl, hq, he, q⟩ := h
  cases rx
  obtain ⟨t, rfl⟩ := ry
  obtain ⟨its, r, pl, hz⟩ := I.list hq
  obtain ⟨j, h1, h2, h3, h4, h5⟩ := atI_get he
  obtain ⟨w, ew, rw'⟩ := r.get h2
  have hl := r.length
  have hn := line63
  have fin : EP X pins σ Q w s := ⟨z, H, I, rw', q⟩
  by_cases h0 : 0 ≤ i
  · have hj : i.toNat = j := by
      rw [seqIndex_of h0 h5] at h1
      exact Option.some.inj h1
    exact item_listR pl.isList h0 (by omega) (by rw [hj]; simpa using ew) fin hs
  · have hj : (i + (its.toArray.size : Int)).toNat = j := by
      rw [seqIndex_neg (by omega) h4] at h1
      rw [List.size_toArray, ← hl]
      exact Option.some.inj h1
    exact subscriptTail_builtinR (x := w) pl.isList.typeIs slot_list_getitem.lookup
      (wpAny_getItem_list_neg (Q := fun r s' => r = w ∧ EP X pins σ Q r s') pl.isList (by omega) (by rw [List.size_toArray] <;> omega) (by omega) (by rw [hj]; simpa using ew) ⟨rfl, fin⟩) hs
theorem ix_tup : IxR X (rIxT X.K) := by
  intro value slice pins s σ H x y v u Q I rx ry h hs
  obtain ⟨p, xs, i, z, rfl, rfl, hq, he, q⟩ := h
  cases rx
  obtain ⟨t, rfl⟩ := ry
  obtain ⟨its, r, pl, hz⟩ := I.tuple hq
  obtain ⟨j, h1, h2, h3, h4, h5⟩ := atI_get he
  obtain ⟨w, ew, rw'⟩ := r.get h2
  have hl := r.length
  have hn := line63
  have fin : EP X pins σ Q w s := ⟨z, H, I, rw', q⟩
  exact subscriptTail_builtinR (x := w) pl.typeIs slot_tuple_getitem.lookup
    (getItem_tuple (j := j) (Q := fun r s' => r = w ∧ EP X pins σ Q r s') pl (by omega) (by omega) (by rw [List.size_toArray, ← hl]; exact h1) (by simpa using ew) ⟨rfl, fin⟩) hs
theorem Inv.lst {pins : List (Addr × Obj)} {σ : St} {H : Hp} {s : Shared} {p : Addr} {xs : List V} (I : Inv X pins σ H s) (h : H p = some (.lst xs)) :
    ∃ (its : List Value) (n : Nat), Vals xs its ∧ s.heap.get? p = some { cls := .type "list", data := .seq its.toArray n } ∧ xs.length ≤ sizeLine := by
  obtain ⟨z, its, n, r, e⟩ := I.hok p _ h
  exact ⟨its, n, r, e, z⟩
theorem slice_bounds (lo hi : Option Int) (n : Nat) : (sliceBounds lo hi none n).1 = ((HT.sIx n 0 lo : Nat) : Int) ∧ (sliceBounds lo hi none n).2.1 = ((HT.sIx n n hi : Nat) : Int) ∧ (sliceBounds lo hi none n).2.2 = 1 := by
  refine ⟨?_, ?_, rfl⟩
  · cases lo with
    | none => simp [sliceBounds, HT.sIx]
    | some i =>
      simp only [sliceBounds, HT.sIx, Option.getD_none, show (1 : Int) > 0 by decide, if_true]
      by_cases h : i < 0
      · simp only [h, if_true] <;> omega
      · simp only [h, if_false] <;> omega
  · cases hi with
    | none => simp [sliceBounds, HT.sIx]
    | some i =>
      simp only [sliceBounds, HT.sIx, Option.getD_none, show (1 : Int) > 0 by decide, if_true]
      by_cases h : i < 0
      · simp only [h, if_true] <;> omega
      · simp only [h, if_false] <;> omega
theorem slicePick_cut (its : List Value) (lo hi : Option Int) : slicePick its.toArray lo hi none = ((its.drop (HT.sIx its.length 0 lo)).take (HT.sIx its.length its.length hi - HT.sIx its.length 0 lo)).toArray := by
  obtain ⟨h1, h2, h3⟩ := slice_bounds lo hi its.toArray.size
  unfold slicePick
  rw [h1, h2, h3]
  simp only [sliceRange_one, pick_run, List.size_toArray] <;> rfl
def rSlL (K : PySem.W.Frag) : V → Option Int → Option Int → Hp → VK → Prop := fun x lo hi H Q => ∃ a xs, x = .ref a ∧ SqL K H a xs ∧ ∀ p, H p = none → Q (.ref p) (upd H p (.lst (cutV xs lo hi)))
theorem sl_list : SlR X (rSlL X.K) := by
  intro pins s σ H x v vl vu lo hi sl Q I rx hs pl pu h
  obtain ⟨a, xs, rfl, hx, q⟩ := h
  cases rx
  obtain ⟨its, r, ht, hz⟩ := I.list hx
  have hlen := r.length
  refine ⟨"list", _, slot_list_getitem.lookup, ht.isList.typeIs, ?_⟩
  refine wpAny_getItem_list_slice ht.isList hs pl pu .none (by simp) ?_ (by rw [List.size_toArray] <;> omega)
  rw [slicePick_cut, ← hlen]
  refine ⟨.ref s.heap.objs.size, _, I.laid (t' := s.toks) (o := .lst (cutV xs lo hi)) (fun b ob q => Heap.get?_push_of_some _ q) (Nat.le_refl _) ?_, rfl, q _ (I.hok.fresh (Nat.le_refl _))⟩
  exact ⟨Nat.le_trans (cutV_length xs lo hi) hz, _, 0, (r.drop (HT.sIx xs.length 0 lo)).take (HT.sIx xs.length xs.length hi - HT.sIx xs.length 0 lo), Heap.get?_push_size _ rfl⟩
theorem call_len_seq : CallR X (.builtin "len") (fun xs H Q => ∃ p ys, xs = [.ref p] ∧ (SqL X.K H p ys ∨ SqT X.K H p ys) ∧ Q (.int ys.length) H) := by
  intro pins s σ H xs us Q I r h
  obtain ⟨p, ys, rfl, hq, q⟩ := h
  obtain ⟨u, rfl, rx⟩ := vals1 r
  cases rx
  have hn := line63
  rcases hq with hq | hq
  · obtain ⟨its, r', pl, hz⟩ := I.list hq
    have hlen := r'.length
    exact Calls.call_len_list pl.isList (by simp only [List.size_toArray] <;> omega) ⟨.int ys.length, H, I.tok _, ⟨s.toks + 1, by rw [List.size_toArray, hlen]⟩, q⟩
  · obtain ⟨its, r', pl, hz⟩ := I.tuple hq
    have hlen := r'.length
    exact len_tuple pl (by simp only [List.size_toArray] <;> omega) ⟨.int ys.length, H, I.tok _, ⟨s.toks + 1, by rw [List.size_toArray, hlen]⟩, q⟩
theorem call_list_of : CallR X (.type "list") (fun xs H Q => ∃ p ys, xs = [.ref p] ∧ (SqL X.K H p ys ∨ SqT X.K H p ys) ∧ ∀ l, H l = none → Q (.ref l) (upd H l (.lst ys))) := by
  intro pins s σ H xs us Q I r h
  obtain ⟨p, ys, rfl, hq, q⟩ := h
  obtain ⟨u, rfl, rx⟩ := vals1 r
  cases rx
  have fin : ∀ (its : List Value), Vals ys its → ys.length ≤ sizeLine → ∀ (h' : Heap) (c' : Nat), (∀ b o', s.heap.get? b = some o' → h'.get? b = some o') →
      h'.get? s.heap.objs.size = some { cls := .type "list", dict := none, data := .seq its.toArray c', slots := #[] } → EP X pins σ Q (.ref s.heap.objs.size) { s with heap := h' } := fun its r' hz h' c' kp e =>
    ⟨.ref s.heap.objs.size, _, I.laid (t' := s.toks) kp (Nat.le_refl _) (show ObjOk X.prog X.w _ h' _ (.lst ys) from ⟨hz, its, c', r', e⟩), rfl, q _ (I.hok.fresh (Nat.le_refl _))⟩
  rcases hq with hq | hq
  · obtain ⟨its, r', pl, hz⟩ := I.list hq
    have hlen := r'.length
    obtain ⟨o, ho, hc, n, hd⟩ := pl.isList
    exact call_list_seq p (.inl rfl) ho hc hd (fun h' c' kp e => fin its r' hz h' c' kp e) (by simp only [List.size_toArray] <;> omega)
  · obtain ⟨its, r', pl, hz⟩ := I.tuple hq
    have hlen := r'.length
    obtain ⟨o, ho, hc, n, hd⟩ := pl
    exact call_list_seq p (.inr rfl) ho hc hd (fun h' c' kp e => fin its r' hz h' c' kp e) (by simp only [List.size_toArray] <;> omega)
def tyV (K : PySem.W.Frag) (T : String) (x : V) (H : Hp) : Prop := match x with
  | .str _ => T = "str"
  | .int _ => T = "int"
  | .ref p => (T = "list" ∧ ∃ xs, SqL K H p xs) ∨ (T = "tuple" ∧ ∃ o, K.lookup p = some o ∧ o.cls = .type "tuple" ∧ o.dict = none) ∨
      (T = "dict" ∧ ((∃ kvs, H p = some (.dK kvs)) ∨ ∃ kvs, H p = some (.dT kvs))) ∨ (T = "set" ∧ ∃ S n, H p = some (.set S n))
  | _ => False
theorem tyV_is {pins : List (Addr × Obj)} {σ : St} {H : Hp} {s : Shared} {T : String} {x : V} {v : Value} (I : Inv X pins σ H s) (r : RelV x v) (ty : tyV X.K T x H) :
    s.TypeIs v T ∧ ∀ a, v = .ref a → ∃ ob, s.heap.get? a = some ob ∧ ob.dict = none := by
  cases x with
  | str z =>
    obtain ⟨t, rfl⟩ := r
    cases (show T = "str" from ty)
    exact ⟨typeIs_str s z t, fun _ e => nomatch e⟩
  | int i =>
    obtain ⟨t, rfl⟩ := r
    cases (show T = "int" from ty)
    exact ⟨typeIs_int s i t, fun _ e => nomatch e⟩
  | ref p =>
    cases r
    rcases ty with ⟨rfl, xs, hq⟩ | ⟨rfl, o, hk, hc, hd⟩ | ⟨rfl, hk⟩ | ⟨rfl, S, n, hk⟩
    · obtain ⟨its, _, pl, _⟩ := I.list hq
      refine ⟨pl.isList.typeIs, fun a e => ?_⟩
      cases e
      obtain ⟨o, n, e, c, hd, _⟩ := pl
      exact ⟨o, e, hd⟩
    · refine ⟨⟨o, I.kIn p o hk, hc⟩, fun a e => ?_⟩
      cases e
      exact ⟨o, I.kIn _ o hk, hd⟩
    · have z : ∃ o, s.heap.get? p = some o ∧ o.ExactDict := by
        rcases hk with ⟨kvs, hk⟩ | ⟨kvs, hk⟩
        · obtain ⟨_, _, _, _, o, _, _, e, ex, _⟩ := I.hok p _ hk
          exact ⟨o, e, ex⟩
        · obtain ⟨_, _, _, _, o, _, _, e, ex, _⟩ := I.hok p _ hk
          exact ⟨o, e, ex⟩
      obtain ⟨o, e, ex⟩ := z
      refine ⟨⟨o, e, ex.1⟩, fun a e2 => ?_⟩
      cases e2
      exact ⟨o, e, ex.2.1⟩
    · obtain ⟨o, _, _, _, e, ex, _⟩ := I.hok p _ hk
      refine ⟨⟨o, e, ex.1⟩, fun a e2 => ?_⟩
      cases e2
      exact ⟨o, e, ex.2.1⟩
  | _ => exact False.elim ty
def tBM (K : PySem.W.Frag) (T : String) (r : V → List V → Hp → VK → Prop) (to : TE) (t : TA) : TE := fun σ H Q => to σ H fun x H1 => tyV K T x H1 ∧ t σ H1 fun xs H2 => r x xs H2 Q
variable {o e : Expr} {es : List Expr} {to : TE} {t : TA} {name : Str} {apos cpos : Pos} {T id : String} {r : V → List V → Hp → VK → Prop}
theorem pe_bm (pa : PlainAttrs T) (slot : Slot T name id) (hty : typeOf (.builtin id) = pure (.type "method_descriptor")) (hm : MtR X id r) (ho : PE X o to) (ha : PA X (e :: es) t)
    (hbase : attributeBase o name X.env (eval o X.env) = eval o X.env := by rfl)
    (hfew : ((backTo cpos (starEach (e :: es) X.env)).all (fun x => !x.1) && (backToKw cpos (keywordEach [] X.env)).all (fun x => x.1.isSome)
      && decide ((e :: es).length + ([] : List Keyword).length + (if ([] : List Keyword).isEmpty then 0 else 1) < 30)) = true := by rfl)
    (hline : (apos.endLine == cpos.line) = true := by rfl) (hs : starEach (e :: es) X.env = (false, eval e X.env) :: starEach es X.env := by rfl) (hplain : (backTo cpos (starEach es X.env)).any (·.1) = false := by rfl) :
    PE X (.Call (.Attribute o name apos) (e :: es) [] cpos) (tBM X.K T r to t) := by
  intro pins s σ H Q I h
  refine wpAny_Call_method_late hbase hfew hline rfl (thn (ho pins s σ H _ I h) fun v s1 ⟨x, H1, I1, r1, ty, q1⟩ => ?_)
  obtain ⟨h1, h2⟩ := tyV_is I1 r1 ty
  refine ⟨T, id, pa, slot, hty, h1, h2, ?_⟩
  have hA := ha cpos pins s1 σ H1 _ I1 q1
  rw [hs] at hA ⊢
  refine Calls.callWith_builtin (by show (false || (backTo cpos (starEach es X.env)).any (·.1)) = false; rw [hplain] <;> rfl) (Calls.evalArgs_plain ?_)
  exact thn hA fun us s2 ⟨vs, H2, I2, r2, q2⟩ => hm pins s2 σ H2 x vs v us Q I2 r1 r2 q2
end
end L2
namespace L2
open PySem PySem.Spec PyProof.Rows
def MtM (X : Cx) (id : String) (r : V → List V → Hp → VK → Prop) : Prop :=
  ∀ (pins : List (Addr × Obj)) (s : Shared) (σ : St) (H : Hp) (x : V) (xs : List V) (v : Value) (us : List Value) (Q : VK), Inv X pins σ H s → RelV x v → Vals xs us → r x xs H Q →
    wpAny (model X.prog X.w) X.A (call (.builtin id) (v :: us)) (EP X pins σ Q) X.xe s
theorem Vals.one : ∀ {x : V} {us : List Value}, Vals [x] us → ∃ u, us = [u] ∧ RelV x u
  | _, _, .cons r .nil => ⟨_, rfl, r⟩
theorem Vals.zero : ∀ {us : List Value}, Vals [] us → us = []
  | _, .nil => rfl
theorem Vals.reverse {xs : List V} {us : List Value} (h : Vals xs us) : Vals xs.reverse us.reverse := by
  induction h with
  | nil => exact .nil
  | cons r t ih => rw [List.reverse_cons, List.reverse_cons]; exact Vals.append ih (.cons r .nil)
section
variable {X : Cx} {pins : List (Addr × Obj)} {σ : St} {H : Hp} {s : Shared} {l b : Addr} {xs ys zs : List V}
theorem Inv.lset {its its' : List Value} {n : Nat} {f : Array Value → Array Value} {t' : Nat} (I : Inv X pins σ H s) (hH : H l = some (.lst xs))
    (e : s.heap.get? l = some { cls := .type "list", data := .seq its.toArray n }) (hf : f its.toArray = its'.toArray) (hv : Vals ys its') (hz : ys.length ≤ sizeLine) :
    Inv X pins σ (upd H l (.lst ys)) { s with heap := s.heap.update l (Obj.mapSeq f), toks := t' } := by
  have q := PySem.IsL.update e f
  rw [hf] at q
  refine I.write (x := l) (e := l) (by rw [hH]; exact trivial) (.inl rfl) (fun b' u hb hu => (Heap.get?_update_other s.heap (Obj.mapSeq f) (Ne.symm hb)).trans hu) ⟨_, q⟩ ?_
  exact ⟨hz, its', _, hv, q⟩
theorem Inv.lnew {its : List Value} {t' : Nat} (I : Inv X pins σ H s) (hv : Vals ys its) (hz : ys.length ≤ sizeLine) :
    Inv X pins σ (upd H s.heap.objs.size (.lst ys)) { s with heap := s.heap.push { cls := .type "list", data := .seq its.toArray }, toks := t' } :=
  I.laid (fun _ _ q => Heap.get?_push_of_some _ q) (Nat.le_refl _) ⟨hz, its, 0, hv, Heap.get?_push_size _ rfl⟩
theorem Inv.fresh (I : Inv X pins σ H s) : H s.heap.objs.size = none := I.hok.fresh (Nat.le_refl _)
theorem Inv.lstM (I : Inv X pins σ H s) (hH : H l = some (.lst xs)) : xs.length ≤ sizeLine ∧ ∃ (its : List Value) (n : Nat), Vals xs its ∧ xs.length = its.length ∧ s.heap.get? l = some { cls := .type "list", data := .seq its.toArray n } := by
  obtain ⟨z, its, n, r, e⟩ := I.hok l _ hH
  exact ⟨z, its, n, r, r.length, e⟩
end
section
variable {X : Cx}
def rAppend : V → List V → Hp → VK → Prop := fun x vs H Q => ∃ l xs y, x = .ref l ∧ vs = [y] ∧ H l = some (.lst xs) ∧ xs.length < sizeLine ∧ Q .non (upd H l (.lst (xs ++ [y])))
theorem mt_append : MtM X "list.append" rAppend := by
  intro pins s σ H x vs v us Q I rx rv h
  obtain ⟨l, xs, y, rfl, rfl, hH, hz, q⟩ := h
  cases rx
  obtain ⟨u, rfl, ru⟩ := rv.one
  obtain ⟨z, its, n, r, hl, e⟩ := I.lstM hH
  refine call_meets F.slot_list_append ⟨_, e, rfl⟩ F.entry_list_append (F.args_list_append_2 _ _) (PySem.list_append l its.toArray n u (by rw [List.size_toArray]; omega)) ⟨e, ?_⟩
  refine ⟨.non, _, I.lset (its' := its ++ [u]) hH e (by simp) (r.append (.cons ru .nil)) ?_, rfl, q⟩
  rw [List.length_append, List.length_singleton]
  omega
def rCat : R2 := fun x y H Q => ∃ l b xs zs, x = .ref l ∧ y = .ref b ∧ H l = some (.lst xs) ∧ H b = some (.lst zs) ∧ xs.length + zs.length ≤ sizeLine ∧ ∀ p, H p = none → Q (.ref p) (upd H p (.lst (xs ++ zs)))
theorem op_cat : OpR X (binaryOp .Add) rCat := by
  intro pins s σ H x y v u Q I rx ry h
  obtain ⟨l, b, xs, zs, rfl, rfl, hH, hB, hz, q⟩ := h
  cases rx
  cases ry
  obtain ⟨z, its, n, r, hl, e⟩ := I.lstM hH
  obtain ⟨z2, its2, n2, r2, hl2, e2⟩ := I.lstM hB
  refine PySem.P.add_list e e2 ?_ (by rw [List.size_toArray, List.size_toArray]; omega)
  have ea : its.toArray ++ its2.toArray = (its ++ its2).toArray := by simp
  rw [ea]
  exact ⟨.ref _, _, I.lnew (t' := s.toks) (r.append r2) (by rw [List.length_append]; omega), rfl, q _ I.fresh⟩
end
section
variable {prog : Program} {w : World} {A : Around} {E : Value → Shared → Prop} {s : Shared}
end
section
variable {X : Cx}
end
end L2
namespace L2
open PySem PySem.Spec PyProof.Rows
section
variable {κ : Type} [DecidableEq κ]
def valV (kvs : List (κ × V)) (k : κ) : Option V := (kvs.find? fun kv => decide (kv.1 = k)).map (·.2)
def putK (kvs : List (κ × V)) (k : κ) (v : V) : List (κ × V) :=
  if (kvs.any fun kv => decide (kv.1 = k)) = true then kvs.map (fun kv => if kv.1 = k then (kv.1, v) else kv) else kvs ++ [(k, v)]
def dropK (kvs : List (κ × V)) (k : κ) : List (κ × V) := kvs.filter fun kv => decide (kv.1 ≠ k)
theorem valV_pos {p : κ × V} {r : List (κ × V)} {k : κ} (e : p.1 = k) : valV (p :: r) k = some p.2 := by simp [valV, List.find?_cons, e]
theorem valV_neg {p : κ × V} {r : List (κ × V)} {k : κ} (e : ¬ p.1 = k) : valV (p :: r) k = valV r k := by simp [valV, List.find?_cons, e]
theorem valV_any (k : κ) : ∀ kvs : List (κ × V), (kvs.any fun kv => decide (kv.1 = k)) = (valV kvs k).isSome
  | [] => rfl
  | p :: r => by
    rw [List.any_cons]
    by_cases e : p.1 = k
    · simp only [valV_pos e, decide_eq_true e, Bool.true_or, Option.isSome_some]
    · rw [valV_neg e, decide_eq_false e, Bool.false_or]; exact valV_any k r
theorem RelO.isSome_eq {o : Option V} {u : Option Value} (r : RelO o u) : o.isSome = u.isSome := by
  cases o with
  | none => cases u with
    | none => rfl
    | some _ => exact (show False from r).elim
  | some _ => cases u with
    | none => exact (show False from r).elim
    | some _ => rfl
theorem RelO.getD {o : Option V} {u : Option Value} {d : V} {d' : Value} (r : RelO o u) (rd : RelV d d') : RelV (o.getD d) (u.getD d') := by
  cases o with
  | none => cases u with
    | none => exact rd
    | some _ => exact (show False from r).elim
  | some _ => cases u with
    | none => exact (show False from r).elim
    | some _ => exact r
theorem KV.val {kvs : List (κ × V)} {vs : List (κ × Value)} (r : KV kvs vs) (k : κ) : RelO (valV kvs k) (valueAt vs k) := by
  unfold KV at r
  induction r with
  | nil => exact True.intro
  | @cons p q ps qs h t ih =>
    obtain ⟨h1, h2⟩ := h
    by_cases e : p.1 = k
    · have e' : q.1 = k := h1.symm.trans e
      have b : valueAt (q :: qs) k = some q.2 := by simp [valueAt, List.find?_cons, e']
      rw [valV_pos e, b]; exact h2
    · have e' : ¬ q.1 = k := fun z => e (h1.trans z)
      have b : valueAt (q :: qs) k = valueAt qs k := by simp [valueAt, List.find?_cons, e']
      rw [valV_neg e, b]; exact ih
theorem KV.any {kvs : List (κ × V)} {vs : List (κ × Value)} (r : KV kvs vs) (k : κ) : (kvs.any fun kv => decide (kv.1 = k)) = vs.any fun kv => decide (kv.1 = k) := by
  unfold KV at r
  induction r with
  | nil => rfl
  | cons h t ih => rw [List.any_cons, List.any_cons, ih, h.1]
theorem KV.repl {kvs : List (κ × V)} {vs : List (κ × Value)} (r : KV kvs vs) (k : κ) {y : V} {u : Value} (ry : RelV y u) :
    KV (kvs.map fun kv => if kv.1 = k then (kv.1, y) else kv) (vs.map fun kv => if kv.1 = k then (kv.1, u) else kv) := by
  unfold KV at r ⊢
  induction r with
  | nil => exact .nil
  | @cons p q ps qs h t ih =>
    rw [List.map_cons, List.map_cons]
    refine .cons ?_ ih
    obtain ⟨h1, h2⟩ := h
    by_cases e : p.1 = k
    · rw [if_pos e, if_pos (h1.symm.trans e)]; exact ⟨h1, ry⟩
    · rw [if_neg e, if_neg (fun z => e (h1.trans z))]; exact ⟨h1, h2⟩
theorem KV.put {kvs : List (κ × V)} {vs : List (κ × Value)} (r : KV kvs vs) (k : κ) {y : V} {u : Value} (ry : RelV y u) : KV (putK kvs k y) (stored vs k u) := by
  unfold putK stored
  rw [r.any k]
  by_cases e : (vs.any fun kv => decide (kv.1 = k)) = true
  · rw [if_pos e, if_pos e]; exact r.repl k ry
  · rw [if_neg e, if_neg e]; exact Paired.snoc r ⟨rfl, ry⟩
theorem KV.drop {kvs : List (κ × V)} {vs : List (κ × Value)} (r : KV kvs vs) (k : κ) : KV (dropK kvs k) (without vs k) := by
  unfold KV at r ⊢
  unfold dropK without
  induction r with
  | nil => exact .nil
  | @cons p q ps qs h t ih =>
    obtain ⟨h1, h2⟩ := h
    rw [List.filter_cons, List.filter_cons]
    by_cases e : p.1 = k
    · have a : ¬ decide (p.1 ≠ k) = true := by simp [e]
      have b : ¬ decide (q.1 ≠ k) = true := by simp [h1.symm.trans e]
      rw [if_neg a, if_neg b]; exact ih
    · have e' : ¬ q.1 = k := fun z => e (h1.trans z)
      have a : decide (p.1 ≠ k) = true := by simp [e]
      have b : decide (q.1 ≠ k) = true := by simp [e']
      rw [if_pos a, if_pos b]; exact .cons ⟨h1, h2⟩ ih
theorem KV.length {kvs : List (κ × V)} {vs : List (κ × Value)} (r : KV kvs vs) : kvs.length = vs.length := Paired.length r
end
abbrev KT (H : Hp) : List (List Key × V) → List (List Key × Addr × Value) → Prop := Paired fun p q => p.1 = q.1 ∧ H q.2.1 = some (.tup (p.1.map kV)) ∧ RelV p.2 q.2.2
theorem KT.val {H : Hp} {kvs : List (List Key × V)} {xs : List (List Key × Addr × Value)} (r : KT H kvs xs) (k : List Key) : RelO (valV kvs k) ((atKey xs k).map (·.2)) := by
  induction r with
  | nil => exact True.intro
  | @cons p q ps qs h t ih =>
    obtain ⟨h1, _, h2⟩ := h
    by_cases e : p.1 = k
    · have e' : q.1 = k := h1.symm.trans e
      have b : atKey (q :: qs) k = some q.2 := by simp [atKey, List.find?_cons, e']
      rw [valV_pos e, b]; exact h2
    · have e' : ¬ q.1 = k := fun z => e (h1.trans z)
      have b : atKey (q :: qs) k = atKey qs k := by simp [atKey, List.find?_cons, e']
      rw [valV_neg e, b]; exact ih
theorem KT.repl {H : Hp} {kvs : List (List Key × V)} {xs : List (List Key × Addr × Value)} (r : KT H kvs xs) (k : List Key) {y : V} {u : Value} (ry : RelV y u) :
    KT H (kvs.map fun kv => if kv.1 = k then (kv.1, y) else kv) (xs.map (putAt k u)) := by
  induction r with
  | nil => exact .nil
  | @cons p q ps qs h t ih =>
    rw [List.map_cons, List.map_cons]
    refine .cons ?_ ih
    obtain ⟨h1, h2, h3⟩ := h
    unfold putAt
    by_cases e : p.1 = k
    · rw [if_pos e, if_pos (h1.symm.trans e)]; exact ⟨h1, h2, ry⟩
    · rw [if_neg e, if_neg (fun z => e (h1.trans z))]; exact ⟨h1, h2, h3⟩
theorem KT.put {H : Hp} {kvs : List (List Key × V)} {xs : List (List Key × Addr × Value)} (r : KT H kvs xs) (k : List Key) {b : Addr} {y : V} {u : Value} (hb : H b = some (.tup (k.map kV))) (ry : RelV y u) :
    KT H (putK kvs k y) (storedH xs k b u) := by
  have e : (kvs.any fun kv => decide (kv.1 = k)) = (atKey xs k).isSome := by
    rw [valV_any, (r.val k).isSome_eq, Option.isSome_map]
  unfold putK storedH
  rw [e]
  by_cases q : (atKey xs k).isSome = true
  · rw [if_pos q, if_pos q]; exact r.repl k ry
  · rw [if_neg q, if_neg q]; exact Paired.snoc r ⟨rfl, hb, ry⟩
theorem KT.keeps {H H' : Hp} {kvs : List (List Key × V)} {xs : List (List Key × Addr × Value)} (r : KT H kvs xs) (ht : ∀ b ys, H b = some (.tup ys) → H' b = some (.tup ys)) : KT H' kvs xs :=
  Paired.mapP r fun _ _ z => ⟨z.1, ht _ _ z.2.1, z.2.2⟩
section
variable {P : Program} {w : World} {H : Hp} {h : Heap} {a : Addr}
end
def DGet (H : Hp) (a : Addr) (y : V) (r : Option V) : Prop :=
  (∃ kvs k, Rd H a (.dK kvs) ∧ y = kV k ∧ r = valV kvs k) ∨ ∃ kvs k b, Rd H a (.dT kvs) ∧ y = .ref b ∧ H b = some (.tup (k.map kV)) ∧ r = valV kvs k
def DPut (H : Hp) (a : Addr) (y v : V) (H' : Hp) : Prop :=
  (∃ kvs k, H a = some (.dK kvs) ∧ y = kV k ∧ kvs.length < sizeLine ∧ H' = upd H a (.dK (putK kvs k v))) ∨
  ∃ kvs k b, H a = some (.dT kvs) ∧ y = .ref b ∧ H b = some (.tup (k.map kV)) ∧ kvs.length < sizeLine ∧ H' = upd H a (.dT (putK kvs k v))
theorem DGet.k {H : Hp} {a : Addr} {kvs : List (Key × V)} {k : Key} (e : H a = some (.dK kvs)) : DGet H a (kV k) (valV kvs k) := .inl ⟨kvs, k, .inl e, rfl, rfl⟩
theorem DGet.t {H : Hp} {a b : Addr} {kvs : List (List Key × V)} {k : List Key} (e : H a = some (.dT kvs)) (eb : H b = some (.tup (k.map kV))) : DGet H a (.ref b) (valV kvs k) := .inr ⟨kvs, k, b, .inl e, rfl, eb, rfl⟩
theorem DPut.k {H : Hp} {a : Addr} {kvs : List (Key × V)} {k : Key} {v : V} (e : H a = some (.dK kvs)) (hl : kvs.length < sizeLine) : DPut H a (kV k) v (upd H a (.dK (putK kvs k v))) := .inl ⟨kvs, k, e, rfl, hl, rfl⟩
theorem DPut.t {H : Hp} {a b : Addr} {kvs : List (List Key × V)} {k : List Key} {v : V} (e : H a = some (.dT kvs)) (eb : H b = some (.tup (k.map kV))) (hl : kvs.length < sizeLine) :
    DPut H a (.ref b) v (upd H a (.dT (putK kvs k v))) := .inr ⟨kvs, k, b, e, rfl, eb, hl, rfl⟩
section
variable {X : Cx} {pins : List (Addr × Obj)} {σ : St} {H : Hp} {s : Shared} {a : Addr} {y v : V} {u r : Value} {o : Option V} {A : Around} {E : Value → Shared → Prop}
end
section
variable {X : Cx} {pins : List (Addr × Obj)} {σ : St} {H : Hp} {s : Shared} {a : Addr} {kvs : List (Key × V)} {k : Key} {u : Value} {A : Around} {E : Value → Shared → Prop}
end
section
variable {X : Cx} {o i e value : Expr} {pos pos' tpos : Pos} {td ty tv : TE}
end
section
variable {X : Cx} {pos : Pos}
end
structure M1 (X : Cx) (o : Expr) (m : Str) (apos : Pos) (e : Expr) (cpos : Pos) : Prop where
  base : attributeBase o m X.env (eval o X.env) = eval o X.env
  few : ((backTo cpos (starEach [e] X.env)).all (fun x => !x.1) && (backToKw cpos (keywordEach [] X.env)).all (fun x => x.1.isSome)
    && decide (([e] : List Expr).length + ([] : List Keyword).length + (if ([] : List Keyword).isEmpty then 0 else 1) < 30)) = true
  line : (apos.endLine == cpos.line) = true
  trees : backTo cpos (starEach [e] X.env) = [(false, eval e X.env)]
structure M2 (X : Cx) (o : Expr) (m : Str) (apos : Pos) (e f : Expr) (cpos : Pos) : Prop where
  base : attributeBase o m X.env (eval o X.env) = eval o X.env
  few : ((backTo cpos (starEach [e, f] X.env)).all (fun x => !x.1) && (backToKw cpos (keywordEach [] X.env)).all (fun x => x.1.isSome)
    && decide (([e, f] : List Expr).length + ([] : List Keyword).length + (if ([] : List Keyword).isEmpty then 0 else 1) < 30)) = true
  line : (apos.endLine == cpos.line) = true
  trees : backTo cpos (starEach [e, f] X.env) = [(false, eval e X.env), (false, eval f X.env)]
section
variable {X : Cx} {pins : List (Addr × Obj)} {σ : St} {H : Hp} {s : Shared} {a : Addr} {y d : V} {u r : Value} {o : Option V} {A : Around} {E : Value → Shared → Prop}
end
section
variable {X : Cx} {o e f : Expr} {apos cpos : Pos} {td ty tx : TE}
end
section
variable {X : Cx} {pins : List (Addr × Obj)} {σ : St} {H : Hp} {s : Shared} {a : Addr} {kvs : List (Key × V)} {A : Around} {E : Value → Shared → Prop}
end
section
variable {X : Cx} {pins : List (Addr × Obj)} {σ : St} {H : Hp} {s : Shared} {a : Addr} {y : V} {u : Value} {A : Around} {E : Value → Shared → Prop}
end
end L2
namespace Att
open PySem PySem.W PySem.Calls PyProof.Rows
theorem ints_of_wellAll {P : Params} {h : Heap} : ∀ (ns : List Int) (vs : List Value), WellAll P h vs (ns.map WData.int) → IntsAre vs ns := by
  intro ns
  induction ns with
  | nil =>
    intro vs w
    rw [List.map_nil] at w
    cases w
    exact .nil
  | cons n ns ih =>
    intro vs w
    rw [List.map_cons] at w
    cases w with
    | cons a b =>
      cases a
      exact .cons _ _ (ih _ b)
theorem script_of {l : OpenLaw} {n : Nat} (hn : l.most = some n) {P : Params} {h : Heap} {args : List WData} {vals : List Value}
    (hpre : l.row.toRowW.claim.pre args = true) (hwl : WellAll P h vals args) :
    ∃ a vs ns, vals = [Value.ref a] ∧ args = [WData.list (ns.map WData.int)] ∧ h.get? a = some { cls := .type "list", data := .seq vs.toArray } ∧ IntsAre vs ns ∧ ns.length ≤ n := by
  have hsh : WShape.hasAll [] args [.list .int] = true := (pre_splitW hpre).1
  have hc : l.pre.holds [] { args := args } = true := (pre_splitW hpre).2
  obtain ⟨d, r, rfl, h1, h2⟩ := hasAllW_cons hsh
  obtain rfl := hasAllW_nil h2
  obtain ⟨xs, rfl, h3⟩ := hasW_list h1
  obtain ⟨ns, rfl⟩ := items_int h3
  have hlen : ns.length ≤ n := by
    unfold OpenLaw.pre at hc
    have h4 : (WTm.not (.lt (.lit (.int (n : Int))) (.len (.arg 0)))).holds [] { args := [.list (ns.map .int)] } = true := by
      have h4 := (holds_andW hc).1
      rw [hn] at h4
      exact h4
    have h5 := condW_of h4 (w_not (w_lt w_lit (w_len_list (w_arg rfl))))
    rw [List.length_map] at h5
    refine Nat.le_of_not_lt fun q => ?_
    have q' : (n : Int) < ((ns.length : Nat) : Int) := by omega
    first
      | (rw [decide_eq_true q'] at h5; exact absurd h5 (by decide))
      | (simp at h5; omega)
  cases hwl with
  | cons w1 w2 =>
    cases w2
    cases w1 with
    | list ho hall => exact ⟨_, _, ns, rfl, rfl, ho, ints_of_wellAll ns _ hall, hlen⟩
theorem post_true (l : OpenLaw) (args : List WData) : l.row.toRowW.claim.post args (.bool true) args = true :=
  postW_of (r := l.row.toRowW) (X := (true == true))
    (show WShape.has [] (.bool true) .bool = true by first | rfl | decide | simp [WShape.has, WShape.arms, WShape.armsAll])
    (show (WTm.eq .res (.lit (.bool true))).value [] { args := args, res := some (.bool true), after := args } = some (.bool (true == true)) from w_eq_bool (w_res rfl) w_lit) rfl
theorem attach_call {l : OpenLaw} {n : Nat} {q : Program} {loose : List Str} {XP : (Str → Option Value) → Heap → Prop} {YP : World → Heap → Prop} {d : DefRec}
    (hn : l.most = some n) (hdf : d.params.defaults = [])
    (call : ∀ (w : World) (s₀ s₁ : Shared) (mg mb : Str → Option Value) (fa : Addr) (o : Obj) (pm cd doc : Value) (a : Addr) (vs : List Value) (ns : List Int),
      Ground q loose [] XP w s₀ mg mb s₁.heap → YP w s₁.heap →
      s₁.heap.get? fa = some o → o.data = .func (docDef d.name d.params d.body d.scope pm cd doc) → s₁.heap.CodeRec cd d.name → mg d.name = some (.ref fa) →
      s₁.heap.get? a = some { cls := .type "list", data := .seq vs.toArray } → IntsAre vs ns → ns.length ≤ n → s₁.gens = #[] →
      codeAny (model l.prog w) callerA (.call (.ref fa) ⟨[.ref a], []⟩) (fun r s' => r = .ok (.ret (.bool true)) ∧ OldK s₁.heap s'.heap ∧ s'.os = s₁.os ∧ AllBare s'.gens) s₁) :
    WalkO q loose XP YP l.row.toRowW d [] (fun f vs => PySem.call f vs) := by
  intro w s₀ s₁ mg mb G Y fa o pm cd doc dV kV ho hd hcd hD hmg hg args vals as hpre hlay hrd hwl hlo
  obtain rfl : dV = .none := Dflts.none hD hdf
  obtain rfl : kV = .none := Dflts.noKw hD
  obtain ⟨a, vs, ns, rfl, rfl, hobj, hints, hlen⟩ := script_of hn hpre hwl
  refine enter_call (codeAny_mono (call w s₀ s₁ mg mb fa o pm cd doc a vs ns G Y ho (fd_plain hd) hcd hmg hobj hints hlen hg) fun r s' hq => ?_)
  obtain ⟨rfl, h2, h3, h4⟩ := hq
  exact ⟨.inl ⟨.bool true, .bool true, [], rfl, fun _ => rfl, .bool true, post_true l _, fun _ => ⟨List.Pairwise.nil, fun _ hm => (nomatch hm)⟩⟩, h2, h3, h4⟩
section
variable {prog : Program} {w : World} {A : Around} {E : Value → Shared → Prop} {s : Shared} {K : Frag}
end
end Att
namespace L2
open PySem PySem.Spec PyProof.Rows
theorem vals_ints : ∀ {vs : List Value} {ns : List Int}, IntsAre vs ns → Vals (ns.map V.int) vs
  | _, _, .nil => .nil
  | _, _, .cons n t h => .cons ⟨t, rfl⟩ (vals_ints h)
def Only (H : Hp) : Prop := ∀ b, H b = none ∨ ∃ o xs, H b = some (.frz o (.lst xs))
theorem law_call {P : Program} {w : World} {K : PySem.W.Frag} {mg mb : Str → Option Value} {CX : CXT} {k : Nat} {fa a : Addr} {fd : FuncData} {x : Str} {sp : Sp} {s₁ : Shared} {vs : List Value} {ns : List Int}
    (KX : K.In s₁.heap) (hns : s₁.heap.Ns mainGlobals mg) (hb : s₁.heap.Ns builtinsNs mb) (hbb : ∀ x : Str, x ≠ "__name__" → mb x = bootBuiltins x) (hlim : s₁.heap.NoLimit) (hg : s₁.gens = #[])
    (ha : s₁.heap.get? a = some { cls := .type "list", data := .seq vs.toArray }) (hi : IntsAre vs ns) (hl : ns.length ≤ sizeLine) (hr : Room k callerA)
    (F : ∀ base : Heap, K.In base → base.Ns mainGlobals mg → FnOk P w K mg base CX k fa fd [x] sp) (hbind : ∀ (s : Shared) (u : Value), BindsTo s fd ⟨[u], []⟩ [(x, u)])
    (hsp : ∀ H : Hp, Only H → SqL K H a (ns.map V.int) → sp [.ref a] H (fun v _ => v = .bl true) fun _ _ _ => False)
    (hCX : ∀ H e s', CX [] H s₁ (fun _ _ _ => False) e s' → False) :
    codeAny (model P w) callerA (.call (.ref fa) ⟨[.ref a], []⟩) (fun r s' => r = .ok (.ret (.bool true)) ∧ OldK s₁.heap s'.heap ∧ s'.os = s₁.os ∧ AllBare s'.gens) s₁ := by
  have rv := vals_ints hi
  have lenV := hi.length
  have core : ∀ H : Hp, Only H → SqL K H a (ns.map V.int) → HOk P w H s₁.heap → (∀ b, H b ≠ none → b = a) → (H a ≠ none → K.lookup a = none) →
      codeAny (model P w) callerA (.call (.ref fa) ⟨[.ref a], []⟩) (fun r s' => r = .ok (.ret (.bool true)) ∧ OldK s₁.heap s'.heap ∧ s'.os = s₁.os ∧ AllBare s'.gens) s₁ := by
    intro H hO hS hok hA hK
    have base_of : ∀ {b : Addr} {o : Obj}, s₁.heap.get? b = some o → H b = none → (hidT s₁.heap H).get? b = some o := fun e n => hidT_get e n
    have noA : ∀ {b : Addr} {o : Obj} {es : Array DictEntry} {ep : Nat}, s₁.heap.get? b = some o → o.data = .dict es ep → H b = none := fun {b o es ep} e d => by
      cases q : H b with
      | none => rfl
      | some u =>
        have e' : b = a := hA b (by rw [q]; simp)
        subst e'
        rw [ha] at e; cases e
        have d' : Data.seq vs.toArray _ = Data.dict es ep := d
        cases d'
    have nsK : ∀ {b : Addr} {m : Str → Option Value}, s₁.heap.Ns b m → (hidT s₁.heap H).Ns b m := fun {b m} ⟨o, es, ep, e, d, r⟩ => ⟨o, es, ep, base_of e (noA e d), d, r⟩
    have hKb : K.In (hidT s₁.heap H) := fun b o e => base_of (KX b o e) (by
      cases q : H b with
      | none => rfl
      | some u =>
        have e' : b = a := hA b (by rw [q]; simp)
        subst e'
        rw [hK (by rw [q]; simp)] at e; cases e)
    have hM : Mod K mg (hidT s₁.heap H) := ⟨hKb, nsK hns, ⟨mb, nsK hb, hbb⟩, let ⟨mc, h1, h2⟩ := hlim; ⟨mc, nsK h1, h2⟩⟩
    have e0 : Env0 P w K mg (hidT s₁.heap H) callerA [] s₁ H := ⟨rfl, hM, fun b o e => of_hidT e, Nat.le_of_eq (hidT_size _ _), trivial, fun b hb => absurd (show b ∈ ([] : List Addr) from hb) (by simp), hok, .of_eq hg⟩
    refine codeAny_mono ((F _ hKb (nsK hns)).run callerA [] s₁ H ⟨[.ref a], []⟩ [.ref a] [.ref a] _ _ hr e0 (hbind s₁ (.ref a)) (.cons rfl .nil) (hsp H hO hS)) fun r s' h => ?_
    cases r with
    | error e => exact (hCX H e s' h).elim
    | ok fl =>
      cases fl with
      | next => exact False.elim h
      | brk => exact False.elim h
      | cont => exact False.elim h
      | ret u =>
        obtain ⟨v, H', os, bare, un, hok', r', q⟩ := h
        have q' : v = .bl true := q
        subst q'
        obtain rfl : u = Value.bool true := r'
        refine ⟨rfl, OldK.of_keep fun b o e => ?_, os, bare⟩
        cases q : H b with
        | none => exact un.keep b o e q (by intro z; exact absurd (show b ∈ ([] : List Addr) from z) (by simp)) (by simp)
        | some u =>
          rcases hO b with z | ⟨ob, xs, z⟩
          · rw [q] at z; cases z
          · have z2 := un.frzs b ob _ z
            obtain ⟨e1, _⟩ := hok b _ z
            obtain ⟨e2, _⟩ := hok' b _ z2
            rw [e] at e1; cases e1
            exact e2
  cases hk : K.lookup a with
  | some o =>
    have e := KX a o hk
    rw [ha] at e
    cases e
    refine core (fun _ => none) (fun _ => .inl rfl) (.inr ⟨_, vs.toArray, _, hk, rfl, rfl, rfl, by rw [List.size_toArray, lenV]; exact hl, by simpa using rv⟩) (fun b u z => by have z' : (none : Option HO) = some u := z; cases z') (fun b z => absurd rfl z) fun z => absurd rfl z
  | none =>
    refine core (fun b => if b = a then some (.frz { cls := .type "list", data := .seq vs.toArray } (.lst (ns.map V.int))) else none) (fun b => ?_) (.inl (.inr ⟨{ cls := .type "list", data := .seq vs.toArray }, if_pos rfl⟩)) (fun b u z => ?_) (fun b z => ?_) fun _ => hk
    · by_cases hb : b = a
      · exact .inr ⟨_, _, if_pos hb⟩
      · exact .inl (if_neg hb)
    · by_cases hb : b = a
      · have z' := (if_pos hb).symm.trans z
        cases z'
        subst hb
        exact ⟨ha, by rw [List.length_map]; exact hl, vs, _, rv, ha⟩
      · have z' := (if_neg hb).symm.trans z
        cases z'
    · by_cases hb : b = a
      · exact hb
      · exact absurd (if_neg hb) z
end L2
namespace L2
open PySem PySem.Spec PyProof.Rows
theorem walk_of {l : PySem.W.OpenLaw} {n k : Nat} {q : Program} {loose : List Str} {XP : (Str → Option Value) → Heap → Prop} {YP : World → Heap → Prop} {d : DefRec} {K : Params → PySem.W.Frag} {CX : World → CXT} {sp : World → Sp} {x : Str}
    (hn : l.most = some n) (hn2 : n ≤ sizeLine) (hdf : d.params.defaults = []) (hr : Room k callerA)
    (hY : ∀ (w : World) (h : Heap), YP w h → (K w.params).In h)
    (F : ∀ (w : World) (mg : Str → Option Value) (fa : Addr) (h : Heap), (K w.params).In h → h.Ns mainGlobals mg → mg d.name = some (.ref fa) →
      ∃ fd : FuncData, (∀ (s : Shared) (u : Value), BindsTo s fd ⟨[u], []⟩ [(x, u)]) ∧
        ∀ base : Heap, (K w.params).In base → base.Ns mainGlobals mg → FnOk l.prog w (K w.params) mg base (CX w) k fa fd [x] (sp w))
    (hsp : ∀ (w : World) (H : Hp) (a : Addr) (ns : List Int), ns.length ≤ n → Only H → SqL (K w.params) H a (ns.map V.int) → sp w [.ref a] H (fun v _ => v = .bl true) fun _ _ _ => False)
    (hCX : ∀ (w : World) (H : Hp) (s : Shared) (e : Value) (s' : Shared), CX w [] H s (fun _ _ _ => False) e s' → False) :
    PySem.W.WalkO q loose XP YP l.row.toRowW d [] (fun f vs => PySem.call f vs) := by
  refine Att.attach_call hn hdf fun w s₀ s₁ mg mb fa o pm cd doc a vs ns G Y ho hd hcd hmg hobj hints hlen hg => ?_
  have KX := hY w _ Y
  obtain ⟨fd, hb, hF⟩ := F w mg fa _ KX G.T.g hmg
  exact law_call KX G.T.g G.T.b G.T.builtins G.T.nolimit hg hobj hints (Nat.le_trans hlen hn2) hr hF hb (fun H hO hS => hsp w H a ns hlen hO hS) fun H e s' => hCX w H s₁ e s'
theorem walk_ofK {l : PySem.W.OpenLaw} {n k : Nat} {q : Program} {loose : List Str} {XP : (Str → Option Value) → Heap → Prop} {YP : World → Heap → Prop} {d : DefRec} {K : Params → PySem.W.Frag} {CX : CXT} {sp : PySem.W.Frag → Sp} {x : Str}
    (hn : l.most = some n) (hn2 : n ≤ sizeLine) (hdf : d.params.defaults = []) (hr : Room k callerA)
    (hY : ∀ (w : World) (h : Heap), YP w h → (K w.params).In h)
    (F : ∀ (w : World) (mg : Str → Option Value) (fa : Addr) (h : Heap), (K w.params).In h → h.Ns mainGlobals mg → mg d.name = some (.ref fa) →
      ∃ fd : FuncData, (∀ (s : Shared) (u : Value), BindsTo s fd ⟨[u], []⟩ [(x, u)]) ∧
        ∀ base : Heap, (K w.params).In base → base.Ns mainGlobals mg → FnOk l.prog w (K w.params) mg base CX k fa fd [x] (sp (K w.params)))
    (hsp : ∀ (K : PySem.W.Frag) (H : Hp) (a : Addr) (ns : List Int), ns.length ≤ n → Only H → SqL K H a (ns.map V.int) → sp K [.ref a] H (fun v _ => v = .bl true) fun _ _ _ => False)
    (hCX : ∀ (H : Hp) (s : Shared) (e : Value) (s' : Shared), CX [] H s (fun _ _ _ => False) e s' → False) :
    PySem.W.WalkO q loose XP YP l.row.toRowW d [] (fun f vs => PySem.call f vs) :=
  walk_of (K := K) (CX := fun _ => CX) (sp := fun w => sp (K w.params)) hn hn2 hdf hr hY F (fun w H a ns h1 h2 h3 => hsp (K w.params) H a ns h1 h2 h3) fun _ H s e s' => hCX H s e s'
end L2
namespace L2
open PySem PySem.Spec PyProof.Rows
def defArgs (s : Stmt) : Arguments := match s with
  | .FunctionDef _ a _ _ _ _ _ _ _ _ => a
  | _ => { posonlyargs := [], args := [], vararg := none, kwonlyargs := [], kw_defaults := [], kwarg := none, defaults := [] }
def defBody (s : Stmt) : List Stmt := match s with
  | .FunctionDef _ _ b _ _ _ _ _ _ _ => b
  | _ => []
def defScope (s : Stmt) : Scope := match s with
  | .FunctionDef _ _ _ _ _ _ sc _ _ _ => sc
  | _ => { kind := .function, names := [], isGenerator := false, isCoroutine := false }
abbrev CX0 : CXT := fun _ _ _ _ _ _ => False
abbrev E0 : XK := fun _ _ _ => False
theorem pass0 {X : Cx} : Passes CX0 X E0 := fun _ _ _ _ _ _ _ h => h.elim
structure Fun (K : PySem.W.Frag) (x qual : Str) (st : Stmt) (f : Addr) (fd : FuncData) : Prop where
  ex : ∃ (oc : Value) (od : Option Addr) (kV doc pm : Value) (an : Option Addr) (cdv ct : Value) (osl : Array (Option Value)),
    fd = PySem.W.fnOf x qual (defArgs st) (defBody st) (defScope st) .none kV doc pm an cdv ct ∧ K.lookup f = some ⟨oc, od, .func fd, osl⟩ ∧ PySem.W.codeIn K cdv qual = true
  kp : PySem.W.keepIn K (.ref f) = true
section
variable {P : Program} {w : World} {K : PySem.W.Frag} {mg : Str → Option Value} {base : Heap}
theorem Fun.ok {x qual : Str} {st : Stmt} {f : Addr} {fd : FuncData} {N ps : List Str} {k : Nat} {sp : Sp} (F : Fun K x qual st f fd) (S : FnScope N ps (defScope st)) (len : ∀ vs H Q E, sp vs H Q E → vs.length = ps.length)
    (hbody : ∀ (cdv : Value) (A : Around) (outer : List Env) (s : Shared) (H : Hp) (vs : List V) (Q : VK) (E : XK), Room k (A.deeper (envOfC qual (defScope st) s.heap.objs.size f cdv)) → sp vs H Q E →
      ∃ t, PSs (cxOf CX0 P w K mg base N qual (defScope st) f cdv A outer s H E).nox (defBody st) t ∧ t { nx := fun _ H' => Q .non H', rt := Q } (start N vs) H) : FnOk P w K mg base CX0 (k + 1) f fd ps sp := by
  obtain ⟨oc, od, kV, doc, pm, an, cdv, ct, osl, rfl, lk, hcd⟩ := F.ex
  refine fn_of lk hcd S len fun A outer s H vs Q E hr hsp => ?_
  obtain ⟨t, h, q⟩ := hbody cdv A outer s H vs Q E hr hsp
  exact ⟨t, h.nox, q⟩
theorem Fun.binds {x qual : Str} {st : Stmt} {f : Addr} {fd : FuncData} {ps : List Str} (F : Fun K x qual st f fd)
    (h : ∀ (kV doc pm : Value) (an : Option Addr) (cdv ct : Value) (us : List Value), us.length = ps.length → bindArgs (PySem.W.fnOf x qual (defArgs st) (defBody st) (defScope st) .none kV doc pm an cdv ct) ⟨us, []⟩ = pure (ps.zip us)) : Binds K fd ps [] := by
  obtain ⟨oc, od, kV, doc, pm, an, cdv, ct, osl, rfl, lk, hcd⟩ := F.ex
  exact .all (h kV doc pm an cdv ct)
theorem fun_mk {x qual : Str} {st : Stmt} {f : Addr} {oc : Value} {od an : Option Addr} {osl : Array (Option Value)} {kV doc pm cdv ct : Value} (l : K.lookup f = some ⟨oc, od, .func (PySem.W.fnOf x qual (defArgs st) (defBody st) (defScope st) .none kV doc pm an cdv ct), osl⟩)
    (c : PySem.W.codeIn K cdv qual = true) (k : PySem.W.keepIn K (.ref f) = true) : Fun K x qual st f (PySem.W.fnOf x qual (defArgs st) (defBody st) (defScope st) .none kV doc pm an cdv ct) := ⟨⟨oc, od, kV, doc, pm, an, cdv, ct, osl, rfl, l, c⟩, k⟩
end
section
variable {X : Cx}
theorem pv (i : Nat) {x : Str} {pos : Pos} (hN : X.N[i]? = some x := by rfl) (hv : Vis X.env.scope x := by first | exact Or.inl rfl | exact Or.inr (Or.inl rfl) | exact Or.inr (Or.inr rfl)) (hd : (x == ("__debug__" : Str)) = false := by decide)
    (hcd : (x == ("__classdict__" : Str)) = false := by decide) : PE X (.Name x pos) (tVar i) := pe_var hN hv hd hcd
end
section
variable {X : Cx}
end
theorem iteF {A B : Prop} (h : B) : if false = true then A else B := by
  rw [if_neg Bool.false_ne_true]
  exact h
theorem iteT {A B : Prop} (h : A) : if true = true then A else B := by
  rw [if_pos rfl]
  exact h
theorem iteNS {c A B : Prop} [Decidable c] (hc : c) (h : B) : if (!decide c) = true then A else B := by
  rw [decide_eq_true hc]
  exact iteF h
def Same (H H' : Hp) : Prop := ∀ b o, H b = some o → H' b = some o
theorem Same.refl (H : Hp) : Same H H := fun _ _ h => h
theorem Same.trans {H H1 H2 : Hp} (a : Same H H1) (b : Same H1 H2) : Same H H2 := fun c o h => b c o (a c o h)
theorem Same.free {H H' : Hp} (e : Same H H') {l : Addr} (h : H' l = Option.none) : H l = Option.none := by
  cases q : H l with
  | none => rfl
  | some o =>
    rw [e l o q] at h
    cases h
theorem Same.seq {K : PySem.W.Frag} {H H' : Hp} {a : Addr} {xs : List V} (e : Same H H') (h : SqL K H a xs) : SqL K H' a xs := by
  rcases h with (h | ⟨o, h⟩) | h
  · exact .inl (.inl (e _ _ h))
  · exact .inl (.inr ⟨o, e _ _ h⟩)
  · exact .inr h
section
variable {κ : Type} [DecidableEq κ]
end
end L2
namespace L2
open PySem PySem.Spec PyProof.Rows
theorem HOk.track {P : Program} {w : World} {H : Hp} {h : Heap} {a : Addr} {o : HO} (x : HOk P w H h) (hn : H a = none) (new : ObjOk P w (upd H a o) h a o) : HOk P w (upd H a o) h := by
  intro b u e
  by_cases hb : b = a
  · subst hb
    rw [upd_same] at e
    cases e
    exact new
  · rw [upd_ne hb] at e
    refine (x b u e).stay (fun _ _ _ q => q) (fun c q => ?_) fun c xs q => ?_
    · rw [upd_ne (ne_of_none q hn)]; exact q
    · rw [upd_ne (ne_of_none q hn)]; exact q
theorem HOk.other {P : Program} {w : World} {H : Hp} {h h' : Heap} {a : Addr} (x : HOk P w H h) (hn : H a = none) (k : ∀ b u, b ≠ a → h.get? b = some u → h'.get? b = some u) : HOk P w H h' := by
  intro b u e
  refine (x b u e).stay (fun c v hc q => k c v ?_ q) (fun _ q => q) fun _ _ q => q
  rcases hc with z | z
  · rw [z]; exact ne_of_none e hn
  · exact ne_of_none z hn
def closStep (env : Env) (cs : List (Str × Addr)) (x : Str × NameKind) : List (Str × Addr) := if x.2 = .free then (x.1, (env.cells.lookup x.1).getD 0) :: cs else cs
def closOf (env : Env) (names : List (Str × NameKind)) : List (Str × Addr) := names.foldl (closStep env) []
theorem forIn_fold {α β : Type} {f : α → β → Sem (ForInStep β)} {g : β → α → β} : ∀ (l : List α) (acc : β), (∀ x ∈ l, ∀ c, f x c = pure (.yield (g c x))) → forIn l acc f = pure (l.foldl g acc)
  | [], acc, _ => rfl
  | x :: l, acc, h => by
    rw [List.forIn_cons, h x List.mem_cons_self acc]
    show forIn l (g acc x) f = _
    rw [forIn_fold l (g acc x) fun y hy => h y (List.mem_cons_of_mem _ hy)]
    rfl
theorem closureFor_of {scope : Scope} {env : Env} (h : ∀ y ∈ scope.names, y.2 = .free → ∃ c, env.cells.lookup y.1 = some c) : closureFor scope env = pure (closOf env scope.names) := by
  simp only [closureFor]
  rw [forIn_fold (g := closStep env) scope.names [] fun x hx c => by
    obtain ⟨n, kind⟩ := x
    by_cases hk : kind = .free
    · subst hk
      obtain ⟨a, ha⟩ := h _ hx rfl
      have ha' : env.cells.lookup n = some a := ha
      simp only [beq_self_eq_true, if_true, closStep, cellOf, ha', Option.getD_some]
      rfl
    · have hb : (kind == NameKind.free) = false := by simpa using hk
      simp only [hb, Bool.false_eq_true, if_false, closStep, hk]]
  rfl
theorem clos_some {env : Env} {y : Str} {c : Addr} : ∀ (names : List (Str × NameKind)) (acc : List (Str × Addr)), (names.foldl (closStep env) acc).lookup y = some c →
    acc.lookup y = some c ∨ ((y, NameKind.free) ∈ names ∧ (env.cells.lookup y).getD 0 = c)
  | [], acc, h => .inl h
  | (n, k) :: r, acc, h => by
    rw [List.foldl_cons] at h
    rcases clos_some r _ h with q | ⟨q, z⟩
    · unfold closStep at q
      by_cases hk : k = .free
      · rw [if_pos hk, List.lookup_cons] at q
        cases hy : y == n with
        | true =>
          rw [hy] at q
          have e : y = n := eq_of_beq hy
          subst e hk
          exact .inr ⟨List.mem_cons_self, Option.some.inj q⟩
        | false =>
          rw [hy] at q
          exact .inl q
      · rw [if_neg hk] at q
        exact .inl q
    · exact .inr ⟨List.mem_cons_of_mem _ q, z⟩
theorem clos_has {env : Env} {y : Str} : ∀ (names : List (Str × NameKind)) (acc : List (Str × Addr)), ((y, NameKind.free) ∈ names ∨ ∃ c, acc.lookup y = some c) → ∃ c, (names.foldl (closStep env) acc).lookup y = some c
  | [], acc, h => by
    rcases h with h | h
    · cases h
    · exact h
  | (n, k) :: r, acc, h => by
    rw [List.foldl_cons]
    refine clos_has r _ ?_
    by_cases hy : (y, NameKind.free) ∈ r
    · exact .inl hy
    · refine .inr ?_
      rcases h with h | ⟨c, h⟩
      · rcases List.mem_cons.mp h with e | e
        · cases e
          exact ⟨_, by unfold closStep; rw [if_pos rfl, List.lookup_cons_self]⟩
        · exact absurd e hy
      · unfold closStep
        by_cases hk : k = .free
        · rw [if_pos hk, List.lookup_cons]
          cases y == n with
          | true => exact ⟨_, rfl⟩
          | false => exact ⟨c, h⟩
        · rw [if_neg hk]
          exact ⟨c, h⟩
theorem compLoop_gen {prog : Program} {w : World} {A : Around} {R : Result → Shared → Prop} {s : Shared} {elt target iter : Expr} {ifs : List Expr} {scope : Scope} {pos : Pos} {it acc : Value} {env : Env} (I : Nat → Shared → Prop)
    (turn : ∀ n s, I n s → wpAny (model prog w) A (pyNext it) (fun r s₁ => match r with
      | none => R (.ok .next) s₁
      | some v => wpAny (model prog w) A (letOwnedTupleGo target it v) (fun _ s₁' => wpAny (model prog w) A (assign target env v) (fun _ s₂ =>
          wpAny (model prog w) A (forIn ifs true fun c r => if r = true then do let ok ← isTrue c env (eval c env); pure (ForInStep.yield ok) else pure (ForInStep.yield r)) (fun ok s₃ =>
            if ok = true then wpAny (model prog w) A (eval elt env) (fun x s₄ =>
              wpAny (model prog w) A (call (.builtin "list.append") [acc, x]) (fun _ s₅ => ∃ m, m < n ∧ I m s₅) (fun _ _ => False) s₄) (fun _ _ => False) s₃
            else ∃ m, m < n ∧ I m s₃) (fun _ _ => False) s₂) (fun _ _ => False) s₁') (fun _ _ => False) s₁) (fun _ _ => False) s)
    (n : Nat) (h : I n s) :
    codeAny (model prog w) A (.compLoop (.ListComp elt [⟨target, iter, ifs, 0⟩] scope pos) 0 it acc env) R s := by
  refine codeAny_loop rfl I (fun n s hI => ?_) n h
  show wpAny _ A ((compTurn (.ListComp elt [⟨target, iter, ifs, 0⟩] scope pos) 0 it acc env).onRaise (fun x => do noteFrame x env; theTreesLotGoes x)) _ _ s
  refine wpAny_noted ?_
  rw [compTurn_list]
  refine wpAny_bind (wpAny_standAt (wpAny_bind (wpAny_mono (turn n s hI) (fun r s₁ h₁ => ?_) fun _ _ h' => h'.elim)))
  cases r with
  | none => exact wpAny_pure h₁
  | some v =>
    refine wpAny_bind (wpAny_mono h₁ (fun _ s₁' h₁' => ?_) fun _ _ h' => h'.elim)
    refine wpAny_bind (wpAny_mono h₁' (fun _ s₂ h₂ => wpAny_bind (wpAny_mono h₂ (fun ok s₃ h₃ => ?_) fun _ _ h' => h'.elim)) fun _ _ h' => h'.elim)
    cases ok with
    | false => exact wpAny_pure ⟨rfl, h₃⟩
    | true =>
      exact wpAny_bind (wpAny_bind (wpAny_mono h₃ (fun x s₄ h₄ => wpAny_bind (wpAny_mono h₄ (fun _ s₅ h₅ => wpAny_pure (wpAny_pure ⟨rfl, h₅⟩)) fun _ _ h' => h'.elim)) fun _ _ h' => h'.elim))
def PTs (X : Cx) (ifs : List Expr) (t : TT) : Prop :=
  ∀ (pins : List (Addr × Obj)) (s : Shared) (σ : St) (H : Hp) (Q : Bool → Hp → Prop), Inv X pins σ H s → t σ H Q →
    wpAny (model X.prog X.w) X.A (forIn ifs true fun c r => if r = true then do let ok ← isTrue c X.env (eval c X.env); pure (ForInStep.yield ok) else pure (ForInStep.yield r)) (TP X pins σ Q) X.xe s
def tYes : TT := fun _ H Q => Q true H
theorem pts_nil {X : Cx} : PTs X [] tYes := fun pins s σ H Q I h => wpAny_tests_nil ⟨H, I, h⟩
theorem pts_one {X : Cx} {c : Expr} {t : TT} (h : PT X c t) : PTs X [c] t := fun pins s σ H Q I hw => wpAny_tests_one (h pins s σ H Q I hw)
def cxComp (X : Cx) (scope : Scope) (N : List Str) (C : Addr) (s : Shared) (H : Hp) (ex : List Addr) : Cx :=
  { X with N := N, s₀ := s, H₀ := H, env := compEnvC scope (closOf X.env scope.names) C X.env, outer := X.stack, stack := X.stack, ex := ex, fn := fun _ => false, pn := [], xe := fun _ _ => False }
def pick (σ : St) (j : Nat) : Option V := (σ[j]?).getD none
def CompG (n0 : Nat) (fr : List Nat) (g : TG) (tt : TT) (te : TE) (σ : St) (Q : VK) (J : It) (H1 : Hp) : Prop := ∃ W : Nat → Nat → St → List V → Hp → Prop,
  (∃ m, W 0 m (List.replicate n0 none ++ fr.map (pick σ)) [] H1) ∧ ∀ i m τ acc H, W i m τ acc H →
    (J.stop i H ∧ ∀ D, H D = none → Q (.ref D) (upd H D (.lst acc))) ∨
    (J.go i H ∧ acc.length < sizeLine ∧ ∀ x H', J.yld i H x H' → g x τ H' fun τ1 H1 => tt τ1 H1 fun b H2 =>
      if b = true then te τ1 H2 fun y H3 => ∃ m', m' < m ∧ W (i + 1) m' τ1 (acc ++ [y]) H3 else ∃ m', m' < m ∧ W (i + 1) m' τ1 acc H2)
def tComp (n0 : Nat) (fr : List Nat) (wi : TI) (g : TG) (tt : TT) (te : TE) : TE := fun σ H Q => wi σ H (CompG n0 fr g tt te σ Q)
theorem relabel_cell {env : Env} : ∀ {names : List (Str × NameKind)} {y : Str}, (∀ z ∈ names, z.2 ≠ .cell) →
    ((names.map fun (n, k) => if (k == NameKind.free && env.scope.kind == .function && env.kindOf n == some .cell) then (n, NameKind.cell) else (n, k)).lookup y = some .cell ∨
     (names.map fun (n, k) => if (k == NameKind.free && env.scope.kind == .function && env.kindOf n == some .cell) then (n, NameKind.cell) else (n, k)).lookup y = some .free) → (y, NameKind.free) ∈ names
  | [], y, _, h => by simp at h
  | (n, k) :: r, y, hc, h => by
    have ih := @relabel_cell env r y fun z hz => hc z (List.mem_cons_of_mem _ hz)
    by_cases hy : y = n
    · subst hy
      by_cases hk : k = .free
      · subst hk; exact List.mem_cons_self
      · have hkb : (k == NameKind.free) = false := by simpa using hk
        simp only [List.map_cons, hkb, Bool.false_and, Bool.false_eq_true, if_false, List.lookup_cons_self, Option.some.injEq] at h
        rcases h with h | h
        · exact absurd h (hc _ List.mem_cons_self)
        · exact absurd h hk
    · have hyb : (y == n) = false := by simpa using hy
      refine List.mem_cons_of_mem _ (ih ?_)
      simp only [List.map_cons] at h
      by_cases hcnd : (k == NameKind.free && env.scope.kind == .function && env.kindOf n == some .cell) = true
      · rw [if_pos hcnd] at h
        simp only [List.lookup_cons, hyb] at h
        exact h
      · rw [if_neg hcnd] at h
        simp only [List.lookup_cons, hyb] at h
        exact h
theorem lookup_relabel_free {env : Env} : ∀ {names : List (Str × NameKind)} {y : Str}, names.lookup y = some .free →
    (names.map fun (n, k) => if (k == NameKind.free && env.scope.kind == .function && env.kindOf n == some .cell) then (n, NameKind.cell) else (n, k)).lookup y = some .cell ∨
     (names.map fun (n, k) => if (k == NameKind.free && env.scope.kind == .function && env.kindOf n == some .cell) then (n, NameKind.cell) else (n, k)).lookup y = some .free
  | [], y, h => by simp at h
  | (n, k) :: r, y, h => by
    have ih := @lookup_relabel_free env r y
    simp only [List.map_cons]
    cases hy : y == n with
    | true =>
      simp only [List.lookup_cons, hy] at h
      cases h
      by_cases hcnd : (NameKind.free == NameKind.free && env.scope.kind == .function && env.kindOf n == some .cell) = true
      · rw [if_pos hcnd]; simp [List.lookup_cons, hy]
      · rw [if_neg hcnd]; simp [List.lookup_cons, hy]
    | false =>
      simp only [List.lookup_cons, hy] at h
      by_cases hcnd : (k == NameKind.free && env.scope.kind == .function && env.kindOf n == some .cell) = true
      · rw [if_pos hcnd]; simp only [List.lookup_cons, hy]; exact ih h
      · rw [if_neg hcnd]; simp only [List.lookup_cons, hy]; exact ih h
def FrOk (X : Cx) (scope : Scope) : List (Str × Nat) → Prop
  | [] => True
  | p :: r => X.N[p.2]? = some p.1 ∧ scope.names.lookup p.1 = some .free ∧ FrOk X scope r
theorem FrOk.all {X : Cx} {scope : Scope} : ∀ {fr : List (Str × Nat)}, FrOk X scope fr → ∀ p ∈ fr, X.N[p.2]? = some p.1 ∧ scope.names.lookup p.1 = some .free
  | p :: r, h, q, hq => by
    rcases List.mem_cons.mp hq with e | e
    · subst e; exact ⟨h.1, h.2.1⟩
    · exact FrOk.all h.2.2 q e
section
variable {X : Cx}
theorem pe_comp {tg iter elt : Expr} {ifs : List Expr} {scope : Scope} {wi : TI} {g : TG} {tt : TT} {te : TE} {own : List Str} {fr : List (Str × Nat)} {pos : Pos}
    (hc : X.calm = true) (hi : PI X tg iter wi)
    (hk : scope.kind = .function) (hcell : ∀ y ∈ scope.names, y.2 ≠ .cell) (hnames : ∀ y ∈ scope.names, y.2 = .local → scope.names.lookup y.1 = some .local)
    (hfree : ∀ y ∈ scope.names, y.2 = .free → X.env.kindOf y.1 = some .cell ∨ X.env.kindOf y.1 = some .free) (hfr : FrOk X scope fr)
    (hg : ∀ C s H ex, PG (cxComp X scope (own ++ fr.map (·.1)) C s H ex) tg g)
    (ht : ∀ C s H ex, PTs (cxComp X scope (own ++ fr.map (·.1)) C s H ex) ifs tt)
    (he : ∀ C s H ex, PE (cxComp X scope (own ++ fr.map (·.1)) C s H ex) elt te)
    (hs : ∀ x, foldedSetIterable iter X.env x = pure x := by intro _; rfl) :
    PE X (.ListComp elt [⟨tg, iter, ifs, 0⟩] scope pos) (tComp own.length (fr.map (·.2)) wi g tt te) := by
  intro pins s σ H Q I h
  rw [eval_ListComp]
  have hcl : ∀ y c, (closOf X.env scope.names).lookup y = some c → X.env.cells.lookup y = some c := fun y c e => by
    rcases clos_some scope.names [] e with q | ⟨q, z⟩
    · simp at q
    · obtain ⟨c', e'⟩ := I.ok.has y (hfree _ q rfl)
      rw [e'] at z
      rw [e', ← z]
      rfl
  have hclos : closureFor scope X.env = pure (closOf X.env scope.names) := closureFor_of fun y hy e => I.ok.has y.1 (hfree y hy e)
  refine wpAny_comprehension_free (use := none) (cl := closOf X.env scope.names) rfl hs hclos hk hnames ?_
  refine thn (hi pins s σ H _ I h) fun v s1 h1 => thn h1 fun itv s2 h2 => ?_
  obtain ⟨it, fp, tn, J, H2, e, I2, T, st2, f2, W, ⟨m0, w0⟩, turn⟩ := h2
  subst e
  refine wpAny_newObj_type (wpAny_newFunctionEnv hcell (by intro y hy; simp at hy) (fun h₁ hns₁ hsb₁ => ?_) hk)
  dsimp only at hns₁ hsb₁ ⊢
  generalize hH2 : s2.heap.push { cls := .type "list", dict := none, data := .seq ([] : List Value).toArray } = HL at hns₁ hsb₁ ⊢
  have hC : HL.objs.size = s2.heap.objs.size + 1 := by rw [← hH2, Heap.size_push]
  generalize hCC : HL.objs.size = C at hns₁ hsb₁ hC ⊢
  have hDC : s2.heap.objs.size ≠ C := by rw [hC]; exact Nat.ne_of_lt (Nat.lt_succ_self _)
  have below : ∀ b, b < s2.heap.objs.size → b ≠ C ∧ b ≠ s2.heap.objs.size := fun b hb => ⟨by rw [hC]; exact Nat.ne_of_lt (Nat.lt_succ_of_lt hb), Nat.ne_of_lt hb⟩
  have old : ∀ b o, s2.heap.get? b = some o → h₁.get? b = some o := fun b o e => hsb₁.extBut b o (below b (Heap.lt_size e)).1 (Heap.get?_push_of_some _ (hH2 ▸ Heap.get?_push_of_some _ e))
  have eD0 : h₁.get? s2.heap.objs.size = some { cls := .type "list", data := .seq ([] : List Value).toArray } := hsb₁.extBut _ _ hDC (Heap.get?_push_of_some _ (hH2 ▸ Heap.get?_push_size _ rfl))
  have fpLt : ∀ b ∈ fp, b < s2.heap.objs.size := fun b hb => by
    obtain ⟨o, e, _⟩ := T.obj _ _ st2 b hb
    exact Heap.lt_size e
  generalize hD : s2.heap.objs.size = D at hDC below eD0 fpLt hC
  have hDfp : D ∉ fp := fun z => Nat.lt_irrefl _ (fpLt D z)
  have okY : (cxComp X scope (own ++ fr.map (·.1)) C s2 H2 fp).Ok := by
    refine ⟨I2.ok.mod, hk, I2.ok.glob, I2.ok.blt, by show s2.heap.objs.size ≤ C; omega, fun x y c e1 e2 => I2.ok.inj x y c (hcl x c e1) (hcl y c e2), fun y hy => ?_, fun x c z _ => (by cases z), I2.ok.hd, I2.ok.frames, .inl rfl, fun b hb => ⟨(below b (fpLt b hb)).1, fun y c e => ?_⟩, I2.bs,
      Nat.le_trans I2.ok.bsz I2.sz, fun b o e hb => ?_, fun b hb z => ?_, I2.stack, I2.stkFree⟩
    · exact clos_has scope.names [] (.inl (relabel_cell (env := X.env) hcell hy))
    · exact (f2 b hb).2.2.2.2.1 y c (hcl y c e)
    · rcases (f2 b hb).2.2.2.1 with z | z
      · exact I2.ok.noex b o e z
      · exact absurd (Nat.lt_of_lt_of_le (Heap.lt_size e) (Nat.le_trans I2.ok.bsz z)) (Nat.lt_irrefl _)
    · rcases List.mem_cons.mp (I2.stkSub b z) with q | q
      · exact (f2 b hb).2.1 q
      · exact (f2 b hb).2.2.1 q
  have cellLt : ∀ y c, X.env.cells.lookup y = some c → c < D := fun y c e => by
    obtain ⟨v, z⟩ := I2.cell y c e
    exact Nat.lt_of_lt_of_le z.lt (Nat.le_of_eq hD)
  have stkLt : ∀ b ∈ frs X.stack, b < D := fun b hb => by
    rcases List.mem_cons.mp (I2.stkSub b hb) with q | q
    · rw [q]; exact Nat.lt_of_lt_of_le I2.lt (Nat.le_of_eq hD)
    · obtain ⟨_, o, ho, _⟩ := I2.ok.funs.mem q
      exact Nat.lt_of_lt_of_le (Heap.lt_size ho) (Nat.le_trans I2.sz (Nat.le_of_eq hD))
  have fresh : ∀ a, D ≤ a → H2 a = none := fun a ha => I2.hok.fresh (Nat.le_trans (Nat.le_of_eq hD) ha)
  have IY : Inv (cxComp X scope (own ++ fr.map (·.1)) C s2 H2 fp) [] (List.replicate own.length none ++ (fr.map (·.2)).map (pick σ)) H2 { s2 with heap := h₁, toks := s2.toks + ([] : List (Str × Value)).length } := by
    refine ⟨okY, rfl, I2.bare, Un.kept old, ⟨_, hns₁, fun i y v e1 e2 e3 => ?_⟩, fun y c e => ?_, fresh C (by omega), fun y c e => I2.freeC y c (hcl y c e), fun p hp => absurd (show p ∈ ([] : List (Addr × Obj)) from hp) (by simp), I2.hok.kept old, ?_⟩
    · have e1 : (own ++ fr.map (·.1))[i]? = some y := e1
      have hi' : own.length ≤ i := by
        by_cases hlt : i < own.length
        · rw [List.getElem?_append_left (by simpa using hlt), List.getElem?_replicate, if_pos hlt] at e2
          cases e2
        · omega
      rw [List.getElem?_append_right hi', List.getElem?_map] at e1
      rw [List.getElem?_append_right (by simpa using hi'), List.getElem?_map, List.getElem?_map, List.length_replicate] at e2
      cases hp : fr[i - own.length]? with
      | none => rw [hp] at e1; cases e1
      | some p =>
        rw [hp] at e1 e2
        have ey : p.1 = y := Option.some.inj e1
        have ev : pick σ p.2 = some v := Option.some.inj e2
        obtain ⟨a1, a3⟩ := hfr.all p (List.mem_of_getElem? hp)
        have es : σ[p.2]? = some (some v) := by
          unfold pick at ev
          cases q : σ[p.2]? with
          | none => rw [q] at ev; cases ev
          | some z => rw [q] at ev; exact congrArg some ev
        have hfk : X.env.kindOf p.1 = some .cell ∨ X.env.kindOf p.1 = some .free := hfree (p.1, .free) (PySem.mem_of_lookup a3) rfl
        obtain ⟨m, hn, hl⟩ := I2.loc
        obtain ⟨u, r, l⟩ := hl p.2 p.1 v a1 es (hfk.elim (fun z => .inr (.inl z)) fun z => .inr (.inr z))
        refine ⟨u, r, .inr ?_⟩
        rcases l with ⟨z, _⟩ | ⟨_, c, ec, zc⟩
        · rcases hfk with q | q <;> rw [z] at q <;> cases q
        · obtain ⟨c', ec'⟩ := clos_has (env := X.env) (y := p.1) scope.names [] (.inl (PySem.mem_of_lookup a3))
          have : c' = c := Option.some.inj ((hcl _ _ ec').symm.trans ec)
          subst this
          rw [← ey]
          obtain ⟨o, ho, hdd⟩ := zc
          exact ⟨lookup_relabel_free (env := X.env) a3, c', ec', o, old _ o ho, hdd⟩
    · obtain ⟨v, z⟩ := I2.cell y c (hcl y c e)
      obtain ⟨o, ho, hdd⟩ := z
      exact ⟨v, o, old _ o ho, hdd⟩
    · show (List.replicate own.length (none : Option V) ++ (fr.map (fun p => p.2)).map (pick σ)).length = (own ++ fr.map (fun p => p.1)).length
      simp
  have fpY : ∀ {H3 : Hp} {ob : Obj}, (∀ b ∈ fp, H3 b = none) → ∀ b ∈ fp, FpOk (cxComp X scope (own ++ fr.map (·.1)) C s2 H2 fp) [(D, ob)] H3 b := fun {H3 ob} hn b hb =>
    ⟨hn b hb, (below b (fpLt b hb)).1, fun z => okY.exfs b hb z, .inl hb, fun y c e => (okY.exf b hb).2 y c e, fun p hp => by
      have e : p = (D, ob) := by simpa [cxComp] using hp
      rw [e]
      show D ≠ b
      exact fun z => hDfp (z ▸ hb)⟩
  have noC : ∀ (xs : Array Value) (k : Nat) (v : Option Value), ({ cls := .type "list", data := .seq xs k } : Obj).data ≠ .cell v := fun xs k v z => by cases z
  have loop : ∀ s₃ : Shared, s₃ = { s2 with heap := h₁, toks := s2.toks + ([] : List (Str × Value)).length } →
      codeAny (model X.prog X.w) X.A (.compLoop (.ListComp elt [⟨tg, iter, ifs, 0⟩] scope pos) 0 (.ref it) (.ref D) (compEnvC scope (closOf X.env scope.names) C X.env))
        (compPost (model X.prog X.w) X.A X.xe none (EP X pins σ Q) (.ref D) C) s₃ := by
    rintro s₃ rfl
    refine compLoop_gen (fun n s' => ∃ (i : Nat) (τ : St) (acc : List V) (H' : Hp) (its : List Value) (k : Nat), Inv (cxComp X scope (own ++ fr.map (·.1)) C s2 H2 fp) [] τ H' s' ∧ tn i s'.heap ∧ (∀ b ∈ fp, H' b = none) ∧ H' D = none ∧ Vals acc its ∧
      s'.heap.get? D = some { cls := .type "list", data := .seq its.toArray k } ∧ acc.length ≤ sizeLine ∧ W i n τ acc H') ?_ m0
      ⟨0, _, [], H2, [], 0, IY, T.keep _ _ _ st2 fun b _ o e => old b o e, fun b hb => (f2 b hb).1, fresh D (Nat.le_refl _), .nil, eD0, Nat.zero_le _, w0⟩
    rintro n s3 ⟨i, τ, acc, H3, its, k, I3, st3, fr3, fD, rv, eD, hz, w3⟩
    have I3' : Inv (cxComp X scope (own ++ fr.map (·.1)) C s2 H2 fp) [(D, { cls := .type "list", data := .seq its.toArray k })] τ H3 s3 := I3.pins_of fun p hp => by
      have e : p = (D, { cls := .type "list", data := .seq its.toArray k }) := by simpa using hp
      subst e
      exact ⟨eD, fD, hDC, fun z => Nat.lt_irrefl _ (stkLt D z), noC _ _⟩
    rcases turn i n τ acc H3 w3 with ⟨stop, qn⟩ | ⟨go, hlt, step⟩
    · refine thn (T.done (cxComp X scope (own ++ fr.map (·.1)) C s2 H2 fp) rfl rfl rfl hc i _ s3 τ H3 (fun _ _ => False) I3' (fpY fr3) st3 stop) fun r s4 ⟨hr, I4⟩ => ?_
      subst hr
      obtain ⟨m, hn4, _⟩ := I4.loc
      obtain ⟨eD4, fD4, _⟩ := I4.pin (D, { cls := .type "list", data := .seq its.toArray k }) (List.mem_append_right _ (List.mem_singleton.mpr rfl))
      refine ⟨m, hn4, fun h' sb => ?_⟩
      have b4 : Un (frs X.stack) fp H2 H3 s2.heap s4.heap := I4.base
      have lt2 : ∀ b o, s2.heap.get? b = some o → b ≠ C ∧ b ≠ D := fun b o e => below b (Nat.lt_of_lt_of_le (Heap.lt_size e) (Nat.le_of_eq hD))
      have tr2 : ∀ b o, H2 b = some o → b ≠ D := fun b o e z => by
        have := fresh D (Nat.le_refl _)
        rw [z, this] at e
        cases e
      have un : Un (frs X.stack) fp H2 (upd H3 D (.lst acc)) s2.heap h' := by
        refine ⟨fun b o e n hb hx => (sb.2 b (lt2 b o e).1).trans (b4.keep b o e n hb hx), fun b o e n hb hx => ?_, fun b o e n hx => ?_, fun b o e hx => ?_, fun b xs e => ?_, fun b o u e => ?_, fun b ps e => ?_⟩
        · obtain ⟨sl, q⟩ := b4.slot b o e n hb hx
          exact ⟨sl, (sb.2 b (lt2 b o e).1).trans q⟩
        · rw [upd_ne (lt2 b o e).2]; exact b4.free b o e n hx
        · obtain ⟨o', q⟩ := b4.there b o e hx
          exact ⟨o', (sb.2 b (lt2 b o e).1).trans q⟩
        · rw [upd_ne (tr2 _ _ e)]; exact b4.tups b xs e
        · rw [upd_ne (tr2 _ _ e)]; exact b4.frzs b o u e
        · rw [upd_ne (tr2 _ _ e)]; exact b4.tbls b ps e
      have hok' : HOk X.prog X.w (upd H3 D (.lst acc)) h' := by
        have q : HOk X.prog X.w H3 h' := HOk.other (a := C) I4.hok I4.free fun b u hb e => (sb.2 b hb).trans e
        exact q.track fD4 ⟨hz, its, k, rv, (sb.2 D hDC).trans eD4⟩
      refine ⟨.ref D, upd H3 D (.lst acc), I2.call' (s' := { s4 with heap := h' }) (ch := fp) I4.os un hok' I4.bare fun b hb => ⟨(f2 b hb).2.2.2.1, (f2 b hb).2.1, (f2 b hb).2.2.2.2.1, (f2 b hb).2.2.2.2.2⟩, rfl, qn D fD4⟩
    · refine thn (T.item (cxComp X scope (own ++ fr.map (·.1)) C s2 H2 fp) rfl rfl rfl hc i _ s3 τ H3 (fun _ _ => False) I3' (fpY fr3) st3 go) fun r s4 ⟨u, hr, h4⟩ => ?_
      subst hr
      refine thn h4 fun _ s5 ⟨x, H5, I5, r5, y5, st5, fr5⟩ => ?_
      have I5' := I5.pinned (fpY fr5) (T.obj _ _ st5)
      refine thn (hg _ _ _ _ _ s5 τ H5 x u _ I5' r5 (step x H5 y5)) fun _ s6 ⟨τ6, H6, I6, q6⟩ => ?_
      refine thn (ht _ _ _ _ _ s6 τ6 H6 _ I6 q6) fun b s7 ⟨H7, I7, q7⟩ => ?_
      have facts : ∀ {s8 : Shared} {H8 : Hp} {τ8 : St}, Inv (cxComp X scope (own ++ fr.map (·.1)) C s2 H2 fp) ([(D, { cls := .type "list", data := .seq its.toArray k })] ++ pinsAt fp s5.heap) τ8 H8 s8 →
          tn (i + 1) s8.heap ∧ (∀ b ∈ fp, H8 b = none) ∧ H8 D = none ∧ s8.heap.get? D = some { cls := .type "list", data := .seq its.toArray k } := fun {s8 H8 τ8} I8 => by
        have hp : ∀ b ∈ fp, ∀ o, s5.heap.get? b = some o → s8.heap.get? b = some o ∧ H8 b = none := fun b hb o e => by
          have q := I8.pin (b, o) (List.mem_append_right _ (List.mem_append_right _ (mem_pinsAt hb e)))
          exact ⟨q.1, q.2.1⟩
        have qD := I8.pin (D, { cls := .type "list", data := .seq its.toArray k }) (List.mem_append_right _ (List.mem_append_left _ (List.mem_singleton.mpr rfl)))
        refine ⟨T.keep _ _ _ st5 fun b hb o e => (hp b hb o e).1, fun b hb => ?_, qD.2.1, qD.1⟩
        obtain ⟨o, e, _⟩ := T.obj _ _ st5 b hb
        exact (hp b hb o e).2
      cases b with
      | false =>
        have q7 : ∃ m', m' < n ∧ W (i + 1) m' τ6 acc H7 := q7
        obtain ⟨m', hm, w7⟩ := q7
        obtain ⟨z1, z2, z3, z4⟩ := facts I7
        exact ⟨m', hm, i + 1, τ6, acc, H7, its, k, I7.pins_of fun p hp => absurd hp (by simp), z1, z2, z3, rv, z4, hz, w7⟩
      | true =>
        refine thn (he _ _ _ _ _ s7 τ6 H7 _ I7 q7) fun u8 s8 ⟨y, H8, I8, r8, m', hm, w8⟩ => ?_
        obtain ⟨z1, z2, z3, z4⟩ := facts I8
        have hl := rv.length
        refine call_meets F.slot_list_append ⟨_, z4, rfl⟩ F.entry_list_append (F.args_list_append_2 _ _) (PySem.list_append D its.toArray k u8 (by rw [List.size_toArray]; omega)) ⟨z4, ?_⟩
        have z5 := PySem.IsL.update z4 (·.push u8)
        have z6 : its.toArray.push u8 = (its ++ [u8]).toArray := by simp
        rw [z6] at z5
        have kk : ∀ b o, b ≠ D → s8.heap.get? b = some o → (s8.heap.update D (Obj.mapSeq (·.push u8))).get? b = some o := fun b o hb e => (Heap.get?_update_other s8.heap (Obj.mapSeq (·.push u8)) (Ne.symm hb)).trans e
        have I8' : Inv (cxComp X scope (own ++ fr.map (·.1)) C s2 H2 fp) [] τ6 H8 s8 := I8.pins_of fun p hp => absurd hp (by simp)
        refine ⟨m', hm, i + 1, τ6, acc ++ [y], H8, its ++ [u8], _, I8'.turned (it := D) kk z3 hDC (.inr (by show s2.heap.objs.size ≤ D; omega)) (fun y c e => Nat.ne_of_lt (cellLt y c (hcl y c e))) (fun p hp => absurd (show p ∈ ([] : List (Addr × Obj)) from hp) (by simp)), ?_, z2, z3,
          rv.append (.cons r8 .nil), z5, ?_, w8⟩
        · exact T.keep _ _ _ z1 fun b hb o e => kk b o (fun z => hDfp (z ▸ hb)) e
        · rw [List.length_append, List.length_singleton]; omega
  exact codeAny_compStart_list (loop _ rfl) (T.self X.A 0 _ _ _ (T.keep _ _ _ st2 fun b _ o e => old b o e) (loop _ rfl))
end
section
variable {X : Cx}
theorem pe_comp1 {iter elt : Expr} {ifs : List Expr} {scope osc : Scope} {wi : TI} {tt : TT} {te : TE} {x : Str} {px : Pos} {pos : Pos} (fr : List (Str × Nat))
    (hc : X.calm = true) (hi : PI X (.Name x px) iter wi) (ho : X.env.scope = osc)
    (hk : scope.kind = .function) (hcell : ∀ y ∈ scope.names, y.2 ≠ .cell) (hnames : ∀ y ∈ scope.names, y.2 = .local → scope.names.lookup y.1 = some .local)
    (hfree : ∀ y ∈ scope.names, y.2 = .free → osc.names.lookup y.1 = some .cell ∨ osc.names.lookup y.1 = some .free) (hfr : FrOk X scope fr)
    (hx : scope.names.lookup x = some .local) (hnd : (x :: fr.map (·.1)).Nodup)
    (ht : ∀ C s H ex, PTs (cxComp X scope (x :: fr.map (·.1)) C s H ex) ifs tt)
    (he : ∀ C s H ex, PE (cxComp X scope (x :: fr.map (·.1)) C s H ex) elt te)
    (hs : ∀ x, foldedSetIterable iter X.env x = pure x := by intro _; rfl) :
    PE X (.ListComp elt [⟨.Name x px, iter, ifs, 0⟩] scope pos) (tComp 1 (fr.map (·.2)) wi (gName 0) tt te) :=
  pe_comp (own := [x]) hc hi hk hcell hnames (fun y hy e => by show X.env.scope.names.lookup y.1 = _ ∨ X.env.scope.names.lookup y.1 = _; rw [ho]; exact hfree y hy e) hfr
    (fun C s H ex => pg_name (i := 0) hnd rfl (.inl (lookup_relabel_local hx)) (.inr (lookup_relabel_local hx))) ht he hs
end
section
variable {X : Cx} {tg : Expr}
end
section
variable {X : Cx}
theorem call_isinst {K : PySem.W.Frag} (hK : X.K = K := by rfl) : CallR X (.builtin "isinstance") (fun xs H Q => ∃ x n t b, xs = [x, .ty n] ∧ TyOf K H x t ∧ PySem.W.kitOne K t (.type n) = some b ∧ Q (.bl b) H) := by
  subst hK
  intro pins s σ H xs us Q I r h
  obtain ⟨x, n, t, b, rfl, ty, e, q⟩ := h
  obtain ⟨u, w', rfl, rx, rn⟩ := vals2 r
  cases (show w' = Value.type n from rn)
  exact isinst_ok I rx ty e fun tk => ⟨.bl b, H, I.tok _, rfl, q⟩
end
mutual
inductive Dv (K : PySem.W.Frag) (H : Hp) : V → PyData → Prop where
  | non : Dv K H .non .none
  | bl (b : Bool) : Dv K H (.bl b) (.bool b)
  | int (i : Int) : Dv K H (.int i) (.int i)
  | str (x : Str) : Dv K H (.str x) (.str x)
  | lst {a : Addr} {xs : List V} {ds : List PyData} : SqL K H a xs → Dvs K H xs ds → Dv K H (.ref a) (.list ds)
  | tup {a : Addr} {xs : List V} {ds : List PyData} : SqT K H a xs → Dvs K H xs ds → Dv K H (.ref a) (.tuple ds)
inductive Dvs (K : PySem.W.Frag) (H : Hp) : List V → List PyData → Prop where
  | nil : Dvs K H [] []
  | cons {x : V} {d : PyData} {xs : List V} {ds : List PyData} : Dv K H x d → Dvs K H xs ds → Dvs K H (x :: xs) (d :: ds)
end
section
variable {X : Cx} {pins : List (Addr × Obj)} {σ : St} {H : Hp} {s : Shared}
mutual
theorem Dv.reads (I : Inv X pins σ H s) : ∀ {x : V} {d : PyData} {u : Value}, Dv X.K H x d → RelV x u → ∃ as, Reads s.heap u d as
  | _, _, _, .non, r => by cases (show _ = Value.none from r); exact ⟨_, .none⟩
  | _, _, _, .bl b, r => by cases (show _ = Value.bool b from r); exact ⟨_, .bool b⟩
  | _, _, _, .int i, r => by obtain ⟨t, rfl⟩ := r; exact ⟨_, .int i t⟩
  | _, _, _, .str x, r => by obtain ⟨t, rfl⟩ := r; exact ⟨_, .str x t⟩
  | _, _, _, .lst hq ds, r => by
    cases r
    obtain ⟨its, rv, pl, _⟩ := I.list hq
    obtain ⟨as, q⟩ := Dvs.reads I ds rv
    obtain ⟨o, e, c, n, d⟩ := pl.isList
    exact ⟨_, .list e c d (by simpa using q)⟩
  | _, _, _, .tup hq ds, r => by
    cases r
    obtain ⟨its, rv, pl, _⟩ := I.tuple hq
    obtain ⟨as, q⟩ := Dvs.reads I ds rv
    obtain ⟨o, e, c, n, d⟩ := pl
    exact ⟨_, .tuple e c d (by simpa using q)⟩
theorem Dvs.reads (I : Inv X pins σ H s) : ∀ {xs : List V} {ds : List PyData} {us : List Value}, Dvs X.K H xs ds → Vals xs us → ∃ as, ReadsAll s.heap us ds as
  | _, _, _, .nil, r => by cases r; exact ⟨_, .nil⟩
  | _, _, _, .cons d ds, r => by
    cases r with
    | cons r1 r2 =>
      obtain ⟨as, q⟩ := Dv.reads I d r1
      obtain ⟨bs, p⟩ := Dvs.reads I ds r2
      exact ⟨_, .cons q p⟩
end
end
section
variable {X : Cx}
def rEqD (K : PySem.W.Frag) : R2 := fun x y H Q => ∃ d e, Dv K H x d ∧ Dv K H y e ∧ SeqAt.shaped d = true ∧ SeqAt.shaped e = true ∧ Q (.bl (PyData.eqv d e)) H
def rNeD (K : PySem.W.Frag) : R2 := fun x y H Q => ∃ d e, Dv K H x d ∧ Dv K H y e ∧ SeqAt.shaped d = true ∧ SeqAt.shaped e = true ∧ Q (.bl (!PyData.eqv d e)) H
theorem op_eqD {K : PySem.W.Frag} (hu : X.A.units + 64 < cLine) (hK : X.K = K := by rfl) : OpR X (compareOp .Eq) (rEqD K) := by
  subst hK
  intro pins s σ H x y v u Q I rx ry h
  obtain ⟨d, e, hd, he, sd, se, q⟩ := h
  obtain ⟨as, r1⟩ := hd.reads I rx
  obtain ⟨bs, r2⟩ := he.reads I ry
  exact eq_dataH r1 r2 sd se hu ⟨.bl _, H, I, rfl, q⟩
theorem op_neD {K : PySem.W.Frag} (hu : X.A.units + 64 < cLine) (hK : X.K = K := by rfl) : OpR X (compareOp .NotEq) (rNeD K) := by
  subst hK
  intro pins s σ H x y v u Q I rx ry h
  obtain ⟨d, e, hd, he, sd, se, q⟩ := h
  obtain ⟨as, r1⟩ := hd.reads I rx
  obtain ⟨bs, r2⟩ := he.reads I ry
  exact ne_dataH r1 r2 sd se hu ⟨.bl _, H, I, rfl, q⟩
end
section
variable {X : Cx}
def rEqNil (K : PySem.W.Frag) : R2 := fun x y H Q => ∃ a b xs, x = .ref a ∧ y = .ref b ∧ SqL K H a xs ∧ SqL K H b [] ∧ Q (.bl xs.isEmpty) H
theorem op_eqNil {K : PySem.W.Frag} (hu : X.A.units < cLine) (hK : X.K = K := by rfl) : OpR X (compareOp .Eq) (rEqNil K) := by
  subst hK
  intro pins s σ H x y v u Q I rx ry h
  obtain ⟨a, b, xs, rfl, rfl, ha, hb, q⟩ := h
  cases rx
  cases ry
  obtain ⟨its, r1, p1, _⟩ := I.list ha
  obtain ⟨its2, r2, p2, _⟩ := I.list hb
  cases r2
  have hl := r1.length
  cases xs with
  | nil =>
    cases r1
    exact SeqAt.eq_listAt (e := fun _ => true) p1.isList p2.isList rfl hu (fun j h1 _ => absurd h1 (by simp)) ⟨.bl true, H, I, rfl, q⟩
  | cons x r =>
    refine SeqAt.eq_list_lengthsAt p1.isList p2.isList ?_ hu ⟨.bl false, H, I, rfl, q⟩
    rw [List.size_toArray, ← hl]
    rfl
end
theorem atI_mod {α : Type} (xs : List α) (n : Int) (hn : (xs.length : Int) = n) (h0 : 0 < n) (c : Int) : ∃ v, atI xs (c % n) = some v ∧ v ∈ xs := by
  have h1 : 0 ≤ c % n := Int.emod_nonneg _ (by omega)
  have h2 : c % n < n := Int.emod_lt_of_pos _ h0
  obtain ⟨j, hj⟩ := Int.eq_ofNat_of_zero_le h1
  have hlt : j < xs.length := by omega
  refine ⟨xs[j], ?_, List.getElem_mem hlt⟩
  rw [hj]
  exact atI_nat (List.getElem?_eq_getElem hlt)
theorem iteB {c : Bool} {A B : Prop} (h1 : c = true → A) (h2 : c = false → B) : if c = true then A else B := by
  cases c with
  | true => exact iteT (h1 rfl)
  | false => exact iteF (h2 rfl)
theorem Same.upd {H H' : Hp} {a : Addr} {o : HO} (e : Same H H') (h : H' a = none) : Same H (upd H' a o) := fun b u q => by
  rw [upd_ne (ne_of_none (e b u q) h)]
  exact e b u q
section
variable {X : Cx} {K : PySem.W.Frag}
theorem ix_listK (hK : X.K = K := by rfl) : IxR X (rIxL K) := by subst hK; exact ix_list
theorem ix_tupK (hK : X.K = K := by rfl) : IxR X (rIxT K) := by subst hK; exact ix_tup
theorem sl_listK (hK : X.K = K := by rfl) : SlR X (rSlL K) := by subst hK; exact sl_list
theorem sl_tupK (hK : X.K = K := by rfl) : SlR X (rSlT K) := by subst hK; exact sl_tup
theorem op_catTK (hK : X.K = K := by rfl) : OpR X (binaryOp .Add) (rCatT K) := by subst hK; exact op_catT
theorem call_len_seqK (hK : X.K = K := by rfl) : CallR X (.builtin "len") (fun xs H Q => ∃ p ys, xs = [.ref p] ∧ (SqL K H p ys ∨ SqT K H p ys) ∧ Q (.int ys.length) H) := by subst hK; exact call_len_seq
theorem call_list_ofK (hK : X.K = K := by rfl) : CallR X (.type "list") (fun xs H Q => ∃ p ys, xs = [.ref p] ∧ (SqL K H p ys ∨ SqT K H p ys) ∧ ∀ l, H l = none → Q (.ref l) (upd H l (.lst ys))) := by subst hK; exact call_list_of
theorem pi_listK {tg l : Expr} {tl : TE} (hl : PE X l tl) (hK : X.K = K := by rfl) : PI X tg l (iList K tl) := by subst hK; exact pi_list hl
theorem pi_tupK {tg l : Expr} {tl : TE} (hl : PE X l tl) (hK : X.K = K := by rfl) : PI X tg l (iTup K tl) := by subst hK; exact pi_tup hl
theorem pe_bmK {o e : Expr} {es : List Expr} {to : TE} {t : TA} {name : Str} {apos cpos : Pos} {T id : String} {r : V → List V → Hp → VK → Prop} (pa : PlainAttrs T) (slot : Slot T name id) (hty : typeOf (.builtin id) = pure (.type "method_descriptor")) (hm : MtR X id r) (ho : PE X o to) (ha : PA X (e :: es) t)
    (hK : X.K = K := by rfl) (hbase : attributeBase o name X.env (eval o X.env) = eval o X.env := by rfl)
    (hfew : ((backTo cpos (starEach (e :: es) X.env)).all (fun x => !x.1) && (backToKw cpos (keywordEach [] X.env)).all (fun x => x.1.isSome)
      && decide ((e :: es).length + ([] : List Keyword).length + (if ([] : List Keyword).isEmpty then 0 else 1) < 30)) = true := by rfl)
    (hline : (apos.endLine == cpos.line) = true := by rfl) (hs : starEach (e :: es) X.env = (false, eval e X.env) :: starEach es X.env := by rfl) (hplain : (backTo cpos (starEach es X.env)).any (·.1) = false := by rfl) :
    PE X (.Call (.Attribute o name apos) (e :: es) [] cpos) (tBM K T r to t) := by
  subst hK; exact pe_bm pa slot hty hm ho ha hbase hfew hline hs hplain
end
section
variable {X : Cx} {K : PySem.W.Frag}
end
end L2
namespace Rev
open PySem PySem.Builtin PySem.Builtin.Str PySem.Builtin.Int
section
variable {prog : Program} {w : World} {A : Around} {R : Result → Shared → Prop} {I : Addr} {fp wr : List Addr} {G : Array GenState → Array GenState → Prop} {n : Nat} {P : Nat → Value → Prop} {St : Nat → Shared → Prop} {Live : Shared → Prop}
end
section
variable {prog : Program} {w : World} {A : Around} {E : Value → Shared → Prop} {s : Shared}
end
section
variable {prog : Program} {w : World} {A : Around} {E : Value → Shared → Prop} {s : Shared} {I : Addr} {fp wr : List Addr} {G : Array GenState → Array GenState → Prop} {n : Nat} {P : Nat → Value → Prop} {St : Nat → Shared → Prop} {Live : Shared → Prop}
end
end Rev
namespace Rev
open PySem PySem.Builtin PySem.Builtin.Str PySem.Builtin.Int
section
variable {prog : Program} {w : World} {A : Around} {E : Value → Shared → Prop} {s : Shared} {x : Str} {t : Tok} {Q : Value → Shared → Prop} {I : Addr} {fp wr : List Addr} {G : Array GenState → Array GenState → Prop} {n : Nat} {P : Nat → Value → Prop} {St : Nat → Shared → Prop} {Live : Shared → Prop}
end
end Rev
namespace L2
open PySem PySem.Spec PyProof.Rows
section
variable {X : Cx} {K : PySem.W.Frag}
end
end L2
namespace Att
open PySem PySem.W PySem.Calls PyProof.Rows
end Att
namespace L2
open PySem PySem.Spec PyProof.Rows
end L2
namespace L2
open PySem PySem.Spec PyProof.Rows
section
variable {X : Cx} {K : PySem.W.Frag}
def rNeNil (K : PySem.W.Frag) : R2 := fun x y H Q => ∃ a b xs, x = .ref a ∧ y = .ref b ∧ SqL K H a xs ∧ SqL K H b [] ∧ Q (.bl (!xs.isEmpty)) H
theorem op_neNil (hu : X.A.units < cLine) (hK : X.K = K := by rfl) : OpR X (compareOp .NotEq) (rNeNil K) := by
  subst hK
  intro pins s σ H x y v u Q I rx ry h
  obtain ⟨a, b, xs, rfl, rfl, ha, hb, q⟩ := h
  cases rx
  cases ry
  obtain ⟨its, r1, p1, _⟩ := I.list ha
  obtain ⟨its2, r2, p2, _⟩ := I.list hb
  cases r2
  have hl := r1.length
  cases xs with
  | nil =>
    cases r1
    exact SeqAt.RcNeAt.lists (e := fun _ => true) p1.isList p2.isList rfl hu (fun j h1 _ => absurd h1 (by simp)) _ _ _ _ ⟨.bl false, H, I, rfl, q⟩
  | cons x r =>
    refine SeqAt.RcNeAt.lists_lengths p1.isList p2.isList ?_ hu _ _ _ _ ⟨.bl true, H, I, rfl, q⟩
    rw [List.size_toArray, ← hl]
    rfl
end
end L2
namespace Fig
open PySem
end Fig
namespace L2
end L2
namespace L2
open PySem PySem.Spec PyProof.Rows
section
variable {X : Cx} {K : PySem.W.Frag} {w : World} {o i : Expr} {pos : Pos} {td ty : TE}
end
end L2
namespace L2
open PySem PySem.Spec PyProof.Rows
inductive F2 (Pr : V → V → Prop) : List V → List V → Prop where
  | nil : F2 Pr [] []
  | cons {x y : V} {xs ys : List V} (h : Pr x y) (t : F2 Pr xs ys) : F2 Pr (x :: xs) (y :: ys)
theorem F2.snoc {Pr : V → V → Prop} : ∀ {xs ys : List V} {x y : V}, F2 Pr xs ys → Pr x y → F2 Pr (xs ++ [x]) (ys ++ [y])
  | [], _, _, _, h, p => by cases h; exact .cons p .nil
  | a :: xs, _, _, _, h, p => by
    cases h with
    | cons q t => exact .cons q (t.snoc p)
theorem F2.len {Pr : V → V → Prop} : ∀ {xs ys : List V}, F2 Pr xs ys → xs.length = ys.length
  | [], _, h => by cases h; rfl
  | a :: xs, _, h => by
    cases h with
    | cons q t => simp [t.len]
theorem F2.map {f : V → V} : ∀ {xs ys : List V}, F2 (fun x y => y = f x) xs ys → ys = xs.map f
  | [], _, h => by cases h; rfl
  | a :: xs, _, h => by
    cases h with
    | cons q t => rw [q, t.map]; rfl
theorem Room.u1 {k : Nat} {A : Around} (r : Room k A) : A.units + 1 < cLine := by have := r.un; omega
section
variable {X : Cx} {tg : Expr}
end
section
variable {X : Cx}
end
end L2
namespace L2
open PySem PySem.Spec PyProof.Rows
section
variable {X : Cx}
theorem ps_compU {tg iter elt : Expr} {ifs : List Expr} {scope : Scope} {wi : TI} {g : TG} {tt : TT} {te : TE} {own : List Str} {fr : List (Str × Nat)} {pos spos py : Pos} {iy : Nat} {y : Str}
    (hN : X.N.Nodup) (hiy : X.N[iy]? = some y) (hxy : Loc X.env.scope y) (hfy : X.fn y = true ∨ X.env.scope.names.lookup y = some .local)
    (hc : X.calm = true) (hi : PI X tg iter wi)
    (hk : scope.kind = .function) (hcell : ∀ y ∈ scope.names, y.2 ≠ .cell) (hnames : ∀ y ∈ scope.names, y.2 = .local → scope.names.lookup y.1 = some .local)
    (hfree : ∀ y ∈ scope.names, y.2 = .free → X.env.kindOf y.1 = some .cell ∨ X.env.kindOf y.1 = some .free) (hfr : FrOk X scope fr)
    (hg : ∀ C s H ex, PG (cxComp X scope (own ++ fr.map (·.1)) C s H ex) tg g)
    (ht : ∀ C s H ex, PTs (cxComp X scope (own ++ fr.map (·.1)) C s H ex) ifs tt)
    (he : ∀ C s H ex, PE (cxComp X scope (own ++ fr.map (·.1)) C s H ex) elt te)
    (hsw : swapsWith (.ListComp elt [⟨tg, iter, ifs, 0⟩] scope pos) (some (.Name y py)) spos.line X.env = pure true)
    (hs : ∀ x, foldedSetIterable iter X.env x = pure x := by intro _; rfl) :
    PS X (.Assign [.Name y py] (.ListComp elt [⟨tg, iter, ifs, 0⟩] scope pos) spos) (tAsg (tComp own.length (fr.map (·.2)) wi g tt te) (gName iy)) := by
  intro pins s σ H D0 I h
  let Q : VK := fun v H1 => D0.nx (σ.set iy (some v)) H1
  have h : tComp own.length (fr.map (·.2)) wi g tt te σ H Q := h
  rw [exec_Assign_Name_used _ _ _ _ hsw]
  refine wpAny_bind (wpAny_standAt (wpAny_bind ?_))
  show wpAny _ X.A (do let _ ← comprehension (.ListComp elt [⟨tg, iter, ifs, 0⟩] scope pos) scope X.env _ (newList []) false (eval iter X.env) (some (assign (.Name y py) X.env))) _ _ s
  have hcl : ∀ y c, (closOf X.env scope.names).lookup y = some c → X.env.cells.lookup y = some c := fun y c e => by
    rcases clos_some scope.names [] e with q | ⟨q, z⟩
    · simp at q
    · obtain ⟨c', e'⟩ := I.ok.has y (hfree _ q rfl)
      rw [e'] at z
      rw [e', ← z]
      rfl
  have hclos : closureFor scope X.env = pure (closOf X.env scope.names) := closureFor_of fun y hy e => I.ok.has y.1 (hfree y hy e)
  refine wpAny_bind (wpAny_mono (wpAny_comprehension_free (use := some (assign (.Name y py) X.env)) (cl := closOf X.env scope.names) (Q := fun _ s' => SP X pins D0 .next s') rfl hs hclos hk hnames ?_) (fun _ s' hq => wpAny_pure (wpAny_pure hq)) fun _ _ e => e)
  refine thn (hi pins s σ H _ I h) fun v s1 h1 => thn h1 fun itv s2 h2 => ?_
  obtain ⟨it, fp, tn, J, H2, e, I2, T, st2, f2, W, ⟨m0, w0⟩, turn⟩ := h2
  subst e
  refine wpAny_newObj_type (wpAny_newFunctionEnv hcell (by intro y hy; simp at hy) (fun h₁ hns₁ hsb₁ => ?_) hk)
  dsimp only at hns₁ hsb₁ ⊢
  generalize hH2 : s2.heap.push { cls := .type "list", dict := none, data := .seq ([] : List Value).toArray } = HL at hns₁ hsb₁ ⊢
  have hC : HL.objs.size = s2.heap.objs.size + 1 := by rw [← hH2, Heap.size_push]
  generalize hCC : HL.objs.size = C at hns₁ hsb₁ hC ⊢
  have hDC : s2.heap.objs.size ≠ C := by rw [hC]; exact Nat.ne_of_lt (Nat.lt_succ_self _)
  have below : ∀ b, b < s2.heap.objs.size → b ≠ C ∧ b ≠ s2.heap.objs.size := fun b hb => ⟨by rw [hC]; exact Nat.ne_of_lt (Nat.lt_succ_of_lt hb), Nat.ne_of_lt hb⟩
  have old : ∀ b o, s2.heap.get? b = some o → h₁.get? b = some o := fun b o e => hsb₁.extBut b o (below b (Heap.lt_size e)).1 (Heap.get?_push_of_some _ (hH2 ▸ Heap.get?_push_of_some _ e))
  have eD0 : h₁.get? s2.heap.objs.size = some { cls := .type "list", data := .seq ([] : List Value).toArray } := hsb₁.extBut _ _ hDC (Heap.get?_push_of_some _ (hH2 ▸ Heap.get?_push_size _ rfl))
  have fpLt : ∀ b ∈ fp, b < s2.heap.objs.size := fun b hb => by
    obtain ⟨o, e, _⟩ := T.obj _ _ st2 b hb
    exact Heap.lt_size e
  generalize hD : s2.heap.objs.size = D at hDC below eD0 fpLt hC
  have hDfp : D ∉ fp := fun z => Nat.lt_irrefl _ (fpLt D z)
  have okY : (cxComp X scope (own ++ fr.map (·.1)) C s2 H2 fp).Ok := by
    refine ⟨I2.ok.mod, hk, I2.ok.glob, I2.ok.blt, by show s2.heap.objs.size ≤ C; omega, fun x y c e1 e2 => I2.ok.inj x y c (hcl x c e1) (hcl y c e2), fun y hy => ?_, fun x c z _ => (by cases z), I2.ok.hd, I2.ok.frames, .inl rfl, fun b hb => ⟨(below b (fpLt b hb)).1, fun y c e => ?_⟩, I2.bs,
      Nat.le_trans I2.ok.bsz I2.sz, fun b o e hb => ?_, fun b hb z => ?_, I2.stack, I2.stkFree⟩
    · exact clos_has scope.names [] (.inl (relabel_cell (env := X.env) hcell hy))
    · exact (f2 b hb).2.2.2.2.1 y c (hcl y c e)
    · rcases (f2 b hb).2.2.2.1 with z | z
      · exact I2.ok.noex b o e z
      · exact absurd (Nat.lt_of_lt_of_le (Heap.lt_size e) (Nat.le_trans I2.ok.bsz z)) (Nat.lt_irrefl _)
    · rcases List.mem_cons.mp (I2.stkSub b z) with q | q
      · exact (f2 b hb).2.1 q
      · exact (f2 b hb).2.2.1 q
  have cellLt : ∀ y c, X.env.cells.lookup y = some c → c < D := fun y c e => by
    obtain ⟨v, z⟩ := I2.cell y c e
    exact Nat.lt_of_lt_of_le z.lt (Nat.le_of_eq hD)
  have stkLt : ∀ b ∈ frs X.stack, b < D := fun b hb => by
    rcases List.mem_cons.mp (I2.stkSub b hb) with q | q
    · rw [q]; exact Nat.lt_of_lt_of_le I2.lt (Nat.le_of_eq hD)
    · obtain ⟨_, o, ho, _⟩ := I2.ok.funs.mem q
      exact Nat.lt_of_lt_of_le (Heap.lt_size ho) (Nat.le_trans I2.sz (Nat.le_of_eq hD))
  have fresh : ∀ a, D ≤ a → H2 a = none := fun a ha => I2.hok.fresh (Nat.le_trans (Nat.le_of_eq hD) ha)
  have IY : Inv (cxComp X scope (own ++ fr.map (·.1)) C s2 H2 fp) [] (List.replicate own.length none ++ (fr.map (·.2)).map (pick σ)) H2 { s2 with heap := h₁, toks := s2.toks + ([] : List (Str × Value)).length } := by
    refine ⟨okY, rfl, I2.bare, Un.kept old, ⟨_, hns₁, fun i y v e1 e2 e3 => ?_⟩, fun y c e => ?_, fresh C (by omega), fun y c e => I2.freeC y c (hcl y c e), fun p hp => absurd (show p ∈ ([] : List (Addr × Obj)) from hp) (by simp), I2.hok.kept old, ?_⟩
    · have e1 : (own ++ fr.map (·.1))[i]? = some y := e1
      have hi' : own.length ≤ i := by
        by_cases hlt : i < own.length
        · rw [List.getElem?_append_left (by simpa using hlt), List.getElem?_replicate, if_pos hlt] at e2
          cases e2
        · omega
      rw [List.getElem?_append_right hi', List.getElem?_map] at e1
      rw [List.getElem?_append_right (by simpa using hi'), List.getElem?_map, List.getElem?_map, List.length_replicate] at e2
      cases hp : fr[i - own.length]? with
      | none => rw [hp] at e1; cases e1
      | some p =>
        rw [hp] at e1 e2
        have ey : p.1 = y := Option.some.inj e1
        have ev : pick σ p.2 = some v := Option.some.inj e2
        obtain ⟨a1, a3⟩ := hfr.all p (List.mem_of_getElem? hp)
        have es : σ[p.2]? = some (some v) := by
          unfold pick at ev
          cases q : σ[p.2]? with
          | none => rw [q] at ev; cases ev
          | some z => rw [q] at ev; exact congrArg some ev
        have hfk : X.env.kindOf p.1 = some .cell ∨ X.env.kindOf p.1 = some .free := hfree (p.1, .free) (PySem.mem_of_lookup a3) rfl
        obtain ⟨m, hn, hl⟩ := I2.loc
        obtain ⟨u, r, l⟩ := hl p.2 p.1 v a1 es (hfk.elim (fun z => .inr (.inl z)) fun z => .inr (.inr z))
        refine ⟨u, r, .inr ?_⟩
        rcases l with ⟨z, _⟩ | ⟨_, c, ec, zc⟩
        · rcases hfk with q | q <;> rw [z] at q <;> cases q
        · obtain ⟨c', ec'⟩ := clos_has (env := X.env) (y := p.1) scope.names [] (.inl (PySem.mem_of_lookup a3))
          have : c' = c := Option.some.inj ((hcl _ _ ec').symm.trans ec)
          subst this
          rw [← ey]
          obtain ⟨o, ho, hdd⟩ := zc
          exact ⟨lookup_relabel_free (env := X.env) a3, c', ec', o, old _ o ho, hdd⟩
    · obtain ⟨v, z⟩ := I2.cell y c (hcl y c e)
      obtain ⟨o, ho, hdd⟩ := z
      exact ⟨v, o, old _ o ho, hdd⟩
    · show (List.replicate own.length (none : Option V) ++ (fr.map (fun p => p.2)).map (pick σ)).length = (own ++ fr.map (fun p => p.1)).length
      simp
  have fpY : ∀ {H3 : Hp} {ob : Obj}, (∀ b ∈ fp, H3 b = none) → ∀ b ∈ fp, FpOk (cxComp X scope (own ++ fr.map (·.1)) C s2 H2 fp) [(D, ob)] H3 b := fun {H3 ob} hn b hb =>
    ⟨hn b hb, (below b (fpLt b hb)).1, fun z => okY.exfs b hb z, .inl hb, fun y c e => (okY.exf b hb).2 y c e, fun p hp => by
      have e : p = (D, ob) := by simpa [cxComp] using hp
      rw [e]
      show D ≠ b
      exact fun z => hDfp (z ▸ hb)⟩
  have noC : ∀ (xs : Array Value) (k : Nat) (v : Option Value), ({ cls := .type "list", data := .seq xs k } : Obj).data ≠ .cell v := fun xs k v z => by cases z
  have loop : ∀ s₃ : Shared, s₃ = { s2 with heap := h₁, toks := s2.toks + ([] : List (Str × Value)).length } →
      codeAny (model X.prog X.w) X.A (.compLoop (.ListComp elt [⟨tg, iter, ifs, 0⟩] scope pos) 0 (.ref it) (.ref D) (compEnvC scope (closOf X.env scope.names) C X.env))
        (compPost (model X.prog X.w) X.A X.xe (some (assign (.Name y py) X.env)) (fun _ s' => SP X pins D0 .next s') (.ref D) C) s₃ := by
    rintro s₃ rfl
    refine compLoop_gen (fun n s' => ∃ (i : Nat) (τ : St) (acc : List V) (H' : Hp) (its : List Value) (k : Nat), Inv (cxComp X scope (own ++ fr.map (·.1)) C s2 H2 fp) [] τ H' s' ∧ tn i s'.heap ∧ (∀ b ∈ fp, H' b = none) ∧ H' D = none ∧ Vals acc its ∧
      s'.heap.get? D = some { cls := .type "list", data := .seq its.toArray k } ∧ acc.length ≤ sizeLine ∧ W i n τ acc H') ?_ m0
      ⟨0, _, [], H2, [], 0, IY, T.keep _ _ _ st2 fun b _ o e => old b o e, fun b hb => (f2 b hb).1, fresh D (Nat.le_refl _), .nil, eD0, Nat.zero_le _, w0⟩
    rintro n s3 ⟨i, τ, acc, H3, its, k, I3, st3, fr3, fD, rv, eD, hz, w3⟩
    have I3' : Inv (cxComp X scope (own ++ fr.map (·.1)) C s2 H2 fp) [(D, { cls := .type "list", data := .seq its.toArray k })] τ H3 s3 := I3.pins_of fun p hp => by
      have e : p = (D, { cls := .type "list", data := .seq its.toArray k }) := by simpa using hp
      subst e
      exact ⟨eD, fD, hDC, fun z => Nat.lt_irrefl _ (stkLt D z), noC _ _⟩
    rcases turn i n τ acc H3 w3 with ⟨stop, qn⟩ | ⟨go, hlt, step⟩
    · refine thn (T.done (cxComp X scope (own ++ fr.map (·.1)) C s2 H2 fp) rfl rfl rfl hc i _ s3 τ H3 (fun _ _ => False) I3' (fpY fr3) st3 stop) fun r s4 ⟨hr, I4⟩ => ?_
      subst hr
      obtain ⟨m, hn4, _⟩ := I4.loc
      obtain ⟨eD4, fD4, _⟩ := I4.pin (D, { cls := .type "list", data := .seq its.toArray k }) (List.mem_append_right _ (List.mem_singleton.mpr rfl))
      have b4 : Un (frs X.stack) fp H2 H3 s2.heap s4.heap := I4.base
      have lt2 : ∀ b o, s2.heap.get? b = some o → b ≠ C ∧ b ≠ D := fun b o e => below b (Nat.lt_of_lt_of_le (Heap.lt_size e) (Nat.le_of_eq hD))
      have tr2 : ∀ b o, H2 b = some o → b ≠ D := fun b o e z => by
        have := fresh D (Nat.le_refl _)
        rw [z, this] at e
        cases e
      have un : Un (frs X.stack) fp H2 (upd H3 D (.lst acc)) s2.heap s4.heap := by
        refine ⟨fun b o e n hb hx => b4.keep b o e n hb hx, fun b o e n hb hx => ?_, fun b o e n hx => ?_, fun b o e hx => ?_, fun b xs e => ?_, fun b o u e => ?_, fun b ps e => ?_⟩
        · obtain ⟨sl, q⟩ := b4.slot b o e n hb hx
          exact ⟨sl, q⟩
        · rw [upd_ne (lt2 b o e).2]; exact b4.free b o e n hx
        · obtain ⟨o', q⟩ := b4.there b o e hx
          exact ⟨o', q⟩
        · rw [upd_ne (tr2 _ _ e)]; exact b4.tups b xs e
        · rw [upd_ne (tr2 _ _ e)]; exact b4.frzs b o u e
        · rw [upd_ne (tr2 _ _ e)]; exact b4.tbls b ps e
      have hok' : HOk X.prog X.w (upd H3 D (.lst acc)) s4.heap := I4.hok.track fD4 ⟨hz, its, k, rv, eD4⟩
      have IX : Inv X pins σ (upd H3 D (.lst acc)) s4 := I2.call' (s' := s4) (ch := fp) I4.os un hok' I4.bare fun b hb => ⟨(f2 b hb).2.2.2.1, (f2 b hb).2.1, (f2 b hb).2.2.2.2.1, (f2 b hb).2.2.2.2.2⟩
      have hHC : H3 C = none := I4.free
      have noCD : ∀ b : Addr, b < D → C ≠ b := fun b hb z => by
        rw [← z, hC] at hb
        exact Nat.lt_irrefl D (Nat.lt_of_succ_lt hb)
      have hCL : C ≠ X.env.locals := noCD _ (Nat.lt_of_lt_of_le I2.lt (Nat.le_of_eq hD))
      show wpAny (model X.prog X.w) X.A (assign (.Name y py) X.env (.ref D)) _ X.xe s4
      refine wpAny_assign_Name (store_ok2 IX hN hiy hxy (v := .ref D) rfl (fun s5 I5 ⟨a, sb5, ha⟩ => ?_) hfy)
      have hCa : C ≠ a := by
        rcases ha with z | z
        · rw [z]; exact hCL
        · exact noCD _ (cellLt _ _ z)
      refine ⟨m, Heap.Ns.sameBut hn4 sb5 hCa, fun h' sb => ⟨_, _, I5.turned (it := C) (t' := s5.toks) (fun b o hb e => (sb.2 b hb).trans e) (by rw [upd_ne hDC.symm]; exact hHC) hCL (.inr ?_) (fun z c e q => ?_) (fun p hp q => ?_), qn D fD4⟩⟩
      · exact Nat.le_trans I2.sz (by omega)
      · exact noCD _ (cellLt z c e) q.symm
      · exact noCD _ (Nat.lt_of_lt_of_le (Heap.lt_size (I2.pin p hp).1) (Nat.le_of_eq hD)) q.symm
    · refine thn (T.item (cxComp X scope (own ++ fr.map (·.1)) C s2 H2 fp) rfl rfl rfl hc i _ s3 τ H3 (fun _ _ => False) I3' (fpY fr3) st3 go) fun r s4 ⟨u, hr, h4⟩ => ?_
      subst hr
      refine thn h4 fun _ s5 ⟨x, H5, I5, r5, y5, st5, fr5⟩ => ?_
      have I5' := I5.pinned (fpY fr5) (T.obj _ _ st5)
      refine thn (hg _ _ _ _ _ s5 τ H5 x u _ I5' r5 (step x H5 y5)) fun _ s6 ⟨τ6, H6, I6, q6⟩ => ?_
      refine thn (ht _ _ _ _ _ s6 τ6 H6 _ I6 q6) fun b s7 ⟨H7, I7, q7⟩ => ?_
      have facts : ∀ {s8 : Shared} {H8 : Hp} {τ8 : St}, Inv (cxComp X scope (own ++ fr.map (·.1)) C s2 H2 fp) ([(D, { cls := .type "list", data := .seq its.toArray k })] ++ pinsAt fp s5.heap) τ8 H8 s8 →
          tn (i + 1) s8.heap ∧ (∀ b ∈ fp, H8 b = none) ∧ H8 D = none ∧ s8.heap.get? D = some { cls := .type "list", data := .seq its.toArray k } := fun {s8 H8 τ8} I8 => by
        have hp : ∀ b ∈ fp, ∀ o, s5.heap.get? b = some o → s8.heap.get? b = some o ∧ H8 b = none := fun b hb o e => by
          have q := I8.pin (b, o) (List.mem_append_right _ (List.mem_append_right _ (mem_pinsAt hb e)))
          exact ⟨q.1, q.2.1⟩
        have qD := I8.pin (D, { cls := .type "list", data := .seq its.toArray k }) (List.mem_append_right _ (List.mem_append_left _ (List.mem_singleton.mpr rfl)))
        refine ⟨T.keep _ _ _ st5 fun b hb o e => (hp b hb o e).1, fun b hb => ?_, qD.2.1, qD.1⟩
        obtain ⟨o, e, _⟩ := T.obj _ _ st5 b hb
        exact (hp b hb o e).2
      cases b with
      | false =>
        have q7 : ∃ m', m' < n ∧ W (i + 1) m' τ6 acc H7 := q7
        obtain ⟨m', hm, w7⟩ := q7
        obtain ⟨z1, z2, z3, z4⟩ := facts I7
        exact ⟨m', hm, i + 1, τ6, acc, H7, its, k, I7.pins_of fun p hp => absurd hp (by simp), z1, z2, z3, rv, z4, hz, w7⟩
      | true =>
        refine thn (he _ _ _ _ _ s7 τ6 H7 _ I7 q7) fun u8 s8 ⟨y, H8, I8, r8, m', hm, w8⟩ => ?_
        obtain ⟨z1, z2, z3, z4⟩ := facts I8
        have hl := rv.length
        refine call_meets F.slot_list_append ⟨_, z4, rfl⟩ F.entry_list_append (F.args_list_append_2 _ _) (PySem.list_append D its.toArray k u8 (by rw [List.size_toArray]; omega)) ⟨z4, ?_⟩
        have z5 := PySem.IsL.update z4 (·.push u8)
        have z6 : its.toArray.push u8 = (its ++ [u8]).toArray := by simp
        rw [z6] at z5
        have kk : ∀ b o, b ≠ D → s8.heap.get? b = some o → (s8.heap.update D (Obj.mapSeq (·.push u8))).get? b = some o := fun b o hb e => (Heap.get?_update_other s8.heap (Obj.mapSeq (·.push u8)) (Ne.symm hb)).trans e
        have I8' : Inv (cxComp X scope (own ++ fr.map (·.1)) C s2 H2 fp) [] τ6 H8 s8 := I8.pins_of fun p hp => absurd hp (by simp)
        refine ⟨m', hm, i + 1, τ6, acc ++ [y], H8, its ++ [u8], _, I8'.turned (it := D) kk z3 hDC (.inr (by show s2.heap.objs.size ≤ D; omega)) (fun y c e => Nat.ne_of_lt (cellLt y c (hcl y c e))) (fun p hp => absurd (show p ∈ ([] : List (Addr × Obj)) from hp) (by simp)), ?_, z2, z3,
          rv.append (.cons r8 .nil), z5, ?_, w8⟩
        · exact T.keep _ _ _ z1 fun b hb o e => kk b o (fun z => hDfp (z ▸ hb)) e
        · rw [List.length_append, List.length_singleton]; omega
  exact codeAny_compStart_list (loop _ rfl) (T.self X.A 0 _ _ _ (T.keep _ _ _ st2 fun b _ o e => old b o e) (loop _ rfl))
theorem ps_setC {i : Nat} {y : Str} {iter elt : Expr} {ifs : List Expr} {scope osc : Scope} {wi : TI} {tt : TT} {te : TE} {x : Str} {px py pos spos : Pos} (fr : List (Str × Nat))
    (hN : X.N.Nodup) (hiy : X.N[i]? = some y) (hxy : Loc X.env.scope y)
    (hc : X.calm = true) (hi : PI X (.Name x px) iter wi) (ho : X.env.scope = osc)
    (hk : scope.kind = .function) (hcell : ∀ y ∈ scope.names, y.2 ≠ .cell) (hnames : ∀ y ∈ scope.names, y.2 = .local → scope.names.lookup y.1 = some .local)
    (hfree : ∀ y ∈ scope.names, y.2 = .free → osc.names.lookup y.1 = some .cell ∨ osc.names.lookup y.1 = some .free) (hfr : FrOk X scope fr)
    (hx : scope.names.lookup x = some .local) (hnd : (x :: fr.map (·.1)).Nodup)
    (ht : ∀ C s H ex, PTs (cxComp X scope (x :: fr.map (·.1)) C s H ex) ifs tt)
    (he : ∀ C s H ex, PE (cxComp X scope (x :: fr.map (·.1)) C s H ex) elt te)
    (hsw : swapsWith (.ListComp elt [⟨.Name x px, iter, ifs, 0⟩] scope pos) (some (.Name y py)) spos.line X.env = pure true := by rfl)
    (hf : X.fn y = true ∨ X.env.scope.names.lookup y = some .local := by first | exact .inl rfl | exact .inr rfl | assumption)
    (hs : ∀ x, foldedSetIterable iter X.env x = pure x := by intro _; rfl) :
    PS X (.Assign [.Name y py] (.ListComp elt [⟨.Name x px, iter, ifs, 0⟩] scope pos) spos) (tAsg (tComp 1 (fr.map (·.2)) wi (gName 0) tt te) (gName i)) :=
  ps_compU (own := [x]) hN hiy hxy hf hc hi hk hcell hnames (fun y hy e => by show X.env.scope.names.lookup y.1 = _ ∨ X.env.scope.names.lookup y.1 = _; rw [ho]; exact hfree y hy e) hfr
    (fun C s H ex => pg_name (i := 0) hnd rfl (.inl (lookup_relabel_local hx)) (.inr (lookup_relabel_local hx))) ht he hsw hs
end
end L2
namespace L2
open PySem PySem.Spec PyProof.Rows
open Sem (wp)
def Kd {α : Type} : Sem α → Prop
  | .pure _ => True
  | .raise _ => True
  | .unsupported _ => True
  | .finish _ => True
  | .rule _ k => Kd (k ())
  | .at _ k => Kd (k ())
  | .load _ _ k => ∀ o, Kd (k o)
  | .update _ _ f k => (∀ o, (f o).dict = o.dict) ∧ Kd (k ())
  | .loadIfAlive _ k => ∀ o, Kd (k o)
  | .point _ k => Kd (k ())
  | .alloc _ k => ∀ a, Kd (k a)
  | .fresh k => ∀ t, Kd (k t)
  | .ask k => ∀ t, Kd (k t)
  | .stack k => ∀ l, Kd (k l)
  | _ => False
theorem Kd.bind {α β : Type} {t : Sem α} {f : α → Sem β} (h : Kd t) (g : ∀ a, Kd (f a)) : Kd (t >>= f) := by
  show Kd (Sem.bind t f)
  induction t with
  | pure a => exact g a
  | raise e => trivial
  | unsupported w => trivial
  | finish e => trivial
  | rule t k ih => exact ih () h
  | «at» p k ih => exact ih () h
  | load a p k ih => exact fun o => ih o (h o)
  | update a p f k ih => exact ⟨h.1, ih () h.2⟩
  | alloc o k ih => exact fun a => ih a (h a)
  | loadIfAlive a k ih => exact fun o => ih o (h o)
  | point l k ih => exact ih () h
  | fresh k ih => exact fun o => ih o (h o)
  | ask k ih => exact fun o => ih o (h o)
  | stack k ih => exact fun o => ih o (h o)
  | _ => exact h.elim
def DictAt (e : Addr) (d : Option Addr) (h : Heap) : Prop := ∃ o, h.objs[e]? = some o ∧ o.dict = d
theorem DictAt.push {e : Addr} {d : Option Addr} {h : Heap} (x : DictAt e d h) (o : Obj) : DictAt e d (h.push o) := by
  obtain ⟨u, hu, hd⟩ := x
  refine ⟨u, ?_, hd⟩
  have hl : e < h.objs.size := (Array.getElem?_eq_some_iff.mp hu).1
  cases h with
  | mk objs l =>
    show (objs.push o)[e]? = some u
    rw [Array.getElem?_push_lt hl]
    exact (Array.getElem?_eq_getElem hl).symm.trans hu
theorem DictAt.update {e : Addr} {d : Option Addr} {h : Heap} (x : DictAt e d h) (a : Addr) {f : Obj → Obj} (hf : ∀ o, (f o).dict = o.dict) : DictAt e d (h.update a f) := by
  obtain ⟨u, hu, hd⟩ := x
  cases h with
  | mk objs l =>
    have hu : objs[e]? = some u := hu
    unfold DictAt
    show ∃ o, (objs.modify a f)[e]? = some o ∧ o.dict = d
    rw [Array.getElem?_modify]
    by_cases q : a = e
    · rw [if_pos q, hu]
      exact ⟨f u, rfl, (hf u).trans hd⟩
    · rw [if_neg q]
      exact ⟨u, hu, hd⟩
theorem DictAt.get {e : Addr} {d : Option Addr} {h : Heap} {o : Obj} (x : DictAt e d h) (g : h.get? e = some o) : o.dict = d := by
  obtain ⟨u, hu, hd⟩ := x
  have := (Heap.get?_some_iff.mp g).1
  rw [hu] at this
  cases this
  exact hd
theorem DictAt.of {e : Addr} {h : Heap} {o : Obj} (g : h.get? e = some o) : DictAt e o.dict h := ⟨o, (Heap.get?_some_iff.mp g).1, rfl⟩
theorem Kd.wp {α : Type} {M : Model} {Γ : PySem.Ctx} {e : Addr} {d : Option Addr} {t : Sem α} : ∀ {Q : α → Pos → Shared → Prop} {E : Value → Pos → Shared → Prop} {p : Pos} {s : Shared}, Kd t → DictAt e d s.heap → Sem.wp M Γ t Q E p s →
    Sem.wp M Γ t (fun a p s => Q a p s ∧ DictAt e d s.heap) (fun a p s => E a p s ∧ DictAt e d s.heap) p s := by
  induction t with
  | pure a => intro Q E p s h x q; rw [Sem.wp] at q ⊢; exact ⟨q, x⟩
  | raise v => intro Q E p s h x q; rw [Sem.wp] at q ⊢; exact ⟨q, x⟩
  | unsupported w => intro Q E p s h x q; rw [Sem.wp] at q; exact q.elim
  | finish v => intro Q E p s h x q; rw [Sem.wp] at q; exact q.elim
  | rule t k ih => intro Q E p s h x q; rw [Sem.wp] at q ⊢; exact ih () h x q
  | «at» p' k ih => intro Q E p s h x q; rw [Sem.wp] at q ⊢; exact ih () h x q
  | load a pt k ih => intro Q E p s h x q; rw [Sem.wp] at q ⊢; obtain ⟨o, e1, q⟩ := q; exact ⟨o, e1, ih o (h o) x q⟩
  | update a pt f k ih => intro Q E p s h x q; rw [Sem.wp] at q ⊢; exact ⟨q.1, ih () h.2 (x.update a h.1) q.2⟩
  | alloc o k ih => intro Q E p s h x q; rw [Sem.wp] at q ⊢; exact ih _ (h _) (x.push o) q
  | loadIfAlive a k ih => intro Q E p s h x q; rw [Sem.wp] at q ⊢; exact ih _ (h _) x q
  | point l k ih => intro Q E p s h x q; rw [Sem.wp] at q ⊢; exact ih () h x q
  | fresh k ih => intro Q E p s h x q; rw [Sem.wp] at q ⊢; exact ih _ (h _) x q
  | ask k ih => intro Q E p s h x q; rw [Sem.wp] at q ⊢; exact ih _ (h _) x q
  | stack k ih => intro Q E p s h x q; rw [Sem.wp] at q ⊢; exact ih _ (h _) x q
  | _ => intro Q E p s h; exact h.elim
theorem Kd.any {α : Type} {M : Model} {A : Around} {e : Addr} {d : Option Addr} {t : Sem α} {Q : α → Shared → Prop} {E : Value → Shared → Prop} {s : Shared} (h : Kd t) (x : DictAt e d s.heap) (q : wpAny M A t Q E s) :
    wpAny M A t (fun a s' => Q a s' ∧ DictAt e d s'.heap) (fun v s' => E v s' ∧ DictAt e d s'.heap) s := fun Γ p hΓ => h.wp x (q Γ p hΓ)
section
variable {M : Model} {A : Around} {E : Value → Shared → Prop} {s : Shared} {base : Heap} {env : Env} {outer l : List Env} {L e : Addr} {cls a0 : Value} {dd : Option Addr} {Q : Unit → Shared → Prop}
end
end L2
namespace L2
open PySem PySem.Spec PyProof.Rows
section
variable {P : Program} {w : World} {K : PySem.W.Frag} {mg : Str → Option Value} {base : Heap} {N : List Str} {qual : Str} {scope : Scope} {f : Addr} {cd : Value} {A : Around} {outer : List Env} {s₀ : Shared} {H₀ : Hp} {E E' : XK}
structure ExC (K : PySem.W.Frag) (C : Addr) (bm : List Value) : Prop where
  obj : ∃ (nm q : Str) (NS : Addr) (bs : List Value) (hdct : Bool) (sn : List Str) (sub : List Value) (ab : Bool) (col : Option Bool) (dd : Option Addr) (k0 k1 k2 k3 k5 : Option Value) (mN : Str → Option Value),
    K.lookup C = some (excClassObj nm q C NS bs bm hdct sn sub ab col dd k0 k1 k2 k3 k5 "ValueError.__new__") ∧ mN "__init__" = none ∧ ∀ h : Heap, K.In h → h.Ns NS mN ∧ OwnTail h [.type "ValueError", .type "Exception", .type "BaseException", .type "object"] bm
  base : bm.contains (.type "BaseException") = true
end
end L2
namespace L2
open PySem PySem.Spec PyProof.Rows
section
variable {X : Cx} {pins : List (Addr × Obj)} {σ : St} {H H' : Hp} {s s' : Shared} {B h' : Heap}
end
end L2
namespace L2
open PySem PySem.Spec PyProof.Rows
section
variable {X : Cx} {pins : List (Addr × Obj)} {σ : St} {H : Hp} {s : Shared}
end
end L2
namespace L2
open PySem PySem.Spec PyProof.Rows
end L2
namespace L2
open PySem PySem.Spec PyProof.Rows
end L2
namespace L2
open PySem PySem.Spec PyProof.Rows
theorem paired_of_get {α β : Type} {F : α → β → Prop} : ∀ {l₁ : List α} {l₂ : List β}, l₁.length = l₂.length → (∀ (i : Nat) a b, l₁[i]? = some a → l₂[i]? = some b → F a b) → Paired F l₁ l₂
  | [], [], _, _ => .nil
  | a :: l₁, b :: l₂, hl, h => .cons (h 0 a b rfl rfl) (paired_of_get (by simpa using hl) fun i x y hx hy => h (i + 1) x y (by simpa using hx) (by simpa using hy))
section
variable {X : Cx}
theorem call_sumL {K : PySem.W.Frag} (hc : X.calm = true) (hK : X.K = K := by rfl) : CallR X (.builtin "sum") (fun xs H Q => ∃ (p : Addr) (ns : List Int), xs = [.ref p] ∧ SqL K H p (ns.map V.int) ∧ Q (.int ns.sum) H) := by
  subst hK
  intro pins s σ H xs us Q I r h
  obtain ⟨p, ns, rfl, hq, q⟩ := h
  obtain ⟨u, rfl, ru⟩ := vals1 r
  cases ru
  obtain ⟨its, rv, pl, hz⟩ := I.list hq
  have hi := intsAre_of rv
  obtain ⟨zs, hx⟩ := hi.allInts.items
  have hl' : s.heap.IsList p (intItems zs) := hx ▸ pl.isList
  refine sum_intListG (I.ok.hd hc) hl' fun h' tk t' hk => ?_
  have e1 : ns = zs.toList.map (·.1) := by
    rw [← nums_intItems, ← hx]
    exact (show numsOf its.toArray.toList = ns from hi.numsOf).symm
  have e2 : preSum (numAt zs) zs.size = ns.sum := by
    rw [preSum_eq, List.take_of_length_le (by simp), e1]
  rw [e2]
  exact ⟨.int _, H, I.kept (t' := tk) hk, ⟨_, rfl⟩, q⟩
theorem call_minL {K : PySem.W.Frag} (hc : X.calm = true) (hK : X.K = K := by rfl) : CallR X (.builtin "min") (fun xs H Q => ∃ (p : Addr) (ns : List Int), xs = [.ref p] ∧ SqL K H p (ns.map V.int) ∧ 0 < ns.length ∧ ∀ M, M ∈ ns → (∀ a, a ∈ ns → M ≤ a) → Q (.int M) H) := by
  subst hK
  intro pins s σ H xs us Q I r h
  obtain ⟨p, ns, rfl, hq, hne, q⟩ := h
  obtain ⟨u, rfl, ru⟩ := vals1 r
  cases ru
  obtain ⟨its, rv, pl, hz⟩ := I.list hq
  have hi := intsAre_of rv
  obtain ⟨zs, e⟩ := hi.allInts.items
  have hns : ns = zs.toList.map (·.1) := by
    rw [← nums_intItems, ← e]
    exact (show numsOf its.toArray.toList = ns from hi.numsOf).symm
  have hsz : 0 < zs.size := by
    have h3 := hne; rw [hns, List.length_map, Array.length_toList] at h3; exact h3
  have hl : s.heap.IsList p (intItems zs) := e ▸ pl.isList
  refine min_intList (I.ok.hd hc) hl hsz fun v h' tk hv hk => ?_
  obtain ⟨t, rfl⟩ := intItems_at hv
  obtain ⟨h1, h2⟩ := argBest_lt (numAt zs) (zs.size - 1)
  refine ⟨.int _, H, I.kept (t' := tk) hk, ⟨_, rfl⟩, q _ ?_ fun a ha => ?_⟩
  · rw [hns, numAt_eq]; exact getD_mem (by rw [List.length_map, Array.length_toList]; omega)
  · rw [hns] at ha
    obtain ⟨j, hj, rfl⟩ := mem_getD ha
    rw [List.length_map, Array.length_toList] at hj
    rw [← numAt_eq]; exact h2 j (by omega)
theorem call_maxL {K : PySem.W.Frag} (hc : X.calm = true) (hK : X.K = K := by rfl) : CallR X (.builtin "max") (fun xs H Q => ∃ (p : Addr) (ns : List Int), xs = [.ref p] ∧ SqL K H p (ns.map V.int) ∧ 0 < ns.length ∧ ∀ M, M ∈ ns → (∀ a, a ∈ ns → a ≤ M) → Q (.int M) H) := by
  subst hK
  intro pins s σ H xs us Q I r h
  obtain ⟨p, ns, rfl, hq, hne, q⟩ := h
  obtain ⟨u, rfl, ru⟩ := vals1 r
  cases ru
  obtain ⟨its, rv, pl, hz⟩ := I.list hq
  have hi := intsAre_of rv
  obtain ⟨zs, e⟩ := hi.allInts.items
  have hns : ns = zs.toList.map (·.1) := by
    rw [← nums_intItems, ← e]
    exact (show numsOf its.toArray.toList = ns from hi.numsOf).symm
  have hsz : 0 < zs.size := by
    have h3 := hne; rw [hns, List.length_map, Array.length_toList] at h3; exact h3
  have hl : s.heap.IsList p (intItems zs) := e ▸ pl.isList
  refine max_intList (I.ok.hd hc) hl hsz fun v h' tk hv hk => ?_
  obtain ⟨t, rfl⟩ := intItems_at hv
  obtain ⟨h1, h2⟩ := argBest_gt (numAt zs) (zs.size - 1)
  refine ⟨.int _, H, I.kept (t' := tk) hk, ⟨_, rfl⟩, q _ ?_ fun a ha => ?_⟩
  · rw [hns, numAt_eq]; exact getD_mem (by rw [List.length_map, Array.length_toList]; omega)
  · rw [hns] at ha
    obtain ⟨j, hj, rfl⟩ := mem_getD ha
    rw [List.length_map, Array.length_toList] at hj
    rw [← numAt_eq]; exact h2 j (by omega)
end
theorem eqD_same {K : PySem.W.Frag} {H : Hp} {x y : V} {d : PyData} {Q : VK} (h1 : Dv K H x d) (h2 : Dv K H y d) (hs : SeqAt.shaped d = true) (q : Q (.bl true) H) : rEqD K x y H Q :=
  ⟨d, d, h1, h2, hs, hs, by rw [PySem.SeqAt.eqv_refl d (SeqAt.canLay_of_shaped hs)]; exact q⟩
theorem neD_same {K : PySem.W.Frag} {H : Hp} {x y : V} {d : PyData} {Q : VK} (h1 : Dv K H x d) (h2 : Dv K H y d) (hs : SeqAt.shaped d = true) (q : Q (.bl false) H) : rNeD K x y H Q :=
  ⟨d, d, h1, h2, hs, hs, by rw [PySem.SeqAt.eqv_refl d (SeqAt.canLay_of_shaped hs)]; exact q⟩
theorem mem_cutV {xs : List V} {lo hi : Option Int} {y : V} (h : y ∈ cutV xs lo hi) : y ∈ xs := List.mem_of_mem_drop (List.mem_of_mem_take h)
end L2
namespace L2
open PySem PySem.Spec PyProof.Rows
section
variable {X : Cx}
end
section
variable {X : Cx}
end
end L2
namespace L2
open PySem PySem.Spec PyProof.Rows
abbrev TX := St → Hp → VK → XK → Prop
section
variable {X : Cx} {k : Nat} {f C : Addr} {fd : FuncData} {ps : List Str} {sp : Sp} {x : Str} {p pos : Pos} {e : Expr} {es : List Expr} {t : TA} {te : TE}
end
section
variable {X : Cx} {cn n : Str} {rpos np hpos pos : Pos} {e0 : Expr} {tx : TX} {CF : Addr} {b₀ : Stmt} {suite : List Stmt} {th : Addr → TS} {i : Nat}
end
structure ExD (K : PySem.W.Frag) (C : Addr) (bm : List Value) : Prop where
  obj : ∃ (nm q : Str) (NS : Addr) (bs : List Value) (hdct : Bool) (sn : List Str) (sub : List Value) (ab : Bool) (col : Option Bool) (dd : Option Addr) (k0 k1 k2 k3 k5 : Option Value),
    K.lookup C = some (excClassObj nm q C NS bs bm hdct sn sub ab col dd k0 k1 k2 k3 k5 "ValueError.__new__") ∧
      ∀ h : Heap, K.In h → (∃ mN, h.Ns NS mN ∧ mN "__init__" = none) ∧ OwnTail h [.type "ValueError", .type "Exception", .type "BaseException", .type "object"] bm
section
variable {P : Program} {w : World} {K : PySem.W.Frag} {mg : Str → Option Value} {base : Heap} {N : List Str} {qual : Str} {scope : Scope} {f : Addr} {cd : Value} {A : Around} {outer : List Env} {s₀ : Shared} {H₀ : Hp} {E' : XK}
end
end L2
namespace L2
open PySem PySem.Spec PyProof.Rows
open AutoSeq1 (wpAny_loadPart')
open MeetsSeq
section
variable {X : Cx}
end
end L2
namespace L2
open PySem PySem.Spec PyProof.Rows
structure ExI (K : PySem.W.Frag) (C : Addr) : Prop where
  ga : PySem.W.findIn K (.ref C) "__getattribute__" = some (some (.builtin "BaseException.__getattribute__"))
  gt : PySem.W.findIn K (.ref C) "__getattr__" = some none
  ck : PySem.W.findIn K (.ref C) "__class__" = some (some (.builtin "object.__class__"))
  sb : PySem.W.subIn K (.ref C) (.type "BaseException") = some true
  so : PySem.W.subIn K (.ref C) (.type "object") = some true
  cl : (PySem.W.clsIn K C).isSome = true
section
variable {prog : Program} {w : World} {A : Around} {E : Value → Shared → Prop} {K : PySem.W.Frag} {h : Heap} {g : Array GenState} {d : Drawn} {t : Nat} {os : OsState} {a C : Addr} {o : Obj}
end
section
variable {X : Cx}
end
theorem Same.updN {H H' : Hp} {b : Addr} {o : HO} (e : Same H H') (h : H b = none) : Same H (L2.upd H' b o) := fun c u q => by
  rw [upd_ne (ne_of_none q h)]
  exact e c u q
end L2
namespace L2
open PySem PySem.Spec PyProof.Rows
section
variable {X : Cx} {k : Nat} {f C : Addr} {fd : FuncData} {ps : List Str} {sp : Sp} {m : Str} {apos pos : Pos} {e o : Expr} {es : List Expr} {t : TA} {ta te : TE}
abbrev TSX := Ends → (St → XK) → St → Hp → Prop
variable {st : Stmt} {sts a b : List Stmt} {c0 : Expr} {tx : TX} {u v : TSX} {tc : TT} {x : Str} {px : Pos} {i : Nat}
variable {cn n : Str} {np hpos : Pos} {CF : Addr} {b₀ : Stmt} {suite : List Stmt} {th : Addr → TS}
end
section
variable {X : Cx}
end
end L2
namespace L2
open PySem Builtin Builtin.Str
section
variable {X : Cx}
end
theorem str_ext {a b : Str} (h : a.cps.toList = b.cps.toList) : a = b := by
  cases a; cases b
  congr 1
  exact Array.toList_inj.mp h
end L2
namespace L2
open PySem PySem.Spec PyProof.Rows
open MeetsSeq
section
variable {X : Cx}
end
end L2
namespace L2
open PySem
section
variable {prog : Program} {w : World} {A : Around} {E : Value → Shared → Prop} {s : Shared}
set_option maxRecDepth 512 in
theorem set_at {b : Addr} {its : Array Value} {n : Nat} {i : Int} {tk : Tok} {y : Value} {Q : Unit → Shared → Prop} (e : s.heap.get? b = some { cls := .type "list", data := .seq its n }) (i0 : 0 ≤ i) (i1 : i < 2 ^ 63) (i2 : i < its.size)
    (q : Q () { s with heap := s.heap.update b (Obj.mapSeq (·.setIfInBounds i.toNat y)) }) : wpAny (model prog w) A (setItem (.ref b) (.int i tk) y) Q E s := by
  have il : s.heap.IsList b its := ⟨_, e, rfl, n, rfl⟩
  unfold setItem; try (with_reducible refine wpAny_holding ?_); first | (refine wpAny_bind (wpAny_pure ?_)) | skip
  refine wpAny_bind (wpAny_sequenceKey il.typeIs (by decide) ?_); refine wpAny_bind (wpAny_callSpecial?_slot (name := Str.ofString "__setitem__") il.typeIs slot_list_setitem (wpAny_call_entry slot_list_setitem il.typeIs entry_list_setitem ?_ (args_list_setitem _ _ _)))
  show wpAny _ _ (Builtin.List.listSubscript? (.int i tk) >>= _) _ _ s; refine wpAny_bind (wpAny_listSubscript_int (fitsIndex_of i0 i1) ?_)
  clear i1
  obtain ⟨m, rfl⟩ := Int.eq_ofNat_of_zero_le i0
  have hm : m < its.size := by omega
  have hit : its[m]? = some its[m] := Array.getElem?_eq_getElem hm
  show wpAny _ _ ((seqItemAt b m >>= fun r => pure (r.map (m, ·))) >>= _) _ _ s; refine wpAny_bind (wpAny_bind (wpAny_seqItemAt e rfl (wpAny_pure ?_)))
  rw [hit]
  show wpAny _ _ (setSeqItemAt b m y >>= _) _ _ s; refine wpAny_bind (wpAny_setSeqItemAt e rfl ?_)
  first | (exact wpAny_bind (wpAny_pure (wpAny_pure ⟨.none, rfl, wpAny_pure q⟩))) | (exact wpAny_pure ⟨.none, rfl, wpAny_pure q⟩)
end
end L2
set_option maxRecDepth 100000
namespace L2
open PySem PySem.Spec PyProof.Rows
open MeetsSeq
section
variable {X : Cx} {o i value : Expr} {pos pos' : Pos} {td ty tv : TE}
def sLPut (td ty tv : TE) : TS := fun D σ H => tv σ H fun v H1 => td σ H1 fun x H2 => ty σ H2 fun y H3 => ∃ (l : Addr) (xs : List V) (j : Nat), x = .ref l ∧ y = .int (j : Int) ∧ H3 l = some (.lst xs) ∧ j < xs.length ∧ D.nx σ (upd H3 l (.lst (xs.set j v)))
theorem vals_set {x : V} {u : Value} (r : RelV x u) : ∀ {xs : List V} {us : List Value}, Vals xs us → ∀ j, Vals (xs.set j x) (us.set j u)
  | _, _, .nil, _ => .nil
  | _, _, .cons a b, 0 => .cons r b
  | _, _, .cons a b, j + 1 => .cons a (vals_set r b j)
theorem ps_lput (ho : PE X o td) (hi : PE X i ty) (hv : PE X value tv) (hs : swapsWith value (some (.Subscript o i pos')) pos.line X.env = pure false) :
    PS X (.Assign [.Subscript o i pos'] value pos) (sLPut td ty tv) := by
  intro pins s σ H D I h
  refine wpAny_Assign_Subscript (thn (hv pins s σ H _ I h) fun r s1 ⟨v, H1, I1, rv, q1⟩ => thn (ho pins s1 σ H1 _ I1 q1) fun u s2 ⟨x, H2, I2, rx, q2⟩ => thn (hi pins s2 σ H2 _ I2 q2) fun iv s3 ⟨y, H3, I3, ry, l, xs, j, ex, ey, e, hj, q3⟩ => ?_) hs
  subst ex ey
  obtain rfl : u = Value.ref l := rx
  obtain ⟨t, rfl⟩ := ry
  obtain ⟨z, its, n, rs, hl, e'⟩ := I3.lstM e
  have len := rs.length
  have sz : sizeLine = 16777216 := sizeLine_eq
  refine set_at e' (by omega) (by omega) (by rw [List.size_toArray]; omega) ?_
  exact ⟨σ, _, I3.lset (its' := its.set j r) (t' := s3.toks) e e' (by simp) (vals_set rv rs j) (by rw [List.length_set]; omega), q3⟩
end
end L2
namespace L2
open PySem PySem.Spec PyProof.Rows
structure ExF (K : PySem.W.Frag) (C : Addr) (f : Str) : Prop where
  ex : ExI K C
  hd : PySem.W.hasDictIn K C = true
  na : PySem.W.findIn K (.ref C) f = some none
  sa : PySem.W.findIn K (.ref C) "__setattr__" = some (some (.builtin "object.__setattr__"))
section
variable {prog : Program} {w : World} {A : Around} {E : Value → Shared → Prop} {K : PySem.W.Frag} {h : Heap} {g : Array GenState} {d : Drawn} {t : Nat} {os : OsState} {a C dx : Addr} {o : Obj} {f : Str} {v : Value}
end
abbrev VB : List Value := [.type "ValueError", .type "Exception", .type "BaseException", .type "object"]
structure ExP (K : PySem.W.Frag) (C cF fI : Addr) (f : Str) : Prop where
  lk : ∃ (nm q : Str) (NS : Addr) (bs : List Value) (hdct : Bool) (sn : List Str) (sub : List Value) (ab : Bool) (col : Option Bool) (dd : Option Addr) (k0 k1 k2 k3 k5 : Option Value),
    K.lookup C = some (excClassObj nm q C NS bs (.ref cF :: VB) hdct sn sub ab col dd k0 k1 k2 k3 k5 "ValueError.__new__")
  tl : PySem.W.excIn K cF VB "ValueError.__new__" = true
  init : PySem.W.findIn K (.ref C) "__init__" = some (some (.ref fI))
  fn : PySem.W.isFn K (.ref fI) = true
  fl : ExF K C f
section
variable {X : Cx} {o e value : Expr} {f : Str} {pos pos' : Pos} {ta tv : TE}
end
section
variable {prog : Program} {w : World} {A : Around} {E : Value → Shared → Prop} {K : PySem.W.Frag} {h : Heap} {g : Array GenState} {d : Drawn} {t : Nat} {os : OsState} {C cF fI : Addr} {f : Str}
end
section
variable {P : Program} {w : World} {K : PySem.W.Frag} {mg : Str → Option Value} {base : Heap} {N : List Str} {qual : Str} {scope : Scope} {f : Addr} {cd : Value} {A : Around} {outer : List Env} {s₀ : Shared} {H₀ : Hp} {E' : XK} {fl : Str}
end
end L2
namespace L2
open PySem PySem.Spec PyProof.Rows
theorem iteVI {a b : Int} {A B : Prop} (h1 : a = b → A) (h2 : ¬ a = b → B) : if decide (V.int a = V.int b) = true then A else B :=
  iteB (fun e => h1 (V.int.inj (of_decide_eq_true e))) fun e => h2 fun z => of_decide_eq_false e (congrArg V.int z)
theorem iteP {c : Prop} [Decidable c] {A B : Prop} (h1 : c → A) (h2 : ¬ c → B) : if decide c = true then A else B :=
  iteB (fun e => h1 (of_decide_eq_true e)) fun e => h2 (of_decide_eq_false e)
def tCut (t : TS) : TS := fun D σ H => ∃ N : St → Hp → Prop, t { D with nx := N } σ H ∧ ∀ σ' H', N σ' H' → D.nx σ' H'
theorem ps_cut {X : Cx} {st : PySem.Stmt} {t : TS} (h : PS X st t) : PS X st (tCut t) := fun pins s σ H D I ⟨N, q, k⟩ => by
  refine thn (h pins s σ H { D with nx := N } I q) fun f s' z => ?_
  cases f with
  | next => obtain ⟨σ', H', I', n⟩ := z; exact ⟨σ', H', I', k _ _ n⟩
  | brk => exact z
  | cont => exact z
  | ret u => exact z
theorem cutBy {t : TS} {D : Ends} {σ : St} {H : Hp} (N : St → Hp → Prop) (h : t { D with nx := N } σ H) (k : ∀ σ' H', N σ' H' → D.nx σ' H') : tCut t D σ H := ⟨N, h, k⟩
theorem Same.upd' {H : Hp} {a : Addr} {o : HO} (h : H a = none) : Same H (L2.upd H a o) := (Same.refl H).upd h
end L2
namespace Srt
open PySem PyProof.Rows
structure Cmp (prog : Program) (w : World) (A : Around) (s : Shared) (κ : SortKind) (O : KeyOrd) (kf : Value → O.α) (a₀ : Array Keyed) : Prop where
  ask : ∀ p ∈ a₀.toList, ∀ q ∈ a₀.toList, ∀ (Q : Bool → Shared → Prop) (E : Value → Shared → Prop), Q (O.blt (kf p.1) (kf q.1)) s → wpAny (model prog w) A (keyLt' κ p.1 q.1) Q E s
structure SB (κ : SortKind) (a₀ : Array Keyed) (st : SortSt) : Prop where
  perm : (arrOf st).Perm a₀
  kind : kindOf st = κ
  failed : failedOf st = none
def KX {O : KeyOrd} (kf : Value → O.α) (xs : Array Keyed) (i : Nat) : O.α := kf ((xs[i]?.map (·.1)).getD .none)
def Up {O : KeyOrd} (kf : Value → O.α) (xs : Array Keyed) (lo hi : Nat) : Prop := ∀ i j, lo ≤ i → i ≤ j → j < hi → O.kle (KX kf xs i) (KX kf xs j)
theorem kx_congr {O : KeyOrd} {kf : Value → O.α} {xs ys : Array Keyed} {i j : Nat} (h : xs[i]? = ys[j]?) : KX kf xs i = KX kf ys j := by unfold KX; rw [h]
section
variable {prog : Program} {w : World} {A : Around} {E : Value → Shared → Prop} {s : Shared} {κ : SortKind} {O : KeyOrd} {kf : Value → O.α} {a₀ : Array Keyed} {st : SortSt}
theorem SB.size (B : SB κ a₀ st) : (arrOf st).size = a₀.size := B.perm.size_eq
theorem SB.put (B : SB κ a₀ st) {xs : Array Keyed} (h : xs.Perm (arrOf st)) : SB κ a₀ (setArr st xs) := ⟨h.trans B.perm, B.kind, B.failed⟩
theorem SB.at (B : SB κ a₀ st) {i : Nat} (hi : i < a₀.size) : ∃ p, (arrOf st)[i]? = some p ∧ p ∈ a₀.toList ∧ KX kf (arrOf st) i = kf p.1 := by
  have hi' : i < (arrOf st).size := by rw [B.size]; exact hi
  refine ⟨(arrOf st)[i], getElem?_pos _ i hi', (Array.perm_iff_toList_perm.mp B.perm).mem_iff.mp (by simp), ?_⟩
  unfold KX
  rw [getElem?_pos _ i hi']
  rfl
theorem q_lt (C : Cmp prog w A s κ O kf a₀) (B : SB κ a₀ st) {p q : Keyed} (hp : p ∈ a₀.toList) (hq : q ∈ a₀.toList) {Q : Option Bool → SortSt → Prop} (h : Q (some (O.blt (kf p.1) (kf q.1))) st) : wpS (model prog w) A E s (lt' p q) Q st := by
  rw [lt'_eq]
  refine wpS_bind (wpS_get ?_)
  rw [B.kind]
  exact wpS_bind (wpS_lift (wpAny_attempt (C.ask p hp q hq _ _ ⟨rfl, wpS_pure h⟩)))
theorem q_ltAt (C : Cmp prog w A s κ O kf a₀) (B : SB κ a₀ st) {i j : Nat} (hi : i < a₀.size) (hj : j < a₀.size) {Q : Option Bool → SortSt → Prop} (h : Q (some (O.blt (KX kf (arrOf st) i) (KX kf (arrOf st) j))) st) : wpS (model prog w) A E s (ltAt' i j) Q st := by
  obtain ⟨p, ep, mp, kp⟩ := B.at (kf := kf) hi
  obtain ⟨q, eq, mq, kq⟩ := B.at (kf := kf) hj
  rw [kp, kq] at h
  rw [ltAt'_eq]
  refine wpS_bind (wpS_get ?_)
  show wpS _ _ _ _ (elem' (arrOf st) i >>= fun x => elem' (arrOf st) j >>= fun y => lt' x y) Q st
  rw [elem'_eq, elem'_eq, ep, eq]
  exact wpS_bind (wpS_pure (wpS_bind (wpS_pure (q_lt C B mp mq h))))
theorem kx_mirror {xs : Array Keyed} {i j : Nat} (hj : j ≤ xs.size) (k : Nat) : KX kf (mirror xs i j ((j - i) / 2)) k = if i ≤ k ∧ k < j then KX kf xs (i + j - 1 - k) else KX kf xs k := by
  have e := getElem?_mirror_all (xs := xs) (i := i) hj k
  by_cases h : i ≤ k ∧ k < j
  · rw [if_pos h] at e ⊢; exact kx_congr e
  · rw [if_neg h] at e ⊢; exact kx_congr e
theorem kx_bubble {xs : Array Keyed} {src d : Nat} (hs : src < xs.size) (hd : d ≤ src) (k : Nat) : KX kf (bubble xs src d) k = if k = src - d then KX kf xs src else if src - d < k ∧ k ≤ src then KX kf xs (k - 1) else KX kf xs k := by
  have e := getElem?_bubble hs d hd k
  by_cases h1 : k = src - d
  · rw [if_pos h1] at e ⊢; exact kx_congr e
  · rw [if_neg h1] at e ⊢
    by_cases h2 : src - d < k ∧ k ≤ src
    · rw [if_pos h2] at e ⊢; exact kx_congr e
    · rw [if_neg h2] at e ⊢; exact kx_congr e
structure Keep (lo : Nat) (st st' : SortSt) : Prop where
  pend : pendingOf st' = pendingOf st
  low : ∀ k, k < lo → (arrOf st')[k]? = (arrOf st)[k]?
theorem Keep.refl (lo : Nat) (st : SortSt) : Keep lo st st := ⟨rfl, fun _ _ => rfl⟩
theorem Keep.trans {lo : Nat} {a b c : SortSt} (x : Keep lo a b) (y : Keep lo b c) : Keep lo a c := ⟨y.pend.trans x.pend, fun k h => (y.low k h).trans (x.low k h)⟩
theorem q_binary (C : Cmp prog w A s κ O kf a₀) {lo n ok : Nat} (hn : lo + n ≤ a₀.size) (hok : ok ≤ n) (B : SB κ a₀ st) (hs : Up kf (arrOf st) lo (lo + ok)) {Q : Bool → SortSt → Prop}
    (h : ∀ st', SB κ a₀ st' → Keep lo st st' → Up kf (arrOf st') lo (lo + n) → Q true st') : wpS (model prog w) A E s (binarySort' lo n ok) Q st := by
  rw [binarySort'_eq]
  refine wpS_bind (wpS_mono (wpS_forRange (I := fun k c st' => c = (none, ()) ∧ SB κ a₀ st' ∧ Keep lo st st' ∧ Up kf (arrOf st') lo (lo + min k n))
    (Q := fun c st' => c = (none, ()) ∧ SB κ a₀ st' ∧ Keep lo st st' ∧ Up kf (arrOf st') lo (lo + n)) ?step ?fin ?init) ?post)
  case post =>
    rintro c st' ⟨rfl, B', K', u⟩
    exact wpS_pure (h st' B' K' u)
  case init =>
    refine ⟨rfl, B, Keep.refl _ _, fun i j h1 h2 h3 => ?_⟩
    by_cases z : ok = 0
    · obtain rfl : i = j := by omega
      exact KeyOrd.kle_refl _
    · exact hs i j h1 h2 (by omega)
  case fin =>
    rintro c st' ⟨hc, B', K', u⟩
    rw [show min (max (max ok 1) n) n = n by omega] at u
    exact ⟨hc, B', K', u⟩
  case step =>
    rintro k c st' hk1 hk2 ⟨rfl, B', K', u⟩
    rw [show min k n = k by omega] at u
    refine wpS_bind (wpS_mono (wpS_forRange (I := fun x c st2 => st2 = st' ∧ ∃ l r, c = (none, l, r) ∧ l ≤ r ∧ r ≤ k ∧ r - l ≤ k - x ∧
        (∀ i, i < l → O.kle (KX kf (arrOf st') (lo + i)) (KX kf (arrOf st') (lo + k))) ∧ (∀ i, r ≤ i → i < k → O.klt (KX kf (arrOf st') (lo + k)) (KX kf (arrOf st') (lo + i))))
      (Q := fun c st2 => st2 = st' ∧ ∃ l r, c = (none, l, r) ∧ l ≤ k ∧ (∀ i, i < l → O.kle (KX kf (arrOf st') (lo + i)) (KX kf (arrOf st') (lo + k))) ∧ (∀ i, l ≤ i → i < k → O.klt (KX kf (arrOf st') (lo + k)) (KX kf (arrOf st') (lo + i)))) ?i1 ?i2 ?i3) ?i4)
    case i3 => exact ⟨rfl, 0, k, rfl, by omega, by omega, by omega, fun i q => by omega, fun i q1 q2 => by omega⟩
    case i2 =>
      rintro c st2 ⟨rfl, l, r, rfl, h1, h2, h3, h4, h5⟩
      obtain rfl : l = r := by omega
      exact ⟨rfl, l, l, rfl, h2, h4, h5⟩
    case i1 =>
      rintro x c st2 _ hx ⟨rfl, l, r, rfl, h1, h2, h3, h4, h5⟩
      dsimp only
      by_cases g : l ≥ r
      · rw [if_pos g]
        obtain rfl : l = r := by omega
        exact wpS_pure ⟨rfl, l, l, rfl, h2, h4, h5⟩
      · rw [if_neg g]
        refine wpS_bind (q_ltAt C B' (by omega) (by omega) ?_)
        cases e : O.blt (KX kf (arrOf st2) (lo + k)) (KX kf (arrOf st2) (lo + (l + r) / 2)) with
        | true =>
          refine wpS_pure ⟨rfl, l, (l + r) / 2, rfl, by omega, by omega, by omega, h4, fun i q1 q2 => ?_⟩
          exact KeyOrd.klt_of_klt_of_kle e (u _ _ (by omega) (by omega) (by omega))
        | false =>
          refine wpS_pure ⟨rfl, (l + r) / 2 + 1, r, rfl, by omega, by omega, by omega, fun i q1 => ?_, h5⟩
          exact KeyOrd.kle_trans (u (lo + i) (lo + (l + r) / 2) (by omega) (by omega) (by omega)) (show O.kle _ _ from e)
    case i4 =>
      rintro c st2 ⟨rfl, l, r, rfl, h1, h4, h5⟩
      show wpS _ _ _ _ (moveDown' (lo + k) (lo + l) >>= fun _ => pure (ForInStep.yield (none, ()))) _ _
      rw [moveDown'_eq]
      have hks : lo + k < (arrOf st2).size := by rw [B'.size]; omega
      have hd : lo + k - (lo + l) ≤ lo + k := by omega
      refine wpS_bind (wpS_modify (wpS_pure ⟨rfl, B'.put (bubble_perm _ _ _), K'.trans ⟨rfl, fun z hz => ?_⟩, ?_⟩))
      · show (bubble (arrOf st2) (lo + k) (lo + k - (lo + l)))[z]? = _
        rw [getElem?_bubble hks _ hd, if_neg (by omega), if_neg (by omega)]
      · rw [show min (k + 1) n = k + 1 by omega]
        intro i j q1 q2 q3
        show O.kle (KX kf (bubble (arrOf st2) (lo + k) (lo + k - (lo + l))) i) (KX kf (bubble (arrOf st2) (lo + k) (lo + k - (lo + l))) j)
        rw [kx_bubble hks hd, kx_bubble hks hd, show lo + k - (lo + k - (lo + l)) = lo + l by omega]
        have lowv : ∀ z, lo ≤ z → z < lo + l → O.kle (KX kf (arrOf st2) z) (KX kf (arrOf st2) (lo + k)) := fun z z1 z2 => by
          have := h4 (z - lo) (by omega)
          rwa [show lo + (z - lo) = z by omega] at this
        have hiv : ∀ z, lo + l ≤ z → z < lo + k → O.klt (KX kf (arrOf st2) (lo + k)) (KX kf (arrOf st2) z) := fun z z1 z2 => by
          have := h5 (z - lo) (by omega) (by omega)
          rwa [show lo + (z - lo) = z by omega] at this
        repeat' split
        all_goals first
          | (exfalso; omega)
          | exact KeyOrd.kle_refl _
          | exact lowv _ (by omega) (by omega)
          | exact KeyOrd.kle_of_klt (hiv _ (by omega) (by omega))
          | exact u _ _ (by omega) (by omega) (by omega)
end
end Srt
namespace Srt
open PySem PyProof.Rows
section
variable {prog : Program} {w : World} {A : Around} {E : Value → Shared → Prop} {s : Shared} {κ : SortKind} {O : KeyOrd} {kf : Value → O.α} {a₀ : Array Keyed} {st : SortSt}
theorem Up.grow {xs : Array Keyed} {lo n : Nat} (u : Up kf xs lo (lo + n)) (h1 : 1 ≤ n) (h : O.kle (KX kf xs (lo + n - 1)) (KX kf xs (lo + n))) : Up kf xs lo (lo + (n + 1)) := fun i j q1 q2 q3 => by
  by_cases z : j = lo + n
  · subst z
    by_cases z2 : i = lo + n
    · subst z2; exact KeyOrd.kle_refl _
    · exact KeyOrd.kle_trans (u i (lo + n - 1) q1 (by omega) (by omega)) h
  · exact u i j q1 q2 (by omega)
def Dn (kf : Value → O.α) (xs : Array Keyed) (lo hi : Nat) : Prop := ∀ i j, lo ≤ i → i ≤ j → j < hi → O.kle (KX kf xs j) (KX kf xs i)
theorem Dn.grow {xs : Array Keyed} {lo n : Nat} (u : Dn kf xs lo (lo + n)) (h1 : 1 ≤ n) (h : O.kle (KX kf xs (lo + n)) (KX kf xs (lo + n - 1))) : Dn kf xs lo (lo + (n + 1)) := fun i j q1 q2 q3 => by
  by_cases z : j = lo + n
  · subst z
    by_cases z2 : i = lo + n
    · subst z2; exact KeyOrd.kle_refl _
    · exact KeyOrd.kle_trans h (u i (lo + n - 1) q1 (by omega) (by omega))
  · exact u i j q1 q2 (by omega)
theorem keep_mirror (B : SB κ a₀ st) {lo i j : Nat} (hi : lo ≤ i) (hj : j ≤ a₀.size) : SB κ a₀ (setArr st (mirror (arrOf st) i j ((j - i) / 2))) ∧ Keep lo st (setArr st (mirror (arrOf st) i j ((j - i) / 2))) := by
  refine ⟨B.put (mirror_perm _ _ _ _), rfl, fun k hk => ?_⟩
  show (mirror (arrOf st) i j ((j - i) / 2))[k]? = _
  rw [getElem?_mirror_all (by rw [B.size]; exact hj), if_neg (by omega)]
theorem mirror_eq (B : SB κ a₀ st) {i j : Nat} (hj : j ≤ a₀.size) (h : ∀ k, i ≤ k → k < j → KX kf (arrOf st) k = KX kf (arrOf st) (j - 1)) (k : Nat) : KX kf (mirror (arrOf st) i j ((j - i) / 2)) k = KX kf (arrOf st) k := by
  rw [kx_mirror (by rw [B.size]; exact hj)]
  split
  · rw [h _ (by omega) (by omega), h k (by omega) (by omega)]
  · rfl
theorem q_rise (C : Cmp prog w A s κ O kf a₀) {lo nrem n0 : Nat} (hn : lo + nrem ≤ a₀.size) (h0 : 1 ≤ n0) (h1 : n0 ≤ nrem) (B : SB κ a₀ st) (u : Up kf (arrOf st) lo (lo + n0)) {Q : Option (Option Nat) × Nat → SortSt → Prop}
    (h : ∀ n, n0 ≤ n → n ≤ nrem → Up kf (arrOf st) lo (lo + n) → (n < nrem → O.klt (KX kf (arrOf st) (lo + n)) (KX kf (arrOf st) (lo + n - 1))) → Q (none, n) st)
    {f : Nat → Option (Option Nat) × Nat → StateT SortSt Sem (ForInStep (Option (Option Nat) × Nat))} (hf : ∀ x c, f x c = (do
      match (← ltAt' (lo + c.2) (lo + c.2 - 1)) with
      | some b => if b = true then pure (.done (none, c.2)) else pure (.yield (none, c.2 + 1))
      | none => pure (.done (some none, c.2)))) : wpS (model prog w) A E s (forIn [n0:nrem] (none, n0) f) Q st := by
  refine wpS_forRange (I := fun x c st' => st' = st ∧ c = (none, x) ∧ n0 ≤ x ∧ x ≤ nrem ∧ Up kf (arrOf st) lo (lo + x)) ?_ ?_ ⟨rfl, rfl, Nat.le_refl _, h1, u⟩
  · rintro x c st' hx1 hx2 ⟨rfl, rfl, h2, h3, u'⟩
    rw [hf]
    refine wpS_bind (q_ltAt C B (by omega) (by omega) ?_)
    cases e : O.blt (KX kf (arrOf st') (lo + x)) (KX kf (arrOf st') (lo + x - 1)) with
    | true => exact wpS_pure (h x h2 h3 u' fun _ => e)
    | false => exact wpS_pure ⟨rfl, rfl, by omega, by omega, u'.grow (by omega) e⟩
  · rintro c st' ⟨rfl, rfl, h2, h3, u'⟩
    rw [show max n0 nrem = nrem by omega] at u' ⊢
    exact h nrem h1 (Nat.le_refl _) u' fun q => absurd q (Nat.lt_irrefl _)
end
section
variable {prog : Program} {w : World} {A : Around} {E : Value → Shared → Prop} {s : Shared} {κ : SortKind} {O : KeyOrd} {kf : Value → O.α} {a₀ : Array Keyed} {st : SortSt}
abbrev RSt := Option (Option Nat) × Nat
def riseB (lo : Nat) (c : RSt) : StateT SortSt Sem (ForInStep RSt) := ltAt' (lo + c.2) (lo + c.2 - 1) >>= fun o => match o with
  | some b => if b = true then pure (.done (none, c.2)) else pure (.yield (none, c.2 + 1))
  | _ => pure (.done (some none, c.2))
def tl3 (lo nrem n : Nat) : StateT SortSt Sem (Option Nat) := reverseSlice' lo (lo + n) >>= fun _ => forIn [n:nrem] ((none, n) : RSt) (fun _ c => riseB lo c) >>= fun c => match c.1 with
  | some r => pure r
  | none => pure (some c.2)
abbrev DSt := Option (Option Nat) × Nat × Nat
def fallB (lo : Nat) (c : DSt) : StateT SortSt Sem (ForInStep DSt) := ltAt' (lo + c.2.1) (lo + c.2.1 - 1) >>= fun o => match o with
  | some b => if b = true then (if c.2.2 > 0 then reverseSlice' (lo + c.2.1 - (c.2.2 + 1)) (lo + c.2.1) >>= fun _ => pure (.yield (none, c.2.1 + 1, 0)) else pure (.yield (none, c.2.1 + 1, 0)))
      else ltAt' (lo + c.2.1 - 1) (lo + c.2.1) >>= fun o2 => match o2 with
        | some b2 => if b2 = true then pure (.done (none, c.2.1, c.2.2)) else pure (.yield (none, c.2.1 + 1, c.2.2 + 1))
        | _ => pure (.done (some none, c.2.1, c.2.2))
  | _ => pure (.done (some none, c.2.1, c.2.2))
def dsc (lo nrem n : Nat) : StateT SortSt Sem (Option Nat) := liftM (rule "list.sort.descending-run") >>= fun _ => forIn [n + 1:nrem] ((none, n + 1, 0) : DSt) (fun _ c => fallB lo c) >>= fun c => match c.1 with
  | some r => pure r
  | none => if c.2.2 > 0 then reverseSlice' (lo + c.2.1 - (c.2.2 + 1)) (lo + c.2.1) >>= fun _ => tl3 lo nrem c.2.1 else tl3 lo nrem c.2.1
theorem q_tl3 (C : Cmp prog w A s κ O kf a₀) {lo nrem n : Nat} (hn : lo + nrem ≤ a₀.size) (h0 : 1 ≤ n) (h1 : n ≤ nrem) (B : SB κ a₀ st) (dn : Dn kf (arrOf st) lo (lo + n)) {Q : Option Nat → SortSt → Prop}
    (h : ∀ m st', SB κ a₀ st' → Keep lo st st' → 1 ≤ m → m ≤ nrem → Up kf (arrOf st') lo (lo + m) → Q (some m) st') : wpS (model prog w) A E s (tl3 lo nrem n) Q st := by
  unfold tl3
  rw [reverseSlice'_eq]
  refine wpS_bind (wpS_modify ?_)
  obtain ⟨B1, K1⟩ := keep_mirror B (Nat.le_refl lo) (show lo + n ≤ a₀.size by omega)
  have u : Up kf (mirror (arrOf st) lo (lo + n) ((lo + n - lo) / 2)) lo (lo + n) := fun i j q1 q2 q3 => by
    rw [kx_mirror (by rw [B.size]; omega), kx_mirror (by rw [B.size]; omega), if_pos (by omega), if_pos (by omega)]
    exact dn _ _ (by omega) (by omega) (by omega)
  refine wpS_bind (q_rise C hn h0 h1 B1 u (fun m m1 m2 u2 _ => ?_) fun x c => congrArg (ltAt' _ _ >>= ·) (funext fun o => by cases o <;> rfl))
  exact wpS_pure (h m _ B1 K1 (by omega) m2 u2)
theorem q_dsc (C : Cmp prog w A s κ O kf a₀) {lo nrem n : Nat} (hn : lo + nrem ≤ a₀.size) (h0 : 1 ≤ n) (h1 : n < nrem) (B : SB κ a₀ st) (eq : ∀ k, lo ≤ k → k < lo + n → KX kf (arrOf st) k = KX kf (arrOf st) (lo + n - 1)) (lt : O.klt (KX kf (arrOf st) (lo + n)) (KX kf (arrOf st) (lo + n - 1))) {Q : Option Nat → SortSt → Prop}
    (h : ∀ m st', SB κ a₀ st' → Keep lo st st' → 1 ≤ m → m ≤ nrem → Up kf (arrOf st') lo (lo + m) → Q (some m) st') : wpS (model prog w) A E s (dsc lo nrem n) Q st := by
  unfold dsc
  refine wpS_bind (wpS_lift (wpAny_rule ⟨rfl, ?_⟩))
  have dn0 : Dn kf (arrOf st) lo (lo + (n + 1)) := Dn.grow (fun i j q1 q2 q3 => by rw [eq i q1 (by omega), eq j (by omega) q3]; exact KeyOrd.kle_refl _) h0 (KeyOrd.kle_of_klt lt)
  refine wpS_bind (wpS_mono (wpS_forRange (I := fun x c st' => ∃ e, c = (none, x, e) ∧ n + 1 ≤ x ∧ x ≤ nrem ∧ e + 1 ≤ x ∧ SB κ a₀ st' ∧ Keep lo st st' ∧ Dn kf (arrOf st') lo (lo + x) ∧ ∀ k, lo + x - (e + 1) ≤ k → k < lo + x → KX kf (arrOf st') k = KX kf (arrOf st') (lo + x - 1))
    (Q := fun c st' => ∃ x e, c = (none, x, e) ∧ n + 1 ≤ x ∧ x ≤ nrem ∧ e + 1 ≤ x ∧ SB κ a₀ st' ∧ Keep lo st st' ∧ Dn kf (arrOf st') lo (lo + x) ∧ ∀ k, lo + x - (e + 1) ≤ k → k < lo + x → KX kf (arrOf st') k = KX kf (arrOf st') (lo + x - 1)) ?step ?fin ?init) ?post)
  case init => exact ⟨0, rfl, Nat.le_refl _, h1, by omega, B, Keep.refl _ _, dn0, fun k q1 q2 => by rw [show k = lo + (n + 1) - 1 by omega]⟩
  case fin =>
    rintro c st' ⟨e, rfl, x1, x2, r⟩
    exact ⟨_, e, rfl, x1, x2, r⟩
  case step =>
    rintro x c st' hx1 hx2 ⟨e, rfl, x1, x2, e1, B', K', dn, eqs⟩
    unfold fallB
    dsimp only
    refine wpS_bind (q_ltAt C B' (by omega) (by omega) ?_)
    cases b : O.blt (KX kf (arrOf st') (lo + x)) (KX kf (arrOf st') (lo + x - 1)) with
    | true =>
      dsimp only
      rw [if_pos rfl]
      have dn2 : ∀ ys : Array Keyed, (∀ k, KX kf ys k = KX kf (arrOf st') k) → Dn kf ys lo (lo + (x + 1)) := fun ys hk => by
        have := dn.grow (by omega) (KeyOrd.kle_of_klt b)
        intro i j q1 q2 q3
        rw [hk, hk]
        exact this i j q1 q2 q3
      by_cases he : e > 0
      · rw [if_pos he, reverseSlice'_eq]
        refine wpS_bind (wpS_modify (wpS_pure ?_))
        obtain ⟨B1, K1⟩ := keep_mirror B' (show lo ≤ lo + x - (e + 1) by omega) (show lo + x ≤ a₀.size by omega)
        exact ⟨0, rfl, by omega, by omega, by omega, B1, K'.trans K1, dn2 _ (mirror_eq B' (by omega) eqs), fun k q1 q2 => by rw [show k = lo + (x + 1) - 1 by omega]⟩
      · rw [if_neg he]
        exact wpS_pure ⟨0, rfl, by omega, by omega, by omega, B', K', dn2 _ (fun _ => rfl), fun k q1 q2 => by rw [show k = lo + (x + 1) - 1 by omega]⟩
    | false =>
      dsimp only
      rw [if_neg Bool.false_ne_true]
      refine wpS_bind (q_ltAt C B' (by omega) (by omega) ?_)
      cases b2 : O.blt (KX kf (arrOf st') (lo + x - 1)) (KX kf (arrOf st') (lo + x)) with
      | true => exact wpS_pure ⟨x, e, rfl, x1, x2, e1, B', K', dn, eqs⟩
      | false =>
        have ek : KX kf (arrOf st') (lo + x - 1) = KX kf (arrOf st') (lo + x) := O.total _ _ b2 b
        refine wpS_pure ⟨e + 1, rfl, by omega, by omega, by omega, B', K', dn.grow (by omega) b2, fun k q1 q2 => ?_⟩
        rw [show lo + (x + 1) - 1 = lo + x by omega]
        by_cases z : k = lo + x
        · rw [z]
        · rw [eqs k (by omega) (by omega), ek]
  case post =>
    rintro c st' ⟨x, e, rfl, x1, x2, e1, B', K', dn, eqs⟩
    dsimp only
    by_cases he : e > 0
    · rw [if_pos he, reverseSlice'_eq]
      refine wpS_bind (wpS_modify ?_)
      obtain ⟨B1, K1⟩ := keep_mirror B' (show lo ≤ lo + x - (e + 1) by omega) (show lo + x ≤ a₀.size by omega)
      refine q_tl3 C hn (by omega) x2 B1 (fun i j q1 q2 q3 => ?_) fun m st2 B2 K2 => h m st2 B2 ((K'.trans K1).trans K2)
      show O.kle (KX kf (mirror (arrOf st') _ _ _) j) (KX kf (mirror (arrOf st') _ _ _) i)
      rw [mirror_eq B' (by omega) eqs, mirror_eq B' (by omega) eqs]
      exact dn i j q1 q2 q3
    · rw [if_neg he]
      exact q_tl3 C hn (by omega) x2 B' dn fun m st2 B2 K2 => h m st2 B2 (K'.trans K2)
theorem wpS_eq {M : Model} {α σ : Type} {m m' : StateT σ Sem α} {Q : α → σ → Prop} {t : σ} (e : m' = m) (h : wpS M A E s m Q t) : wpS M A E s m' Q t := by rw [e]; exact h
theorem q_count (C : Cmp prog w A s κ O kf a₀) {lo nrem : Nat} (hn : lo + nrem ≤ a₀.size) (h1 : 1 ≤ nrem) (B : SB κ a₀ st) {Q : Option Nat → SortSt → Prop}
    (h : ∀ n st', SB κ a₀ st' → Keep lo st st' → 1 ≤ n → n ≤ nrem → Up kf (arrOf st') lo (lo + n) → Q (some n) st') : wpS (model prog w) A E s (countRun' lo nrem) Q st := by
  rw [countRun'_eq]
  have u1 : Up kf (arrOf st) lo (lo + 1) := fun i j q1 q2 q3 => by
    obtain rfl : i = j := by omega
    exact KeyOrd.kle_refl _
  refine wpS_bind (q_rise C hn (Nat.le_refl _) h1 B u1 (fun n n1 n2 u kl => ?_) fun x c => congrArg (ltAt' _ _ >>= ·) (funext fun o => by cases o <;> rfl))
  dsimp only
  by_cases hnr : n = nrem
  · subst hnr
    rw [if_pos (beq_self_eq_true n)]
    exact wpS_pure (h n st B (Keep.refl _ _) n1 n2 u)
  · rw [if_neg (by simpa using hnr)]
    by_cases hg : n > 1
    · rw [if_pos hg]
      refine wpS_bind (q_ltAt C B (by omega) (by omega) ?_)
      cases b : O.blt (KX kf (arrOf st) lo) (KX kf (arrOf st) (lo + n - 1)) with
      | true => exact wpS_pure (h n st B (Keep.refl _ _) n1 n2 u)
      | false =>
        have eqk : ∀ k, lo ≤ k → k < lo + n → KX kf (arrOf st) k = KX kf (arrOf st) (lo + n - 1) := fun k q1 q2 => by
          refine KeyOrd.kle_antisymm (u k (lo + n - 1) q1 (by omega) (by omega)) (KeyOrd.kle_trans (show O.kle _ _ from b) (u lo k (Nat.le_refl _) q1 q2))
        dsimp only
        rw [if_neg Bool.false_ne_true]
        refine wpS_bind ?_
        rw [reverseSlice'_eq]
        refine wpS_modify ?_
        refine wpS_eq (m := dsc lo nrem n) ?same ?_
        case same =>
          exact (by
            unfold dsc
            refine congrArg (liftM (rule _) >>= ·) (funext fun _ => congr (congrArg _ (congrArg (forIn _ _) (funext fun _ => funext fun c => ?_))) (funext fun c => ?_))
            · unfold fallB
              refine congrArg (ltAt' _ _ >>= ·) (funext fun o => ?_)
              cases o with
              | none => rfl
              | some b =>
                cases b with
                | true => rfl
                | false => exact congrArg (ltAt' _ _ >>= ·) (funext fun o2 => by cases o2 <;> rfl)
            · obtain ⟨c1, c2⟩ := c
              have t3 : ∀ n, tl3 lo nrem n = (reverseSlice' lo (lo + n) >>= fun _ => forIn [n:nrem] ((none, n) : RSt) (fun _ c => riseB lo c) >>= fun c => match c.1 with
                | some r => pure r
                | none => pure (some c.2)) := fun _ => rfl
              have t4 : ∀ n (X : Nat → RSt → StateT SortSt Sem (ForInStep RSt)) (Y : RSt → StateT SortSt Sem (Option Nat)), (∀ x c, X x c = riseB lo c) → (∀ c, Y c = match c.1 with
                | some r => pure r
                | none => pure (some c.2)) → (reverseSlice' lo (lo + n) >>= fun _ => forIn [n:nrem] ((none, n) : RSt) X >>= Y) = tl3 lo nrem n := fun n X Y h1 h2 => by
                rw [t3, show X = fun _ c => riseB lo c from funext fun x => funext fun c => h1 x c, show Y = _ from funext h2]
              cases c1 with
              | some r => rfl
              | none =>
                dsimp only
                by_cases z : c2.2 > 0
                · rw [if_pos z, if_pos z]
                  refine congrArg (reverseSlice' _ _ >>= ·) (funext fun _ => ?_)
                  exact t4 _ _ _ (fun x c => congrArg (ltAt' _ _ >>= ·) (funext fun o => by cases o <;> rfl)) (fun c => by obtain ⟨d1, d2⟩ := c; cases d1 <;> rfl)
                · rw [if_neg z, if_neg z]
                  exact t4 _ _ _ (fun x c => congrArg (ltAt' _ _ >>= ·) (funext fun o => by cases o <;> rfl)) (fun c => by obtain ⟨d1, d2⟩ := c; cases d1 <;> rfl))
        obtain ⟨B1, K1⟩ := keep_mirror B (Nat.le_refl lo) (show lo + n ≤ a₀.size by omega)
        have me := mirror_eq B (i := lo) (j := lo + n) (by omega) eqk
        refine q_dsc C hn n1 (by omega) B1 (fun k q1 q2 => ?_) ?_ fun m st2 B2 K2 => h m st2 B2 (K1.trans K2)
        · show KX kf (mirror (arrOf st) _ _ _) k = KX kf (mirror (arrOf st) _ _ _) _
          rw [me, me]
          exact eqk k q1 q2
        · show O.klt (KX kf (mirror (arrOf st) _ _ _) _) (KX kf (mirror (arrOf st) _ _ _) _)
          rw [me, me]
          exact kl (by omega)
    · rw [if_neg hg]
      refine wpS_eq (m := dsc lo nrem n) ?same ?_
      case same =>
          exact (by
            unfold dsc
            refine congrArg (liftM (rule _) >>= ·) (funext fun _ => congr (congrArg _ (congrArg (forIn _ _) (funext fun _ => funext fun c => ?_))) (funext fun c => ?_))
            · unfold fallB
              refine congrArg (ltAt' _ _ >>= ·) (funext fun o => ?_)
              cases o with
              | none => rfl
              | some b =>
                cases b with
                | true => rfl
                | false => exact congrArg (ltAt' _ _ >>= ·) (funext fun o2 => by cases o2 <;> rfl)
            · obtain ⟨c1, c2⟩ := c
              have t3 : ∀ n, tl3 lo nrem n = (reverseSlice' lo (lo + n) >>= fun _ => forIn [n:nrem] ((none, n) : RSt) (fun _ c => riseB lo c) >>= fun c => match c.1 with
                | some r => pure r
                | none => pure (some c.2)) := fun _ => rfl
              have t4 : ∀ n (X : Nat → RSt → StateT SortSt Sem (ForInStep RSt)) (Y : RSt → StateT SortSt Sem (Option Nat)), (∀ x c, X x c = riseB lo c) → (∀ c, Y c = match c.1 with
                | some r => pure r
                | none => pure (some c.2)) → (reverseSlice' lo (lo + n) >>= fun _ => forIn [n:nrem] ((none, n) : RSt) X >>= Y) = tl3 lo nrem n := fun n X Y h1 h2 => by
                rw [t3, show X = fun _ c => riseB lo c from funext fun x => funext fun c => h1 x c, show Y = _ from funext h2]
              cases c1 with
              | some r => rfl
              | none =>
                dsimp only
                by_cases z : c2.2 > 0
                · rw [if_pos z, if_pos z]
                  refine congrArg (reverseSlice' _ _ >>= ·) (funext fun _ => ?_)
                  exact t4 _ _ _ (fun x c => congrArg (ltAt' _ _ >>= ·) (funext fun o => by cases o <;> rfl)) (fun c => by obtain ⟨d1, d2⟩ := c; cases d1 <;> rfl)
                · rw [if_neg z, if_neg z]
                  exact t4 _ _ _ (fun x c => congrArg (ltAt' _ _ >>= ·) (funext fun o => by cases o <;> rfl)) (fun c => by obtain ⟨d1, d2⟩ := c; cases d1 <;> rfl))
      obtain rfl : n = 1 := by omega
      exact q_dsc C hn n1 (by omega) B (fun k q1 q2 => by rw [show k = lo + 1 - 1 by omega]) (kl (by omega)) h
end
end Srt
namespace Srt
open PySem PyProof.Rows
def gallop' : Bool → Keyed → Array Keyed → Nat → Nat → Nat → StateT SortSt Sem (Option Nat) := sortPriv% PySem.Builtin.gallop
def mergeLo' : Array Keyed → Array Keyed → StateT SortSt Sem (Array Keyed) := sortPriv% PySem.Builtin.mergeLo
def mergeHi' : Array Keyed → Array Keyed → StateT SortSt Sem (Array Keyed) := sortPriv% PySem.Builtin.mergeHi
section
variable {prog : Program} {w : World} {A : Around} {E : Value → Shared → Prop} {s : Shared} {κ : SortKind} {O : KeyOrd} {kf : Value → O.α} {a₀ : Array Keyed} {st : SortSt}
theorem q_elem {arr : Array Keyed} {i : Nat} (hi : i < arr.size) {Q : Keyed → SortSt → Prop} (h : Q arr[i] st) : wpS (model prog w) A E s (elem' arr i) Q st := by
  rw [elem'_eq, getElem?_pos arr i hi]
  exact wpS_pure h
def bey (kf : Value → O.α) (left : Bool) (key : Keyed) (arr : Array Keyed) (base i : Nat) : Bool := if left = true then O.blt (KX kf arr (base + i)) (kf key.1) else !O.blt (kf key.1) (KX kf arr (base + i))
theorem kx_at {arr : Array Keyed} {i : Nat} (hi : i < arr.size) : KX kf arr i = kf arr[i].1 := by
  unfold KX
  rw [getElem?_pos arr i hi]
  rfl
theorem q_bey (C : Cmp prog w A s κ O kf a₀) (B : SB κ a₀ st) {left : Bool} {key : Keyed} {arr : Array Keyed} {base i : Nat} (hk : key ∈ a₀.toList) (ha : ∀ p ∈ arr.toList, p ∈ a₀.toList) (hi : base + i < arr.size) {Q : Option Bool → SortSt → Prop} (h : Q (some (bey kf left key arr base i)) st) :
    wpS (model prog w) A E s (elem' arr (base + i) >>= fun x => if left = true then lt' x key else lt' key x >>= fun o => pure (o.map fun b => !b)) Q st := by
  refine wpS_bind (q_elem hi ?_)
  have hm : arr[base + i] ∈ a₀.toList := ha _ (by simp)
  unfold bey at h
  rw [kx_at hi] at h
  cases left with
  | true =>
    rw [if_pos rfl] at h ⊢
    exact q_lt C B hm hk h
  | false =>
    rw [if_neg Bool.false_ne_true] at h ⊢
    exact wpS_bind (q_lt C B hk hm (wpS_pure h))
theorem bey_mono {left : Bool} {key : Keyed} {arr : Array Keyed} {base n i j : Nat} (u : Up kf arr base (base + n)) (hij : i ≤ j) (hj : j < n) (h : bey kf left key arr base j = true) : bey kf left key arr base i = true := by
  have uu := u (base + i) (base + j) (by omega) (by omega) (by omega)
  unfold bey at h ⊢
  cases left with
  | true =>
    rw [if_pos rfl] at h ⊢
    exact KeyOrd.klt_of_kle_of_klt uu h
  | false =>
    rw [if_neg Bool.false_ne_true] at h ⊢
    have h : O.kle (KX kf arr (base + j)) (kf key.1) := by show O.blt _ _ = false; simpa using h
    have : O.blt (kf key.1) (KX kf arr (base + i)) = false := KeyOrd.kle_trans uu h
    rw [this]
    rfl
theorem q_gallop (C : Cmp prog w A s κ O kf a₀) (B : SB κ a₀ st) {left : Bool} {key : Keyed} {arr : Array Keyed} {base n hint : Nat} (hk : key ∈ a₀.toList) (ha : ∀ p ∈ arr.toList, p ∈ a₀.toList) (hb : base + n ≤ arr.size) (hh : hint < n) (u : Up kf arr base (base + n)) {Q : Option Nat → SortSt → Prop}
    (h : ∀ k, k ≤ n → (∀ i, i < k → bey kf left key arr base i = true) → (∀ i, k ≤ i → i < n → bey kf left key arr base i = false) → Q (some k) st) : wpS (model prog w) A E s (gallop' left key arr base n hint) Q st := by
  have bq : ∀ {i : Nat} {Q : Option Bool → SortSt → Prop}, i < n → Q (some (bey kf left key arr base i)) st → wpS (model prog w) A E s (elem' arr (base + i) >>= fun x => if left = true then lt' x key else lt' key x >>= fun o => pure (o.map fun b => !b)) Q st := fun hi q => q_bey C B hk ha (by omega) q
  have up : ∀ i j, i ≤ j → j < n → bey kf left key arr base j = true → bey kf left key arr base i = true := fun i j q1 q2 q3 => bey_mono u q1 q2 q3
  refine wpS_bind (bq hh ?_)
  have fin : ∀ lo hi, lo ≤ hi → hi ≤ n → (∀ i, i < lo → bey kf left key arr base i = true) → (∀ i, hi ≤ i → i < n → bey kf left key arr base i = false) → ∀ {f : Nat → Option (Option Nat) × Nat × Nat → StateT SortSt Sem (ForInStep (Option (Option Nat) × Nat × Nat))} {g : Option (Option Nat) × Nat × Nat → StateT SortSt Sem (Option Nat)},
      (∀ x c, f x c = if c.2.1 ≥ c.2.2 then pure (.done (none, c.2.1, c.2.2)) else (elem' arr (base + (c.2.1 + (c.2.2 - c.2.1) / 2)) >>= fun x => if left = true then lt' x key else lt' key x >>= fun o => pure (o.map fun b => !b)) >>= fun o => match o with
        | some b => if b = true then pure (.yield (none, c.2.1 + (c.2.2 - c.2.1) / 2 + 1, c.2.2)) else pure (.yield (none, c.2.1, c.2.1 + (c.2.2 - c.2.1) / 2))
        | none => pure (.done (some none, c.2.1, c.2.2))) → (∀ c, g (none, c) = pure (some c.2)) → wpS (model prog w) A E s (forIn [:n] ((none, lo, hi) : Option (Option Nat) × Nat × Nat) f >>= g) Q st := by
    intro lo hi h1 h2 h3 h4 f g hf hg
    refine wpS_bind (wpS_mono (wpS_forRange (I := fun x c st' => st' = st ∧ ∃ l r, c = (none, l, r) ∧ l ≤ r ∧ r ≤ n ∧ r - l ≤ n - x ∧ (∀ i, i < l → bey kf left key arr base i = true) ∧ (∀ i, r ≤ i → i < n → bey kf left key arr base i = false))
      (Q := fun c st' => st' = st ∧ ∃ l, c = (none, l, l) ∧ l ≤ n ∧ (∀ i, i < l → bey kf left key arr base i = true) ∧ (∀ i, l ≤ i → i < n → bey kf left key arr base i = false)) ?_ ?_ ⟨rfl, lo, hi, rfl, h1, h2, by omega, h3, h4⟩) ?_)
    · rintro x c st' _ hx ⟨rfl, l, r, rfl, q1, q2, q3, q4, q5⟩
      rw [hf]
      dsimp only
      by_cases g : l ≥ r
      · rw [if_pos g]
        obtain rfl : l = r := by omega
        exact wpS_pure ⟨rfl, l, rfl, q2, q4, q5⟩
      · rw [if_neg g]
        refine wpS_bind (bq (by omega) ?_)
        cases e : bey kf left key arr base (l + (r - l) / 2) with
        | true => exact wpS_pure ⟨rfl, _, r, rfl, by omega, q2, by omega, fun i z => up i _ (by omega) (by omega) e, q5⟩
        | false => exact wpS_pure ⟨rfl, l, _, rfl, by omega, by omega, by omega, q4, fun i z1 z2 => by
            cases z : bey kf left key arr base i with
            | false => rfl
            | true => rw [up _ i z1 z2 z] at e; cases e⟩
    · rintro c st' ⟨rfl, l, r, rfl, q1, q2, q3, q4, q5⟩
      obtain rfl : l = r := by omega
      exact ⟨rfl, l, rfl, q2, q4, q5⟩
    · rintro c st' ⟨rfl, l, rfl, q2, q4, q5⟩
      rw [hg]
      exact wpS_pure (h l q2 q4 q5)
  cases e : bey kf left key arr base hint with
  | true =>
    refine wpS_bind (wpS_mono (wpS_forRange (I := fun x c st' => st' = st ∧ ∃ l o, c = (none, l, o) ∧ l < o ∧ hint + l < n ∧ x + 1 ≤ o ∧ bey kf left key arr base (hint + l) = true)
      (Q := fun c st' => st' = st ∧ ∃ l o, c = (none, l, o) ∧ l < o ∧ hint + l < n ∧ bey kf left key arr base (hint + l) = true ∧ (o ≥ n - hint ∨ (hint + o < n ∧ bey kf left key arr base (hint + o) = false))) ?_ ?_ ⟨rfl, 0, 1, rfl, by omega, by omega, by omega, e⟩) ?_)
    · rintro x c st' _ hx ⟨rfl, l, o, rfl, q1, q2, q3, q4⟩
      dsimp only
      by_cases g : o ≥ n - hint
      · rw [if_pos g]
        exact wpS_pure ⟨rfl, l, o, rfl, q1, q2, q4, .inl g⟩
      · rw [if_neg g]
        refine wpS_bind (bq (by omega) ?_)
        cases e2 : bey kf left key arr base (hint + o) with
        | true => exact wpS_pure ⟨rfl, o, _, rfl, by omega, by omega, by omega, e2⟩
        | false => exact wpS_pure ⟨rfl, l, o, rfl, q1, q2, q4, .inr ⟨by omega, e2⟩⟩
    · rintro c st' ⟨rfl, l, o, rfl, q1, q2, q3, q4⟩
      exact ⟨rfl, l, o, rfl, q1, q2, q4, .inl (by omega)⟩
    · rintro c st' ⟨rfl, l, o, rfl, q1, q2, q4, q5⟩
      refine fin (hint + l + 1) (hint + min o (n - hint)) (by omega) (by omega) (fun i z => up i _ (by omega) q2 q4) (fun i z1 z2 => ?_) (fun x c => ?_) (fun c => rfl)
      · rcases q5 with q5 | ⟨q5, q6⟩
        · omega
        · cases z : bey kf left key arr base i with
          | false => rfl
          | true => rw [up (hint + o) i (by omega) z2 z] at q6; cases q6
      · dsimp only
        split
        · rfl
        · exact congrArg (_ >>= ·) (funext fun o => by cases o <;> rfl)
  | false =>
    refine wpS_bind (wpS_mono (wpS_forRange (I := fun x c st' => st' = st ∧ ∃ l o, c = (none, l, o) ∧ l < o ∧ l ≤ hint ∧ x + 1 ≤ o ∧ bey kf left key arr base (hint - l) = false)
      (Q := fun c st' => st' = st ∧ ∃ l o, c = (none, l, o) ∧ l < o ∧ l ≤ hint ∧ bey kf left key arr base (hint - l) = false ∧ (o ≥ hint + 1 ∨ (o ≤ hint ∧ bey kf left key arr base (hint - o) = true))) ?_ ?_ ⟨rfl, 0, 1, rfl, by omega, by omega, by omega, e⟩) ?_)
    · rintro x c st' _ hx ⟨rfl, l, o, rfl, q1, q2, q3, q4⟩
      dsimp only
      by_cases g : o ≥ hint + 1
      · rw [if_pos g]
        exact wpS_pure ⟨rfl, l, o, rfl, q1, q2, q4, .inl g⟩
      · rw [if_neg g]
        refine wpS_bind (bq (by omega) ?_)
        cases e2 : bey kf left key arr base (hint - o) with
        | false => exact wpS_pure ⟨rfl, o, _, rfl, by omega, by omega, by omega, e2⟩
        | true => exact wpS_pure ⟨rfl, l, o, rfl, q1, q2, q4, .inr ⟨by omega, e2⟩⟩
    · rintro c st' ⟨rfl, l, o, rfl, q1, q2, q3, q4⟩
      exact ⟨rfl, l, o, rfl, q1, q2, q4, .inl (by omega)⟩
    · rintro c st' ⟨rfl, l, o, rfl, q1, q2, q4, q5⟩
      refine fin (hint + 1 - min o (hint + 1)) (hint - l) (by omega) (by omega) (fun i z => ?_) (fun i z1 z2 => ?_) (fun x c => ?_) (fun c => rfl)
      · rcases q5 with q5 | ⟨q5, q6⟩
        · omega
        · exact up i _ (by omega) (by omega) q6
      · cases z : bey kf left key arr base i with
        | false => rfl
        | true => rw [up (hint - l) i (by omega) z2 z] at q4; cases q4
      · dsimp only
        split
        · rfl
        · exact congrArg (_ >>= ·) (funext fun o => by cases o <;> rfl)
end
structure J (R : Keyed → Keyed → Prop) (la lb lo : List Keyed) (i j : Nat) : Prop where
  perm : lo.Perm (la.take i ++ lb.take j)
  srt : lo.Pairwise R
  a : ∀ x ∈ lo, ∀ y ∈ la.drop i, R x y
  b : ∀ x ∈ lo, ∀ y ∈ lb.drop j, R x y
section
variable {R : Keyed → Keyed → Prop} {la lb lo : List Keyed} {i j k : Nat}
theorem J.swap (h : J R la lb lo i j) : J R lb la lo j i := ⟨h.perm.trans List.perm_append_comm, h.srt, h.b, h.a⟩
theorem J.moveA (h : J R la lb lo i j) (pa : la.Pairwise R) (hx : ∀ x ∈ (la.drop i).take k, ∀ y ∈ lb.drop j, R x y) : J R la lb (lo ++ (la.drop i).take k) (i + k) j := by
  have pd : ((la.drop i).take k ++ (la.drop i).drop k).Pairwise R := by rw [List.take_append_drop]; exact pa.sublist (List.drop_sublist _ _)
  obtain ⟨p1, _, p3⟩ := List.pairwise_append.mp pd
  have ed : la.drop (i + k) = (la.drop i).drop k := by rw [List.drop_drop]
  refine ⟨?_, List.pairwise_append.mpr ⟨h.srt, p1, fun x hx y hy => h.a x hx y (List.mem_of_mem_take hy)⟩, fun x hx' y hy => ?_, fun x hx' y hy => ?_⟩
  · rw [List.take_add, List.append_assoc]
    refine (h.perm.append_right _).trans ?_
    rw [List.append_assoc]
    exact List.Perm.append_left _ List.perm_append_comm
  · rw [ed] at hy
    rcases List.mem_append.mp hx' with q | q
    · exact h.a x q y (List.mem_of_mem_drop hy)
    · exact p3 x q y hy
  · rcases List.mem_append.mp hx' with q | q
    · exact h.b x q y hy
    · exact hx x q y hy
theorem J.moveB (h : J R la lb lo i j) (pb : lb.Pairwise R) (hx : ∀ x ∈ (lb.drop j).take k, ∀ y ∈ la.drop i, R x y) : J R la lb (lo ++ (lb.drop j).take k) i (j + k) := (h.swap.moveA pb hx).swap
def Fin (R : Keyed → Keyed → Prop) (la lb l : List Keyed) : Prop := l.Perm (la ++ lb) ∧ l.Pairwise R
theorem J.finA (h : J R la lb lo i j) (pa : la.Pairwise R) (pb : lb.Pairwise R) (hx : ∀ x ∈ la.drop i, ∀ y ∈ lb.drop j, R x y) : Fin R la lb (lo ++ la.drop i ++ lb.drop j) := by
  refine ⟨?_, List.pairwise_append.mpr ⟨List.pairwise_append.mpr ⟨h.srt, pa.sublist (List.drop_sublist _ _), h.a⟩, pb.sublist (List.drop_sublist _ _), fun x hx' y hy => ?_⟩⟩
  · refine ((h.perm.append_right _).append_right _).trans ?_
    have e1 : la = la.take i ++ la.drop i := (List.take_append_drop _ _).symm
    have e2 : lb = lb.take j ++ lb.drop j := (List.take_append_drop _ _).symm
    conv => rhs; rw [e1, e2]
    rw [List.append_assoc, List.append_assoc, List.append_assoc]
    refine List.Perm.append_left _ ?_
    rw [← List.append_assoc, ← List.append_assoc]
    exact List.Perm.append_right _ List.perm_append_comm
  · rcases List.mem_append.mp hx' with q | q
    · exact h.b x q y hy
    · exact hx x q y hy
theorem Fin.swap {l : List Keyed} (h : Fin R lb la l) : Fin R la lb l := ⟨h.1.trans List.perm_append_comm, h.2⟩
end
theorem toL_run {out a : Array Keyed} {i k : Nat} : (out ++ a.extract i (i + k)).toList = out.toList ++ (a.toList.drop i).take k := by
  simp [List.extract_eq_take_drop]
theorem toL_rest {a : Array Keyed} {i : Nat} : (a.extract i).toList = a.toList.drop i := by
  simp only [Array.toList_extract, List.extract_eq_take_drop]
  exact List.take_of_length_le (by simp)
theorem one_run {a : Array Keyed} {i : Nat} (hi : i < a.size) : (a.toList.drop i).take 1 = [a[i]] := by
  rw [List.drop_eq_getElem_cons (by simpa using hi)]
  simp
theorem toL_push {out a : Array Keyed} {i : Nat} (hi : i < a.size) : (out.push a[i]).toList = out.toList ++ (a.toList.drop i).take 1 := by
  rw [one_run hi]
  simp
section
variable {prog : Program} {w : World} {A : Around} {E : Value → Shared → Prop} {s : Shared} {κ : SortKind} {O : KeyOrd} {kf : Value → O.α} {a₀ : Array Keyed} {st : SortSt}
def RK (kf : Value → O.α) : Keyed → Keyed → Prop := fun p q => O.kle (kf p.1) (kf q.1)
theorem up_of {a : Array Keyed} (h : a.toList.Pairwise (RK kf)) {lo hi : Nat} (hh : hi ≤ a.size) : Up kf a lo hi := fun i j q1 q2 q3 => by
  by_cases z : i = j
  · rw [z]; exact KeyOrd.kle_refl _
  · rw [kx_at (by omega : i < a.size), kx_at (by omega : j < a.size)]
    have := List.pairwise_iff_getElem.mp h i j (by simp; omega) (by simp; omega) (by omega)
    simpa [RK] using this
theorem mem_drop_at {a : Array Keyed} {i : Nat} {p : Keyed} (h : p ∈ a.toList.drop i) : ∃ k, ∃ (hk : i + k < a.size), p = a[i + k] := by
  obtain ⟨k, hk, e⟩ := List.mem_iff_getElem.mp h
  rw [List.length_drop, Array.length_toList] at hk
  refine ⟨k, by omega, ?_⟩
  rw [← e, List.getElem_drop]
  simp
theorem mem_take_at {a : Array Keyed} {i k : Nat} {p : Keyed} (h : p ∈ (a.toList.drop i).take k) : ∃ m, m < k ∧ ∃ (hk : i + m < a.size), p = a[i + m] := by
  obtain ⟨m, hm, e⟩ := List.mem_iff_getElem.mp h
  rw [List.length_take, List.length_drop, Array.length_toList] at hm
  refine ⟨m, by omega, by omega, ?_⟩
  rw [← e, List.getElem_take, List.getElem_drop]
  simp
structure Still (κ : SortKind) (a₀ : Array Keyed) (st st' : SortSt) : Prop where
  sb : SB κ a₀ st'
  arr : arrOf st' = arrOf st
  pend : pendingOf st' = pendingOf st
theorem Still.gal {st st' : SortSt} (x : Still κ a₀ st st') (g : Nat) : Still κ a₀ st (SortSt.mk' (kindOf st') (arrOf st') (pendingOf st') g (failedOf st')) := ⟨⟨x.sb.perm, x.sb.kind, x.sb.failed⟩, x.arr, x.pend⟩
theorem q_mergeLo (C : Cmp prog w A s κ O kf a₀) (B : SB κ a₀ st) {a b : Array Keyed} (ha : ∀ p ∈ a.toList, p ∈ a₀.toList) (hb : ∀ p ∈ b.toList, p ∈ a₀.toList) (a1 : 1 ≤ a.size) (b1 : 1 ≤ b.size) (pa : a.toList.Pairwise (RK kf)) (pb : b.toList.Pairwise (RK kf))
    (first : ∀ p ∈ a.toList, RK kf b[0] p) (last : ∀ p ∈ b.toList, RK kf p a[a.size - 1]) {Q : Array Keyed → SortSt → Prop}
    (h : ∀ m st', Still κ a₀ st st' → Fin (RK kf) a.toList b.toList m.toList → Q m st') : wpS (model prog w) A E s (mergeLo' a b) Q st := by
  have fDone : ∀ {out : Array Keyed} {ia ib : Nat}, J (RK kf) a.toList b.toList out.toList ia ib → (ib = b.size ∨ ia = a.size) → Fin (RK kf) a.toList b.toList (out ++ a.extract ia ++ b.extract ib).toList := fun {out ia ib} j e => by
    rw [Array.toList_append, Array.toList_append, toL_rest, toL_rest]
    refine j.finA pa pb fun x hx y hy => ?_
    rcases e with rfl | rfl
    · rw [List.drop_of_length_le (by simp)] at hy; cases hy
    · rw [List.drop_of_length_le (by simp)] at hx; cases hx
  have fLast : ∀ {out : Array Keyed} {ia ib : Nat}, J (RK kf) a.toList b.toList out.toList ia ib → ia + 1 = a.size → Fin (RK kf) a.toList b.toList (out ++ b.extract ib ++ a.extract ia).toList := fun {out ia ib} j e => by
    rw [Array.toList_append, Array.toList_append, toL_rest, toL_rest]
    refine (j.swap.finA pb pa fun x hx y hy => ?_).swap
    obtain ⟨k, hk, rfl⟩ := mem_drop_at hy
    have : k = 0 := by omega
    subst this
    have := last x (List.mem_of_mem_drop hx)
    simpa [show a.size - 1 = ia by omega] using this
  have am : ∀ {i : Nat} (hi : i < a.size), a[i] ∈ a₀.toList := fun hi => ha _ (by simp)
  have bm : ∀ {i : Nat} (hi : i < b.size), b[i] ∈ a₀.toList := fun hi => hb _ (by simp)
  have la : ∀ {i k : Nat} (hk : i + k < a.size), RK kf (a[i]'(by omega)) a[i + k] := fun {i k} hk => by
    have := up_of pa (lo := 0) (Nat.le_refl _) i (i + k) (by omega) (by omega) hk
    rw [kx_at (by omega : i < a.size), kx_at hk] at this
    exact this
  have lb : ∀ {i k : Nat} (hk : i + k < b.size), RK kf (b[i]'(by omega)) b[i + k] := fun {i k} hk => by
    have := up_of pb (lo := 0) (Nat.le_refl _) i (i + k) (by omega) (by omega) hk
    rw [kx_at (by omega : i < b.size), kx_at hk] at this
    exact this
  have oneB : ∀ {out : Array Keyed} {ia ib : Nat} (h1 : ia < a.size) (h2 : ib < b.size), J (RK kf) a.toList b.toList out.toList ia ib → RK kf b[ib] a[ia] → J (RK kf) a.toList b.toList (out.push b[ib]).toList ia (ib + 1) := fun {out ia ib} h1 h2 j r => by
    rw [toL_push h2]
    refine j.moveB pb fun x hx y hy => ?_
    rw [one_run h2, List.mem_singleton] at hx
    obtain ⟨k, hk, rfl⟩ := mem_drop_at hy
    rw [hx]
    exact KeyOrd.kle_trans r (la hk)
  have oneA : ∀ {out : Array Keyed} {ia ib : Nat} (h1 : ia < a.size) (h2 : ib < b.size), J (RK kf) a.toList b.toList out.toList ia ib → RK kf a[ia] b[ib] → J (RK kf) a.toList b.toList (out.push a[ia]).toList (ia + 1) ib := fun {out ia ib} h1 h2 j r => by
    rw [toL_push h1]
    refine j.moveA pa fun x hx y hy => ?_
    rw [one_run h1, List.mem_singleton] at hx
    obtain ⟨k, hk, rfl⟩ := mem_drop_at hy
    rw [hx]
    exact KeyOrd.kle_trans r (lb hk)
  refine wpS_bind (wpS_lift (wpAny_rule ⟨rfl, ?_⟩))
  refine wpS_bind (q_elem (by omega : 0 < b.size) ?_)
  have j0 : J (RK kf) a.toList b.toList (#[b[0]] : Array Keyed).toList 0 1 := by
    refine ⟨?_, by simp, fun x hx y hy => ?_, fun x hx y hy => ?_⟩
    · rw [← one_run (by omega : 0 < b.size)]
      simp
    · simp at hx hy; subst hx; exact first y (by simpa using hy)
    · simp only [List.mem_singleton] at hx
      obtain ⟨k, hk, rfl⟩ := mem_drop_at hy
      rw [hx]
      have := lb (i := 0) (k := 1 + k) (by omega)
      simpa using this
  dsimp only
  by_cases e1 : 1 = b.size
  · rw [if_pos (by simpa using e1)]
    exact wpS_pure (h _ st ⟨B, rfl, rfl⟩ (fDone j0 (.inl e1)))
  rw [if_neg (by simpa using e1)]
  by_cases e2 : 0 + 1 = a.size
  · rw [if_pos (by simpa using e2)]
    exact wpS_pure (h _ st ⟨B, rfl, rfl⟩ (fLast j0 e2))
  rw [if_neg (by simpa using e2)]
  refine wpS_bind (wpS_get ?_)
  refine wpS_bind (wpS_mono (wpS_forRange
    (I := fun x c st' => Still κ a₀ st st' ∧ ∃ out ia ib g, c = (none, out, ia, ib, g) ∧ J (RK kf) a.toList b.toList out.toList ia ib ∧ ia + 1 < a.size ∧ ib < b.size ∧ x + 1 ≤ ia + ib)
    (Q := fun c st' => Still κ a₀ st st' ∧ ∃ r, c.1 = some r ∧ Fin (RK kf) a.toList b.toList r.toList) ?step ?fin ?init) ?post)
  case init => exact ⟨⟨B, rfl, rfl⟩, _, 0, 1, _, rfl, j0, by omega, by omega, by omega⟩
  case fin =>
    rintro c st' ⟨S, out, ia, ib, g, rfl, j, h1, h2, h3⟩
    omega
  case post =>
    rintro c st' ⟨S, r, e, f⟩
    obtain ⟨c1, c2⟩ := c
    obtain rfl : c1 = some r := e
    exact wpS_pure (h r st' S f)
  case step =>
    rintro x c st1 _ hx ⟨S, out, ia, ib, g, rfl, j, h1, h2, h3⟩
    dsimp only
    refine wpS_bind (wpS_mono (wpS_forRange
      (I := fun y c st' => st' = st1 ∧ ∃ out' ia' ib' p q, c = (none, out', ia', ib', p, q) ∧ J (RK kf) a.toList b.toList out'.toList ia' ib' ∧ ia' + 1 < a.size ∧ ib' < b.size ∧ ia + ib + y ≤ ia' + ib')
      (Q := fun c st' => st' = st1 ∧ ((∃ r, c.1 = some r ∧ Fin (RK kf) a.toList b.toList r.toList) ∨ ∃ out' ia' ib' p q, c = (none, out', ia', ib', p, q) ∧ J (RK kf) a.toList b.toList out'.toList ia' ib' ∧ ia' + 1 < a.size ∧ ib' < b.size ∧ ia + ib + 1 ≤ ia' + ib')) ?s1 ?s2 ?s3) ?s4)
    case s3 => exact ⟨rfl, out, ia, ib, 0, 0, rfl, j, h1, h2, Nat.le_refl _⟩
    case s2 =>
      rintro c st' ⟨rfl, out', ia', ib', p, q, rfl, j', g1, g2, g3⟩
      exact ⟨rfl, .inr ⟨out', ia', ib', p, q, rfl, j', g1, g2, by omega⟩⟩
    case s1 =>
      rintro y c st' _ hy ⟨rfl, out', ia', ib', p, q, rfl, j', g1, g2, g3⟩
      dsimp only
      refine wpS_bind (q_elem g2 (wpS_bind (q_elem (by omega : ia' < a.size) (wpS_bind (q_lt C S.sb (bm g2) (am (by omega)) ?_)))))
      cases e : O.blt (kf b[ib'].1) (kf (a[ia']'(by omega)).1) with
      | true =>
        dsimp only
        rw [if_pos rfl]
        refine wpS_bind (q_elem g2 ?_)
        have j2 := oneB (by omega) g2 j' (KeyOrd.kle_of_klt e)
        by_cases z : ib' + 1 = b.size
        · rw [if_pos (by simpa using z)]
          exact wpS_pure ⟨rfl, .inl ⟨_, rfl, fDone j2 (.inl z)⟩⟩
        · rw [if_neg (by simpa using z)]
          split
          · exact wpS_pure ⟨rfl, .inr ⟨_, _, _, _, _, rfl, j2, g1, by omega, by omega⟩⟩
          · exact wpS_pure ⟨rfl, _, _, _, _, _, rfl, j2, g1, by omega, by omega⟩
      | false =>
        dsimp only
        rw [if_neg Bool.false_ne_true]
        refine wpS_bind (q_elem (by omega : ia' < a.size) ?_)
        have j2 := oneA (by omega) g2 j' e
        by_cases z : ia' + 1 + 1 = a.size
        · rw [if_pos (by simpa using z)]
          exact wpS_pure ⟨rfl, .inl ⟨_, rfl, fLast j2 z⟩⟩
        · rw [if_neg (by simpa using z)]
          split
          · exact wpS_pure ⟨rfl, .inr ⟨_, _, _, _, _, rfl, j2, by omega, g2, by omega⟩⟩
          · exact wpS_pure ⟨rfl, _, _, _, _, _, rfl, j2, by omega, g2, by omega⟩
    case s4 =>
      rintro c st' ⟨rfl, ⟨r, e, f⟩ | ⟨out', ia', ib', p, q, rfl, j', g1, g2, g3⟩⟩
      · obtain ⟨c1, c2⟩ := c
        obtain rfl : c1 = some r := e
        exact wpS_pure ⟨S, r, rfl, f⟩
      dsimp only
      refine wpS_bind (wpS_lift (wpAny_rule ⟨rfl, ?_⟩))
      refine wpS_bind (wpS_mono (wpS_forRange
        (I := fun y c st2 => Still κ a₀ st st2 ∧ ∃ o2 i2 k2 m2 p q, c = (none, o2, i2, k2, m2, p, q) ∧ J (RK kf) a.toList b.toList o2.toList i2 k2 ∧ i2 + 1 < a.size ∧ k2 < b.size ∧ ia + ib + 1 ≤ i2 + k2)
        (Q := fun c st2 => Still κ a₀ st st2 ∧ ((∃ r, c.1 = some r ∧ Fin (RK kf) a.toList b.toList r.toList) ∨ ∃ o2 i2 k2 m2 p q, c = (none, o2, i2, k2, m2, p, q) ∧ J (RK kf) a.toList b.toList o2.toList i2 k2 ∧ i2 + 1 < a.size ∧ k2 < b.size ∧ ia + ib + 1 ≤ i2 + k2)) ?t1 ?t2 ?t3) ?t4)
      case t3 => exact ⟨S, out', ia', ib', _, p, q, rfl, j', g1, g2, g3⟩
      case t2 =>
        rintro c st2 ⟨S2, r⟩
        exact ⟨S2, .inr r⟩
      case t4 =>
        rintro c st2 ⟨S2, ⟨r, e, f⟩ | ⟨o2, i2, k2, m2, p, q, rfl, j2, f1, f2, f3⟩⟩
        · obtain ⟨c1, c2⟩ := c
          obtain rfl : c1 = some r := e
          exact wpS_pure ⟨S2, r, rfl, f⟩
        · refine wpS_bind (wpS_modify (wpS_pure ⟨S2.gal _, o2, i2, k2, _, rfl, j2, f1, f2, by omega⟩))
      case t1 =>
        rintro y c st2 _ hy ⟨S2, o2, i2, k2, m2, p, q, rfl, j2, f1, f2, f3⟩
        dsimp only
        by_cases z : m2 > 1
        all_goals first | (rw [if_pos z]; generalize m2 - 1 = m3) | (rw [if_neg z]; generalize m2 = m3)
        all_goals
          refine wpS_bind (wpS_modify ?_)
          have S3 := S2.gal m3
          refine wpS_bind (q_elem f2 ?_)
          refine wpS_bind (q_gallop C S3.sb (bm f2) ha (by omega) (by omega) (up_of pa (by omega)) fun k hk bl bg => ?_)
          have runA : ∀ m, m < k → ∀ (hm : i2 + m < a.size), RK kf a[i2 + m] b[k2] := fun m z hm => by
            have := bl m z
            unfold bey at this
            rw [if_neg Bool.false_ne_true, kx_at hm] at this
            show O.blt _ _ = false
            simpa using this
          have runB : ∀ m, k ≤ m → ∀ (hm : i2 + m < a.size), RK kf b[k2] a[i2 + m] := fun m z hm => by
            have := bg m z (by omega)
            unfold bey at this
            rw [if_neg Bool.false_ne_true, kx_at hm] at this
            exact KeyOrd.kle_of_klt (by show O.blt _ _ = true; simpa using this)
          have j3 : J (RK kf) a.toList b.toList (o2 ++ a.extract i2 (i2 + k)).toList (i2 + k) k2 := by
            rw [toL_run]
            refine j2.moveA pa fun x hx y hy => ?_
            obtain ⟨m, hm, hm2, rfl⟩ := mem_take_at hx
            obtain ⟨m', hm', rfl⟩ := mem_drop_at hy
            exact KeyOrd.kle_trans (runA m hm hm2) (lb hm')
          dsimp only
          have pre : (k > 0 ∧ i2 + k + 1 = a.size) ∨ (k > 0 ∧ i2 + k = a.size) ∨ i2 + k + 1 < a.size := by omega
          rcases pre with ⟨zk, z1⟩ | ⟨zk, z1⟩ | z1
          · rw [if_pos zk, if_pos (by simpa using z1)]
            exact wpS_pure ⟨S3, .inl ⟨_, rfl, fLast j3 z1⟩⟩
          · rw [if_pos zk, if_neg (by simp; omega), if_pos (by simpa using z1)]
            exact wpS_pure ⟨S3, .inl ⟨_, rfl, fDone j3 (.inr z1)⟩⟩
          have hB3 : ∀ m (hm : m < a.size), i2 + k ≤ m → RK kf b[k2] a[m] := fun m hm z => by
            have := runB (m - i2) (by omega) (by omega)
            simpa [show i2 + (m - i2) = m by omega] using this
          by_cases zk : k > 0
          all_goals first
            | (rw [if_pos zk, if_neg (by simp; omega), if_neg (by simp; omega)]
               generalize o2 ++ a.extract i2 (i2 + k) = o3 at j3 ⊢
               have f3' : ia + ib + 1 ≤ (i2 + k) + k2 := by omega
               generalize i2 + k = i3 at j3 hB3 z1 f3' ⊢)
            | (rw [if_neg zk]
               have zk0 : k = 0 := by omega
               have eo : o2 ++ a.extract i2 (i2 + k) = o2 := by rw [zk0]; simp; omega
               rw [eo, zk0, Nat.add_zero] at j3
               rw [zk0, Nat.add_zero] at hB3 z1
               have f3' : ia + ib + 1 ≤ i2 + k2 := f3
               generalize i2 = i3 at j3 hB3 z1 f3' ⊢
               generalize o2 = o3 at j3 ⊢)
          all_goals
            refine wpS_bind (q_elem f2 ?_)
            have j4 := oneB (by omega) f2 j3 (hB3 i3 (by omega) (Nat.le_refl _))
            by_cases z3 : k2 + 1 = b.size
            · rw [if_pos (by simpa using z3)]
              exact wpS_pure ⟨S3, .inl ⟨_, rfl, fDone j4 (.inl z3)⟩⟩
            rw [if_neg (by simpa using z3)]
            refine wpS_bind (q_elem (by omega : i3 < a.size) ?_)
            refine wpS_bind (q_gallop C S3.sb (am (by omega)) hb (by omega) (by omega) (up_of pb (by omega)) fun k' hk' bl' bg' => ?_)
            have runB' : ∀ m, m < k' → ∀ (hm : k2 + 1 + m < b.size), RK kf b[k2 + 1 + m] (a[i3]'(by omega)) := fun m z hm => by
              have := bl' m z
              unfold bey at this
              rw [if_pos rfl, kx_at hm] at this
              exact KeyOrd.kle_of_klt this
            have runA' : ∀ m (hm : m < b.size), k2 + 1 + k' ≤ m → RK kf (a[i3]'(by omega)) b[m] := fun m hm z => by
              have := bg' (m - (k2 + 1)) (by omega) (by omega)
              unfold bey at this
              rw [if_pos rfl] at this
              have e : k2 + 1 + (m - (k2 + 1)) = m := by omega
              rw [e, kx_at hm] at this
              exact this
            have j5 : J (RK kf) a.toList b.toList (o3.push b[k2] ++ b.extract (k2 + 1) (k2 + 1 + k')).toList i3 (k2 + 1 + k') := by
              rw [toL_run]
              refine j4.moveB pb fun x hx y hy => ?_
              obtain ⟨m, hm, hm2, rfl⟩ := mem_take_at hx
              obtain ⟨m', hm', rfl⟩ := mem_drop_at hy
              exact KeyOrd.kle_trans (runB' m hm hm2) (la hm')
            dsimp only
            have pre : (k' > 0 ∧ k2 + 1 + k' = b.size) ∨ k2 + 1 + k' < b.size := by omega
            rcases pre with ⟨zk', z4⟩ | z4
            · rw [if_pos zk', if_pos (by simpa using z4)]
              exact wpS_pure ⟨S3, .inl ⟨_, rfl, fDone j5 (.inl z4)⟩⟩
            have f4' : ia + ib + 1 ≤ i3 + (k2 + 1 + k') := by omega
            by_cases zk' : k' > 0
            all_goals first
              | (rw [if_pos zk', if_neg (by simp; omega)]
                 generalize o3.push b[k2] ++ b.extract (k2 + 1) (k2 + 1 + k') = o5 at j5 ⊢
                 generalize k2 + 1 + k' = k5 at j5 runA' z4 f4' ⊢)
              | (rw [if_neg zk']
                 have zk0 : k' = 0 := by omega
                 have eo : o3.push b[k2] ++ b.extract (k2 + 1) (k2 + 1 + k') = o3.push b[k2] := by rw [zk0]; simp; omega
                 rw [eo, zk0, Nat.add_zero] at j5
                 rw [zk0, Nat.add_zero] at runA' z4 f4'
                 generalize o3.push b[k2] = o5 at j5 ⊢
                 generalize k2 + 1 = k5 at j5 runA' z4 f4' ⊢)
            all_goals
              refine wpS_bind (q_elem (by omega : i3 < a.size) ?_)
              have j6 := oneA (by omega) z4 j5 (runA' k5 z4 (Nat.le_refl _))
              by_cases z5 : i3 + 1 + 1 = a.size
              · rw [if_pos (by simpa using z5)]
                exact wpS_pure ⟨S3, .inl ⟨_, rfl, fLast j6 z5⟩⟩
              rw [if_neg (by simpa using z5)]
              by_cases z6 : (decide (k < 7) && decide (k' < 7)) = true
              · rw [if_pos z6]
                exact wpS_pure ⟨S3, .inr ⟨_, _, _, _, _, _, rfl, j6, by omega, z4, by omega⟩⟩
              · rw [if_neg z6]
                exact wpS_pure ⟨S3, _, _, _, _, _, _, rfl, j6, by omega, z4, by omega⟩
end
theorem drop_rev (a : Array Keyed) {n : Nat} (h : n ≤ a.size) : a.toList.reverse.drop (a.size - n) = (a.toList.take n).reverse := by
  rw [List.drop_reverse]
  congr 2
  simp
  omega
theorem mem_rev {a : Array Keyed} {n : Nat} (h : n ≤ a.size) {x : Keyed} (hx : x ∈ a.toList.reverse.drop (a.size - n)) : ∃ m, ∃ (hm : m < a.size), m < n ∧ x = a[m] := by
  rw [drop_rev a h, List.mem_reverse] at hx
  obtain ⟨m, hm, e⟩ := List.mem_iff_getElem.mp hx
  rw [List.length_take, Array.length_toList] at hm
  refine ⟨m, by omega, by omega, ?_⟩
  rw [← e, List.getElem_take]
  simp
theorem run_rev (a : Array Keyed) {n t : Nat} (h : n ≤ a.size) (ht : t ≤ n) : (a.toList.reverse.drop (a.size - n)).take (n - t) = (a.extract t n).toList.reverse := by
  rw [drop_rev a h, List.take_reverse]
  simp only [Array.toList_extract, List.extract_eq_take_drop, List.length_take, Array.length_toList]
  congr 1
  rw [List.drop_take]
  congr 1
  · omega
  · congr 1
    omega
theorem one_rev (a : Array Keyed) {n : Nat} (h : n ≤ a.size) (h1 : 1 ≤ n) : (a.toList.reverse.drop (a.size - n)).take 1 = [a[n - 1]] := by
  have e := run_rev a h (show n - 1 ≤ n by omega)
  rw [show n - (n - 1) = 1 by omega] at e
  rw [e]
  have := one_run (a := a) (i := n - 1) (by omega)
  simp only [Array.toList_extract, List.extract_eq_take_drop]
  rw [show n - (n - 1) = 1 by omega, this]
  rfl
theorem fin_rev {R : Keyed → Keyed → Prop} {la lb l : List Keyed} (h : Fin (fun p q => R q p) la.reverse lb.reverse l.reverse) : Fin R la lb l := by
  refine ⟨(List.reverse_perm l).symm.trans (h.1.trans ((List.reverse_perm la).append (List.reverse_perm lb))), ?_⟩
  exact List.pairwise_reverse.mp h.2
section
variable {prog : Program} {w : World} {A : Around} {E : Value → Shared → Prop} {s : Shared} {κ : SortKind} {O : KeyOrd} {kf : Value → O.α} {a₀ : Array Keyed} {st : SortSt}
abbrev JH (kf : Value → O.α) (a b out : Array Keyed) (na nb : Nat) : Prop := J (fun p q => RK kf q p) a.toList.reverse b.toList.reverse out.toList (a.size - na) (b.size - nb)
theorem q_mergeHi (C : Cmp prog w A s κ O kf a₀) (B : SB κ a₀ st) {a b : Array Keyed} (ha : ∀ p ∈ a.toList, p ∈ a₀.toList) (hb : ∀ p ∈ b.toList, p ∈ a₀.toList) (a1 : 1 ≤ a.size) (b1 : 1 ≤ b.size) (pa : a.toList.Pairwise (RK kf)) (pb : b.toList.Pairwise (RK kf))
    (first : ∀ p ∈ a.toList, RK kf b[0] p) (last : ∀ p ∈ b.toList, RK kf p a[a.size - 1]) {Q : Array Keyed → SortSt → Prop}
    (h : ∀ m st', Still κ a₀ st st' → Fin (RK kf) a.toList b.toList m.toList → Q m st') : wpS (model prog w) A E s (mergeHi' a b) Q st := by
  have pa' : a.toList.reverse.Pairwise (fun p q => RK kf q p) := List.pairwise_reverse.mpr pa
  have pb' : b.toList.reverse.Pairwise (fun p q => RK kf q p) := List.pairwise_reverse.mpr pb
  have fDone : ∀ {out : Array Keyed} {na nb : Nat}, na ≤ a.size → nb ≤ b.size → JH kf a b out na nb → (na = 0 ∨ nb = 0) → Fin (RK kf) a.toList b.toList (a.extract 0 na ++ b.extract 0 nb ++ out.reverse).toList := fun {out na nb} q1 q2 j e => by
    refine fin_rev ?_
    have el : (a.extract 0 na ++ b.extract 0 nb ++ out.reverse).toList.reverse = out.toList ++ b.toList.reverse.drop (b.size - nb) ++ a.toList.reverse.drop (a.size - na) := by
      rw [drop_rev a q1, drop_rev b q2]
      simp [List.extract_eq_take_drop]
    rw [el]
    refine (j.swap.finA pb' pa' fun x hx y hy => ?_).swap
    obtain ⟨m, hm, z, rfl⟩ := mem_rev q2 hx
    obtain ⟨m', hm', z', rfl⟩ := mem_rev q1 hy
    omega
  have fFirst : ∀ {out : Array Keyed} {na nb : Nat}, na ≤ a.size → nb ≤ b.size → JH kf a b out na nb → nb = 1 → Fin (RK kf) a.toList b.toList (b.extract 0 nb ++ a.extract 0 na ++ out.reverse).toList := fun {out na nb} q1 q2 j e => by
    refine fin_rev ?_
    have el : (b.extract 0 nb ++ a.extract 0 na ++ out.reverse).toList.reverse = out.toList ++ a.toList.reverse.drop (a.size - na) ++ b.toList.reverse.drop (b.size - nb) := by
      rw [drop_rev a q1, drop_rev b q2]
      simp [List.extract_eq_take_drop]
    rw [el]
    refine j.finA pa' pb' fun x hx y hy => ?_
    obtain ⟨m, hm, z, rfl⟩ := mem_rev q1 hx
    obtain ⟨m', hm', z', rfl⟩ := mem_rev q2 hy
    have : m' = 0 := by omega
    subst this
    exact first _ (by simp)
  have am : ∀ {i : Nat} (hi : i < a.size), a[i] ∈ a₀.toList := fun hi => ha _ (by simp)
  have bm : ∀ {i : Nat} (hi : i < b.size), b[i] ∈ a₀.toList := fun hi => hb _ (by simp)
  have la : ∀ {i k : Nat} (hk : k < a.size) (h : i ≤ k), RK kf (a[i]'(by omega)) a[k] := fun {i k} hk h => by
    have := up_of pa (lo := 0) (Nat.le_refl _) i k (by omega) (by omega) hk
    rw [kx_at (by omega : i < a.size), kx_at hk] at this
    exact this
  have lb : ∀ {i k : Nat} (hk : k < b.size) (h : i ≤ k), RK kf (b[i]'(by omega)) b[k] := fun {i k} hk h => by
    have := up_of pb (lo := 0) (Nat.le_refl _) i k (by omega) (by omega) hk
    rw [kx_at (by omega : i < b.size), kx_at hk] at this
    exact this
  have oneA : ∀ {out : Array Keyed} {na nb : Nat} (h1 : 1 ≤ na) (h2 : na ≤ a.size) (h3 : 1 ≤ nb) (h4 : nb ≤ b.size), JH kf a b out na nb → RK kf b[nb - 1] a[na - 1] → JH kf a b (out.push a[na - 1]) (na - 1) nb := fun {out na nb} h1 h2 h3 h4 j r => by
    have e : (out.push a[na - 1]).toList = out.toList ++ (a.toList.reverse.drop (a.size - na)).take 1 := by rw [one_rev a h2 h1]; simp
    show J _ _ _ (out.push a[na - 1]).toList _ _
    rw [e, show a.size - (na - 1) = a.size - na + 1 by omega]
    refine j.moveA pa' fun x hx y hy => ?_
    rw [one_rev a h2 h1, List.mem_singleton] at hx
    obtain ⟨m, hm, z, rfl⟩ := mem_rev h4 hy
    rw [hx]
    exact KeyOrd.kle_trans (lb (by omega) (by omega : m ≤ nb - 1)) r
  have oneB : ∀ {out : Array Keyed} {na nb : Nat} (h1 : 1 ≤ na) (h2 : na ≤ a.size) (h3 : 1 ≤ nb) (h4 : nb ≤ b.size), JH kf a b out na nb → RK kf a[na - 1] b[nb - 1] → JH kf a b (out.push b[nb - 1]) na (nb - 1) := fun {out na nb} h1 h2 h3 h4 j r => by
    have e : (out.push b[nb - 1]).toList = out.toList ++ (b.toList.reverse.drop (b.size - nb)).take 1 := by rw [one_rev b h4 h3]; simp
    show J _ _ _ (out.push b[nb - 1]).toList _ _
    rw [e, show b.size - (nb - 1) = b.size - nb + 1 by omega]
    refine j.moveB pb' fun x hx y hy => ?_
    rw [one_rev b h4 h3, List.mem_singleton] at hx
    obtain ⟨m, hm, z, rfl⟩ := mem_rev h2 hy
    rw [hx]
    exact KeyOrd.kle_trans (la (by omega) (by omega : m ≤ na - 1)) r
  refine wpS_bind (wpS_lift (wpAny_rule ⟨rfl, ?_⟩))
  refine wpS_bind (q_elem (by omega : a.size - 1 < a.size) ?_)
  have j0 : JH kf a b (#[a[a.size - 1]] : Array Keyed) (a.size - 1) b.size := by
    refine ⟨?_, by simp, fun x hx y hy => ?_, fun x hx y hy => ?_⟩
    · have := one_rev a (Nat.le_refl _) a1
      rw [Nat.sub_self, List.drop_zero] at this
      rw [show a.size - (a.size - 1) = 1 by omega, this]
      simp
    · simp only [List.mem_singleton] at hx
      obtain ⟨m, hm, z, rfl⟩ := mem_rev (by omega) hy
      rw [hx]
      exact la (by omega) (by omega)
    · simp only [List.mem_singleton] at hx
      obtain ⟨m, hm, z, rfl⟩ := mem_rev (Nat.le_refl _) hy
      rw [hx]
      exact last _ (by simp)
  dsimp only
  by_cases e1 : a.size - 1 = 0
  · rw [if_pos (by simpa using e1)]
    exact wpS_pure (h _ st ⟨B, rfl, rfl⟩ (fDone (by omega) (Nat.le_refl _) j0 (.inl e1)))
  rw [if_neg (by simpa using e1)]
  by_cases e2 : b.size = 1
  · rw [if_pos (by simpa using e2)]
    exact wpS_pure (h _ st ⟨B, rfl, rfl⟩ (fFirst (by omega) (Nat.le_refl _) j0 e2))
  rw [if_neg (by simpa using e2)]
  refine wpS_bind (wpS_get ?_)
  refine wpS_bind (wpS_mono (wpS_forRange
    (I := fun x c st' => Still κ a₀ st st' ∧ ∃ na nb out g, c = (none, na, nb, out, g) ∧ JH kf a b out na nb ∧ 1 ≤ na ∧ na ≤ a.size ∧ 2 ≤ nb ∧ nb ≤ b.size ∧ x + 1 + na + nb ≤ a.size + b.size)
    (Q := fun c st' => Still κ a₀ st st' ∧ ∃ r, c.1 = some r ∧ Fin (RK kf) a.toList b.toList r.toList) ?step ?fin ?init) ?post)
  case init => exact ⟨⟨B, rfl, rfl⟩, _, _, _, _, rfl, j0, by omega, by omega, by omega, by omega, by omega⟩
  case fin =>
    rintro c st' ⟨S, na, nb, out, g, rfl, j, h1, h2, h3, h4, h5⟩
    omega
  case post =>
    rintro c st' ⟨S, r, e, f⟩
    obtain ⟨c1, c2⟩ := c
    obtain rfl : c1 = some r := e
    exact wpS_pure (h r st' S f)
  case step =>
    rintro x c st1 _ hx ⟨S, na, nb, out, g, rfl, j, h1, h2, h3, h4, h5⟩
    dsimp only
    refine wpS_bind (wpS_mono (wpS_forRange
      (I := fun y c st' => st' = st1 ∧ ∃ na' nb' out' p q, c = (none, na', nb', out', p, q) ∧ JH kf a b out' na' nb' ∧ 1 ≤ na' ∧ na' ≤ a.size ∧ 2 ≤ nb' ∧ nb' ≤ b.size ∧ na' + nb' + y ≤ na + nb)
      (Q := fun c st' => st' = st1 ∧ ((∃ r, c.1 = some r ∧ Fin (RK kf) a.toList b.toList r.toList) ∨ ∃ na' nb' out' p q, c = (none, na', nb', out', p, q) ∧ JH kf a b out' na' nb' ∧ 1 ≤ na' ∧ na' ≤ a.size ∧ 2 ≤ nb' ∧ nb' ≤ b.size ∧ na' + nb' + 1 ≤ na + nb)) ?s1 ?s2 ?s3) ?s4)
    case s3 => exact ⟨rfl, na, nb, out, 0, 0, rfl, j, h1, h2, h3, h4, Nat.le_refl _⟩
    case s2 =>
      rintro c st' ⟨rfl, na', nb', out', p, q, rfl, j', g1, g2, g3, g4, g5⟩
      exact ⟨rfl, .inr ⟨na', nb', out', p, q, rfl, j', g1, g2, g3, g4, by omega⟩⟩
    case s1 =>
      rintro y c st' _ hy ⟨rfl, na', nb', out', p, q, rfl, j', g1, g2, g3, g4, g5⟩
      dsimp only
      refine wpS_bind (q_elem (by omega : nb' - 1 < b.size) (wpS_bind (q_elem (by omega : na' - 1 < a.size) (wpS_bind (q_lt C S.sb (bm (by omega)) (am (by omega)) ?_)))))
      cases e : O.blt (kf (b[nb' - 1]'(by omega)).1) (kf (a[na' - 1]'(by omega)).1) with
      | true =>
        dsimp only
        rw [if_pos rfl]
        refine wpS_bind (q_elem (by omega : na' - 1 < a.size) ?_)
        have j2 := oneA g1 g2 (by omega) g4 j' (KeyOrd.kle_of_klt e)
        by_cases z : na' - 1 = 0
        · rw [if_pos (by simpa using z)]
          exact wpS_pure ⟨rfl, .inl ⟨_, rfl, fDone (by omega) g4 j2 (.inl z)⟩⟩
        · rw [if_neg (by simpa using z)]
          split
          · exact wpS_pure ⟨rfl, .inr ⟨_, _, _, _, _, rfl, j2, by omega, by omega, g3, g4, by omega⟩⟩
          · exact wpS_pure ⟨rfl, _, _, _, _, _, rfl, j2, by omega, by omega, g3, g4, by omega⟩
      | false =>
        dsimp only
        rw [if_neg Bool.false_ne_true]
        refine wpS_bind (q_elem (by omega : nb' - 1 < b.size) ?_)
        have j2 := oneB g1 g2 (by omega) g4 j' e
        by_cases z : nb' - 1 = 1
        · rw [if_pos (by simpa using z)]
          exact wpS_pure ⟨rfl, .inl ⟨_, rfl, fFirst g2 (by omega) j2 z⟩⟩
        · rw [if_neg (by simpa using z)]
          split
          · exact wpS_pure ⟨rfl, .inr ⟨_, _, _, _, _, rfl, j2, g1, g2, by omega, by omega, by omega⟩⟩
          · exact wpS_pure ⟨rfl, _, _, _, _, _, rfl, j2, g1, g2, by omega, by omega, by omega⟩
    case s4 =>
      rintro c st' ⟨rfl, ⟨r, e, f⟩ | ⟨na', nb', out', p, q, rfl, j', g1, g2, g3, g4, g5⟩⟩
      · obtain ⟨c1, c2⟩ := c
        obtain rfl : c1 = some r := e
        exact wpS_pure ⟨S, r, rfl, f⟩
      dsimp only
      refine wpS_bind (wpS_lift (wpAny_rule ⟨rfl, ?_⟩))
      refine wpS_bind (wpS_mono (wpS_forRange
        (I := fun y c st2 => Still κ a₀ st st2 ∧ ∃ i2 k2 o2 m2 p q, c = (none, i2, k2, o2, m2, p, q) ∧ JH kf a b o2 i2 k2 ∧ 1 ≤ i2 ∧ i2 ≤ a.size ∧ 2 ≤ k2 ∧ k2 ≤ b.size ∧ i2 + k2 + 1 ≤ na + nb)
        (Q := fun c st2 => Still κ a₀ st st2 ∧ ((∃ r, c.1 = some r ∧ Fin (RK kf) a.toList b.toList r.toList) ∨ ∃ i2 k2 o2 m2 p q, c = (none, i2, k2, o2, m2, p, q) ∧ JH kf a b o2 i2 k2 ∧ 1 ≤ i2 ∧ i2 ≤ a.size ∧ 2 ≤ k2 ∧ k2 ≤ b.size ∧ i2 + k2 + 1 ≤ na + nb)) ?t1 ?t2 ?t3) ?t4)
      case t3 => exact ⟨S, na', nb', out', _, p, q, rfl, j', g1, g2, g3, g4, g5⟩
      case t2 =>
        rintro c st2 ⟨S2, r⟩
        exact ⟨S2, .inr r⟩
      case t4 =>
        rintro c st2 ⟨S2, ⟨r, e, f⟩ | ⟨i2, k2, o2, m2, p, q, rfl, j2, f1, f2, f3, f4, f5⟩⟩
        · obtain ⟨c1, c2⟩ := c
          obtain rfl : c1 = some r := e
          exact wpS_pure ⟨S2, r, rfl, f⟩
        · refine wpS_bind (wpS_modify (wpS_pure ⟨S2.gal _, i2, k2, o2, _, rfl, j2, f1, f2, f3, f4, by omega⟩))
      case t1 =>
        rintro y c st2 _ hy ⟨S2, i2, k2, o2, m2, p, q, rfl, j2, f1, f2, f3, f4, f5⟩
        dsimp only
        by_cases z : m2 > 1
        all_goals first | (rw [if_pos z]; generalize m2 - 1 = m3) | (rw [if_neg z]; generalize m2 = m3)
        all_goals
          refine wpS_bind (wpS_modify ?_)
          have S3 := S2.gal m3
          have hk1 : k2 - 1 < b.size := by omega
          refine wpS_bind (q_elem hk1 ?_)
          refine wpS_bind (q_gallop C S3.sb (bm hk1) ha (by omega) (by omega) (up_of pa (by omega)) fun t ht bl bg => ?_)
          have runA : ∀ m (hm : m < a.size), m < t → RK kf a[m] (b[k2 - 1]'hk1) := fun m hm z => by
            have := bl m z
            unfold bey at this
            rw [if_neg Bool.false_ne_true, kx_at (by omega : 0 + m < a.size)] at this
            show O.blt _ _ = false
            simpa using this
          have runB : ∀ m (hm : m < a.size), t ≤ m → m < i2 → RK kf (b[k2 - 1]'hk1) a[m] := fun m hm z z' => by
            have := bg m z z'
            unfold bey at this
            rw [if_neg Bool.false_ne_true, kx_at (by omega : 0 + m < a.size)] at this
            exact KeyOrd.kle_of_klt (by show O.blt _ _ = true; simpa using this)
          have j3 : JH kf a b (o2 ++ (a.extract t i2).reverse) t k2 := by
            have e : (o2 ++ (a.extract t i2).reverse).toList = o2.toList ++ (a.toList.reverse.drop (a.size - i2)).take (i2 - t) := by rw [run_rev a f2 ht]; simp
            show J _ _ _ (o2 ++ (a.extract t i2).reverse).toList _ _
            rw [e, show a.size - t = a.size - i2 + (i2 - t) by omega]
            refine j2.moveA pa' fun x hx y hy => ?_
            rw [run_rev a f2 ht, List.mem_reverse] at hx
            simp only [Array.toList_extract, List.extract_eq_take_drop] at hx
            obtain ⟨m, hm, hm2, rfl⟩ := mem_take_at hx
            obtain ⟨m', hm', z, rfl⟩ := mem_rev f4 hy
            exact KeyOrd.kle_trans (lb (by omega) (by omega : m' ≤ k2 - 1)) (runB _ hm2 (by omega) (by omega))
          dsimp only
          have pre : (i2 - t > 0 ∧ t = 0) ∨ 1 ≤ t := by omega
          rcases pre with ⟨zk, z1⟩ | z1
          · rw [if_pos zk, if_pos (by simpa using z1)]
            exact wpS_pure ⟨S3, .inl ⟨_, rfl, fDone (by omega) f4 j3 (.inl z1)⟩⟩
          have t2 : t ≤ a.size := by omega
          have f5' : t + k2 + 1 ≤ na + nb := by omega
          by_cases zk : i2 - t > 0
          all_goals first
            | (rw [if_pos zk, if_neg (by simp; omega)]
               generalize o2 ++ (a.extract t i2).reverse = o3 at j3 ⊢
               generalize t = i3 at j3 runA z1 t2 f5' ⊢)
            | (rw [if_neg zk]
               have zk0 : t = i2 := by omega
               have eo : o2 ++ (a.extract t i2).reverse = o2 := by rw [zk0]; simp; omega
               rw [eo, zk0] at j3
               rw [zk0] at runA z1 t2 f5'
               generalize i2 = i3 at j3 runA z1 t2 f5' ⊢
               generalize o2 = o3 at j3 ⊢)
          all_goals
            refine wpS_bind (q_elem hk1 ?_)
            have j4 := oneB z1 t2 (by omega) f4 j3 (runA _ (by omega) (by omega))
            by_cases z3 : k2 - 1 = 1
            · rw [if_pos (by simpa using z3)]
              exact wpS_pure ⟨S3, .inl ⟨_, rfl, fFirst t2 (by omega) j4 z3⟩⟩
            rw [if_neg (by simpa using z3)]
            refine wpS_bind (q_elem (by omega : i3 - 1 < a.size) ?_)
            refine wpS_bind (q_gallop C S3.sb (am (by omega)) hb (by omega) (by omega) (up_of pb (by omega)) fun t' ht' bl' bg' => ?_)
            have runB' : ∀ m (hm : m < b.size), m < t' → RK kf b[m] (a[i3 - 1]'(by omega)) := fun m hm z => by
              have := bl' m z
              unfold bey at this
              rw [if_pos rfl, kx_at (by omega : 0 + m < b.size)] at this
              exact KeyOrd.kle_of_klt (by show O.blt _ _ = true; simpa using this)
            have runA' : ∀ m (hm : m < b.size), t' ≤ m → m < k2 - 1 → RK kf (a[i3 - 1]'(by omega)) b[m] := fun m hm z z' => by
              have := bg' m z z'
              unfold bey at this
              rw [if_pos rfl, kx_at (by omega : 0 + m < b.size)] at this
              show O.blt _ _ = false
              simpa using this
            have j5 : JH kf a b (o3.push (b[k2 - 1]'hk1) ++ (b.extract t' (k2 - 1)).reverse) i3 t' := by
              have e : (o3.push (b[k2 - 1]'hk1) ++ (b.extract t' (k2 - 1)).reverse).toList = (o3.push (b[k2 - 1]'hk1)).toList ++ (b.toList.reverse.drop (b.size - (k2 - 1))).take (k2 - 1 - t') := by rw [run_rev b (by omega) ht']; simp
              show J _ _ _ (o3.push (b[k2 - 1]'hk1) ++ (b.extract t' (k2 - 1)).reverse).toList _ _
              rw [e, show b.size - t' = b.size - (k2 - 1) + (k2 - 1 - t') by omega]
              refine j4.moveB pb' fun x hx y hy => ?_
              rw [run_rev b (by omega) ht', List.mem_reverse] at hx
              simp only [Array.toList_extract, List.extract_eq_take_drop] at hx
              obtain ⟨m, hm, hm2, rfl⟩ := mem_take_at hx
              obtain ⟨m', hm', z, rfl⟩ := mem_rev t2 hy
              exact KeyOrd.kle_trans (la (by omega) (by omega : m' ≤ i3 - 1)) (runA' _ hm2 (by omega) (by omega))
            dsimp only
            have pre : (k2 - 1 - t' > 0 ∧ t' = 1) ∨ (k2 - 1 - t' > 0 ∧ t' = 0) ∨ 2 ≤ t' := by omega
            rcases pre with ⟨zk', z4⟩ | ⟨zk', z4⟩ | z4
            · rw [if_pos zk', if_pos (by simpa using z4)]
              exact wpS_pure ⟨S3, .inl ⟨_, rfl, fFirst t2 (by omega) j5 z4⟩⟩
            · rw [if_pos zk', if_neg (by simp; omega), if_pos (by simpa using z4)]
              exact wpS_pure ⟨S3, .inl ⟨_, rfl, fDone t2 (by omega) j5 (.inr z4)⟩⟩
            have t4 : t' ≤ b.size := by omega
            have f6' : i3 + t' + 1 ≤ na + nb := by omega
            by_cases zk' : k2 - 1 - t' > 0
            all_goals first
              | (rw [if_pos zk', if_neg (by simp; omega), if_neg (by simp; omega)]
                 generalize o3.push (b[k2 - 1]'hk1) ++ (b.extract t' (k2 - 1)).reverse = o5 at j5 ⊢
                 generalize t' = k5 at j5 runB' z4 t4 f6' ⊢)
              | (rw [if_neg zk']
                 have zk0 : t' = k2 - 1 := by omega
                 have eo : o3.push (b[k2 - 1]'hk1) ++ (b.extract t' (k2 - 1)).reverse = o3.push (b[k2 - 1]'hk1) := by rw [zk0]; simp; omega
                 rw [eo, zk0] at j5
                 rw [zk0] at runB' z4 t4 f6'
                 generalize o3.push (b[k2 - 1]'hk1) = o5 at j5 ⊢
                 generalize k2 - 1 = k5 at j5 runB' z4 t4 f6' ⊢)
            all_goals
              refine wpS_bind (q_elem (by omega : i3 - 1 < a.size) ?_)
              have j6 := oneA z1 t2 (by omega) t4 j5 (runB' _ (by omega) (by omega))
              by_cases z5 : i3 - 1 = 0
              · rw [if_pos (by simpa using z5)]
                exact wpS_pure ⟨S3, .inl ⟨_, rfl, fDone (by omega) t4 j6 (.inl z5)⟩⟩
              rw [if_neg (by simpa using z5)]
              split
              · exact wpS_pure ⟨S3, .inr ⟨_, _, _, _, _, _, rfl, j6, by omega, by omega, z4, t4, by omega⟩⟩
              · exact wpS_pure ⟨S3, _, _, _, _, _, _, rfl, j6, by omega, by omega, z4, t4, by omega⟩
end
theorem fold_put (p : Nat) : ∀ (M : List Keyed) (n : Nat) (xs : Array Keyed), p + n + M.length ≤ xs.size → ((M.zipIdx n).foldl (fun a x => a.setIfInBounds (p + x.2) x.1) xs).toList = xs.toList.take (p + n) ++ M ++ xs.toList.drop (p + n + M.length)
  | [], n, xs, h => by simp
  | m :: r, n, xs, h => by
    rw [List.length_cons] at h
    rw [List.zipIdx_cons, List.foldl_cons, fold_put p r (n + 1) _ (by simp; omega)]
    have hl : p + n < xs.toList.length := by simp; omega
    simp only [Array.toList_setIfInBounds]
    rw [List.drop_set_of_lt (by omega), show p + (n + 1) = p + n + 1 by omega, List.take_add_one, List.take_set_of_le (by omega), List.getElem?_set_self hl, List.length_cons]
    simp [show p + n + 1 + r.length = p + n + (r.length + 1) by omega]
section
variable {prog : Program} {w : World} {A : Around} {E : Value → Shared → Prop} {s : Shared} {κ : SortKind} {O : KeyOrd} {kf : Value → O.α} {a₀ : Array Keyed} {st : SortSt}
theorem pair_ext {xs : Array Keyed} {lo hi : Nat} (h : hi ≤ xs.size) (u : Up kf xs lo hi) : (xs.extract lo hi).toList.Pairwise (RK kf) := by
  rw [List.pairwise_iff_getElem]
  intro i j hi' hj hij
  have h1 : (xs.extract lo hi).size = hi - lo := by simp; omega
  have e : ∀ k (hk : k < (xs.extract lo hi).toList.length), (xs.extract lo hi).toList[k] = xs[lo + k]'(by simp at hk; omega) := fun k hk => by simp
  rw [e i hi', e j hj]
  have hi2 : i < hi - lo := by simp at hi'; omega
  have hj2 : j < hi - lo := by simp at hj; omega
  have := u (lo + i) (lo + j) (by omega) (by omega) (by omega)
  rw [kx_at (by omega : lo + i < xs.size), kx_at (by omega : lo + j < xs.size)] at this
  exact this
theorem mem_ext {xs : Array Keyed} {lo hi : Nat} (h : hi ≤ xs.size) {p : Keyed} (hp : p ∈ (xs.extract lo hi).toList) : ∃ m, lo ≤ m ∧ m < hi ∧ ∃ (hm : m < xs.size), p = xs[m] := by
  simp only [Array.toList_extract, List.extract_eq_take_drop] at hp
  obtain ⟨m, hm, hm2, rfl⟩ := mem_take_at hp
  exact ⟨lo + m, by omega, by omega, hm2, rfl⟩
theorem ext_split (xs : Array Keyed) {i j k : Nat} (h1 : i ≤ j) (h2 : j ≤ k) (h3 : k ≤ xs.size) : xs.toList = xs.toList.take i ++ ((xs.extract i j).toList ++ (xs.extract j k).toList) ++ xs.toList.drop k := by
  simp only [Array.toList_extract, List.extract_eq_take_drop]
  have e1 : List.take (k - i) (xs.toList.drop i) = List.take (j - i) (xs.toList.drop i) ++ List.take (k - j) (xs.toList.drop j) := by
    rw [show k - i = (j - i) + (k - j) by omega, List.take_add, List.drop_drop, show i + (j - i) = j by omega]
  have e2 : xs.toList.drop i = List.take (k - i) (xs.toList.drop i) ++ xs.toList.drop k := by
    conv => lhs; rw [← List.take_append_drop (k - i) (xs.toList.drop i), List.drop_drop, show i + (k - i) = k by omega]
  rw [← e1, List.append_assoc, ← e2, List.take_append_drop]
theorem wpS_set {M : Model} {σ : Type} {t u : σ} {Q : PUnit → σ → Prop} (h : Q ⟨⟩ t) : wpS M A E s (set t : StateT σ Sem PUnit) Q u := by
  unfold wpS
  exact wpAny_pure ⟨rfl, h⟩
theorem q_mergeAt (C : Cmp prog w A s κ O kf a₀) (B : SB κ a₀ st) {i sa na pw nb pw' : Nat} (p1 : (pendingOf st)[i]? = some (sa, na, pw)) (p2 : (pendingOf st)[i + 1]? = some (sa + na, nb, pw')) (n1 : 1 ≤ na) (n2 : 1 ≤ nb) (hz : sa + na + nb ≤ a₀.size)
    (ua : Up kf (arrOf st) sa (sa + na)) (ub : Up kf (arrOf st) (sa + na) (sa + na + nb)) {Q : Bool → SortSt → Prop}
    (h : ∀ st', SB κ a₀ st' → pendingOf st' = ((pendingOf st).setIfInBounds i (sa, na + nb, pw)).eraseIdxIfInBounds (i + 1) → Up kf (arrOf st') sa (sa + (na + nb)) → (∀ k, k < sa ∨ sa + na + nb ≤ k → KX kf (arrOf st') k = KX kf (arrOf st) k) → Q true st') :
    wpS (model prog w) A E s (mergeAt' i) Q st := by
  have sz := B.size
  refine wpS_bind (wpS_get ?_)
  rw [show (sortPriv% PySem.Builtin.SortState.pending) st = pendingOf st from rfl, p1, p2]
  dsimp only
  refine wpS_bind (wpS_set (t := SortSt.mk' (kindOf st) (arrOf st) (((pendingOf st).setIfInBounds i (sa, na + nb, pw)).eraseIdxIfInBounds (i + 1)) (gallopOf st) (failedOf st)) ?_)
  have memA : ∀ p ∈ (arrOf st).toList, p ∈ a₀.toList := fun p hp => (Array.perm_iff_toList_perm.mp B.perm).mem_iff.mp hp
  have e1 : sa + na < (arrOf st).size := by omega
  refine wpS_bind (q_elem e1 ?_)
  generalize hst1 : SortSt.mk' (kindOf st) (arrOf st) (((pendingOf st).setIfInBounds i (sa, na + nb, pw)).eraseIdxIfInBounds (i + 1)) (gallopOf st) (failedOf st) = st1
  have B1 : SB κ a₀ st1 := by rw [← hst1]; exact ⟨B.perm, B.kind, B.failed⟩
  have ar1 : arrOf st1 = arrOf st := by rw [← hst1]
  have pe1 : pendingOf st1 = ((pendingOf st).setIfInBounds i (sa, na + nb, pw)).eraseIdxIfInBounds (i + 1) := by rw [← hst1]
  have keyB : KX kf (arrOf st) (sa + na) = kf ((arrOf st)[sa + na]'e1).1 := kx_at e1
  refine wpS_bind (q_gallop (left := false) (key := (arrOf st)[sa + na]'e1) (base := sa) (n := na) (hint := 0) C B1 (memA _ (by simp)) memA (by omega) (by omega) ua fun k hk bl bg => ?_)
  have lowA : ∀ j, sa ≤ j → j < sa + k → O.kle (KX kf (arrOf st) j) (KX kf (arrOf st) (sa + na)) := fun j j1 j2 => by
    have := bl (j - sa) (by omega)
    unfold bey at this
    rw [if_neg Bool.false_ne_true, ← keyB, show sa + (j - sa) = j by omega] at this
    show O.blt _ _ = false
    simpa using this
  have highA : ∀ j, sa + k ≤ j → j < sa + na → O.kle (KX kf (arrOf st) (sa + na)) (KX kf (arrOf st) j) := fun j j1 j2 => by
    have := bg (j - sa) (by omega) (by omega)
    unfold bey at this
    rw [if_neg Bool.false_ne_true, ← keyB, show sa + (j - sa) = j by omega] at this
    exact KeyOrd.kle_of_klt (by show O.blt _ _ = true; simpa using this)
  dsimp only
  by_cases k0 : na - k = 0
  · rw [if_pos (by simpa using k0)]
    refine wpS_pure (h st1 B1 pe1 ?_ fun z _ => by rw [ar1])
    rw [ar1]
    intro x y h1 h2 h3
    by_cases hx : x < sa + na
    · by_cases hy : y < sa + na
      · exact ua x y h1 h2 hy
      · exact KeyOrd.kle_trans (lowA x h1 (by omega)) (ub _ y (Nat.le_refl _) (by omega) (by omega))
    · exact ub x y (by omega) h2 (by omega)
  rw [if_neg (by simpa using k0)]
  have e2 : sa + k + (na - k) - 1 < (arrOf st).size := by omega
  refine wpS_bind (q_elem e2 ?_)
  have keyA : KX kf (arrOf st) (sa + na - 1) = kf ((arrOf st)[sa + k + (na - k) - 1]'e2).1 := by
    rw [← kx_at (kf := kf) e2]
    congr 1
    omega
  refine wpS_bind (q_gallop (left := true) (key := (arrOf st)[sa + k + (na - k) - 1]'e2) (base := sa + na) (n := nb) (hint := nb - 1) C B1 (memA _ (by simp)) memA (by omega) (by omega) ub fun k' hk' bl' bg' => ?_)
  have lowB : ∀ j, sa + na ≤ j → j < sa + na + k' → O.kle (KX kf (arrOf st) j) (KX kf (arrOf st) (sa + na - 1)) := fun j j1 j2 => by
    have := bl' (j - (sa + na)) (by omega)
    unfold bey at this
    rw [if_pos rfl, ← keyA, show sa + na + (j - (sa + na)) = j by omega] at this
    exact KeyOrd.kle_of_klt this
  have highB : ∀ j, sa + na + k' ≤ j → j < sa + na + nb → O.kle (KX kf (arrOf st) (sa + na - 1)) (KX kf (arrOf st) j) := fun j j1 j2 => by
    have := bg' (j - (sa + na)) (by omega) (by omega)
    unfold bey at this
    rw [if_pos rfl, ← keyA, show sa + na + (j - (sa + na)) = j by omega] at this
    exact this
  dsimp only
  by_cases k1 : k' = 0
  · rw [if_pos (by simpa using k1)]
    refine wpS_pure (h st1 B1 pe1 ?_ fun z _ => by rw [ar1])
    rw [ar1]
    intro x y h1 h2 h3
    by_cases hx : x < sa + na
    · by_cases hy : y < sa + na
      · exact ua x y h1 h2 hy
      · exact KeyOrd.kle_trans (ua x (sa + na - 1) h1 (by omega) (by omega)) (highB y (by omega) (by omega))
    · exact ub x y (by omega) h2 (by omega)
  rw [if_neg (by simpa using k1)]
  generalize hX : (arrOf st).extract (sa + k) (sa + na) = X
  generalize hY : (arrOf st).extract (sa + na) (sa + na + k') = Y
  have pX : X.toList.Pairwise (RK kf) := by rw [← hX]; exact pair_ext (by omega) fun a b q1 q2 q3 => ua a b (by omega) q2 q3
  have pY : Y.toList.Pairwise (RK kf) := by rw [← hY]; exact pair_ext (by omega) fun a b q1 q2 q3 => ub a b (by omega) q2 (by omega)
  have zX : X.size = na - k := by rw [← hX]; simp; omega
  have zY : Y.size = k' := by rw [← hY]; simp; omega
  have mX : ∀ p ∈ X.toList, ∃ m, sa + k ≤ m ∧ m < sa + na ∧ ∃ (hm : m < (arrOf st).size), p = (arrOf st)[m] := fun p hp => mem_ext (by omega) (by rw [hX]; exact hp)
  have mY : ∀ p ∈ Y.toList, ∃ m, sa + na ≤ m ∧ m < sa + na + k' ∧ ∃ (hm : m < (arrOf st).size), p = (arrOf st)[m] := fun p hp => mem_ext (by omega) (by rw [hY]; exact hp)
  have y0 : Y[0]'(by omega) = (arrOf st)[sa + na]'e1 := by subst hY; simp
  have xl : X[X.size - 1]'(by omega) = (arrOf st)[sa + na - 1]'(by omega) := by
    subst hX
    rw [Array.getElem_extract]
    congr 1
    rw [zX]
    omega
  have first : ∀ p ∈ X.toList, RK kf (Y[0]'(by omega)) p := fun p hp => by
    obtain ⟨m, q1, q2, hm, rfl⟩ := mX p hp
    rw [y0]
    have := highA m q1 q2
    rw [keyB, kx_at hm] at this
    exact this
  have last : ∀ p ∈ Y.toList, RK kf p (X[X.size - 1]'(by omega)) := fun p hp => by
    obtain ⟨m, q1, q2, hm, rfl⟩ := mY p hp
    rw [xl]
    have := lowB m q1 q2
    rw [kx_at hm, kx_at (by omega : sa + na - 1 < (arrOf st).size)] at this
    exact this
  have inX : ∀ p ∈ X.toList, p ∈ a₀.toList := fun p hp => by
    obtain ⟨m, q1, q2, hm, rfl⟩ := mX p hp
    exact memA _ (by simp)
  have inY : ∀ p ∈ Y.toList, p ∈ a₀.toList := fun p hp => by
    obtain ⟨m, q1, q2, hm, rfl⟩ := mY p hp
    exact memA _ (by simp)
  have fin : ∀ (M : Array Keyed) (st2 : SortSt), Still κ a₀ st1 st2 → Fin (RK kf) X.toList Y.toList M.toList → Q true (setArr st2 (M.toList.zipIdx.foldl (fun a x => a.setIfInBounds (sa + k + x.2) x.1) (arrOf st2))) := fun M st2 S f => by
    have lM : M.toList.length = (na - k) + k' := by rw [f.1.length_eq, List.length_append]; simp [zX, zY]
    have ar2 : arrOf st2 = arrOf st := S.arr.trans ar1
    have el := fold_put (sa + k) M.toList 0 (arrOf st) (by omega)
    rw [Nat.add_zero, lM, show sa + k + (na - k + k') = sa + na + k' by omega] at el
    generalize hN : M.toList.zipIdx.foldl (fun a x => a.setIfInBounds (sa + k + x.2) x.1) (arrOf st2) = N
    have eN : N.toList = (arrOf st).toList.take (sa + k) ++ M.toList ++ (arrOf st).toList.drop (sa + na + k') := by rw [← hN, ar2]; exact el
    have perm : N.Perm (arrOf st2) := by
      rw [ar2, Array.perm_iff_toList_perm, eN]
      have sp := ext_split (arrOf st) (i := sa + k) (j := sa + na) (k := sa + na + k') (by omega) (by omega) (by omega)
      rw [hX, hY] at sp
      conv => rhs; rw [sp]
      exact List.Perm.append_right _ (List.Perm.append_left _ f.1)
    have lt : ((arrOf st).toList.take (sa + k)).length = sa + k := by simp; omega
    have nOut : ∀ z, z < sa + k ∨ sa + na + k' ≤ z → N[z]? = (arrOf st)[z]? := fun z hz' => by
      rw [← Array.getElem?_toList, ← Array.getElem?_toList, eN]
      rcases hz' with q | q
      · rw [List.append_assoc, List.getElem?_append_left (by omega), List.getElem?_take_of_lt q]
      · rw [List.getElem?_append_right (by rw [List.length_append]; omega), List.length_append, lt, lM, List.getElem?_drop]
        congr 1
        omega
    have nIn : ∀ z, sa + k ≤ z → z < sa + na + k' → N[z]? = M[z - (sa + k)]? := fun z q1 q2 => by
      rw [← Array.getElem?_toList, ← Array.getElem?_toList, eN, List.append_assoc, List.getElem?_append_right (by omega), lt, List.getElem?_append_left (by omega)]
    have upM : Up kf M 0 M.size := up_of f.2 (Nat.le_refl _)
    have sM : M.size = (na - k) + k' := by rw [← lM]; simp
    have inM : ∀ z, sa + k ≤ z → z < sa + na + k' → ∃ m, sa + k ≤ m ∧ m < sa + na + k' ∧ KX kf N z = KX kf (arrOf st) m := fun z q1 q2 => by
      have hz2 : z - (sa + k) < M.size := by omega
      have hm : M[z - (sa + k)] ∈ X.toList ++ Y.toList := f.1.mem_iff.mp (by simp)
      rw [kx_congr (nIn z q1 q2), kx_at hz2]
      rcases List.mem_append.mp hm with q | q
      · obtain ⟨m, q1, q2, hm, e⟩ := mX _ q
        exact ⟨m, q1, by omega, by rw [e, kx_at hm]⟩
      · obtain ⟨m, q1, q2, hm, e⟩ := mY _ q
        exact ⟨m, by omega, q2, by rw [e, kx_at hm]⟩
    refine h _ (S.sb.put perm) (S.pend.trans pe1) ?_ fun z hz' => kx_congr (nOut z (by omega))
    show Up kf N sa (sa + (na + nb))
    intro x y h1 h2 h3
    by_cases x1 : x < sa + k
    · rw [kx_congr (nOut x (.inl x1))]
      have all : ∀ m, sa + k ≤ m → m < sa + na + nb → O.kle (KX kf (arrOf st) x) (KX kf (arrOf st) m) := fun m q1 q2 => by
        by_cases q3 : m < sa + na
        · exact ua x m h1 (by omega) q3
        · exact KeyOrd.kle_trans (lowA x h1 x1) (ub _ m (Nat.le_refl _) (by omega) q2)
      by_cases y1 : y < sa + k
      · rw [kx_congr (nOut y (.inl y1))]
        exact ua x y h1 h2 (by omega)
      · by_cases y2 : y < sa + na + k'
        · obtain ⟨m, q1, q2, e⟩ := inM y (by omega) y2
          rw [e]
          exact all m q1 (by omega)
        · rw [kx_congr (nOut y (.inr (by omega)))]
          exact all y (by omega) (by omega)
    · by_cases x2 : x < sa + na + k'
      · by_cases y2 : y < sa + na + k'
        · rw [kx_congr (nIn x (by omega) x2), kx_congr (nIn y (by omega) y2)]
          exact upM _ _ (by omega) (by omega) (by omega)
        · rw [kx_congr (nOut y (.inr (by omega)))]
          obtain ⟨m, q1, q2, e⟩ := inM x (by omega) x2
          rw [e]
          by_cases q3 : m < sa + na
          · exact KeyOrd.kle_trans (ua m (sa + na - 1) (by omega) (by omega) (by omega)) (highB y (by omega) (by omega))
          · exact ub m y (by omega) (by omega) (by omega)
      · rw [kx_congr (nOut x (.inr (by omega))), kx_congr (nOut y (.inr (by omega)))]
        exact ub x y (by omega) h2 (by omega)
  have fin2 : ∀ (M : Array Keyed) (st2 : SortSt), Still κ a₀ st1 st2 → Fin (RK kf) X.toList Y.toList M.toList → failedOf (setArr st2 (M.toList.zipIdx.foldl (fun a x => a.setIfInBounds (sa + k + x.2) x.1) (arrOf st2))) = none := fun M st2 S _ => S.sb.failed
  by_cases le : na - k ≤ k'
  · rw [if_pos le]
    refine wpS_bind (q_mergeLo C B1 inX inY (by omega) (by omega) pX pY first last fun M st2 S f => ?_)
    refine wpS_bind (wpS_modify (wpS_bind (wpS_get ?_)))
    have := fin M st2 S f
    have e := fin2 M st2 S f
    refine wpS_pure ?_
    show Q (failedOf (setArr st2 _)).isNone _
    rw [e]
    exact this
  · rw [if_neg le]
    refine wpS_bind (q_mergeHi C B1 inX inY (by omega) (by omega) pX pY first last fun M st2 S f => ?_)
    refine wpS_bind (wpS_modify (wpS_bind (wpS_get ?_)))
    have := fin M st2 S f
    have e := fin2 M st2 S f
    refine wpS_pure ?_
    show Q (failedOf (setArr st2 _)).isNone _
    rw [e]
    exact this
def Chain (kf : Value → O.α) (xs : Array Keyed) : Nat → List (Nat × Nat × Nat) → Nat → Prop
  | x, [], y => x = y
  | x, (s, n, _) :: r, y => s = x ∧ 1 ≤ n ∧ Up kf xs s (s + n) ∧ Chain kf xs (x + n) r y
theorem Chain.le {xs : Array Keyed} : ∀ {l : List (Nat × Nat × Nat)} {x y : Nat}, Chain kf xs x l y → x + l.length ≤ y
  | [], x, y, h => by have h : x = y := h; simp; omega
  | (s, n, p) :: r, x, y, h => by
    obtain ⟨_, h1, _, h2⟩ := h
    have := Chain.le h2
    rw [List.length_cons]
    omega
theorem Chain.app {xs : Array Keyed} : ∀ {l m : List (Nat × Nat × Nat)} {x z : Nat}, Chain kf xs x (l ++ m) z ↔ ∃ y, Chain kf xs x l y ∧ Chain kf xs y m z
  | [], m, x, z => ⟨fun h => ⟨x, rfl, h⟩, fun ⟨y, h1, h2⟩ => by have h1 : x = y := h1; rw [h1]; exact h2⟩
  | (s, n, p) :: r, m, x, z => by
    constructor
    · rintro ⟨h1, h2, h3, h4⟩
      obtain ⟨y, h5, h6⟩ := Chain.app.mp h4
      exact ⟨y, ⟨h1, h2, h3, h5⟩, h6⟩
    · rintro ⟨y, ⟨h1, h2, h3, h5⟩, h6⟩
      exact ⟨h1, h2, h3, Chain.app.mpr ⟨y, h5, h6⟩⟩
theorem Chain.keep {xs ys : Array Keyed} : ∀ {l : List (Nat × Nat × Nat)} {x y : Nat}, Chain kf xs x l y → (∀ k, x ≤ k → k < y → KX kf ys k = KX kf xs k) → Chain kf ys x l y
  | [], x, y, h, _ => h
  | (s, n, p) :: r, x, y, ⟨h1, h2, h3, h4⟩, k => by
    have := Chain.le h4
    subst h1
    exact ⟨rfl, h2, fun i j q1 q2 q3 => by rw [k i q1 (by omega), k j (by omega) (by omega)]; exact h3 i j q1 q2 q3, Chain.keep h4 fun z z1 z2 => k z (by omega) z2⟩
theorem q_join (C : Cmp prog w A s κ O kf a₀) (B : SB κ a₀ st) {i hi : Nat} (c : Chain kf (arrOf st) 0 (pendingOf st).toList hi) (h1 : i + 1 < (pendingOf st).size) (hz : hi ≤ a₀.size) {Q : Bool → SortSt → Prop}
    (h : ∀ st', SB κ a₀ st' → (pendingOf st').size + 1 = (pendingOf st).size → Chain kf (arrOf st') 0 (pendingOf st').toList hi → (∀ k, hi ≤ k → KX kf (arrOf st') k = KX kf (arrOf st) k) → Q true st') : wpS (model prog w) A E s (mergeAt' i) Q st := by
  obtain ⟨⟨sa, na, pw⟩, e1⟩ : ∃ x, (pendingOf st)[i]? = some x := ⟨_, getElem?_pos _ i (by omega)⟩
  obtain ⟨⟨sb, nb, pw'⟩, e2⟩ : ∃ x, (pendingOf st)[i + 1]? = some x := ⟨_, getElem?_pos _ (i + 1) h1⟩
  have sp : (pendingOf st).toList = (pendingOf st).toList.take i ++ (sa, na, pw) :: (sb, nb, pw') :: (pendingOf st).toList.drop (i + 2) := by
    have l1 : i < (pendingOf st).toList.length := by simp; omega
    have l2 : i + 1 < (pendingOf st).toList.length := by simp; omega
    conv => lhs; rw [← List.take_append_drop i (pendingOf st).toList]
    congr 1
    rw [List.drop_eq_getElem_cons l1, List.drop_eq_getElem_cons l2]
    have g1 : (pendingOf st).toList[i] = (sa, na, pw) := by
      rw [← Array.getElem?_toList, List.getElem?_eq_getElem l1] at e1
      exact Option.some.inj e1
    have g2 : (pendingOf st).toList[i + 1] = (sb, nb, pw') := by
      rw [← Array.getElem?_toList, List.getElem?_eq_getElem l2] at e2
      exact Option.some.inj e2
    rw [g1, g2]
  have ln : ((pendingOf st).toList.take i).length = i := by simp; omega
  generalize (pendingOf st).toList.take i = l1 at sp ln
  generalize (pendingOf st).toList.drop (i + 2) = l2 at sp
  rw [sp] at c
  obtain ⟨y, c1, ⟨q1, q2, q3, ⟨q4, q5, q6, c2⟩⟩⟩ := Chain.app.mp c
  subst q1 q4
  have le1 := c2.le
  refine q_mergeAt C B e1 e2 q2 q5 (by omega) q3 q6 fun st' B' pe u k => h st' B' ?_ ?_ fun z hz' => k z (.inr (by omega))
  · have l0 : (pendingOf st').toList.length + 1 = (pendingOf st).toList.length := by
      rw [pe]
      simp only [Array.toList_eraseIdxIfInBounds, Array.toList_setIfInBounds]
      rw [List.length_eraseIdx_of_lt (by simp; omega), List.length_set]
      have : 0 < (pendingOf st).toList.length := by simp; omega
      omega
    simpa using l0
  · have pl : (pendingOf st').toList = l1 ++ (sa, na + nb, pw) :: l2 := by
      rw [pe]
      simp only [Array.toList_eraseIdxIfInBounds, Array.toList_setIfInBounds, sp]
      rw [List.set_append_right _ _ (by omega), ln, Nat.sub_self, List.set_cons_zero, List.eraseIdx_append_of_length_le (by omega), ln]
      simp
    rw [pl]
    refine Chain.app.mpr ⟨sa, c1.keep fun z _ z2 => k z (.inl z2), rfl, by omega, u, ?_⟩
    rw [show sa + (na + nb) = sa + na + nb by omega]
    exact c2.keep fun z z1 _ => k z (.inr z1)
theorem Chain.same {xs : Array Keyed} : ∀ {l m : List (Nat × Nat × Nat)} {x y : Nat}, l.map (fun v => (v.1, v.2.1)) = m.map (fun v => (v.1, v.2.1)) → Chain kf xs x l y → Chain kf xs x m y
  | [], [], _, _, _, h => h
  | [], _ :: _, _, _, e, _ => by cases e
  | _ :: _, [], _, _, e, _ => by cases e
  | (a, n, p) :: l, (b, k, q) :: m, x, y, e, ⟨h1, h2, h3, h4⟩ => by
    have e := List.cons.inj e
    have e1 : (a, n) = (b, k) := e.1
    cases e1
    exact ⟨h1, h2, h3, Chain.same e.2 h4⟩
theorem push_end {st3 : SortSt} {lo m x : Nat} (B3 : SB κ a₀ st3) (c3 : Chain kf (arrOf st3) 0 (pendingOf st3).toList lo) (u3 : Up kf (arrOf st3) lo (lo + m)) (h1 : 1 ≤ m) (h2 : lo + m ≤ a₀.size) (hx : x ≤ lo ∨ a₀.size ≤ lo) :
    SB κ a₀ (setPending st3 ((pendingOf st3).push (lo, m, 0))) ∧ ∃ lo', ((none, lo + m) : Option Unit × Nat) = (none, lo') ∧ (x + 1 ≤ lo' ∨ a₀.size ≤ lo') ∧ lo' ≤ a₀.size ∧ Chain kf (arrOf (setPending st3 ((pendingOf st3).push (lo, m, 0)))) 0 (pendingOf (setPending st3 ((pendingOf st3).push (lo, m, 0)))).toList lo' := by
  refine ⟨⟨B3.perm, B3.kind, B3.failed⟩, lo + m, rfl, by omega, h2, ?_⟩
  show Chain kf (arrOf st3) 0 ((pendingOf st3).push (lo, m, 0)).toList (lo + m)
  rw [Array.toList_push]
  exact Chain.app.mpr ⟨lo, c3, rfl, h1, u3, rfl⟩
theorem q_sort (C : Cmp prog w A s κ O kf a₀) (B : SB κ a₀ st) (p0 : pendingOf st = #[]) {Q : Unit → SortSt → Prop}
    (h : ∀ st', SB κ a₀ st' → Up kf (arrOf st') 0 a₀.size → Q () st') : wpS (model prog w) A E s sortRuns' Q st := by
  rw [sortRuns'_eq]
  refine wpS_bind (wpS_get ?_)
  dsimp only
  simp only [B.size]
  generalize minRun' a₀.size a₀.size 0 = mr
  refine wpS_bind (wpS_mono (wpS_forRange
    (I := fun x c st' => SB κ a₀ st' ∧ ∃ lo, c = (none, lo) ∧ (x ≤ lo ∨ a₀.size ≤ lo) ∧ lo ≤ a₀.size ∧ Chain kf (arrOf st') 0 (pendingOf st').toList lo)
    (Q := fun c st' => SB κ a₀ st' ∧ c = (none, a₀.size) ∧ Chain kf (arrOf st') 0 (pendingOf st').toList a₀.size) ?step ?fin ?init) ?post)
  case init => exact ⟨B, 0, rfl, .inl (Nat.le_refl _), Nat.zero_le _, by rw [p0]; rfl⟩
  case fin =>
    rintro c st' ⟨B', lo, rfl, q1, q2, c⟩
    obtain rfl : lo = a₀.size := by omega
    exact ⟨B', rfl, c⟩
  case post =>
    rintro c st' ⟨B', rfl, c⟩
    dsimp only
    refine wpS_bind (wpS_mono (wpS_forRange
      (I := fun x c st2 => c = (none, ()) ∧ SB κ a₀ st2 ∧ Chain kf (arrOf st2) 0 (pendingOf st2).toList a₀.size ∧ ((pendingOf st2).size + x ≤ a₀.size ∨ (pendingOf st2).size ≤ 1))
      (Q := fun c st2 => c = (none, ()) ∧ SB κ a₀ st2 ∧ Chain kf (arrOf st2) 0 (pendingOf st2).toList a₀.size ∧ (pendingOf st2).size ≤ 1) ?t1 ?t2 ?t3) ?t4)
    case t3 => exact ⟨rfl, B', c, .inl (by have := c.le; simp at this; omega)⟩
    case t2 =>
      rintro c2 st2 ⟨rfl, B2, c2, q⟩
      exact ⟨rfl, B2, c2, by omega⟩
    case t4 =>
      rintro c2 st2 ⟨rfl, B2, c2, q⟩
      refine wpS_pure (h st2 B2 ?_)
      generalize (pendingOf st2) = P at c2 q
      obtain ⟨l⟩ := P
      match l, q, c2 with
      | [], _, c2 =>
        have c2 : 0 = a₀.size := c2
        intro i j _ _ q3
        omega
      | [(a, n, p)], _, c2 =>
        obtain ⟨e1, _, u, e2⟩ := c2
        have e2 : 0 + n = a₀.size := e2
        subst e1
        rw [← e2]
        exact u
    case t1 =>
      rintro x c2 st2 _ hx ⟨rfl, B2, c2, q⟩
      refine wpS_bind (wpS_get ?_)
      by_cases z : (pendingOf st2).size ≤ 1
      · rw [if_pos z]
        exact wpS_pure ⟨rfl, B2, c2, z⟩
      · rw [if_neg z]
        generalize hi : (if Option.any (fun x => decide (x < (pendingOf st2)[(pendingOf st2).size - 2 + 1]?.elim 0 (fun x => x.2.1))) (if (pendingOf st2).size - 2 > 0 then Option.map (fun x => x.2.1) (pendingOf st2)[(pendingOf st2).size - 2 - 1]? else none) = true then (pendingOf st2).size - 2 - 1 else (pendingOf st2).size - 2) = i
        have aux : ∀ (c : Prop) [Decidable c] (u v N : Nat), u + 1 < N → v + 1 < N → (if c then u else v) + 1 < N := fun c _ u v N h1 h2 => by split <;> assumption
        refine wpS_bind (q_join C B2 c2 (by rw [← hi]; exact aux _ _ _ _ (by omega) (by omega)) (Nat.le_refl _) fun st3 B3 z3 c3 _ => ?_)
        exact wpS_pure ⟨rfl, B3, c3, by omega⟩
  case step =>
    rintro x c st' _ hx ⟨B', lo, rfl, q1, q2, c⟩
    dsimp only
    by_cases z : lo ≥ a₀.size
    · rw [if_pos z]
      obtain rfl : lo = a₀.size := by omega
      exact wpS_pure ⟨B', rfl, c⟩
    rw [if_neg z]
    refine wpS_bind (q_count C (by omega) (by omega) B' fun n st2 B2 K2 n1 n2 u2 => ?_)
    have c2 : Chain kf (arrOf st2) 0 (pendingOf st2).toList lo := by
      rw [K2.pend]
      exact c.keep fun k _ k2 => kx_congr (K2.low k k2)
    dsimp only
    by_cases hm : n < mr
    all_goals first
      | (rw [if_pos hm]
         refine wpS_bind (wpS_lift (wpAny_rule ⟨rfl, ?_⟩))
         refine wpS_bind (q_binary C (by omega) (by omega) B2 u2 fun st3 B3 K3 u3 => ?_)
         rw [if_neg (by simp)]
         have n3 : 1 ≤ min (a₀.size - lo) mr ∧ lo + min (a₀.size - lo) mr ≤ a₀.size := by omega
         have c3 : Chain kf (arrOf st3) 0 (pendingOf st3).toList lo := by
           rw [K3.pend]
           exact c2.keep fun k _ k2 => kx_congr (K3.low k k2)
         generalize min (a₀.size - lo) mr = m at u3 n3 ⊢)
      | (rw [if_neg hm]
         have n3 : 1 ≤ n ∧ lo + n ≤ a₀.size := by omega
         have B3 := B2
         have c3 := c2
         have u3 := u2
         generalize n = m at u3 n3 ⊢
         generalize st2 = st3 at B3 c3 u3 ⊢)
    all_goals
      refine wpS_bind (wpS_get ?_)
      cases hb : (pendingOf st3).back? with
      | none => exact wpS_bind (wpS_modify (wpS_pure (push_end B3 c3 u3 n3.1 n3.2 (by omega))))
      | some b =>
        obtain ⟨s1, m1, pw⟩ := b
        dsimp only
        generalize power' a₀.size (2 * s1 + m1) (2 * s1 + m1 + m1 + m) a₀.size = pp
        refine wpS_bind (wpS_mono (wpS_forRange
          (I := fun _ c st4 => c = (none, ()) ∧ SB κ a₀ st4 ∧ Chain kf (arrOf st4) 0 (pendingOf st4).toList lo ∧ Up kf (arrOf st4) lo (lo + m))
          (Q := fun c st4 => c = (none, ()) ∧ SB κ a₀ st4 ∧ Chain kf (arrOf st4) 0 (pendingOf st4).toList lo ∧ Up kf (arrOf st4) lo (lo + m)) ?r1 (fun _ _ q => q) ⟨rfl, B3, c3, u3⟩) ?r2)
        case r1 =>
          rintro y c4 st4 _ hy ⟨rfl, B4, c4, u4⟩
          refine wpS_bind (wpS_get ?_)
          by_cases z4 : (pendingOf st4).size > 1
          · have e4 := getElem?_pos (pendingOf st4) ((pendingOf st4).size - 2) (by omega)
            simp only [if_pos z4, e4]
            split
            · exact wpS_pure ⟨rfl, B4, c4, u4⟩
            · refine wpS_bind (q_join C B4 c4 (by omega) q2 fun st5 B5 z5 c5 k5 => ?_)
              exact wpS_pure ⟨rfl, B5, c5, fun i j w1 w2 w3 => by rw [k5 i w1, k5 j (by omega)]; exact u4 i j w1 w2 w3⟩
          · simp only [if_neg z4]
            exact wpS_pure ⟨rfl, B4, c4, u4⟩
        case r2 =>
          rintro c4 st4 ⟨rfl, B4, c4, u4⟩
          dsimp only
          refine wpS_bind (wpS_modify (wpS_bind (wpS_modify (wpS_pure ?_))))
          have B5 : SB κ a₀ (setPending st4 ((pendingOf st4).modify ((pendingOf st4).size - 1) fun x => (x.1, x.2.1, pp))) := ⟨B4.perm, B4.kind, B4.failed⟩
          refine push_end B5 ?_ u4 n3.1 n3.2 (by omega)
          refine Chain.same (l := (pendingOf st4).toList) ?_ c4
          show _ = ((pendingOf st4).modify ((pendingOf st4).size - 1) fun x => (x.1, x.2.1, pp)).toList.map _
          rw [Array.toList_modify]
          refine List.ext_getElem? fun k => ?_
          rw [List.getElem?_map, List.getElem?_map, List.getElem?_modify]
          cases (pendingOf st4).toList[k]? with
          | none => rfl
          | some v =>
            show some _ = some _
            by_cases w : (pendingOf st4).size - 1 = k
            · simp [w]
            · simp [w]
end
end Srt
namespace L2
open PySem PySem.Spec PyProof.Rows
def kLt : Key → Key → Bool
  | .inl a, .inl b => decide (a < b)
  | .inl _, .inr _ => true
  | .inr _, .inl _ => false
  | .inr x, .inr y => decide (x.cps.toList < y.cps.toList)
theorem kLt_irr : ∀ a, kLt a a = false
  | .inl a => decide_eq_false (Int.lt_irrefl a)
  | .inr x => decide_eq_false (List.lt_irrefl _)
theorem kLt_trans : ∀ {a b c}, kLt a b = true → kLt b c = true → kLt a c = true
  | .inl a, .inl b, .inl c, h1, h2 => decide_eq_true (Int.lt_trans (of_decide_eq_true h1) (of_decide_eq_true h2))
  | .inl _, .inl _, .inr _, _, _ => rfl
  | .inl _, .inr _, .inr _, _, _ => rfl
  | .inr x, .inr y, .inr z, h1, h2 => decide_eq_true (List.lt_trans (of_decide_eq_true h1) (of_decide_eq_true h2))
theorem kLt_total : ∀ {a b}, kLt a b = false → kLt b a = false → a = b
  | .inl a, .inl b, h1, h2 => by
    have h1 := of_decide_eq_false h1
    have h2 := of_decide_eq_false h2
    rw [show a = b by omega]
  | .inr x, .inr y, h1, h2 => by
    have h1 := of_decide_eq_false h1
    have h2 := of_decide_eq_false h2
    rw [str_ext (List.le_antisymm (List.not_lt.mp h2) (List.not_lt.mp h1))]
def lexK : List Key → List Key → Bool
  | [], [] => false
  | [], _ :: _ => true
  | _ :: _, [] => false
  | a :: x, b :: y => if a = b then lexK x y else kLt a b
theorem lexK_irr : ∀ x, lexK x x = false
  | [] => rfl
  | a :: x => by rw [lexK, if_pos rfl]; exact lexK_irr x
theorem lexK_trans : ∀ {x y z}, lexK x y = true → lexK y z = true → lexK x z = true
  | [], [], _, h, _ => by cases h
  | [], _ :: _, [], _, h => by cases h
  | [], _ :: _, _ :: _, _, _ => rfl
  | _ :: _, [], _, h, _ => by cases h
  | _ :: _, _ :: _, [], _, h => by cases h
  | a :: x, b :: y, c :: z, h1, h2 => by
    unfold lexK at h1 h2 ⊢
    by_cases e1 : a = b
    · subst e1
      rw [if_pos rfl] at h1
      by_cases e2 : a = c
      · subst e2
        rw [if_pos rfl] at h2 ⊢
        exact lexK_trans h1 h2
      · rw [if_neg e2] at h2 ⊢
        exact h2
    · rw [if_neg e1] at h1
      by_cases e2 : b = c
      · subst e2
        rw [if_neg e1]
        exact h1
      · rw [if_neg e2] at h2
        have h3 := kLt_trans h1 h2
        have : a ≠ c := fun e => by rw [e, kLt_irr] at h3; cases h3
        rw [if_neg this]
        exact h3
theorem lexK_total : ∀ {x y}, lexK x y = false → lexK y x = false → x = y
  | [], [], _, _ => rfl
  | [], _ :: _, h, _ => by cases h
  | _ :: _, [], _, h => by cases h
  | a :: x, b :: y, h1, h2 => by
    unfold lexK at h1 h2
    by_cases e : a = b
    · subst e
      rw [if_pos rfl] at h1 h2
      rw [lexK_total h1 h2]
    · rw [if_neg e] at h1
      rw [if_neg (fun z => e z.symm)] at h2
      exact absurd (kLt_total h1 h2) e
@[reducible] def lexOrd : KeyOrd where
  α := List Key
  blt := lexK
  irrefl := lexK_irr
  trans _ _ _ := lexK_trans
  negTrans a b c h := by
    cases e : lexK a b with
    | true => exact .inl rfl
    | false =>
      cases e2 : lexK b a with
      | true => exact .inr (lexK_trans e2 h)
      | false => rw [← lexK_total e e2]; exact .inr h
  total _ _ := lexK_total
def keyV : Value → Key
  | .int i _ => .inl i
  | .str x _ => .inr x
  | _ => .inl 0
def kfH (h : Heap) : Value → List Key
  | .int i _ => [.inl i]
  | .str x _ => [.inr x]
  | .ref a => match h.get? a with
    | some o => match o.data with
      | .seq xs _ => xs.toList.map keyV
      | _ => []
    | none => []
  | _ => []
end L2
namespace Srt
open PySem PyProof.Rows
section
variable {prog : Program} {w : World} {A : Around} {E : Value → Shared → Prop} {s : Shared} {O : KeyOrd}
theorem q_listsort {a : Addr} {vs : List Value} {n : Nat} {P : PySem.Fin → Shared → Prop} (ho : s.heap.get? a = some (seqObj "list" vs.toArray n)) (hz : vs.length ≤ sizeLine) (kf : Value → O.α)
    (cmp : ∀ h', (∀ b o, b ≠ a → s.heap.get? b = some o → h'.get? b = some o) → 2 ≤ vs.length → ∃ κ, (∀ (Q : SortKind → Shared → Prop) (E : Value → Shared → Prop), Q κ { s with heap := h' } → wpAny (model prog w) A (keyKind' vs.toArray) Q E { s with heap := h' }) ∧ Cmp prog w A { s with heap := h' } κ O kf (pairsOf vs))
    (h : ∀ out : Array Keyed, out.Perm (pairsOf vs) → Up kf out 0 (pairsOf vs).size → P (.done (.ret .none)) { s with heap := sortedHeap s.heap a vs (out.map (·.2)) }) :
    wpAny (model prog w) A (Builtin.«list.sort» ⟨[.ref a], []⟩) P E s := by
  rw [list_sort_plain]
  have ha : a < s.heap.objs.size := Heap.lt_size ho
  refine wpAny_bind (listItems_at ho rfl (wpAny_bind (listUpdate_at ho rfl ?_)))
  obtain ⟨e1, ho1⟩ : ∃ e1, (s.heap.update a (Obj.mapSeq fun _ => #[])).get? a = some (seqObj "list" #[] e1) := ⟨_, get?_update_seq ho (fun _ => #[])⟩
  refine wpAny_bind (seqEpoch_at ho1 rfl (wpAny_bind (wpAny_newTuple (wpAny_bind (wpAny_newList (wpAny_holding ?_))))))
  generalize hh : ((s.heap.update a (Obj.mapSeq fun _ => #[])).push (seqObj "tuple" vs.toArray 0)).push (seqObj "list" #[] 0) = h2
  have kp : ∀ b o, b ≠ a → s.heap.get? b = some o → h2.get? b = some o := fun b o hb q => by
    rw [← hh]
    exact Heap.get?_push_of_some _ (Heap.get?_push_of_some _ ((Heap.get?_update_ne _ _ _ _ hb).trans q))
  have ho6 : h2.get? a = some (seqObj "list" #[] e1) := by
    rw [← hh]
    exact Heap.get?_push_of_some _ (Heap.get?_push_of_some _ ho1)
  have fin : ∀ out : Array Keyed, out.Perm (pairsOf vs) → Up kf out 0 (pairsOf vs).size → P (.done (.ret .none)) { s with heap := h2.update a (Obj.mapSeq fun _ => out.map (·.2)) } := fun out h1 h3 => by
    have := h out h1 h3
    unfold sortedHeap at this
    rw [hh] at this
    exact this
  show wpAny (model prog w) A _ P E { s with heap := h2 }
  dsimp only
  by_cases h2' : vs.toArray.size < 2
  · rw [if_pos h2', if_pos h2']
    refine wpAny_bind (wpAny_pure ?_)
    rw [StateT.run_pure]
    refine wpAny_bind (wpAny_pure ?_)
    dsimp only
    refine wpAny_bind (seqEpoch_at ho6 rfl (wpAny_bind (listUpdate_at ho6 rfl ?_ (hsz2 := by rw [Array.size_map]; show (pairsOf vs).size ≤ _; rw [pairsOf_size]; omega))))
    simp only [bne_self_eq_false, Bool.false_eq_true, if_false]
    refine wpAny_pure (fin (vs.toArray.zip vs.toArray) (Array.Perm.refl _) fun i j _ q1 q2 => ?_)
    rw [pairsOf_size] at q2
    have hsz : vs.toArray.size = vs.length := by simp
    obtain rfl : i = j := by omega
    exact KeyOrd.kle_refl _
  · rw [if_neg h2', if_neg h2']
    obtain ⟨κ, kk, C⟩ := cmp h2 kp (by simpa using h2')
    refine wpAny_bind (kk _ _ ?_)
    refine wpAny_bind (wpAny_mono (q_sort C (st := SortSt.mk' κ (pairsOf vs) #[] 7 none) (Q := fun _ st' => SB κ (pairsOf vs) st' ∧ Up kf (arrOf st') 0 (pairsOf vs).size) ⟨Array.Perm.refl _, rfl, rfl⟩ rfl fun st' B u => ⟨B, u⟩) ?_ fun _ _ e => e)
    rintro ⟨⟨⟩, st'⟩ s' ⟨rfl, B, u⟩
    dsimp only
    refine wpAny_bind (seqEpoch_at ho6 rfl (wpAny_bind (listUpdate_at ho6 rfl ?_ (hsz2 := by refine Nat.le_trans (Nat.le_of_eq ((Array.size_map ..).trans (B.perm.size_eq.trans (pairsOf_size _)))) ?_; omega))))
    rw [B.failed]
    simp only [bne_self_eq_false, Bool.false_eq_true, if_false]
    exact wpAny_pure (fin _ B.perm u)
end
end Srt
namespace L2
open PySem PySem.Spec PyProof.Rows
def isI : Key → Bool
  | .inl _ => true
  | .inr _ => false
def flatKV : Value → Prop
  | .int _ _ => True
  | .str _ _ => True
  | _ => False
section
variable {prog : Program} {w : World} {A : Around} {E : Value → Shared → Prop} {s : Shared} {b : Bool} {Q : Bool → Shared → Prop}
theorem lt_any (c : Bool) {x y : Value} (hx : flatKV x) (hy : flatKV y) (hs : isI (keyV x) = isI (keyV y)) (h : Q (kLt (keyV x) (keyV y)) s) : wpAny (model prog w) A (oneLt' c x y) Q E s := by
  cases x <;> first | exact hx.elim | skip
  all_goals (cases y <;> first | exact hy.elim | exact Bool.noConfusion (show true = false from hs) | exact Bool.noConfusion (show false = true from hs) | skip)
  · cases c with
    | true => exact oneLt_int h
    | false => exact PySem.W.kat_one _ _ (PyProof.Rows.lt_int h)
  · cases c with
    | true => exact oneLt_str h
    | false => exact PySem.W.kat_one _ _ (PyProof.Rows.lt_str h)
theorem eq_any {x y : Value} (hx : flatKV x) (hy : flatKV y) (hs : isI (keyV x) = isI (keyV y)) (h : Q (decide (keyV x = keyV y)) s) : wpAny (model prog w) A (eqBool x y) Q E s := by
  cases x <;> first | exact hx.elim | skip
  all_goals (cases y <;> first | exact hy.elim | exact Bool.noConfusion (show true = false from hs) | exact Bool.noConfusion (show false = true from hs) | skip)
  · rename_i a t c u
    refine MeetsSeq.EqGives.int a c t u prog w A E s Q ?_
    have e : (a == c) = decide (keyV (.int a t) = keyV (.int c u)) := by
      show (a == c) = decide ((Sum.inl a : Key) = Sum.inl c)
      by_cases z : a = c
      · subst z; simp
      · rw [decide_eq_false (fun q => z (Sum.inl.inj q))]; simpa using z
    rw [e]
    exact h
  · rename_i a t c u
    refine eqGives_str a c t u prog w A E s Q ?_
    have e : (a == c) = decide (keyV (.str a t) = keyV (.str c u)) := by
      show (a == c) = decide ((Sum.inr a : Key) = Sum.inr c)
      by_cases z : a = c
      · subst z; simp
      · rw [decide_eq_false (fun q => z (Sum.inr.inj q))]; simpa using z
    rw [e]
    exact h
theorem lex_flat : ∀ (xs ys : List Value) (i : Nat), (∀ v ∈ xs, flatKV v) → (∀ v ∈ ys, flatKV v) → xs.map (fun v => isI (keyV v)) = ys.map (fun v => isI (keyV v)) → Q (lexK (xs.map keyV) (ys.map keyV)) s → PySem.W.KatLex prog w A b false Q (xs.zip ys) i s
  | [], [], _, _, _, _, h => PySem.W.kat_nil h
  | [], _ :: _, _, _, _, e, _ => by cases e
  | _ :: _, [], _, _, _, e, _ => by cases e
  | x :: xs, y :: ys, i, hx, hy, e, h => by
    obtain ⟨e1, e2⟩ := List.cons.inj e
    have fx := hx x List.mem_cons_self
    have fy := hy y List.mem_cons_self
    have h : Q (if keyV x = keyV y then lexK (xs.map keyV) (ys.map keyV) else kLt (keyV x) (keyV y)) s := h
    refine PySem.W.kat_cons (eq_any fx fy e1 (PySem.W.kat_go (fun q => ?_) fun q => ?_))
    · rw [if_pos (of_decide_eq_true q)] at h
      exact PySem.W.kat_yes (lex_flat xs ys _ (fun v hv => hx v (List.mem_cons_of_mem _ hv)) (fun v hv => hy v (List.mem_cons_of_mem _ hv)) e2 h)
    · rw [if_neg (of_decide_eq_false q)] at h
      exact PySem.W.kat_no (lt_any _ fx fy e1 h)
end
def TupKey (h : Heap) (u : Value) (ks : List Key) : Prop := ∃ a o items m, u = .ref a ∧ h.get? a = some o ∧ o.cls = .type "tuple" ∧ o.data = .seq items m ∧ items.toList.map keyV = ks ∧ ∀ v ∈ items.toList, flatKV v
theorem TupKey.kf {h : Heap} {u : Value} {ks : List Key} (t : TupKey h u ks) : kfH h u = ks := by
  obtain ⟨a, o, items, m, rfl, e, _, d, k, _⟩ := t
  simp only [kfH, e, d]
  exact k
inductive SortsV (h : Heap) : List Value → List (List Key) → Prop
  | cI {vs kss} : vs.length = kss.length → (∀ (i : Nat) u ks, vs[i]? = some u → kss[i]? = some ks → ∃ n t, u = .int n t ∧ ks = [.inl n]) → SortsV h vs kss
  | cS {vs kss} : vs.length = kss.length → (∀ (i : Nat) u ks, vs[i]? = some u → kss[i]? = some ks → ∃ n t, u = .str n t ∧ ks = [.inr n]) → SortsV h vs kss
  | cT {vs kss} (sh : List Bool) : vs.length = kss.length → sh ≠ [] → (∀ (i : Nat) u ks, vs[i]? = some u → kss[i]? = some ks → TupKey h u ks ∧ ks.map isI = sh) → SortsV h vs kss
theorem SortsV.len {h : Heap} {vs : List Value} {kss : List (List Key)} (x : SortsV h vs kss) : vs.length = kss.length := by cases x <;> assumption
theorem SortsV.kf {h : Heap} {vs : List Value} {kss : List (List Key)} (x : SortsV h vs kss) : ∀ (i : Nat) u ks, vs[i]? = some u → kss[i]? = some ks → kfH h u = ks := by
  intro i u ks e1 e2
  cases x with
  | cI _ f => obtain ⟨n, t, rfl, rfl⟩ := f i u ks e1 e2; rfl
  | cS _ f => obtain ⟨n, t, rfl, rfl⟩ := f i u ks e1 e2; rfl
  | cT _ _ _ f => exact (f i u ks e1 e2).1.kf
theorem mem_at {α β : Type} {l : List α} {m : List β} (hl : l.length = m.length) {x : α} (h : x ∈ l) : ∃ (i : Nat) (y : β), l[i]? = some x ∧ m[i]? = some y := by
  obtain ⟨i, hi, e⟩ := List.mem_iff_getElem.mp h
  exact ⟨i, m[i]'(by omega), by rw [List.getElem?_eq_getElem hi, e], List.getElem?_eq_getElem _⟩
theorem SortsV.cmp {prog : Program} {w : World} {A : Around} {s : Shared} {h : Heap} {vs : List Value} {kss : List (List Key)} (x : SortsV h vs kss) (h2 : 2 ≤ vs.length) (kp : ∀ a o items m, .ref a ∈ vs → h.get? a = some o → o.cls = .type "tuple" → o.data = .seq items m → s.heap.get? a = some o) :
    ∃ κ, (∀ (Q : SortKind → Shared → Prop) (E : Value → Shared → Prop), Q κ s → wpAny (model prog w) A (keyKind' vs.toArray) Q E s) ∧ Srt.Cmp prog w A s κ lexOrd (kfH h) (pairsOf vs) := by
  have mp : ∀ p ∈ (pairsOf vs).toList, p.1 ∈ vs := fun p hp => by rw [pairsOf_toList] at hp; exact (mem_zip_self hp).2
  cases x with
  | cI hl f =>
    refine ⟨oneType', fun Q E q => PySem.W.kas_kind (T := .type "int") h2 (fun v hv => ?_) (by decide) (by decide) q, ⟨fun p hp q hq Q E k => ?_⟩⟩
    · obtain ⟨i, ks, e1, e2⟩ := mem_at hl hv
      obtain ⟨n, t, rfl, _⟩ := f i _ _ e1 e2
      exact .now
    · obtain ⟨i, ks, e1, e2⟩ := mem_at hl (mp p hp)
      obtain ⟨j, ls, e3, e4⟩ := mem_at hl (mp q hq)
      obtain ⟨n, t, u1, _⟩ := f i _ _ e1 e2
      obtain ⟨m, t', u2, _⟩ := f j _ _ e3 e4
      rw [u1, u2] at k ⊢
      rw [keyLt'_oneType]
      refine oneLt_int ?_
      have e : decide (n < m) = lexK [.inl n] [.inl m] := by
        show _ = if (Sum.inl n : Key) = Sum.inl m then false else decide (n < m)
        split
        · rename_i z
          have z := Sum.inl.inj z
          rw [z]; exact decide_eq_false (Int.lt_irrefl m)
        · rfl
      rw [e]
      exact k
  | cS hl f =>
    refine ⟨oneType', fun Q E q => PySem.W.kas_kind (T := .type "str") h2 (fun v hv => ?_) (by decide) (by decide) q, ⟨fun p hp q hq Q E k => ?_⟩⟩
    · obtain ⟨i, ks, e1, e2⟩ := mem_at hl hv
      obtain ⟨n, t, rfl, _⟩ := f i _ _ e1 e2
      exact .now
    · obtain ⟨i, ks, e1, e2⟩ := mem_at hl (mp p hp)
      obtain ⟨j, ls, e3, e4⟩ := mem_at hl (mp q hq)
      obtain ⟨n, t, u1, _⟩ := f i _ _ e1 e2
      obtain ⟨m, t', u2, _⟩ := f j _ _ e3 e4
      rw [u1, u2] at k ⊢
      rw [keyLt'_oneType]
      refine oneLt_str ?_
      have e : decide (n.cps.toList < m.cps.toList) = lexK [.inr n] [.inr m] := by
        show _ = if (Sum.inr n : Key) = Sum.inr m then false else decide (n.cps.toList < m.cps.toList)
        split
        · rename_i z
          have z := Sum.inr.inj z
          rw [z]; exact decide_eq_false (List.lt_irrefl _)
        · rfl
      rw [e]
      exact k
  | cT sh hl hn f =>
    have at' : ∀ u ∈ vs, ∃ ks, TupKey s.heap u ks ∧ kfH h u = ks ∧ ks.map isI = sh := fun u hu => by
      obtain ⟨i, ks, e1, e2⟩ := mem_at hl hu
      obtain ⟨t, z⟩ := f i u ks e1 e2
      refine ⟨ks, ?_, t.kf, z⟩
      obtain ⟨a, o, items, m, rfl, e, c, d, r⟩ := t
      exact ⟨a, o, items, m, rfl, kp a o items m hu e c d, c, d, r⟩
    refine ⟨tuples' true, fun Q E q => ?_, ⟨fun p hp q hq Q E k => ?_⟩⟩
    · -- the kind, by the firsts
      have key : ∀ (l : List Value), (∀ u ∈ l, u ∈ vs) → ∃ fs, PySem.W.KatTups s.heap l fs ∧ fs.length = l.length ∧ ∀ v ∈ fs, flatKV v ∧ isI (keyV v) = sh.headD true := fun l => by
        induction l with
        | nil => exact fun _ => ⟨[], trivial, rfl, fun v hv => by cases hv⟩
        | cons u l ih =>
          intro hu
          obtain ⟨fs, k1, k2, k3⟩ := ih fun v hv => hu v (List.mem_cons_of_mem _ hv)
          obtain ⟨ks, ⟨a, o, items, m, rfl, e, c, d, r, fl⟩, _, z⟩ := at' u (hu u List.mem_cons_self)
          obtain ⟨l0⟩ := items
          match l0, r, fl with
          | [], r, _ =>
            have r : [] = ks := r
            rw [← r] at z
            exact absurd z.symm hn
          | f0 :: l1, r, fl =>
            refine ⟨f0 :: fs, PySem.W.KatTups.cons e c d rfl k1, by rw [List.length_cons, List.length_cons, k2], fun v hv => ?_⟩
            rcases List.mem_cons.mp hv with rfl | hv
            · refine ⟨fl _ (by simp), ?_⟩
              have r : keyV v :: l1.map keyV = ks := r
              rw [← z, ← r]
              rfl
            · exact k3 v hv
      obtain ⟨fs, k1, k2, k3⟩ := key vs fun _ h => h
      cases hh : sh.headD true with
      | true =>
        refine PySem.W.kat_kind (T := .type "int") k1 (by omega) (fun v hv => ?_) (by decide) q
        obtain ⟨fl, z⟩ := k3 v hv
        rw [hh] at z
        cases v <;> first | exact fl.elim | exact Bool.noConfusion (show true = false from z) | exact Bool.noConfusion (show false = true from z) | exact .now
      | false =>
        refine PySem.W.kat_kind (T := .type "str") k1 (by omega) (fun v hv => ?_) (by decide) q
        obtain ⟨fl, z⟩ := k3 v hv
        rw [hh] at z
        cases v <;> first | exact fl.elim | exact Bool.noConfusion (show true = false from z) | exact Bool.noConfusion (show false = true from z) | exact .now
    · obtain ⟨ks, ⟨a, o, items, m, u1, e, c, d, r, fl⟩, k1, z1⟩ := at' _ (mp p hp)
      obtain ⟨ls, ⟨a', o', items', m', u2, e', c', d', r', fl'⟩, k2, z2⟩ := at' _ (mp q hq)
      have k : Q (lexK (kfH h p.1) (kfH h q.1)) s := k
      rw [k1, k2, ← r, ← r'] at k
      rw [u1, u2]
      have es : items.toList.map (fun v => isI (keyV v)) = items'.toList.map (fun v => isI (keyV v)) := by
        have h1 : (items.toList.map keyV).map isI = (items'.toList.map keyV).map isI := by rw [r, r', z1, z2]
        rw [List.map_map, List.map_map] at h1
        exact h1
      have el : items.size = items'.size := by
        have := congrArg List.length es
        simpa using this
      refine PySem.W.kat_lt e d e' d' ?_
      rw [decide_eq_false (by omega)]
      exact lex_flat _ _ 0 fl fl' es k
inductive SortsAs (K : PySem.W.Frag) (H : Hp) : List V → List (List Key) → Prop
  | cI (ns : List Int) : SortsAs K H (ns.map V.int) (ns.map fun n => [.inl n])
  | cS (zs : List Str) : SortsAs K H (zs.map V.str) (zs.map fun z => [.inr z])
  | cT {xs : List V} {kss : List (List Key)} (sh : List Bool) : sh ≠ [] → Paired (fun x ks => (∃ a, x = .ref a ∧ SqT K H a (ks.map kV)) ∧ ks.map isI = sh) xs kss → SortsAs K H xs kss
theorem paired_perm {α β : Type} {F : α → β → Prop} {bs bs' : List β} (p : bs'.Perm bs) : ∀ {as : List α}, Paired F as bs → ∃ as', as'.Perm as ∧ Paired F as' bs' := by
  induction p with
  | nil => intro as h; cases h; exact ⟨[], .nil, .nil⟩
  | cons x _ ih =>
    intro as h
    cases h with
    | cons h1 h2 =>
      obtain ⟨as', q1, q2⟩ := ih h2
      exact ⟨_ :: as', q1.cons _, .cons h1 q2⟩
  | swap x y l =>
    intro as h
    cases h with
    | cons h1 h2 =>
      cases h2 with
      | cons h3 h4 => exact ⟨_, List.Perm.swap _ _ _, .cons h3 (.cons h1 h4)⟩
  | trans _ _ ih1 ih2 =>
    intro as h
    obtain ⟨a1, q1, q2⟩ := ih2 h
    obtain ⟨a2, q3, q4⟩ := ih1 q2
    exact ⟨a2, q3.trans q1, q4⟩
theorem paired_at {α β : Type} {F : α → β → Prop} : ∀ {l : List α} {m : List β}, Paired F l m → l.length = m.length ∧ ∀ (i : Nat) a b, l[i]? = some a → m[i]? = some b → F a b
  | _, _, .nil => ⟨rfl, fun i a b h => by simp at h⟩
  | _, _, .cons h r => by
    obtain ⟨h1, h2⟩ := paired_at r
    refine ⟨by rw [List.length_cons, List.length_cons, h1], fun i a b e1 e2 => ?_⟩
    cases i with
    | zero => simp at e1 e2; subst e1 e2; exact h
    | succ i => exact h2 i a b (by simpa using e1) (by simpa using e2)
theorem keyV_rel : ∀ {ks : List Key} {us : List Value}, Vals (ks.map kV) us → us.map keyV = ks ∧ ∀ v ∈ us, flatKV v
  | [], _, h => by cases h; exact ⟨rfl, fun v hv => by cases hv⟩
  | k :: ks, _, h => by
    cases h with
    | cons h1 h2 =>
      obtain ⟨e, f⟩ := keyV_rel h2
      cases k with
      | inl i =>
        obtain ⟨t, rfl⟩ := h1
        exact ⟨by rw [List.map_cons, e]; rfl, fun v hv => by rcases List.mem_cons.mp hv with rfl | hv; exact True.intro; exact f v hv⟩
      | inr x =>
        obtain ⟨t, rfl⟩ := h1
        exact ⟨by rw [List.map_cons, e]; rfl, fun v hv => by rcases List.mem_cons.mp hv with rfl | hv; exact True.intro; exact f v hv⟩
section
variable {X : Cx} {pins : List (Addr × Obj)} {σ : St} {H : Hp} {s : Shared}
theorem SortsAs.vals (I : Inv X pins σ H s) {xs : List V} {kss : List (List Key)} {its : List Value} (h : SortsAs X.K H xs kss) (r : Vals xs its) : SortsV s.heap its kss := by
  have hl := r.length
  cases h with
  | cI ns =>
    rw [List.length_map] at hl
    refine .cI (by rw [List.length_map, hl]) fun i u ks e1 e2 => ?_
    rw [List.getElem?_map] at e2
    obtain ⟨n, e3, rfl⟩ := Option.map_eq_some_iff.mp e2
    obtain ⟨u', e4, t, e5⟩ := r.get (i := i) (x := .int n) (by rw [List.getElem?_map, e3]; rfl)
    rw [e1] at e4
    cases e4
    exact ⟨n, t, e5, rfl⟩
  | cS zs =>
    rw [List.length_map] at hl
    refine .cS (by rw [List.length_map, hl]) fun i u ks e1 e2 => ?_
    rw [List.getElem?_map] at e2
    obtain ⟨n, e3, rfl⟩ := Option.map_eq_some_iff.mp e2
    obtain ⟨u', e4, t, e5⟩ := r.get (i := i) (x := .str n) (by rw [List.getElem?_map, e3]; rfl)
    rw [e1] at e4
    cases e4
    exact ⟨n, t, e5, rfl⟩
  | cT sh hn p =>
    obtain ⟨h1, h2⟩ := paired_at p
    refine .cT sh (by omega) hn fun i u ks e1 e2 => ?_
    have hi := (List.getElem?_eq_some_iff.mp e2).1
    have e3 : xs[i]? = some xs[i] := List.getElem?_eq_getElem (by omega)
    obtain ⟨⟨a, ea, hq⟩, z⟩ := h2 i _ _ e3 e2
    obtain ⟨u', e4, e5⟩ := r.get e3
    rw [e1] at e4
    cases e4
    rw [ea] at e5
    obtain rfl : u = Value.ref a := e5
    obtain ⟨its2, rv, ⟨o, ho, hc, n, hd⟩, _⟩ := I.tuple hq
    obtain ⟨k1, k2⟩ := keyV_rel rv
    exact ⟨⟨a, o, its2.toArray, n, rfl, ho, hc, hd, by simpa using k1, by simpa using k2⟩, z⟩
end
theorem out_of {X : Cx} {its : List Value} {ys : List V} {kss : List (List Key)} {h : Heap} (r : Vals ys its) (sv : SortsV h its kss) {out : Array Keyed} (p : out.Perm (pairsOf its)) (u : Srt.Up (O := lexOrd) (kfH h) out 0 (pairsOf its).size) :
    ∃ qs : List (V × List Key), qs.Perm (ys.zip kss) ∧ Vals (qs.map (·.1)) (out.map (·.2)).toList ∧ (qs.map (·.2)).Pairwise (fun a b => lexK b a = false) := by
  have pl : out.toList.Perm (its.zip its) := by rw [← pairsOf_toList]; exact Array.perm_iff_toList_perm.mp p
  have me : ∀ q ∈ out.toList, q.1 = q.2 ∧ q.1 ∈ its := fun q hq => mem_zip_self (pl.mem_iff.mp hq)
  have e0 : (out.map (·.2)).toList = out.toList.map (·.2) := Array.toList_map ..
  have pu : (out.toList.map (·.2)).Perm its := by
    have := pl.map (·.2)
    rwa [List.map_snd_zip (Nat.le_refl _)] at this
  have hl := r.length
  have hk := sv.len
  have pf : Paired (fun (q : V × List Key) v => RelV q.1 v ∧ kfH h v = q.2) (ys.zip kss) its := by
    refine paired_of_get (by rw [List.length_zip]; omega) fun i a b e1 e2 => ?_
    obtain ⟨e3, e4⟩ := List.getElem?_zip_eq_some.mp e1
    obtain ⟨v, e5, e6⟩ := r.get e3
    rw [e2] at e5
    cases e5
    exact ⟨e6, sv.kf i b a.2 e2 e4⟩
  obtain ⟨qs, q1, q2⟩ := paired_perm pu pf
  obtain ⟨l2, g2⟩ := paired_at q2
  refine ⟨qs, q1, ?_, ?_⟩
  · rw [e0]
    refine paired_of_get (by rw [List.length_map, l2]) fun i a b e1 e2 => ?_
    rw [List.getElem?_map] at e1
    obtain ⟨q, e3, rfl⟩ := Option.map_eq_some_iff.mp e1
    exact (g2 i q b e3 e2).1
  · rw [List.pairwise_iff_getElem]
    intro i j hi hj hij
    rw [List.length_map] at hi hj
    rw [List.length_map] at l2
    have hs : (pairsOf its).size = out.size := p.size_eq.symm
    have ko : ∀ k (hk : k < qs.length), (qs[k]).2 = Srt.KX (O := lexOrd) (kfH h) out k := fun k hk => by
      have hk2 : k < out.size := by have : out.toList.length = out.size := by simp
                                    omega
      rw [Srt.kx_at hk2]
      have e1 : qs[k]? = some qs[k] := List.getElem?_eq_getElem hk
      have e2 : (out.toList.map (·.2))[k]? = some out[k].2 := by rw [List.getElem?_map, Array.getElem?_toList, getElem?_pos out k hk2]; rfl
      have := (g2 k _ _ e1 e2).2
      rw [(me out[k] (by simp)).1, this]
    have := u i j (Nat.zero_le _) (Nat.le_of_lt hij) (by have : out.toList.length = out.size := by simp
                                                         omega)
    rw [← ko i hi, ← ko j hj] at this
    rw [List.getElem_map, List.getElem_map]
    exact this
section
variable {X : Cx} {K : PySem.W.Frag}
theorem call_sortedL (hK : X.K = K := by rfl) : CallR X (.builtin "sorted") (fun xs H Q => ∃ (p : Addr) (ys : List V) (kss : List (List Key)), xs = [.ref p] ∧ SqL K H p ys ∧ SortsAs K H ys kss ∧
    ∀ l (qs : List (V × List Key)), H l = none → qs.Perm (ys.zip kss) → (qs.map (·.2)).Pairwise (fun a b => lexK b a = false) → Q (.ref l) (upd H l (.lst (qs.map (·.1))))) := by
  subst hK
  intro pins s σ H xs us Q I r h
  obtain ⟨p, ys, kss, rfl, hq, so, q⟩ := h
  obtain ⟨u, rfl, ru⟩ := vals1 r
  cases ru
  obtain ⟨its, rv, pl, hz⟩ := I.list hq
  have sv := so.vals I rv
  have hl := pl.isList
  have hlen := rv.length
  refine Calls.call_function_entry kind_sorted plain_sorted entry_sorted (args_sorted1 _) ?_
  unfold Builtin.«sorted»
  refine wpAny_bind (m := checkCount "sorted" 1 1 _) (wpAny_pure ?_)
  refine wpAny_bind (collect_list hl ?_ (by omega))
  refine wpAny_bind (wpAny_newList ?_ (by omega))
  have hsz : ((s.heap.push (seqObj "list" #[] 0)).update s.heap.objs.size (Obj.mapSeq (· ++ its.toArray))).objs.size = s.heap.objs.size + 1 := by
    rw [Heap.size_update, size_push']
  have hoL : (((s.heap.push (seqObj "list" #[] 0)).update s.heap.objs.size (Obj.mapSeq (· ++ its.toArray))).push (seqObj "list" its.toArray 0)).get? (s.heap.objs.size + 1) = some (seqObj "list" its.toArray 0) := by
    rw [← hsz]; exact Heap.get?_push_size _ rfl
  have kp : ∀ b o, s.heap.get? b = some o → (((s.heap.push (seqObj "list" #[] 0)).update s.heap.objs.size (Obj.mapSeq (· ++ its.toArray))).push (seqObj "list" its.toArray 0)).get? b = some o := fun b o e =>
    Heap.get?_push_of_some _ ((Heap.get?_update_ne _ _ _ _ (Nat.ne_of_lt (Heap.lt_size e))).trans (Heap.get?_push_of_some _ e))
  show wpAny _ _ _ _ _ { s with heap := ((s.heap.push (seqObj "list" #[] 0)).update s.heap.objs.size (Obj.mapSeq (· ++ its.toArray))).push (seqObj "list" its.toArray 0) }
  rw [hsz]
  refine wpAny_bind (wpAny_holding (wpAny_call_entry slot_list_sort ⟨_, hoL, rfl⟩ entry_list_sort (Srt.q_listsort (O := lexOrd) hoL (by omega) (kfH s.heap) (fun h' k' h2 => ?_) fun out p u => ⟨_, rfl, wpAny_pure ⟨_, rfl, ?_⟩⟩) (args_list_sort _)))
  · refine sv.cmp h2 fun a o items m _ e _ _ => ?_
    exact k' a o (Nat.ne_of_lt (Nat.lt_succ_of_lt (Heap.lt_size e))) (kp a o e)
  · obtain ⟨qs, q1, q2, q3⟩ := out_of (X := X) rv sv p u
    obtain ⟨e, ho⟩ := sortedAll_at s.heap its (out.map (·.2))
    have lz : (qs.map (·.1)).length ≤ sizeLine := by
      rw [List.length_map, q1.length_eq, List.length_zip]
      omega
    refine ⟨.ref (s.heap.objs.size + 1), _, I.laid (a := s.heap.objs.size + 1) (o := .lst (qs.map (·.1))) (t' := s.toks) (fun b o e => sortedAll_old e) (Nat.le_succ _) ⟨lz, _, e, q2, by rw [Array.toArray_toList]; exact ho⟩, rfl, q _ qs (I.hok.fresh (Nat.le_succ _)) q1 q3⟩
end
end L2
namespace L2
open PySem PySem.Spec PyProof.Rows
section
open PySem.SeqAt
open PySem.AutoSeq1 (wpAny_loadPart')
open PySem.MeetsSeq PySem.MeetsSeq2 PySem.MeetsSeq3
theorem eqAt_any (A : Around) (s : Shared) {x y : Value} (hx : flatKV x) (hy : flatKV y) (hs : isI (keyV x) = isI (keyV y)) : SeqAt.EqAt A s x y (decide (keyV x = keyV y)) := by
  intro prog w E Q h
  exact eq_any hx hy hs h
theorem rcLt_any (A : Around) (s : Shared) {x y : Value} (hx : flatKV x) (hy : flatKV y) (hs : isI (keyV x) = isI (keyV y)) (prog : Program) (w : World) (E : Value → Shared → Prop) (Q : Value → Shared → Prop) (h : Q (.bool (kLt (keyV x) (keyV y))) s) :
    wpAny (model prog w) A (richCompare .Lt x y) Q E s := by
  cases x <;> first | exact hx.elim | skip
  all_goals (cases y <;> first | exact hy.elim | exact Bool.noConfusion (show true = false from hs) | exact Bool.noConfusion (show false = true from hs) | skip)
  · exact (PyProof.Rows.lt_int h : wpAny (model prog w) A (compareOp .Lt _ _) Q E s)
  · exact (PyProof.Rows.lt_str h : wpAny (model prog w) A (compareOp .Lt _ _) Q E s)
structure LexTo (vs ws : List Value) (n m : Nat) (r : Bool) : Prop where
  ex : ∃ (us zs : List Value), vs = us ++ zs ∧ (zs = [] ∨ ws.length ≤ us.length) ∧ (∀ v ∈ us, flatKV v) ∧ (∀ v ∈ ws, flatKV v) ∧ (∀ (i : Nat) x y, us[i]? = some x → ws[i]? = some y → isI (keyV x) = isI (keyV y)) ∧ lexK (us.map keyV) (ws.map keyV) = r
  len : vs.length + m = ws.length + n
theorem tuple_ltG (l b : Addr) (items items2 : Array Value) (n n2 : Nat) (dd dd2 : Option Addr) (sl sl2 : Array (Option Value)) (r : Bool) (hx : LexTo items.toList items2.toList items.size items2.size r) :
    Meets (Builtin.«tuple.__lt__» ⟨[.ref l, .ref b], []⟩)
      (fun _ R s => s.heap.get? l = some { cls := .type "tuple", dict := dd, data := .seq items n, slots := sl } ∧ s.heap.get? b = some { cls := .type "tuple", dict := dd2, data := .seq items2 n2, slots := sl2 } ∧
        R (.ok (.ret (.bool r))) s) :=
  .of_wp fun prog w A R s h => by
    obtain ⟨hp, g, d, tk, os⟩ := s; obtain ⟨hl, hb, h⟩ := h
    have f2 := AutoSeq1.sub_tuple_tuple
    wp_walk using wpAny_loadPart' hl, wpAny_loadPart' hb, wpAny_forIn_list _ (fun rest b s' => b.1 = none ∧ s' = ⟨hp, g, d, tk, os⟩ ∧ ∃ (vs ws : List Value) (q : Bool), rest = vs.zip ws ∧
      LexTo vs ws items.size items2.size q ∧ R (.ok (.ret (.bool q))) ⟨hp, g, d, tk, os⟩) _
    case turn =>
      rintro ⟨y, x⟩ rest b s' ⟨hb', rfl, vs, ws, q, hz, hx', hR⟩
      obtain ⟨⟨us, zs, rfl, h1, h2, h3, h4, h5⟩, hlen⟩ := hx'
      cases ws with
      | nil => rw [List.zip_nil_right] at hz; cases hz
      | cons c ws =>
        cases us with
        | nil =>
          rcases h1 with h1 | h1
          · subst h1; cases hz
          · exact absurd h1 (by simp)
        | cons a us =>
          rw [List.cons_append, List.zip_cons_cons] at hz
          injection hz with hyx hrest
          injection hyx with hy hx
          subst hy hx
          have fa := h2 y List.mem_cons_self
          have fc := h3 x List.mem_cons_self
          have ks := h4 0 y x rfl rfl
          have h5 : (if keyV y = keyV x then lexK (us.map keyV) (ws.map keyV) else kLt (keyV y) (keyV x)) = q := h5
          refine wpAny_bind (eqAt_any A.in1 ⟨hp, g, d, tk, os⟩ fa fc ks prog w _ _ ?_)
          cases e : decide (keyV y = keyV x) with
          | true =>
            rw [if_pos (of_decide_eq_true e)] at h5
            wp_walk
            refine ⟨rfl, rfl, us ++ zs, ws, q, hrest, ⟨⟨us, zs, rfl, ?_, fun v hv => h2 v (List.mem_cons_of_mem _ hv), fun v hv => h3 v (List.mem_cons_of_mem _ hv), fun i x y e1 e2 => h4 (i + 1) x y (by simpa using e1) (by simpa using e2), h5⟩, ?_⟩, hR⟩
            · rcases h1 with h1 | h1
              · exact .inl h1
              · refine .inr ?_
                simp only [List.length_cons] at h1
                omega
            · simp only [List.length_cons, List.cons_append] at hlen
              omega
          | false =>
            rw [if_neg (of_decide_eq_false e)] at h5
            have hri := rcLt_any A.in1 ⟨hp, g, d, tk, os⟩ fa fc ks prog w
            wp_walk using hri
            exact ⟨_, rfl, by rw [h5]; exact hR⟩
    case fin =>
      rintro ⟨b1, b2⟩ s' ⟨hb', rfl, vs, ws, q, hz, ⟨⟨us, zs, rfl, h1, h2, h3, h4, h5⟩, hlen⟩, hR⟩
      simp only at hb'
      subst hb'
      have hv : q = decide (items.size < items2.size) := by
        rw [← h5]
        cases us with
        | nil =>
          rcases h1 with h1 | h1
          · subst h1
            cases ws with
            | nil =>
              simp only [List.length_nil, List.append_nil] at hlen
              exact (decide_eq_false (by omega)).symm
            | cons c ws =>
              simp only [List.length_nil, List.append_nil, List.length_cons] at hlen
              exact (decide_eq_true (by omega)).symm
          · have : ws = [] := List.eq_nil_of_length_eq_zero (by simpa using h1)
            subst this
            simp only [List.length_nil, List.nil_append] at hlen
            exact (decide_eq_false (by omega)).symm
        | cons a us =>
          cases ws with
          | nil =>
            simp only [List.length_nil, List.length_cons, List.cons_append] at hlen
            exact (decide_eq_false (by omega)).symm
          | cons c ws =>
            rw [List.cons_append, List.zip_cons_cons] at hz
            cases hz
      rw [hv] at hR
      wp_walk
      exact ⟨_, rfl, by simpa [Builtin.Tuple.tupleCompareSizes] using hR⟩
    case h =>
      exact ⟨rfl, rfl, items.toList, items2.toList, r, rfl, hx, h⟩
end
section
variable {X : Cx} {K : PySem.W.Frag}
def rLtG (K : PySem.W.Frag) : R2 := fun x y H Q => ∃ a b ks zs ms, x = .ref a ∧ y = .ref b ∧ SqT K H a (ks.map kV ++ zs) ∧ SqT K H b (ms.map kV) ∧ (zs = [] ∨ ms.length ≤ ks.length) ∧ (∀ (i : Nat) k m, ks[i]? = some k → ms[i]? = some m → isI k = isI m) ∧ Q (.bl (lexK ks ms)) H
theorem vals_app : ∀ {xs ys : List V} {us : List Value}, Vals (xs ++ ys) us → ∃ vs ws, us = vs ++ ws ∧ Vals xs vs ∧ Vals ys ws
  | [], ys, us, h => ⟨[], us, rfl, .nil, h⟩
  | x :: xs, ys, _, h => by
    cases h with
    | cons h1 h2 =>
      obtain ⟨vs, ws, e, p1, p2⟩ := vals_app h2
      exact ⟨_ :: vs, ws, by rw [e]; rfl, .cons h1 p1, p2⟩
theorem op_ltG (hu : X.A.units < cLine) (hK : X.K = K := by rfl) : OpR X (compareOp .Lt) (rLtG K) := by
  subst hK
  intro pins s σ H x y v u Q I rx ry h
  obtain ⟨a, b, ks, zs, ms, rfl, rfl, ha, hb, hz, hs, q⟩ := h
  cases rx
  cases ry
  obtain ⟨its, r1, p1, _⟩ := I.tuple ha
  obtain ⟨its2, r2, p2, _⟩ := I.tuple hb
  obtain ⟨us, ws, rfl, q1, q2⟩ := vals_app r1
  obtain ⟨k1, f1⟩ := keyV_rel q1
  obtain ⟨k2, f2⟩ := keyV_rel r2
  have l1 := q1.length
  have l2 := r2.length
  have l3 := q2.length
  rw [List.length_map] at l1 l2
  obtain ⟨⟨cls, dd, data, sl⟩, ho, hc, n, hd⟩ := id p1
  obtain ⟨⟨cls2, dd2, data2, sl2⟩, ho2, hc2, n2, hd2⟩ := id p2
  simp only at hc hd hc2 hd2
  subst hc hd hc2 hd2
  have lx : LexTo (us ++ ws).toArray.toList its2.toArray.toList (us ++ ws).toArray.size its2.toArray.size (lexK ks ms) := by
    refine ⟨⟨us, ws, by simp, ?_, f1, by simpa using f2, fun i x y e1 e2 => ?_, by simp [k1, k2]⟩, by simp; omega⟩
    · rcases hz with rfl | hz
      · exact .inl (List.eq_nil_of_length_eq_zero (by simpa using l3.symm))
      · exact .inr (by simp; omega)
    · refine hs i _ _ (by rw [← k1, List.getElem?_map, e1]; rfl) (by rw [← k2, List.getElem?_map]; have e2 : its2[i]? = some y := by simpa using e2
                                                                     rw [e2]; rfl)
  exact richCompare_meets_room (op := .Lt) ⟨_, ho, rfl⟩ ⟨_, ho2, rfl⟩ PySem.F.slot_tuple_lt PySem.F.entry_tuple_lt (PySem.F.args_tuple_lt_2 _ _) (tuple_ltG a b _ _ n n2 dd dd2 sl sl2 _ lx)
    ⟨ho, ho2, show Value.bool (lexK ks ms) ≠ Value.notImplemented ∧ EP X pins σ Q (.bool (lexK ks ms)) s from ⟨(fun x => nomatch x), ⟨.bl _, H, I, rfl, q⟩⟩⟩ hu
end
def Rws (H : Hp) (xs : List V) (kss : List (List Key)) : Prop := Paired (fun x ks => ∃ a, x = .ref a ∧ H a = some (.tup (ks.map kV))) xs kss
def Tp (H H' : Hp) : Prop := ∀ p xs, H p = some (.tup xs) → H' p = some (.tup xs)
theorem Same.tp {H H' : Hp} (s : Same H H') : Tp H H' := fun p xs e => s _ _ e
theorem Tp.refl (H : Hp) : Tp H H := fun _ _ h => h
theorem Tp.trans {H H1 H2 : Hp} (a : Tp H H1) (b : Tp H1 H2) : Tp H H2 := fun p xs e => b _ _ (a _ _ e)
theorem Tp.upd {H H' : Hp} {b : Addr} {o u : HO} (t : Tp H H') (h : H' b = some u) (hn : ∀ xs, u ≠ .tup xs) : Tp H (L2.upd H' b o) := fun p xs e => by
  have e := t p xs e
  have : p ≠ b := fun z => by rw [z, h] at e; exact hn xs (Option.some.inj e)
  rw [upd_ne this]
  exact e
theorem paired_imp {α β : Type} {F G : α → β → Prop} (h : ∀ a b, F a b → G a b) : ∀ {l : List α} {m : List β}, Paired F l m → Paired G l m
  | _, _, .nil => .nil
  | _, _, .cons a r => .cons (h _ _ a) (paired_imp h r)
theorem paired_app {α β : Type} {F : α → β → Prop} : ∀ {l l' : List α} {m m' : List β}, Paired F l m → Paired F l' m' → Paired F (l ++ l') (m ++ m')
  | _, _, _, _, .nil, h => h
  | _, _, _, _, .cons a r, h => .cons a (paired_app r h)
theorem paired_take {α β : Type} {F : α → β → Prop} : ∀ {l : List α} {m : List β} (n : Nat), Paired F l m → Paired F (l.take n) (m.take n)
  | _, _, 0, _ => .nil
  | _, _, _ + 1, .nil => .nil
  | _, _, n + 1, .cons a r => .cons a (paired_take n r)
theorem paired_drop {α β : Type} {F : α → β → Prop} : ∀ {l : List α} {m : List β} (n : Nat), Paired F l m → Paired F (l.drop n) (m.drop n)
  | _, _, 0, h => h
  | _, _, _ + 1, .nil => .nil
  | _, _, n + 1, .cons a r => paired_drop n r
theorem Rws.keep {H H' : Hp} {xs : List V} {kss : List (List Key)} (h : Rws H xs kss) (t : Tp H H') : Rws H' xs kss := paired_imp (fun x ks ⟨a, e, q⟩ => ⟨a, e, t _ _ q⟩) h
theorem Rws.len {H : Hp} {xs : List V} {kss : List (List Key)} (h : Rws H xs kss) : xs.length = kss.length := (paired_at h).1
theorem Rws.at {H : Hp} {xs : List V} {kss : List (List Key)} (h : Rws H xs kss) {i : Nat} {x : V} (e : xs[i]? = some x) : ∃ a ks, x = .ref a ∧ kss[i]? = some ks ∧ H a = some (.tup (ks.map kV)) := by
  have hi := (List.getElem?_eq_some_iff.mp e).1
  have e2 : kss[i]? = some (kss[i]'(by rw [← h.len]; exact hi)) := List.getElem?_eq_getElem _
  obtain ⟨a, ea, q⟩ := (paired_at h).2 i _ _ e e2
  exact ⟨a, _, ea, e2, q⟩
theorem Rws.ix {H : Hp} {xs : List V} {kss : List (List Key)} (h : Rws H xs kss) {i : Nat} {ks : List Key} (e : kss[i]? = some ks) : ∃ a, xs[i]? = some (.ref a) ∧ H a = some (.tup (ks.map kV)) := by
  have hi := (List.getElem?_eq_some_iff.mp e).1
  have e2 : xs[i]? = some (xs[i]'(by rw [h.len]; exact hi)) := List.getElem?_eq_getElem _
  obtain ⟨a, ea, q⟩ := (paired_at h).2 i _ _ e2 e
  exact ⟨a, by rw [e2, ea], q⟩
theorem Rws.snoc {H : Hp} {xs : List V} {kss : List (List Key)} {p : Addr} {ks : List Key} (h : Rws H xs kss) (e : H p = some (.tup (ks.map kV))) : Rws H (xs ++ [.ref p]) (kss ++ [ks]) := paired_app h (.cons ⟨p, rfl, e⟩ .nil)
theorem rws_nil (H : Hp) : Rws H [] [] := Paired.nil
def kD : Key → PyData
  | .inl i => .int i
  | .inr x => .str x
def ktD (ks : List Key) : PyData := .tuple (ks.map kD)
theorem dvs_keys {K : PySem.W.Frag} {H : Hp} : ∀ ks : List Key, Dvs K H (ks.map kV) (ks.map kD)
  | [] => .nil
  | .inl i :: r => .cons (.int i) (dvs_keys r)
  | .inr x :: r => .cons (.str x) (dvs_keys r)
theorem Rws.dvs {K : PySem.W.Frag} {H : Hp} : ∀ {xs : List V} {kss : List (List Key)}, Rws H xs kss → Dvs K H xs (kss.map ktD)
  | _, _, Paired.nil => .nil
  | _, _, Paired.cons ⟨a, e, q⟩ r => by
    subst e
    exact .cons (.tup (SqT.of q) (dvs_keys _)) (Rws.dvs r)
theorem Rws.sorts {K : PySem.W.Frag} {H : Hp} {xs : List V} {kss : List (List Key)} (h : Rws H xs kss) {sh : List Bool} (hn : sh ≠ []) (hs : ∀ ks ∈ kss, ks.map isI = sh) : SortsAs K H xs kss := by
  refine .cT sh hn (paired_of_get h.len fun i a b e1 e2 => ?_)
  obtain ⟨p, ep, q⟩ := (paired_at h).2 i a b e1 e2
  exact ⟨⟨p, ep, SqT.of q⟩, hs b (List.mem_of_getElem? e2)⟩
theorem Rws.sorted {H : Hp} {xs : List V} {kss : List (List Key)} (h : Rws H xs kss) {qs : List (V × List Key)} (p : qs.Perm (xs.zip kss)) : Rws H (qs.map (·.1)) (qs.map (·.2)) ∧ (qs.map (·.2)).Perm kss := by
  have hl := h.len
  constructor
  · refine paired_of_get (by rw [List.length_map, List.length_map]) fun i a b e1 e2 => ?_
    rw [List.getElem?_map] at e1 e2
    obtain ⟨q, e3, rfl⟩ := Option.map_eq_some_iff.mp e1
    rw [e3] at e2
    cases e2
    obtain ⟨j, hj⟩ := List.mem_iff_getElem?.mp (p.mem_iff.mp (List.mem_of_getElem? e3))
    obtain ⟨e4, e5⟩ := List.getElem?_zip_eq_some.mp hj
    exact (paired_at h).2 j _ _ e4 e5
  · have := p.map (·.2)
    rwa [List.map_snd_zip (by omega)] at this
def Sd (kss : List (List Key)) : Prop := kss.Pairwise fun a b => lexK b a = false
end L2
namespace L2
open PySem PySem.Spec PyProof.Rows
theorem comp_list {K : PySem.W.Frag} {a : Addr} {n0 : Nat} {fr : List Nat} {g : TG} {tt : TT} {te : TE} {σ : St} {H : Hp} {Q : VK} {xs : List V} (Pv : Nat → St → List V → Hp → Prop) (hn : xs.length ≤ sizeLine)
    (h0 : Pv 0 (List.replicate n0 none ++ fr.map (pick σ)) [] H) (hl : ∀ i τ acc H1, Pv i τ acc H1 → SqL K H1 a xs)
    (hs : ∀ (i : Nat) x τ acc H1 (R1 : V → St → Hp → Prop) (R0 : St → Hp → Prop), xs[i]? = some x → acc.length ≤ i → Pv i τ acc H1 → (∀ y τ' H2, Pv (i + 1) τ' (acc ++ [y]) H2 → R1 y τ' H2) → (∀ τ' H2, Pv (i + 1) τ' acc H2 → R0 τ' H2) →
      g x τ H1 fun τ1 H2 => tt τ1 H2 fun b H3 => if b = true then te τ1 H3 fun y H4 => R1 y τ1 H4 else R0 τ1 H3)
    (hd : ∀ τ acc H1, acc.length ≤ xs.length → Pv xs.length τ acc H1 → ∀ D, H1 D = none → Q (.ref D) (upd H1 D (.lst acc))) :
    CompG n0 fr g tt te σ Q (Itl K a) H := by
  refine ⟨fun i m τ acc H' => m = xs.length - i ∧ i ≤ xs.length ∧ acc.length ≤ i ∧ Pv i τ acc H', ⟨xs.length, by simp, Nat.zero_le _, Nat.zero_le _, h0⟩, ?_⟩
  rintro i m τ acc H' ⟨rfl, hi, ha, p⟩
  have q := hl i τ acc H' p
  by_cases hlt : i < xs.length
  · refine .inr ⟨⟨xs, xs[i], q, by simp [hlt]⟩, by omega, fun x H1 y => ?_⟩
    obtain ⟨e, y⟩ := y
    subst e
    have ex := y xs q
    exact hs i x τ acc _ (fun y τ1 H4 => ∃ m', m' < xs.length - i ∧ m' = xs.length - (i + 1) ∧ i + 1 ≤ xs.length ∧ (acc ++ [y]).length ≤ i + 1 ∧ Pv (i + 1) τ1 (acc ++ [y]) H4) (fun τ1 H3 => ∃ m', m' < xs.length - i ∧ m' = xs.length - (i + 1) ∧ i + 1 ≤ xs.length ∧ acc.length ≤ i + 1 ∧ Pv (i + 1) τ1 acc H3) ex ha p
      (fun y τ' H2 h => ⟨_, by omega, rfl, hlt, by rw [List.length_append, List.length_singleton]; omega, h⟩) fun τ' H2 h => ⟨_, by omega, rfl, hlt, by omega, h⟩
  · have e : i = xs.length := by omega
    subst e
    exact .inl ⟨⟨xs, q, Nat.le_refl _⟩, hd τ acc H' ha p⟩
theorem comp_listN {K : PySem.W.Frag} {a : Addr} {n0 : Nat} {fr : List Nat} {g : TG} {te : TE} {σ : St} {H : Hp} {Q : VK} {xs : List V} (Pv : Nat → St → List V → Hp → Prop) (hn : xs.length ≤ sizeLine)
    (h0 : Pv 0 (List.replicate n0 none ++ fr.map (pick σ)) [] H) (hl : ∀ i τ acc H1, Pv i τ acc H1 → SqL K H1 a xs)
    (hs : ∀ (i : Nat) x τ acc H1 (R1 : V → St → Hp → Prop), xs[i]? = some x → acc.length ≤ i → Pv i τ acc H1 → (∀ y τ' H2, Pv (i + 1) τ' (acc ++ [y]) H2 → R1 y τ' H2) → g x τ H1 fun τ1 H2 => te τ1 H2 fun y H4 => R1 y τ1 H4)
    (hd : ∀ τ acc H1, acc.length ≤ xs.length → Pv xs.length τ acc H1 → ∀ D, H1 D = none → Q (.ref D) (upd H1 D (.lst acc))) :
    CompG n0 fr g tYes te σ Q (Itl K a) H := by
  refine comp_list (K := K) (xs := xs) Pv hn h0 hl (fun i x τ acc H1 R1 R0 e1 e2 p k1 _ => ?_) hd
  have e : (fun (τ1 : St) (H2 : Hp) => tYes τ1 H2 fun b H3 => if b = true then te τ1 H3 fun y H4 => R1 y τ1 H4 else R0 τ1 H3) = fun τ1 H2 => te τ1 H2 fun y H4 => R1 y τ1 H4 := by
    funext τ1 H2
    show (if true = true then te τ1 H2 fun y H4 => R1 y τ1 H4 else R0 τ1 H2) = _
    rw [if_pos rfl]
  rw [e]
  exact hs i x τ acc H1 R1 e1 e2 p k1
section
variable {X : Cx}
end
section
variable {κ : Type} [DecidableEq κ]
end
def SameX (d : Addr) (H H' : Hp) : Prop := ∀ b o, b ≠ d → H b = some o → H' b = some o
theorem Same.x {H H' : Hp} (s : Same H H') (d : Addr) : SameX d H H' := fun b o _ e => s b o e
theorem SameX.trans {d : Addr} {H H1 H2 : Hp} (a : SameX d H H1) (b : SameX d H1 H2) : SameX d H H2 := fun c o n e => b c o n (a c o n e)
theorem SameX.upd {d : Addr} {H H' : Hp} {o : HO} (a : SameX d H H') : SameX d H (L2.upd H' d o) := fun c u n e => by rw [upd_ne n]; exact a c u n e
theorem SameX.tp {d : Addr} {H H' : Hp} (a : SameX d H H') {u : HO} (h : H d = some u) (hn : ∀ xs, u ≠ .tup xs) : Tp H H' := fun p xs e => a p _ (fun z => by rw [z, h] at e; exact hn xs (Option.some.inj e)) e
end L2
namespace Rev
open PySem PySem.Builtin PySem.W PyProof.Rows
section
variable {prog : Program} {w : World} {A : Around} {E : Value → Shared → Prop} {s : Shared} {I : Addr} {fp wr : List Addr} {G : Array GenState → Array GenState → Prop} {n : Nat} {P : Nat → Value → Prop} {St : Nat → Shared → Prop} {Live : Shared → Prop}
end
end Rev
namespace L2
open PySem PySem.Spec PyProof.Rows
section
variable {X : Cx} {K : PySem.W.Frag}
end
end L2
namespace L2
open PySem PySem.Spec PyProof.Rows
section
variable {X : Cx} {K : PySem.W.Frag}
end
end L2
namespace Sdf
open PySem PySem.Spec PyProof.Rows
section
variable {prog : Program} {w : World} {K : Type} [DecidableEq K] {knd : KeyKind prog w K} {A : Around} {E : Value → Shared → Prop} {s : Shared}
end
end Sdf
namespace L2
open PySem PySem.Spec PyProof.Rows
section
variable {X : Cx} {o e f : Expr} {apos cpos : Pos} {td ty tx : TE}
end
end L2
namespace Upk
open PySem PySem.Spec PyProof.Rows
section
variable {prog : Program} {w : World} {A : Around} {E : Value → Shared → Prop} {s : Shared}
theorem draw_walk {I : Addr} {fp wr : List Addr} {items : Array Value} {St : Nat → Heap → Prop} (W : Walks prog w A I fp wr items.size (fun i v => items[i]? = some v) St) : ∀ (n i : Nat) (s : Shared) (Q : List Value → Shared → Prop), St i s.heap → i + n ≤ items.size →
    (∀ h' tk, St (i + n) h' → (∀ b o, b ∉ wr → s.heap.get? b = some o → h'.get? b = some o) → Q ((items.toList.drop i).take n) { s with heap := h', toks := tk }) → wpAny (model prog w) A (draw (.ref I) n) Q E s
  | 0, i, s, Q, hit, _, hQ => by
    show wpAny _ _ (pure []) Q E s
    exact wpAny_pure (by simpa using hQ s.heap s.toks hit (fun _ _ _ e => e))
  | n + 1, i, s, Q, hit, hle, hQ => by
    have hlt : i < items.size := by omega
    show wpAny _ _ (pyNext (.ref I) >>= _) Q E s
    refine wpAny_bind (W.item i s _ _ hlt hit fun v h₁ tk hv st₁ k₁ => ?_)
    refine wpAny_bind (wpAny_holding (draw_walk W n (i + 1) _ _ st₁ (by omega) fun h₂ tk₂ st₂ k₂ => wpAny_pure ?_))
    have hv' : items[i] = v := by rw [Array.getElem?_eq_getElem hlt] at hv; exact Option.some.inj hv
    have hd : items.toList.drop i = v :: items.toList.drop (i + 1) := by rw [← hv']; simp [List.drop_eq_getElem_cons, hlt]
    have := hQ h₂ tk₂ (by rw [show i + (n + 1) = i + 1 + n by omega]; exact st₂) (fun b o hb e => k₂ b o hb (k₁ b o hb e))
    rw [hd, List.take_succ_cons] at this
    exact this
theorem unpackItems_list {t : Addr} {items : Array Value} {Q : List Value → Shared → Prop} (hh : A.handled = none) (ht : s.heap.IsList t items)
    (hQ : ∀ h' tk, Heap.ExtBut s.heap.objs.size s.heap h' → Q items.toList { s with heap := h', toks := tk }) : wpAny (model prog w) A (unpackItems (.ref t) items.size none) Q E s := by
  have hlt : t ≠ s.heap.objs.size := by obtain ⟨o, ho, _⟩ := ht; exact Nat.ne_of_lt (Heap.lt_size ho)
  unfold unpackItems
  refine wpAny_bind ?_
  · unfold notIterableAtAll
    refine wpAny_bind (wpAny_specialOf ht.typeIs slot_list_iter.lookup ?_)
    refine wpAny_pure ?_
    simp only [Bool.false_eq_true, if_false]
    refine wpAny_bind (wpAny_holding (wpAny_pyIter_list ht ?_))
    have W := Walks.list (prog := prog) (w := w) (A := A) hh s.heap.objs.size t hlt items
    refine wpAny_bind (wpAny_holding (draw_walk W items.size 0 _ _ ⟨⟨_, Heap.get?_push_size _ rfl, rfl, rfl⟩, ht.push _⟩ (by omega) fun h₁ tk₁ st₁ k₁ => ?_))
    have hall : List.take items.size (List.drop 0 items.toList) = items.toList := by
      rw [List.drop_zero]; exact List.take_of_length_le (by simp)
    rw [hall]
    rw [if_neg (by simp)]
    rw [Nat.zero_add] at st₁
    refine wpAny_bind (wpAny_holding (W.done _ _ _ st₁ fun h₂ tk₂ k₂ => ?_))
    simp only [Option.isSome_none, Bool.false_eq_true, if_false]
    refine wpAny_pure (hQ h₂ tk₂ fun b o hb e => k₂ b o (by simpa using hb) (k₁ b o (by simpa using hb) (Heap.get?_push_of_some _ e)))
theorem assign_Tuple_list {env : Env} {elts : List Expr} {x1} {pos : Pos} {t : Addr} {items : Array Value} {Q : Unit → Shared → Prop} (hh : A.handled = none) (ht : s.heap.IsList t items)
    (hn : (assignEach elts env).length = items.size) (hstar : (assignEach elts env).findIdx? (·.1) = none)
    (h : ∀ h' tk, Heap.ExtBut s.heap.objs.size s.heap h' → wpAny (model prog w) A (assignInOrder ((assignEach elts env).map (·.2)) items.toList) Q E { s with heap := h', toks := tk }) :
    wpAny (model prog w) A (assign (.Tuple elts x1 pos) env (.ref t)) Q E s := by
  rw [assign_Tuple]
  refine wpAny_bind (wpAny_standAt ?_)
  unfold unpack
  rw [hn, hstar]
  exact wpAny_bind (wpAny_holding (unpackItems_list hh ht h))
end
end Upk
namespace L2
open PySem PySem.Spec PyProof.Rows
section
variable {X : Cx} {pos : Pos}
def gLst (K : PySem.W.Frag) (n : Nat) (t : TGs) : TG := fun v σ H Q => ∃ a xs, v = .ref a ∧ SqL K H a xs ∧ xs.length = n ∧ t xs σ H Q
theorem pg_lst {es : List Expr} {k : Nat} {t : TGs} {n : Nat} (hc : X.calm = true) (h : PGs X es t)
    (hn : (assignEach es X.env).length = n := by rfl) (hst : (assignEach es X.env).findIdx? (·.1) = none := by rfl) : PG X (.Tuple es k pos) (gLst X.K n t) := by
  intro pins s σ H v u Q I r hw
  obtain ⟨a, xs, e1, hq, hl, hw⟩ := hw
  subst e1
  cases r
  obtain ⟨its, rv, pl, hz⟩ := I.list hq
  refine Upk.assign_Tuple_list (I.ok.hd hc) pl.isList (by simp [hn, ← hl, rv.length]) hst fun h' tk hx => ?_
  have I1 : Inv X pins σ H { s with heap := h', toks := tk } := I.kept (t' := tk) fun b o e => hx b o (Nat.ne_of_lt (Heap.lt_size e)) e
  exact h pins _ σ H xs _ Q I1 (by simpa using rv) hw
end
end L2
set_option maxHeartbeats 4000000
namespace K13
open PySem L2
seal PE PT PW PA PS PSs PG PGs PI PTs PC PO OpR UnR CallR TruR IxR SlR
def top (i : Nat) : Stmt := PySem.Challenge.pw_brooktally_k13_whole_pieces_of_gaps.main.body.getD i (.Pass ⟨0, 0, 0, 0⟩)
abbrev s_ahead : Stmt := top 1
abbrev s_meets : Stmt := top 3
abbrev s_tally_of : Stmt := top 5
abbrev s_added : Stmt := top 6
abbrev s_put_window : Stmt := top 8
abbrev s_put_gap : Stmt := top 9
abbrev s_parted : Stmt := top 10
abbrev s_u_law_cell_at : Stmt := top 12
abbrev s_u_law_time_by : Stmt := top 13
abbrev s_u_law_due : Stmt := top 14
abbrev s_u_law_right : Stmt := top 15
abbrev s_u_law_parted_right : Stmt := top 16
abbrev s_law : Stmt := top 17
theorem sc_ahead : FnScope ["rows", "mark", "low", "high", "middle"] ["rows", "mark"] (defScope s_ahead) := ⟨rfl, rfl, rfl, by decide +kernel, rfl, by decide +kernel, by decide +kernel⟩
theorem sc_meets : FnScope ["start", "end", "time", "most", "last"] ["start", "end", "time", "most"] (defScope s_meets) := ⟨rfl, rfl, rfl, by decide +kernel, rfl, by decide +kernel, by decide +kernel⟩
theorem sc_tally_of : FnScope ["amount"] ["amount"] (defScope s_tally_of) := ⟨rfl, rfl, rfl, by decide +kernel, rfl, by decide +kernel, by decide +kernel⟩
theorem sc_added : FnScope ["one", "other"] ["one", "other"] (defScope s_added) := ⟨rfl, rfl, rfl, by decide +kernel, rfl, by decide +kernel, by decide +kernel⟩
theorem sc_put_window : FnScope ["pieces", "start", "end", "tally", "place", "there"] ["pieces", "start", "end", "tally"] (defScope s_put_window) := ⟨rfl, rfl, rfl, by decide +kernel, rfl, by decide +kernel, by decide +kernel⟩
theorem sc_put_gap : FnScope ["pieces", "time", "amount", "most", "met", "rest", "start", "end", "tally", "piece"] ["pieces", "time", "amount", "most"] (defScope s_put_gap) := ⟨rfl, rfl, rfl, by decide +kernel, rfl, by decide +kernel, by decide +kernel⟩
theorem sc_parted : FnScope ["pieces", "now", "over", "still"] ["pieces", "now"] (defScope s_parted) := ⟨rfl, rfl, rfl, by decide +kernel, rfl, by decide +kernel, by decide +kernel⟩
theorem sc_u_law_cell_at : FnScope ["_law_script", "_law_k"] ["_law_script", "_law_k"] (defScope s_u_law_cell_at) := ⟨rfl, rfl, rfl, by decide +kernel, rfl, by decide +kernel, by decide +kernel⟩
theorem sc_u_law_time_by : FnScope ["_law_cell", "_law_items", "_law_most", "_law_near", "_law_way"] ["_law_cell", "_law_items", "_law_most"] (defScope s_u_law_time_by) := ⟨rfl, rfl, rfl, by decide +kernel, rfl, by decide +kernel, by decide +kernel⟩
theorem sc_u_law_due : FnScope ["_law_items", "_law_most", "_law_found", "_law_time", "_law_amount", "_law_due_here", "_law_first", "_law_last", "_law_some"] ["_law_items", "_law_most"] (defScope s_u_law_due) := ⟨rfl, rfl, rfl, by decide +kernel, rfl, by decide +kernel, by decide +kernel⟩
theorem sc_u_law_right : FnScope ["_law_found", "_law_due_here", "_law_piece", "_law_number"] ["_law_found", "_law_due_here"] (defScope s_u_law_right) := ⟨rfl, rfl, rfl, by decide +kernel, rfl, by decide +kernel, by decide +kernel⟩
theorem sc_u_law_parted_right : FnScope ["_law_pieces", "_law_cell", "_law_now", "_law_handed", "_law_found", "_law_one", "_law_other"] ["_law_pieces", "_law_cell"] (defScope s_u_law_parted_right) := ⟨rfl, rfl, rfl, by decide +kernel, rfl, by decide +kernel, by decide +kernel⟩
theorem sc_law : FnScope ["_law_script", "_law_most", "_law_items", "_law_pieces", "_law_cell", "_law_amount", "_law_handed", "_law_found"] ["_law_script"] (defScope s_law) := ⟨rfl, rfl, rfl, by decide +kernel, rfl, by decide +kernel, by decide +kernel⟩
structure Ad where
  a_ahead : Addr
  d_ahead : FuncData
  a_meets : Addr
  d_meets : FuncData
  a_tally_of : Addr
  d_tally_of : FuncData
  a_added : Addr
  d_added : FuncData
  a_put_window : Addr
  d_put_window : FuncData
  a_put_gap : Addr
  d_put_gap : FuncData
  a_parted : Addr
  d_parted : FuncData
  a_u_law_cell_at : Addr
  d_u_law_cell_at : FuncData
  a_u_law_time_by : Addr
  d_u_law_time_by : FuncData
  a_u_law_due : Addr
  d_u_law_due : FuncData
  a_u_law_right : Addr
  d_u_law_right : FuncData
  a_u_law_parted_right : Addr
  d_u_law_parted_right : FuncData
  a_law : Addr
  d_law : FuncData
structure Tx (K : PySem.W.Frag) (mg : Str → Option Value) (ad : Ad) : Prop where
  F_ahead : Fun K "ahead" "ahead" s_ahead ad.a_ahead ad.d_ahead
  b_ahead : Binds K ad.d_ahead ["rows", "mark"] []
  m_ahead : mg "ahead" = some (.ref ad.a_ahead)
  F_meets : Fun K "meets" "meets" s_meets ad.a_meets ad.d_meets
  b_meets : Binds K ad.d_meets ["start", "end", "time", "most"] []
  m_meets : mg "meets" = some (.ref ad.a_meets)
  F_tally_of : Fun K "tally_of" "tally_of" s_tally_of ad.a_tally_of ad.d_tally_of
  b_tally_of : Binds K ad.d_tally_of ["amount"] []
  m_tally_of : mg "tally_of" = some (.ref ad.a_tally_of)
  F_added : Fun K "added" "added" s_added ad.a_added ad.d_added
  b_added : Binds K ad.d_added ["one", "other"] []
  m_added : mg "added" = some (.ref ad.a_added)
  F_put_window : Fun K "put_window" "put_window" s_put_window ad.a_put_window ad.d_put_window
  b_put_window : Binds K ad.d_put_window ["pieces", "start", "end", "tally"] []
  m_put_window : mg "put_window" = some (.ref ad.a_put_window)
  F_put_gap : Fun K "put_gap" "put_gap" s_put_gap ad.a_put_gap ad.d_put_gap
  b_put_gap : Binds K ad.d_put_gap ["pieces", "time", "amount", "most"] []
  m_put_gap : mg "put_gap" = some (.ref ad.a_put_gap)
  F_parted : Fun K "parted" "parted" s_parted ad.a_parted ad.d_parted
  b_parted : Binds K ad.d_parted ["pieces", "now"] []
  m_parted : mg "parted" = some (.ref ad.a_parted)
  F_u_law_cell_at : Fun K "_law_cell_at" "_law_cell_at" s_u_law_cell_at ad.a_u_law_cell_at ad.d_u_law_cell_at
  b_u_law_cell_at : Binds K ad.d_u_law_cell_at ["_law_script", "_law_k"] []
  m_u_law_cell_at : mg "_law_cell_at" = some (.ref ad.a_u_law_cell_at)
  F_u_law_time_by : Fun K "_law_time_by" "_law_time_by" s_u_law_time_by ad.a_u_law_time_by ad.d_u_law_time_by
  b_u_law_time_by : Binds K ad.d_u_law_time_by ["_law_cell", "_law_items", "_law_most"] []
  m_u_law_time_by : mg "_law_time_by" = some (.ref ad.a_u_law_time_by)
  F_u_law_due : Fun K "_law_due" "_law_due" s_u_law_due ad.a_u_law_due ad.d_u_law_due
  b_u_law_due : Binds K ad.d_u_law_due ["_law_items", "_law_most"] []
  m_u_law_due : mg "_law_due" = some (.ref ad.a_u_law_due)
  F_u_law_right : Fun K "_law_right" "_law_right" s_u_law_right ad.a_u_law_right ad.d_u_law_right
  b_u_law_right : Binds K ad.d_u_law_right ["_law_found", "_law_due_here"] []
  m_u_law_right : mg "_law_right" = some (.ref ad.a_u_law_right)
  F_u_law_parted_right : Fun K "_law_parted_right" "_law_parted_right" s_u_law_parted_right ad.a_u_law_parted_right ad.d_u_law_parted_right
  b_u_law_parted_right : Binds K ad.d_u_law_parted_right ["_law_pieces", "_law_cell"] []
  m_u_law_parted_right : mg "_law_parted_right" = some (.ref ad.a_u_law_parted_right)
  F_law : Fun K "law" "law" s_law ad.a_law ad.d_law
  b_law : Binds K ad.d_law ["_law_script"] []
  m_law : mg "law" = some (.ref ad.a_law)
  z_bool : mg "bool" = none
  z_isinstance : mg "isinstance" = none
  z_len : mg "len" = none
  z_list : mg "list" = none
  z_max : mg "max" = none
  z_min : mg "min" = none
  z_sorted : mg "sorted" = none
  z_sum : mg "sum" = none
  z_tuple : mg "tuple" = none
theorem tx_mk {K : PySem.W.Frag} {h : Heap} {mg : Str → Option Value} (X : K.In h) (G : h.Ns mainGlobals mg)
    {f_ahead : Addr} {od_ahead an_ahead : Option Addr} {sl_ahead : Array (Option Value)} {oc_ahead kV_ahead dc_ahead pm_ahead cd_ahead ct_ahead : Value}
    {f_meets : Addr} {od_meets an_meets : Option Addr} {sl_meets : Array (Option Value)} {oc_meets kV_meets dc_meets pm_meets cd_meets ct_meets : Value}
    {f_tally_of : Addr} {od_tally_of an_tally_of : Option Addr} {sl_tally_of : Array (Option Value)} {oc_tally_of kV_tally_of dc_tally_of pm_tally_of cd_tally_of ct_tally_of : Value}
    {f_added : Addr} {od_added an_added : Option Addr} {sl_added : Array (Option Value)} {oc_added kV_added dc_added pm_added cd_added ct_added : Value}
    {f_put_window : Addr} {od_put_window an_put_window : Option Addr} {sl_put_window : Array (Option Value)} {oc_put_window kV_put_window dc_put_window pm_put_window cd_put_window ct_put_window : Value}
    {f_put_gap : Addr} {od_put_gap an_put_gap : Option Addr} {sl_put_gap : Array (Option Value)} {oc_put_gap kV_put_gap dc_put_gap pm_put_gap cd_put_gap ct_put_gap : Value}
    {f_parted : Addr} {od_parted an_parted : Option Addr} {sl_parted : Array (Option Value)} {oc_parted kV_parted dc_parted pm_parted cd_parted ct_parted : Value}
    {f_u_law_cell_at : Addr} {od_u_law_cell_at an_u_law_cell_at : Option Addr} {sl_u_law_cell_at : Array (Option Value)} {oc_u_law_cell_at kV_u_law_cell_at dc_u_law_cell_at pm_u_law_cell_at cd_u_law_cell_at ct_u_law_cell_at : Value}
    {f_u_law_time_by : Addr} {od_u_law_time_by an_u_law_time_by : Option Addr} {sl_u_law_time_by : Array (Option Value)} {oc_u_law_time_by kV_u_law_time_by dc_u_law_time_by pm_u_law_time_by cd_u_law_time_by ct_u_law_time_by : Value}
    {f_u_law_due : Addr} {od_u_law_due an_u_law_due : Option Addr} {sl_u_law_due : Array (Option Value)} {oc_u_law_due kV_u_law_due dc_u_law_due pm_u_law_due cd_u_law_due ct_u_law_due : Value}
    {f_u_law_right : Addr} {od_u_law_right an_u_law_right : Option Addr} {sl_u_law_right : Array (Option Value)} {oc_u_law_right kV_u_law_right dc_u_law_right pm_u_law_right cd_u_law_right ct_u_law_right : Value}
    {f_u_law_parted_right : Addr} {od_u_law_parted_right an_u_law_parted_right : Option Addr} {sl_u_law_parted_right : Array (Option Value)} {oc_u_law_parted_right kV_u_law_parted_right dc_u_law_parted_right pm_u_law_parted_right cd_u_law_parted_right ct_u_law_parted_right : Value}
    {f_law : Addr} {od_law an_law : Option Addr} {sl_law : Array (Option Value)} {oc_law kV_law dc_law pm_law cd_law ct_law : Value}
    (a_ahead : PySem.W.nsIn K mainGlobals "ahead" = some (some (.ref f_ahead)))
    (l_ahead : K.lookup f_ahead = some ⟨oc_ahead, od_ahead, .func (PySem.W.fnOf "ahead" "ahead" (defArgs s_ahead) (defBody s_ahead) (defScope s_ahead) .none kV_ahead dc_ahead pm_ahead an_ahead cd_ahead ct_ahead), sl_ahead⟩)
    (c_ahead : PySem.W.codeIn K cd_ahead "ahead" = true)
    (k_ahead : PySem.W.keepIn K (.ref f_ahead) = true)
    (a_meets : PySem.W.nsIn K mainGlobals "meets" = some (some (.ref f_meets)))
    (l_meets : K.lookup f_meets = some ⟨oc_meets, od_meets, .func (PySem.W.fnOf "meets" "meets" (defArgs s_meets) (defBody s_meets) (defScope s_meets) .none kV_meets dc_meets pm_meets an_meets cd_meets ct_meets), sl_meets⟩)
    (c_meets : PySem.W.codeIn K cd_meets "meets" = true)
    (k_meets : PySem.W.keepIn K (.ref f_meets) = true)
    (a_tally_of : PySem.W.nsIn K mainGlobals "tally_of" = some (some (.ref f_tally_of)))
    (l_tally_of : K.lookup f_tally_of = some ⟨oc_tally_of, od_tally_of, .func (PySem.W.fnOf "tally_of" "tally_of" (defArgs s_tally_of) (defBody s_tally_of) (defScope s_tally_of) .none kV_tally_of dc_tally_of pm_tally_of an_tally_of cd_tally_of ct_tally_of), sl_tally_of⟩)
    (c_tally_of : PySem.W.codeIn K cd_tally_of "tally_of" = true)
    (k_tally_of : PySem.W.keepIn K (.ref f_tally_of) = true)
    (a_added : PySem.W.nsIn K mainGlobals "added" = some (some (.ref f_added)))
    (l_added : K.lookup f_added = some ⟨oc_added, od_added, .func (PySem.W.fnOf "added" "added" (defArgs s_added) (defBody s_added) (defScope s_added) .none kV_added dc_added pm_added an_added cd_added ct_added), sl_added⟩)
    (c_added : PySem.W.codeIn K cd_added "added" = true)
    (k_added : PySem.W.keepIn K (.ref f_added) = true)
    (a_put_window : PySem.W.nsIn K mainGlobals "put_window" = some (some (.ref f_put_window)))
    (l_put_window : K.lookup f_put_window = some ⟨oc_put_window, od_put_window, .func (PySem.W.fnOf "put_window" "put_window" (defArgs s_put_window) (defBody s_put_window) (defScope s_put_window) .none kV_put_window dc_put_window pm_put_window an_put_window cd_put_window ct_put_window), sl_put_window⟩)
    (c_put_window : PySem.W.codeIn K cd_put_window "put_window" = true)
    (k_put_window : PySem.W.keepIn K (.ref f_put_window) = true)
    (a_put_gap : PySem.W.nsIn K mainGlobals "put_gap" = some (some (.ref f_put_gap)))
    (l_put_gap : K.lookup f_put_gap = some ⟨oc_put_gap, od_put_gap, .func (PySem.W.fnOf "put_gap" "put_gap" (defArgs s_put_gap) (defBody s_put_gap) (defScope s_put_gap) .none kV_put_gap dc_put_gap pm_put_gap an_put_gap cd_put_gap ct_put_gap), sl_put_gap⟩)
    (c_put_gap : PySem.W.codeIn K cd_put_gap "put_gap" = true)
    (k_put_gap : PySem.W.keepIn K (.ref f_put_gap) = true)
    (a_parted : PySem.W.nsIn K mainGlobals "parted" = some (some (.ref f_parted)))
    (l_parted : K.lookup f_parted = some ⟨oc_parted, od_parted, .func (PySem.W.fnOf "parted" "parted" (defArgs s_parted) (defBody s_parted) (defScope s_parted) .none kV_parted dc_parted pm_parted an_parted cd_parted ct_parted), sl_parted⟩)
    (c_parted : PySem.W.codeIn K cd_parted "parted" = true)
    (k_parted : PySem.W.keepIn K (.ref f_parted) = true)
    (a_u_law_cell_at : PySem.W.nsIn K mainGlobals "_law_cell_at" = some (some (.ref f_u_law_cell_at)))
    (l_u_law_cell_at : K.lookup f_u_law_cell_at = some ⟨oc_u_law_cell_at, od_u_law_cell_at, .func (PySem.W.fnOf "_law_cell_at" "_law_cell_at" (defArgs s_u_law_cell_at) (defBody s_u_law_cell_at) (defScope s_u_law_cell_at) .none kV_u_law_cell_at dc_u_law_cell_at pm_u_law_cell_at an_u_law_cell_at cd_u_law_cell_at ct_u_law_cell_at), sl_u_law_cell_at⟩)
    (c_u_law_cell_at : PySem.W.codeIn K cd_u_law_cell_at "_law_cell_at" = true)
    (k_u_law_cell_at : PySem.W.keepIn K (.ref f_u_law_cell_at) = true)
    (a_u_law_time_by : PySem.W.nsIn K mainGlobals "_law_time_by" = some (some (.ref f_u_law_time_by)))
    (l_u_law_time_by : K.lookup f_u_law_time_by = some ⟨oc_u_law_time_by, od_u_law_time_by, .func (PySem.W.fnOf "_law_time_by" "_law_time_by" (defArgs s_u_law_time_by) (defBody s_u_law_time_by) (defScope s_u_law_time_by) .none kV_u_law_time_by dc_u_law_time_by pm_u_law_time_by an_u_law_time_by cd_u_law_time_by ct_u_law_time_by), sl_u_law_time_by⟩)
    (c_u_law_time_by : PySem.W.codeIn K cd_u_law_time_by "_law_time_by" = true)
    (k_u_law_time_by : PySem.W.keepIn K (.ref f_u_law_time_by) = true)
    (a_u_law_due : PySem.W.nsIn K mainGlobals "_law_due" = some (some (.ref f_u_law_due)))
    (l_u_law_due : K.lookup f_u_law_due = some ⟨oc_u_law_due, od_u_law_due, .func (PySem.W.fnOf "_law_due" "_law_due" (defArgs s_u_law_due) (defBody s_u_law_due) (defScope s_u_law_due) .none kV_u_law_due dc_u_law_due pm_u_law_due an_u_law_due cd_u_law_due ct_u_law_due), sl_u_law_due⟩)
    (c_u_law_due : PySem.W.codeIn K cd_u_law_due "_law_due" = true)
    (k_u_law_due : PySem.W.keepIn K (.ref f_u_law_due) = true)
    (a_u_law_right : PySem.W.nsIn K mainGlobals "_law_right" = some (some (.ref f_u_law_right)))
    (l_u_law_right : K.lookup f_u_law_right = some ⟨oc_u_law_right, od_u_law_right, .func (PySem.W.fnOf "_law_right" "_law_right" (defArgs s_u_law_right) (defBody s_u_law_right) (defScope s_u_law_right) .none kV_u_law_right dc_u_law_right pm_u_law_right an_u_law_right cd_u_law_right ct_u_law_right), sl_u_law_right⟩)
    (c_u_law_right : PySem.W.codeIn K cd_u_law_right "_law_right" = true)
    (k_u_law_right : PySem.W.keepIn K (.ref f_u_law_right) = true)
    (a_u_law_parted_right : PySem.W.nsIn K mainGlobals "_law_parted_right" = some (some (.ref f_u_law_parted_right)))
    (l_u_law_parted_right : K.lookup f_u_law_parted_right = some ⟨oc_u_law_parted_right, od_u_law_parted_right, .func (PySem.W.fnOf "_law_parted_right" "_law_parted_right" (defArgs s_u_law_parted_right) (defBody s_u_law_parted_right) (defScope s_u_law_parted_right) .none kV_u_law_parted_right dc_u_law_parted_right pm_u_law_parted_right an_u_law_parted_right cd_u_law_parted_right ct_u_law_parted_right), sl_u_law_parted_right⟩)
    (c_u_law_parted_right : PySem.W.codeIn K cd_u_law_parted_right "_law_parted_right" = true)
    (k_u_law_parted_right : PySem.W.keepIn K (.ref f_u_law_parted_right) = true)
    (a_law : PySem.W.nsIn K mainGlobals "law" = some (some (.ref f_law)))
    (l_law : K.lookup f_law = some ⟨oc_law, od_law, .func (PySem.W.fnOf "law" "law" (defArgs s_law) (defBody s_law) (defScope s_law) .none kV_law dc_law pm_law an_law cd_law ct_law), sl_law⟩)
    (c_law : PySem.W.codeIn K cd_law "law" = true)
    (k_law : PySem.W.keepIn K (.ref f_law) = true)
    (z_bool : PySem.W.nsIn K mainGlobals "bool" = some none)
    (z_isinstance : PySem.W.nsIn K mainGlobals "isinstance" = some none)
    (z_len : PySem.W.nsIn K mainGlobals "len" = some none)
    (z_list : PySem.W.nsIn K mainGlobals "list" = some none)
    (z_max : PySem.W.nsIn K mainGlobals "max" = some none)
    (z_min : PySem.W.nsIn K mainGlobals "min" = some none)
    (z_sorted : PySem.W.nsIn K mainGlobals "sorted" = some none)
    (z_sum : PySem.W.nsIn K mainGlobals "sum" = some none)
    (z_tuple : PySem.W.nsIn K mainGlobals "tuple" = some none)
    : Tx K mg (⟨f_ahead, PySem.W.fnOf "ahead" "ahead" (defArgs s_ahead) (defBody s_ahead) (defScope s_ahead) .none kV_ahead dc_ahead pm_ahead an_ahead cd_ahead ct_ahead, f_meets, PySem.W.fnOf "meets" "meets" (defArgs s_meets) (defBody s_meets) (defScope s_meets) .none kV_meets dc_meets pm_meets an_meets cd_meets ct_meets, f_tally_of, PySem.W.fnOf "tally_of" "tally_of" (defArgs s_tally_of) (defBody s_tally_of) (defScope s_tally_of) .none kV_tally_of dc_tally_of pm_tally_of an_tally_of cd_tally_of ct_tally_of, f_added, PySem.W.fnOf "added" "added" (defArgs s_added) (defBody s_added) (defScope s_added) .none kV_added dc_added pm_added an_added cd_added ct_added, f_put_window, PySem.W.fnOf "put_window" "put_window" (defArgs s_put_window) (defBody s_put_window) (defScope s_put_window) .none kV_put_window dc_put_window pm_put_window an_put_window cd_put_window ct_put_window, f_put_gap, PySem.W.fnOf "put_gap" "put_gap" (defArgs s_put_gap) (defBody s_put_gap) (defScope s_put_gap) .none kV_put_gap dc_put_gap pm_put_gap an_put_gap cd_put_gap ct_put_gap, f_parted, PySem.W.fnOf "parted" "parted" (defArgs s_parted) (defBody s_parted) (defScope s_parted) .none kV_parted dc_parted pm_parted an_parted cd_parted ct_parted, f_u_law_cell_at, PySem.W.fnOf "_law_cell_at" "_law_cell_at" (defArgs s_u_law_cell_at) (defBody s_u_law_cell_at) (defScope s_u_law_cell_at) .none kV_u_law_cell_at dc_u_law_cell_at pm_u_law_cell_at an_u_law_cell_at cd_u_law_cell_at ct_u_law_cell_at, f_u_law_time_by, PySem.W.fnOf "_law_time_by" "_law_time_by" (defArgs s_u_law_time_by) (defBody s_u_law_time_by) (defScope s_u_law_time_by) .none kV_u_law_time_by dc_u_law_time_by pm_u_law_time_by an_u_law_time_by cd_u_law_time_by ct_u_law_time_by, f_u_law_due, PySem.W.fnOf "_law_due" "_law_due" (defArgs s_u_law_due) (defBody s_u_law_due) (defScope s_u_law_due) .none kV_u_law_due dc_u_law_due pm_u_law_due an_u_law_due cd_u_law_due ct_u_law_due, f_u_law_right, PySem.W.fnOf "_law_right" "_law_right" (defArgs s_u_law_right) (defBody s_u_law_right) (defScope s_u_law_right) .none kV_u_law_right dc_u_law_right pm_u_law_right an_u_law_right cd_u_law_right ct_u_law_right, f_u_law_parted_right, PySem.W.fnOf "_law_parted_right" "_law_parted_right" (defArgs s_u_law_parted_right) (defBody s_u_law_parted_right) (defScope s_u_law_parted_right) .none kV_u_law_parted_right dc_u_law_parted_right pm_u_law_parted_right an_u_law_parted_right cd_u_law_parted_right ct_u_law_parted_right, f_law, PySem.W.fnOf "law" "law" (defArgs s_law) (defBody s_law) (defScope s_law) .none kV_law dc_law pm_law an_law cd_law ct_law⟩ : Ad) :=
  ⟨fun_mk l_ahead c_ahead k_ahead,
    (fun_mk (st := s_ahead) l_ahead c_ahead k_ahead).binds (ps := ["rows", "mark"]) fun _ _ _ _ _ _ us hl => match us, hl with | [_, _], _ => rfl,
    PySem.W.mg_of X G a_ahead,
    fun_mk l_meets c_meets k_meets,
    (fun_mk (st := s_meets) l_meets c_meets k_meets).binds (ps := ["start", "end", "time", "most"]) fun _ _ _ _ _ _ us hl => match us, hl with | [_, _, _, _], _ => rfl,
    PySem.W.mg_of X G a_meets,
    fun_mk l_tally_of c_tally_of k_tally_of,
    (fun_mk (st := s_tally_of) l_tally_of c_tally_of k_tally_of).binds (ps := ["amount"]) fun _ _ _ _ _ _ us hl => match us, hl with | [_], _ => rfl,
    PySem.W.mg_of X G a_tally_of,
    fun_mk l_added c_added k_added,
    (fun_mk (st := s_added) l_added c_added k_added).binds (ps := ["one", "other"]) fun _ _ _ _ _ _ us hl => match us, hl with | [_, _], _ => rfl,
    PySem.W.mg_of X G a_added,
    fun_mk l_put_window c_put_window k_put_window,
    (fun_mk (st := s_put_window) l_put_window c_put_window k_put_window).binds (ps := ["pieces", "start", "end", "tally"]) fun _ _ _ _ _ _ us hl => match us, hl with | [_, _, _, _], _ => rfl,
    PySem.W.mg_of X G a_put_window,
    fun_mk l_put_gap c_put_gap k_put_gap,
    (fun_mk (st := s_put_gap) l_put_gap c_put_gap k_put_gap).binds (ps := ["pieces", "time", "amount", "most"]) fun _ _ _ _ _ _ us hl => match us, hl with | [_, _, _, _], _ => rfl,
    PySem.W.mg_of X G a_put_gap,
    fun_mk l_parted c_parted k_parted,
    (fun_mk (st := s_parted) l_parted c_parted k_parted).binds (ps := ["pieces", "now"]) fun _ _ _ _ _ _ us hl => match us, hl with | [_, _], _ => rfl,
    PySem.W.mg_of X G a_parted,
    fun_mk l_u_law_cell_at c_u_law_cell_at k_u_law_cell_at,
    (fun_mk (st := s_u_law_cell_at) l_u_law_cell_at c_u_law_cell_at k_u_law_cell_at).binds (ps := ["_law_script", "_law_k"]) fun _ _ _ _ _ _ us hl => match us, hl with | [_, _], _ => rfl,
    PySem.W.mg_of X G a_u_law_cell_at,
    fun_mk l_u_law_time_by c_u_law_time_by k_u_law_time_by,
    (fun_mk (st := s_u_law_time_by) l_u_law_time_by c_u_law_time_by k_u_law_time_by).binds (ps := ["_law_cell", "_law_items", "_law_most"]) fun _ _ _ _ _ _ us hl => match us, hl with | [_, _, _], _ => rfl,
    PySem.W.mg_of X G a_u_law_time_by,
    fun_mk l_u_law_due c_u_law_due k_u_law_due,
    (fun_mk (st := s_u_law_due) l_u_law_due c_u_law_due k_u_law_due).binds (ps := ["_law_items", "_law_most"]) fun _ _ _ _ _ _ us hl => match us, hl with | [_, _], _ => rfl,
    PySem.W.mg_of X G a_u_law_due,
    fun_mk l_u_law_right c_u_law_right k_u_law_right,
    (fun_mk (st := s_u_law_right) l_u_law_right c_u_law_right k_u_law_right).binds (ps := ["_law_found", "_law_due_here"]) fun _ _ _ _ _ _ us hl => match us, hl with | [_, _], _ => rfl,
    PySem.W.mg_of X G a_u_law_right,
    fun_mk l_u_law_parted_right c_u_law_parted_right k_u_law_parted_right,
    (fun_mk (st := s_u_law_parted_right) l_u_law_parted_right c_u_law_parted_right k_u_law_parted_right).binds (ps := ["_law_pieces", "_law_cell"]) fun _ _ _ _ _ _ us hl => match us, hl with | [_, _], _ => rfl,
    PySem.W.mg_of X G a_u_law_parted_right,
    fun_mk l_law c_law k_law,
    (fun_mk (st := s_law) l_law c_law k_law).binds (ps := ["_law_script"]) fun _ _ _ _ _ _ us hl => match us, hl with | [_], _ => rfl,
    PySem.W.mg_of X G a_law,
    PySem.W.mg_none_of X G z_bool,
    PySem.W.mg_none_of X G z_isinstance,
    PySem.W.mg_none_of X G z_len,
    PySem.W.mg_none_of X G z_list,
    PySem.W.mg_none_of X G z_max,
    PySem.W.mg_none_of X G z_min,
    PySem.W.mg_none_of X G z_sorted,
    PySem.W.mg_none_of X G z_sum,
    PySem.W.mg_none_of X G z_tuple⟩
variable {P : Program} {w : World} {K : PySem.W.Frag} {mg : Str → Option Value} {base : Heap} {ad : Ad}
def sp_law (K : PySem.W.Frag) : Sp := fun vs H Q _ => ∃ (a : Addr) (ns : List Int), vs = [.ref a] ∧ SqL K H a (ns.map V.int) ∧ ns.length ≤ 63 ∧ ∀ H', Q (.bl true) H'
theorem law_sp (K : PySem.W.Frag) (H : Hp) (a : Addr) (ns : List Int) (hl : ns.length ≤ 63) (_ : Only H) (hS : SqL K H a (ns.map V.int)) : sp_law K [.ref a] H (fun v _ => v = .bl true) fun _ _ _ => False := ⟨a, ns, rfl, hS, hl, fun _ => rfl⟩
abbrev depth : Nat := 4
abbrev Its2 := List (Int × Int)
abbrev Bk := Int × Int × List Int
def Apart (m : Int) (bs : List Bk) : Prop := bs.Pairwise fun a b => a.2.1 + m < b.1
def inB (b : Bk) (t : Int) : Prop := b.1 ≤ t ∧ t ≤ b.2.1
instance (b : Bk) (t : Int) : Decidable (inB b t) := inferInstanceAs (Decidable (_ ∧ _))
structure Gd (m : Int) (its : Its2) (bs : List Bk) : Prop where
  ap : Apart m bs
  am : ∀ b ∈ bs, b.2.2.Perm ((its.filter fun i => decide (inB b i.1)).map (·.2))
  cov : ∀ i ∈ its, ∃ b ∈ bs, inB b i.1
  lo : ∀ b ∈ bs, ∃ i ∈ its, i.1 = b.1
  hi : ∀ b ∈ bs, ∃ i ∈ its, i.1 = b.2.1
  le : ∀ b ∈ bs, b.1 ≤ b.2.1
  ch : ∀ b ∈ bs, ∀ i ∈ its, inB b i.1 → i.1 < b.2.1 → ∃ j ∈ its, i.1 < j.1 ∧ j.1 ≤ i.1 + m
theorem apart_two {m : Int} : ∀ {bs : List Bk}, Apart m bs → ∀ {a b : Bk}, a ∈ bs → b ∈ bs → a = b ∨ a.2.1 + m < b.1 ∨ b.2.1 + m < a.1
  | x :: bs, h, a, b, ha, hb => by
    obtain ⟨h1, h2⟩ := List.pairwise_cons.mp h
    rcases List.mem_cons.mp ha with ea | ha'
    · rcases List.mem_cons.mp hb with eb | hb'
      · exact .inl (ea.trans eb.symm)
      · rw [ea]; exact .inr (.inl (h1 b hb'))
    · rcases List.mem_cons.mp hb with eb | hb'
      · rw [eb]; exact .inr (.inr (h1 a ha'))
      · exact apart_two h2 ha' hb'
section
variable {m : Int} {its : Its2} {bs cs : List Bk}
theorem gd_low (hm : 0 ≤ m) (g : Gd m its bs) (g' : Gd m its cs) {b c : Bk} (hb : b ∈ bs) (hc : c ∈ cs) (h : b.1 ≤ c.2.1) : ∀ (n : Nat) (y : Int × Int), y ∈ its → (b.1 - y.1).toNat = n → c.1 ≤ y.1 → y.1 < b.1 → False := by
  intro n
  induction n using Nat.strongRecOn with
  | ind n ih =>
    intro y hy hn h1 h2
    obtain ⟨j, hj, j1, j2⟩ := g'.ch c hc y hy ⟨h1, by omega⟩ (by omega)
    obtain ⟨b', hb', i1, i2⟩ := g.cov y hy
    have hlt : j.1 < b.1 := by
      rcases apart_two g.ap hb' hb with e | e | e
      · rw [e] at i1; omega
      · omega
      · have := g.le b hb
        omega
    exact ih ((b.1 - j.1).toNat) (by omega) j hj rfl (by omega) hlt
theorem gd_same1 (hm : 0 ≤ m) (g : Gd m its bs) (g' : Gd m its cs) {b : Bk} (hb : b ∈ bs) : ∃ c ∈ cs, c.1 = b.1 ∧ c.2.1 = b.2.1 := by
  obtain ⟨i, hi, ei⟩ := g.lo b hb
  obtain ⟨c, hc, c1, c2⟩ := g'.cov i hi
  rw [ei] at c1 c2
  have e1 : c.1 = b.1 := by
    rcases Int.lt_or_eq_of_le c1 with h | h
    · exfalso
      obtain ⟨y, hy, ey⟩ := g'.lo c hc
      exact gd_low hm g g' hb hc c2 _ y hy rfl (by omega) (by omega)
    · exact h
  refine ⟨c, hc, e1, ?_⟩
  have go : ∀ {bs cs : List Bk} {b c : Bk}, Gd m its bs → Gd m its cs → b ∈ bs → c ∈ cs → c.1 = b.1 → ¬ c.2.1 < b.2.1 := fun {bs cs b c} g g' hb hc e h => by
    obtain ⟨y, hy, ey⟩ := g'.hi c hc
    have := g'.le c hc
    obtain ⟨j, hj, j1, j2⟩ := g.ch b hb y hy ⟨by omega, by omega⟩ (by omega)
    obtain ⟨c', hc', k1, k2⟩ := g'.cov j hj
    rcases apart_two g'.ap hc hc' with q | q | q
    · rw [← q] at k2; omega
    · omega
    · omega
  have h1 := go g g' hb hc e1
  have h2 := go g' g hc hb e1.symm
  omega
theorem apart_unique (hm : 0 ≤ m) : ∀ {bs cs : List Bk}, Apart m bs → Apart m cs → (∀ b ∈ bs, b.1 ≤ b.2.1) → (∀ b ∈ cs, b.1 ≤ b.2.1) → (∀ b ∈ bs, ∃ c ∈ cs, c.1 = b.1 ∧ c.2.1 = b.2.1) → (∀ c ∈ cs, ∃ b ∈ bs, b.1 = c.1 ∧ b.2.1 = c.2.1) → Paired (fun b c => b.1 = c.1 ∧ b.2.1 = c.2.1) bs cs
  | [], [], _, _, _, _, _, _ => .nil
  | [], c :: cs, _, _, _, _, _, h => by obtain ⟨b, hb, _⟩ := h c List.mem_cons_self; cases hb
  | b :: bs, [], _, _, _, _, h, _ => by obtain ⟨c, hc, _⟩ := h b List.mem_cons_self; cases hc
  | b :: bs, c :: cs, h1, h2, l1, l2, h3, h4 => by
    obtain ⟨a1, a2⟩ := List.pairwise_cons.mp h1
    obtain ⟨b1, b2⟩ := List.pairwise_cons.mp h2
    have lb := l1 b List.mem_cons_self
    have lc := l2 c List.mem_cons_self
    obtain ⟨x, hx, x1, x2⟩ := h3 b List.mem_cons_self
    obtain ⟨y, hy, y1, y2⟩ := h4 c List.mem_cons_self
    have e : b.1 = c.1 ∧ b.2.1 = c.2.1 := by
      rcases List.mem_cons.mp hx with rfl | hx
      · exact ⟨x1.symm, x2.symm⟩
      · rcases List.mem_cons.mp hy with rfl | hy
        · exact ⟨y1, y2⟩
        · have := b1 x hx
          have := a1 y hy
          omega
    refine .cons e (apart_unique hm a2 b2 (fun z hz => l1 z (List.mem_cons_of_mem _ hz)) (fun z hz => l2 z (List.mem_cons_of_mem _ hz)) (fun z hz => ?_) fun z hz => ?_)
    · obtain ⟨w, hw, w1, w2⟩ := h3 z (List.mem_cons_of_mem _ hz)
      rcases List.mem_cons.mp hw with rfl | hw
      · have := a1 z hz
        omega
      · exact ⟨w, hw, w1, w2⟩
    · obtain ⟨w, hw, w1, w2⟩ := h4 z (List.mem_cons_of_mem _ hz)
      rcases List.mem_cons.mp hw with rfl | hw
      · have := b1 z hz
        omega
      · exact ⟨w, hw, w1, w2⟩
theorem gd_unique (hm : 0 ≤ m) (g : Gd m its bs) (g' : Gd m its cs) : Paired (fun b c => b.1 = c.1 ∧ b.2.1 = c.2.1 ∧ b.2.2.Perm c.2.2) bs cs := by
  have p := apart_unique hm g.ap g'.ap g.le g'.le (fun b hb => gd_same1 hm g g' hb) fun c hc => gd_same1 hm g' g hc
  have f : ∀ {bs' cs' : List Bk}, Paired (fun b c => b.1 = c.1 ∧ b.2.1 = c.2.1) bs' cs' → (∀ b ∈ bs', b ∈ bs) → (∀ c ∈ cs', c ∈ cs) → Paired (fun b c => b.1 = c.1 ∧ b.2.1 = c.2.1 ∧ b.2.2.Perm c.2.2) bs' cs' := by
    intro bs' cs' h
    induction h with
    | nil => intro _ _; exact .nil
    | cons hr _ ih =>
      rename_i b c bs' cs' _
      intro h1 h2
      refine .cons ⟨hr.1, hr.2, ?_⟩ (ih (fun x hx => h1 x (List.mem_cons_of_mem _ hx)) fun x hx => h2 x (List.mem_cons_of_mem _ hx))
      refine (g.am _ (h1 _ List.mem_cons_self)).trans ((List.Perm.of_eq ?_).trans (g'.am _ (h2 _ List.mem_cons_self)).symm)
      congr 1
      refine List.filter_congr fun i _ => ?_
      exact decide_eq_decide.mpr (by show (_ ∧ _) ↔ (_ ∧ _); rw [hr.1, hr.2])
  exact f p (fun _ h => h) fun _ h => h
theorem gd_new (hm : 0 ≤ m) (g : Gd m its bs) {t a : Int} (h : ∀ b ∈ bs, b.2.1 + m < t) : Gd m (its ++ [(t, a)]) (bs ++ [(t, t, [a])]) := by
  have far : ∀ i ∈ its, i.1 < t := fun i hi => by
    obtain ⟨b, hb, _, h2⟩ := g.cov i hi
    have := h b hb
    omega
  have mem : ∀ {i : Int × Int}, i ∈ its ++ [(t, a)] → i ∈ its ∨ i = (t, a) := fun h => (List.mem_append.mp h).imp id List.mem_singleton.mp
  have memB : ∀ {b : Bk}, b ∈ bs ++ [(t, t, [a])] → b ∈ bs ∨ b = (t, t, [a]) := fun h => (List.mem_append.mp h).imp id List.mem_singleton.mp
  have last : (t, a) ∈ its ++ [(t, a)] := List.mem_append_right _ (List.mem_singleton.mpr rfl)
  refine ⟨List.pairwise_append.mpr ⟨g.ap, List.pairwise_singleton _ _, fun x hx y hy => by rw [List.mem_singleton.mp hy]; exact h x hx⟩, fun b hb => ?_, fun i hi => ?_, fun b hb => ?_, fun b hb => ?_, fun b hb => ?_, fun b hb i hi hin hlt => ?_⟩
  · rw [List.filter_append, List.map_append]
    rcases memB hb with hb | rfl
    · have := h b hb
      rw [List.filter_cons, if_neg (fun q => by have := (of_decide_eq_true q).2; have : t ≤ b.2.1 := this; omega)]
      simpa using g.am b hb
    · have e : (its.filter fun i => decide (inB (t, t, [a]) i.1)) = [] := List.filter_eq_nil_iff.mpr fun i hi q => by
        have := far i hi
        have : t ≤ i.1 := (of_decide_eq_true q).1
        omega
      rw [e, List.filter_cons, if_pos (decide_eq_true (show inB (t, t, [a]) t from ⟨Int.le_refl _, Int.le_refl _⟩))]
      exact List.Perm.refl _
  · rcases mem hi with hi | rfl
    · obtain ⟨b, hb, q⟩ := g.cov i hi
      exact ⟨b, List.mem_append_left _ hb, q⟩
    · exact ⟨_, List.mem_append_right _ (List.mem_singleton.mpr rfl), Int.le_refl _, Int.le_refl _⟩
  · rcases memB hb with hb | rfl
    · obtain ⟨i, hi, e⟩ := g.lo b hb
      exact ⟨i, List.mem_append_left _ hi, e⟩
    · exact ⟨_, last, rfl⟩
  · rcases memB hb with hb | rfl
    · obtain ⟨i, hi, e⟩ := g.hi b hb
      exact ⟨i, List.mem_append_left _ hi, e⟩
    · exact ⟨_, last, rfl⟩
  · rcases memB hb with hb | rfl
    · exact g.le b hb
    · exact Int.le_refl _
  · rcases memB hb with hb | rfl
    · rcases mem hi with hi | rfl
      · obtain ⟨j, hj, q⟩ := g.ch b hb i hi hin hlt
        exact ⟨j, List.mem_append_left _ hj, q⟩
      · have := h b hb
        have : t ≤ b.2.1 := hin.2
        omega
    · have h1 : t ≤ i.1 := hin.1
      have h2 : i.1 < t := hlt
      omega
theorem gd_ext (hm : 0 ≤ m) {f l : Int} {ns : List Int} (g : Gd m its (bs ++ [(f, l, ns)])) {t a : Int} (hall : ∀ i ∈ its, i.1 ≤ t) (hn : t ≤ l + m) : Gd m (its ++ [(t, a)]) (bs ++ [(f, t, ns ++ [a])]) := by
  have mB : (f, l, ns) ∈ bs ++ [(f, l, ns)] := List.mem_append_right _ (List.mem_singleton.mpr rfl)
  have mb : ∀ {b : Bk}, b ∈ bs → b ∈ bs ++ [(f, l, ns)] := fun h => List.mem_append_left _ h
  have hfl : f ≤ l := g.le _ mB
  have hlt : l ≤ t := by
    obtain ⟨i, hi, e⟩ := g.hi _ mB
    have := hall i hi
    have e : i.1 = l := e
    omega
  obtain ⟨p1, _, p3⟩ := List.pairwise_append.mp g.ap
  have ahead : ∀ b ∈ bs, b.2.1 + m < f := fun b hb => p3 b hb _ (List.mem_singleton.mpr rfl)
  have inl : ∀ i ∈ its, f ≤ i.1 → i.1 ≤ l := fun i hi h => by
    obtain ⟨b, hb, _, h2⟩ := g.cov i hi
    rcases List.mem_append.mp hb with hb | hb
    · have := ahead b hb; omega
    · rw [List.mem_singleton.mp hb] at h2; exact h2
  have mem : ∀ {i : Int × Int}, i ∈ its ++ [(t, a)] → i ∈ its ∨ i = (t, a) := fun h => (List.mem_append.mp h).imp id List.mem_singleton.mp
  have memB : ∀ {b : Bk}, b ∈ bs ++ [(f, t, ns ++ [a])] → b ∈ bs ∨ b = (f, t, ns ++ [a]) := fun h => (List.mem_append.mp h).imp id List.mem_singleton.mp
  have last : (t, a) ∈ its ++ [(t, a)] := List.mem_append_right _ (List.mem_singleton.mpr rfl)
  refine ⟨List.pairwise_append.mpr ⟨p1, List.pairwise_singleton _ _, fun x hx y hy => by rw [List.mem_singleton.mp hy]; exact ahead x hx⟩, fun b hb => ?_, fun i hi => ?_, fun b hb => ?_, fun b hb => ?_, fun b hb => ?_, fun b hb i hi hin hlt' => ?_⟩
  · rw [List.filter_append, List.map_append]
    rcases memB hb with hb | rfl
    · have := ahead b hb
      rw [List.filter_cons, if_neg (fun q => by have := (of_decide_eq_true q).2; have : t ≤ b.2.1 := this; omega)]
      simpa using g.am b (mb hb)
    · rw [List.filter_cons, if_pos (decide_eq_true (show inB (f, t, ns ++ [a]) t from ⟨by show f ≤ t; omega, Int.le_refl _⟩))]
      refine List.Perm.append ((g.am _ mB).trans (List.Perm.of_eq ?_)) (List.Perm.refl _)
      congr 1
      refine List.filter_congr fun i hi => decide_eq_decide.mpr ⟨fun h => ⟨h.1, by have : i.1 ≤ l := h.2; show i.1 ≤ t; omega⟩, fun h => ⟨h.1, inl i hi h.1⟩⟩
  · rcases mem hi with hi | rfl
    · obtain ⟨b, hb, q⟩ := g.cov i hi
      rcases List.mem_append.mp hb with hb | hb
      · exact ⟨b, List.mem_append_left _ hb, q⟩
      · rw [List.mem_singleton.mp hb] at q
        exact ⟨_, List.mem_append_right _ (List.mem_singleton.mpr rfl), q.1, hall i hi⟩
    · exact ⟨_, List.mem_append_right _ (List.mem_singleton.mpr rfl), by show f ≤ t; omega, Int.le_refl _⟩
  · rcases memB hb with hb | rfl
    · obtain ⟨i, hi, e⟩ := g.lo b (mb hb)
      exact ⟨i, List.mem_append_left _ hi, e⟩
    · obtain ⟨i, hi, e⟩ := g.lo _ mB
      exact ⟨i, List.mem_append_left _ hi, e⟩
  · rcases memB hb with hb | rfl
    · obtain ⟨i, hi, e⟩ := g.hi b (mb hb)
      exact ⟨i, List.mem_append_left _ hi, e⟩
    · exact ⟨_, last, rfl⟩
  · rcases memB hb with hb | rfl
    · exact g.le b (mb hb)
    · show f ≤ t; omega
  · rcases memB hb with hb | rfl
    · rcases mem hi with hi | rfl
      · obtain ⟨j, hj, q⟩ := g.ch b (mb hb) i hi hin hlt'
        exact ⟨j, List.mem_append_left _ hj, q⟩
      · have := ahead b hb
        have : t ≤ b.2.1 := hin.2
        omega
    · rcases mem hi with hi | rfl
      · have h1 : f ≤ i.1 := hin.1
        have h2 := inl i hi h1
        have h3 : i.1 < t := hlt'
        rcases Int.lt_or_eq_of_le h2 with h | h
        · obtain ⟨j, hj, q⟩ := g.ch _ mB i hi ⟨h1, h2⟩ h
          exact ⟨j, List.mem_append_left _ hj, q⟩
        · exact ⟨_, last, h3, by show t ≤ i.1 + m; omega⟩
      · have : t < t := hlt'
        omega
theorem filter_or {α : Type} (p q : α → Bool) : ∀ (l : List α), (∀ x ∈ l, ¬ (p x = true ∧ q x = true)) → (l.filter p ++ l.filter q).Perm (l.filter fun x => p x || q x)
  | [], _ => .nil
  | x :: l, h => by
    have ih := filter_or p q l fun y hy => h y (List.mem_cons_of_mem _ hy)
    have hx := h x List.mem_cons_self
    simp only [List.filter_cons]
    cases hp : p x with
    | true =>
      cases hq : q x with
      | true => exact absurd ⟨hp, hq⟩ hx
      | false => simpa using ih
    | false =>
      cases hq : q x with
      | true => simpa using (List.perm_middle.trans (ih.cons x))
      | false => simpa using ih
theorem flat_blocks (hm : 0 ≤ m) (its : Its2) : ∀ {bs : List Bk}, Apart m bs → (∀ b ∈ bs, b.1 ≤ b.2.1) → (bs.flatMap fun b => its.filter fun i => decide (inB b i.1)).Perm (its.filter fun i => bs.any fun b => decide (inB b i.1))
  | [], _, _ => by simp
  | b :: bs, h, hl => by
    obtain ⟨h1, h2⟩ := List.pairwise_cons.mp h
    rw [List.flatMap_cons]
    refine ((List.Perm.refl _).append (flat_blocks hm its h2 fun c hc => hl c (List.mem_cons_of_mem _ hc))).trans ((filter_or _ _ its fun i hi => ?_).trans (List.Perm.of_eq ?_))
    · rintro ⟨p, q⟩
      obtain ⟨c, hc, e⟩ := List.any_eq_true.mp q
      have := h1 c hc
      have p := of_decide_eq_true p
      have e := of_decide_eq_true e
      have := p.2
      have := e.1
      omega
    · refine List.filter_congr fun i _ => ?_
      rw [List.any_cons]
theorem perm_flatN {f g : Bk → List Int} : ∀ {l : List Bk}, (∀ x ∈ l, (f x).Perm (g x)) → (l.flatMap f).Perm (l.flatMap g)
  | [], _ => .nil
  | x :: l, h => by
    rw [List.flatMap_cons, List.flatMap_cons]
    exact (h x List.mem_cons_self).append (perm_flatN fun y hy => h y (List.mem_cons_of_mem _ hy))
def mts (m t : Int) (b : Bk) : Bool := decide (b.1 - t ≤ m) && decide (t - b.2.1 ≤ m)
theorem mts_iff {t : Int} {b : Bk} : mts m t b = true ↔ b.1 - t ≤ m ∧ t - b.2.1 ≤ m := by
  unfold mts
  rw [Bool.and_eq_true, decide_eq_true_eq, decide_eq_true_eq]
theorem gd_next (g : Gd m its bs) {c : Bk} (hc : c ∈ bs) {t : Int} (h : t < c.2.1) : ∀ (n : Nat) (y : Int × Int), y ∈ its → (t - y.1).toNat = n → c.1 ≤ y.1 → y.1 ≤ t → ∃ j ∈ its, t < j.1 ∧ j.1 ≤ t + m := by
  intro n
  induction n using Nat.strongRecOn with
  | ind n ih =>
    intro y hy hn h1 h2
    obtain ⟨j, hj, j1, j2⟩ := g.ch c hc y hy ⟨h1, by omega⟩ (by omega)
    by_cases q : t < j.1
    · exact ⟨j, hj, q, by omega⟩
    · exact ih ((t - j.1).toNat) (by omega) j hj rfl (by omega) (by omega)
theorem gd_sep (hm : 0 ≤ m) (g : Gd m its bs) {t S E : Int} (hS : S = t ∨ ∃ b ∈ bs, mts m t b = true ∧ b.1 = S) (hE : E = t ∨ ∃ b ∈ bs, mts m t b = true ∧ b.2.1 = E) {r : Bk} (hr : r ∈ bs) (nr : mts m t r = false) : (r.2.1 + m < S ∧ r.2.1 + m < t) ∨ (E + m < r.1 ∧ t + m < r.1) := by
  have nr' : ¬ (r.1 - t ≤ m ∧ t - r.2.1 ≤ m) := fun h => by rw [mts_iff.mpr h] at nr; cases nr
  have lr := g.le r hr
  by_cases h : t - r.2.1 ≤ m
  · refine .inr ⟨?_, by omega⟩
    rcases hE with e | ⟨b, hb, mb, e⟩
    · omega
    · have mb := mts_iff.mp mb
      have lb := g.le b hb
      rcases apart_two g.ap hb hr with q | q | q
      · rw [q] at mb; omega
      · omega
      · omega
  · refine .inl ⟨?_, by omega⟩
    rcases hS with e | ⟨b, hb, mb, e⟩
    · omega
    · have mb := mts_iff.mp mb
      have lb := g.le b hb
      rcases apart_two g.ap hb hr with q | q | q
      · rw [q] at mb; omega
      · omega
      · omega
theorem gd_put (hm : 0 ≤ m) (g : Gd m its bs) {t a S E : Int} {ns : List Int} {L : List Bk} (hS : S = t ∨ ∃ b ∈ bs, mts m t b = true ∧ b.1 = S) (hE : E = t ∨ ∃ b ∈ bs, mts m t b = true ∧ b.2.1 = E)
    (lS : S ≤ t) (lE : t ≤ E) (mS : ∀ b ∈ bs, mts m t b = true → S ≤ b.1) (mE : ∀ b ∈ bs, mts m t b = true → b.2.1 ≤ E) (hns : ns.Perm ([a] ++ (bs.filter (mts m t)).flatMap (·.2.2)))
    (hL : ∀ x, x ∈ L ↔ x = (S, E, ns) ∨ (x ∈ bs ∧ mts m t x = false)) (hA : Apart m L) : Gd m (its ++ [(t, a)]) L := by
  have sep := fun {r : Bk} => gd_sep (r := r) hm g hS hE
  have mB : (S, E, ns) ∈ L := (hL _).mpr (.inl rfl)
  have memI : ∀ {i : Int × Int}, i ∈ its ++ [(t, a)] → i ∈ its ∨ i = (t, a) := fun h => (List.mem_append.mp h).imp id List.mem_singleton.mp
  have lft : ∀ {i : Int × Int}, i ∈ its → i ∈ its ++ [(t, a)] := fun h => List.mem_append_left _ h
  have last : (t, a) ∈ its ++ [(t, a)] := List.mem_append_right _ (List.mem_singleton.mpr rfl)
  have hit : ∀ b ∈ bs, mts m t b = true → ∀ x, inB b x → S ≤ x ∧ x ≤ E := fun b hb mb x hx => by
    have := mS b hb mb
    have := mE b hb mb
    have := hx.1
    have := hx.2
    omega
  have miss : ∀ r ∈ bs, mts m t r = false → ∀ x, inB r x → ¬ (S ≤ x ∧ x ≤ E) := fun r hr nr x hx h => by
    have := hx.1
    have := hx.2
    rcases sep hr nr with q | q <;> omega
  refine ⟨hA, fun b hb => ?_, fun i hi => ?_, fun b hb => ?_, fun b hb => ?_, fun b hb => ?_, fun b hb i hi hin hlt => ?_⟩
  · rw [List.filter_append, List.map_append]
    rcases (hL b).mp hb with rfl | ⟨hb, nb⟩
    · rw [List.filter_cons, if_pos (decide_eq_true (show inB (S, E, ns) t from ⟨lS, lE⟩))]
      refine hns.trans (List.perm_append_comm.trans (List.Perm.append ?_ (List.Perm.refl _)))
      refine (perm_flatN fun b hb => g.am b (List.mem_filter.mp hb).1).trans ?_
      rw [← List.map_flatMap]
      refine ((flat_blocks hm its (g.ap.sublist List.filter_sublist) fun b hb => g.le b (List.mem_filter.mp hb).1).trans (List.Perm.of_eq ?_)).map _
      refine List.filter_congr fun i hi => ?_
      obtain ⟨b, hb, q⟩ := g.cov i hi
      cases mb : mts m t b with
      | true =>
        rw [decide_eq_true (show inB (S, E, ns) i.1 from hit b hb mb _ q)]
        exact List.any_eq_true.mpr ⟨b, List.mem_filter.mpr ⟨hb, mb⟩, decide_eq_true q⟩
      | false =>
        rw [decide_eq_false (show ¬ inB (S, E, ns) i.1 from miss b hb mb _ q)]
        rw [List.any_eq_false]
        intro c hc h
        obtain ⟨hc1, hc2⟩ := List.mem_filter.mp hc
        have := hit c hc1 hc2 _ (of_decide_eq_true h)
        exact miss b hb mb _ q this
    · have : ¬ inB b t := fun h => by
        have := mts_iff.mpr (show b.1 - t ≤ m ∧ t - b.2.1 ≤ m from ⟨by have := h.1; omega, by have := h.2; omega⟩)
        rw [nb] at this
        cases this
      rw [List.filter_cons, if_neg (fun q => this (of_decide_eq_true q))]
      simpa using g.am b hb
  · rcases memI hi with hi | rfl
    · obtain ⟨b, hb, q⟩ := g.cov i hi
      cases mb : mts m t b with
      | true => exact ⟨_, mB, hit b hb mb _ q⟩
      | false => exact ⟨b, (hL b).mpr (.inr ⟨hb, mb⟩), q⟩
    · exact ⟨_, mB, lS, lE⟩
  · rcases (hL b).mp hb with rfl | ⟨hb, nb⟩
    · rcases hS with e | ⟨b, hb, _, e⟩
      · exact ⟨_, last, e.symm⟩
      · obtain ⟨i, hi, ei⟩ := g.lo b hb
        exact ⟨i, lft hi, ei.trans e⟩
    · obtain ⟨i, hi, ei⟩ := g.lo b hb
      exact ⟨i, lft hi, ei⟩
  · rcases (hL b).mp hb with rfl | ⟨hb, nb⟩
    · rcases hE with e | ⟨b, hb, _, e⟩
      · exact ⟨_, last, e.symm⟩
      · obtain ⟨i, hi, ei⟩ := g.hi b hb
        exact ⟨i, lft hi, ei.trans e⟩
    · obtain ⟨i, hi, ei⟩ := g.hi b hb
      exact ⟨i, lft hi, ei⟩
  · rcases (hL b).mp hb with rfl | ⟨hb, nb⟩
    · show S ≤ E; omega
    · exact g.le b hb
  · rcases (hL b).mp hb with rfl | ⟨hb, nb⟩
    · have hlt : i.1 < E := hlt
      rcases memI hi with hi | rfl
      · obtain ⟨b, hb, q⟩ := g.cov i hi
        have mb : mts m t b = true := by
          cases mb : mts m t b with
          | true => rfl
          | false => exact absurd hin (miss b hb mb _ q)
        by_cases hl : i.1 < b.2.1
        · obtain ⟨j, hj, r⟩ := g.ch b hb i hi q hl
          exact ⟨j, lft hj, r⟩
        · have hq2 := q.2
          have hq := mts_iff.mp mb
          by_cases ht : i.1 < t
          · exact ⟨_, last, ht, by show t ≤ i.1 + m; omega⟩
          · rcases hE with e | ⟨c, hc, mc, e⟩
            · omega
            · have mc' := mts_iff.mp mc
              have hcl := g.le c hc
              rcases apart_two g.ap hb hc with w | w | w
              · rw [w] at hl; omega
              · omega
              · have := g.le b hb; omega
      · rcases hE with e | ⟨c, hc, mc, e⟩
        · have : t < E := hlt
          omega
        · have mc' := mts_iff.mp mc
          have h1 : t < E := hlt
          by_cases hct : c.1 ≤ t
          · obtain ⟨y, hy, ey⟩ := g.lo c hc
            obtain ⟨j, hj, r⟩ := gd_next (t := t) g hc (by omega) _ y hy rfl (by omega) (by omega)
            exact ⟨j, lft hj, r⟩
          · obtain ⟨y, hy, ey⟩ := g.lo c hc
            exact ⟨y, lft hy, by show t < y.1; omega, by show y.1 ≤ t + m; omega⟩
    · rcases memI hi with hi | rfl
      · obtain ⟨j, hj, r⟩ := g.ch b hb i hi hin hlt
        exact ⟨j, lft hj, r⟩
      · have := mts_iff.mpr (show b.1 - t ≤ m ∧ t - b.2.1 ≤ m from ⟨by have : b.1 ≤ t := hin.1; omega, by have : t ≤ b.2.1 := hin.2; omega⟩)
        rw [nb] at this
        cases this
end
def Tal (ns : List Int) (xs : List V) : Prop := ∃ l g : Int, xs = [.int (ns.length : Int), .int ns.sum, .int l, .int g] ∧ l ∈ ns ∧ (∀ a ∈ ns, l ≤ a) ∧ g ∈ ns ∧ ∀ a ∈ ns, a ≤ g
theorem Tal.one (a : Int) : Tal [a] [.int 1, .int a, .int a, .int a] := ⟨a, a, by simp, by simp, by simp, by simp, by simp⟩
theorem Tal.add {ns ms : List Int} {n s l g n' s' l' g' : Int} (h : Tal ns [.int n, .int s, .int l, .int g]) (h' : Tal ms [.int n', .int s', .int l', .int g']) :
    Tal (ns ++ ms) [.int (n + n'), .int (s + s'), .int (if l' < l then l' else l), .int (if g' > g then g' else g)] := by
  obtain ⟨l0, g0, e, a1, a2, a3, a4⟩ := h
  obtain ⟨l1, g1, e', b1, b2, b3, b4⟩ := h'
  simp only [List.cons.injEq, V.int.injEq, and_true] at e e'
  obtain ⟨rfl, rfl, rfl, rfl⟩ := e
  obtain ⟨rfl, rfl, rfl, rfl⟩ := e'
  refine ⟨if l' < l then l' else l, if g' > g then g' else g, by rw [List.length_append, List.sum_append]; simp, ?_, fun a ha => ?_, ?_, fun a ha => ?_⟩
  · split
    · exact List.mem_append_right _ b1
    · exact List.mem_append_left _ a1
  · rcases List.mem_append.mp ha with q | q
    · have := a2 a q; split <;> omega
    · have := b2 a q; split <;> omega
  · split
    · exact List.mem_append_right _ b3
    · exact List.mem_append_left _ a3
  · rcases List.mem_append.mp ha with q | q
    · have := a4 a q; split <;> omega
    · have := b4 a q; split <;> omega
theorem perm_sum {ns ms : List Int} (h : ns.Perm ms) : ns.sum = ms.sum := by
  induction h with
  | nil => rfl
  | cons x _ ih => rw [List.sum_cons, List.sum_cons, ih]
  | swap x y l => simp only [List.sum_cons]; omega
  | trans _ _ a b => exact a.trans b
theorem Tal.same {ns ms : List Int} {xs ys : List V} (h : Tal ns xs) (h' : Tal ms ys) (hp : ns.Perm ms) : xs = ys := by
  obtain ⟨l0, g0, rfl, a1, a2, a3, a4⟩ := h
  obtain ⟨l1, g1, rfl, b1, b2, b3, b4⟩ := h'
  have e1 : l0 = l1 := Int.le_antisymm (a2 _ (hp.mem_iff.mpr b1)) (b2 _ (hp.mem_iff.mp a1))
  have e2 : g0 = g1 := Int.le_antisymm (b4 _ (hp.mem_iff.mp a3)) (a4 _ (hp.mem_iff.mpr b3))
  have e3 : ns.sum = ms.sum := (perm_sum hp)
  rw [e1, e2, e3, hp.length_eq]
theorem Tal.perm {ns ms : List Int} {xs : List V} (h : Tal ns xs) (hp : ns.Perm ms) : Tal ms xs := by
  obtain ⟨l, g, rfl, a1, a2, a3, a4⟩ := h
  exact ⟨l, g, by rw [hp.length_eq, (perm_sum hp)], hp.mem_iff.mp a1, fun a ha => a2 a (hp.mem_iff.mpr ha), hp.mem_iff.mp a3, fun a ha => a4 a (hp.mem_iff.mpr ha)⟩
theorem Tal.four {ns : List Int} {xs : List V} (h : Tal ns xs) : ∃ n s l g : Int, xs = [.int n, .int s, .int l, .int g] := by
  obtain ⟨l, g, rfl, _⟩ := h
  exact ⟨_, _, _, _, rfl⟩
def spTally : Sp := fun vs H Q _ => ∃ a : Int, vs = [.int a] ∧ ∀ r, H r = none → Q (.ref r) (upd H r (.tup [.int 1, .int a, .int a, .int a]))
def spAdded : Sp := fun vs H Q _ => ∃ (p q : Addr) (ns ms : List Int) (xs ys : List V), vs = [.ref p, .ref q] ∧ H p = some (.tup xs) ∧ H q = some (.tup ys) ∧ Tal ns xs ∧ Tal ms ys ∧ ∀ r zs, H r = none → Tal (ns ++ ms) zs → Q (.ref r) (upd H r (.tup zs))
theorem ok_tally_of (T : Tx K mg ad) : FnOk P w K mg base CX0 1 ad.a_tally_of ad.d_tally_of ["amount"] spTally := by
  refine T.F_tally_of.ok sc_tally_of (fun vs H Q E h => ?_) (fun cdv A outer s H vs Q E hr h => ?_)
  · obtain ⟨a, rfl, _⟩ := h
    rfl
  · obtain ⟨a, rfl, k⟩ := h
    have nd := sc_tally_of.nd
    refine ⟨_, (pss_one (ps_ret (pe_tup (pa_cons pe_int (pa_cons (pv 0) (pa_cons (pv 0) (pa_cons (pv 0) pa_nil))))))), ?_⟩
    exact ⟨_, rfl, _, rfl, _, rfl, by show 4 ≤ sizeLine; decide, k⟩
theorem ok_added (T : Tx K mg ad) : FnOk P w K mg base CX0 1 ad.a_added ad.d_added ["one", "other"] spAdded := by
  refine T.F_added.ok sc_added (fun vs H Q E h => ?_) (fun cdv A outer s H vs Q E hr h => ?_)
  · obtain ⟨p, q, ns, ms, xs, ys, rfl, _⟩ := h
    rfl
  · obtain ⟨p, q, ns, ms, xs, ys, rfl, e1, e2, t1, t2, k⟩ := h
    have nd := sc_added.nd
    refine ⟨_, (pss_one (ps_ret (pe_tup (pa_cons (pe_op op_add (pe_ix (ix_tupK (K := K)) (pv 0) pe_int (fun _ _ => rfl)) (pe_ix (ix_tupK (K := K)) (pv 1) pe_int (fun _ _ => rfl))) (pa_cons (pe_op op_add (pe_ix (ix_tupK (K := K)) (pv 0) pe_int (fun _ _ => rfl)) (pe_ix (ix_tupK (K := K)) (pv 1) pe_int (fun _ _ => rfl))) (pa_cons (pe_callB (call_min2 rfl) (by rfl) T.z_min PyProof.Rows.boot_min (pa_cons (pe_ix (ix_tupK (K := K)) (pv 0) pe_int (fun _ _ => rfl)) (pa_cons (pe_ix (ix_tupK (K := K)) (pv 1) pe_int (fun _ _ => rfl)) pa_nil))) (pa_cons (pe_callB (call_max2 rfl) (by rfl) T.z_max PyProof.Rows.boot_max (pa_cons (pe_ix (ix_tupK (K := K)) (pv 0) pe_int (fun _ _ => rfl)) (pa_cons (pe_ix (ix_tupK (K := K)) (pv 1) pe_int (fun _ _ => rfl)) pa_nil))) pa_nil))))))), ?_⟩
    obtain ⟨n, s0, l, g, rfl⟩ := t1.four
    obtain ⟨n', s', l', g', rfl⟩ := t2.four
    have i1 : SqT K H p [V.int n, V.int s0, V.int l, V.int g] := SqT.of e1
    have i2 : SqT K H q [V.int n', V.int s', V.int l', V.int g'] := SqT.of e2
    refine ⟨_, rfl, p, _, 0, _, rfl, rfl, i1, atI_nat (j := 0) rfl, _, rfl, q, _, 0, _, rfl, rfl, i2, atI_nat (j := 0) rfl, _, _, rfl, rfl, ?_⟩
    refine ⟨_, rfl, p, _, 1, _, rfl, rfl, i1, atI_nat (j := 1) rfl, _, rfl, q, _, 1, _, rfl, rfl, i2, atI_nat (j := 1) rfl, _, _, rfl, rfl, ?_⟩
    refine ⟨_, rfl, p, _, 2, _, rfl, rfl, i1, atI_nat (j := 2) rfl, _, rfl, q, _, 2, _, rfl, rfl, i2, atI_nat (j := 2) rfl, _, _, rfl, ?_⟩
    refine ⟨_, rfl, p, _, 3, _, rfl, rfl, i1, atI_nat (j := 3) rfl, _, rfl, q, _, 3, _, rfl, rfl, i2, atI_nat (j := 3) rfl, _, _, rfl, ?_⟩
    exact ⟨by show 4 ≤ sizeLine; decide, fun r hr' => k r _ hr' (t1.add t2)⟩
def spMeets : Sp := fun vs H Q _ => ∃ a b c m : Int, vs = [.int a, .int b, .int c, .int m] ∧ Q (.bl (decide (a - c ≤ m) && decide (c - (b - m - 1) ≤ m))) H
theorem ok_meets (T : Tx K mg ad) : FnOk P w K mg base CX0 1 ad.a_meets ad.d_meets ["start", "end", "time", "most"] spMeets := by
  refine T.F_meets.ok sc_meets (fun vs H Q E h => ?_) (fun cdv A outer s H vs Q E hr h => ?_)
  · obtain ⟨a, b, c, m, rfl, _⟩ := h
    rfl
  · obtain ⟨a, b, c, m, rfl, k⟩ := h
    have nd := sc_meets.nd
    refine ⟨_, (pss_cons (ps_set (i := 4) nd rfl (Or.inl rfl) (pe_op op_sub (pe_op op_sub (pv 1) (pv 3)) pe_int))
        (pss_one (ps_ret (pe_and (pe_cmpR op_le (pe_op op_sub (pv 0) (pv 2)) (pv 3) (nomark _)) (pe_one (pe_cmpR op_le (pe_op op_sub (pv 2) (pv 4)) (pv 3) (nomark _))))))), ?_⟩
    refine ⟨_, rfl, _, rfl, _, _, rfl, rfl, _, _, rfl, rfl, _, rfl, _, rfl, _, _, rfl, rfl, _, rfl, _, _, rfl, rfl, _, rfl, iteB (fun e => ?_) fun e => ?_⟩
    · rw [e, Bool.true_and] at k
      exact ⟨_, rfl, _, rfl, _, _, rfl, rfl, _, rfl, _, _, rfl, rfl, k⟩
    · rw [e, Bool.false_and] at k
      exact k
def spAt (K : PySem.W.Frag) : Sp := fun vs H Q _ => ∃ (a : Addr) (ns : List Int) (k : Int), vs = [.ref a, .int k] ∧ SqL K H a (ns.map V.int) ∧ 0 ≤ k ∧ ns.length ≤ 63 ∧ ∀ r : Int, Q (.int r) H
theorem ok_at (T : Tx K mg ad) : FnOk P w K mg base CX0 1 ad.a_u_law_cell_at ad.d_u_law_cell_at ["_law_script", "_law_k"] (spAt K) := by
  refine T.F_u_law_cell_at.ok sc_u_law_cell_at (fun vs H Q E h => ?_) (fun cdv A outer s H vs Q E hr h => ?_)
  · obtain ⟨a, ns, k, rfl, _⟩ := h
    rfl
  · obtain ⟨a, ns, i, rfl, hS, h0, hl, k⟩ := h
    have nd := sc_u_law_cell_at.nd
    refine ⟨_, (pss_cons (ps_if (pt_cmpR op_lt (pv 1) (pe_callB (call_len_seqK (K := K)) (by rfl) T.z_len PySem.boot_len (pa_cons (pv 0) pa_nil)) (nomark _))
        (pss_one (ps_ret (pe_ix (ix_listK (K := K)) (pv 0) (pv 1) (fun _ _ => rfl))))
        pss_nil)
        (pss_one (ps_ret pe_int))), ?_⟩
    refine ⟨_, rfl, _, rfl, a, _, rfl, .inl hS, _, _, rfl, rfl, _, rfl, iteP (fun e => ?_) fun e => k 0⟩
    rw [List.length_map] at e
    have hlt : i.toNat < ns.length := by omega
    refine ⟨_, rfl, _, rfl, a, _, _, .int ns[i.toNat], rfl, rfl, hS, ?_, k _⟩
    have q := atI_nat (xs := ns.map V.int) (j := i.toNat) (v := .int ns[i.toNat]) (by rw [List.getElem?_map, List.getElem?_eq_getElem hlt]; rfl)
    rw [Int.toNat_of_nonneg h0] at q
    exact q
def PcAt (m : Int) (H : Hp) (x : V) (p : Bk) : Prop := ∃ (a q : Addr) (ts : List V), x = .ref a ∧ H a = some (.tup [.int p.1, .int (p.2.1 + m + 1), .ref q]) ∧ H q = some (.tup ts) ∧ Tal p.2.2 ts
def Pcs (m : Int) (H : Hp) (xs : List V) (ps : List Bk) : Prop := Paired (PcAt m H) xs ps
theorem Pcs.keep {m : Int} {H H' : Hp} {xs : List V} {ps : List Bk} (h : Pcs m H xs ps) (t : Tp H H') : Pcs m H' xs ps := paired_imp (fun x p ⟨a, q, ts, e, e1, e2, e3⟩ => ⟨a, q, ts, e, t _ _ e1, t _ _ e2, e3⟩) h
theorem Pcs.len {m : Int} {H : Hp} {xs : List V} {ps : List Bk} (h : Pcs m H xs ps) : xs.length = ps.length := (paired_at h).1
theorem Pcs.at {m : Int} {H : Hp} {xs : List V} {ps : List Bk} (h : Pcs m H xs ps) {i : Nat} {p : Bk} (e : ps[i]? = some p) : ∃ (a q : Addr) (ts : List V), xs[i]? = some (.ref a) ∧ H a = some (.tup [.int p.1, .int (p.2.1 + m + 1), .ref q]) ∧ H q = some (.tup ts) ∧ Tal p.2.2 ts := by
  obtain ⟨l, f⟩ := paired_at h
  have hi := (List.getElem?_eq_some_iff.mp e).1
  have e2 := List.getElem?_eq_getElem (show i < xs.length by omega)
  obtain ⟨a, q, ts, e3, r⟩ := f i _ _ e2 e
  exact ⟨a, q, ts, by rw [e2, e3], r⟩
theorem Pcs.ix {m : Int} {H : Hp} {xs : List V} {ps : List Bk} (h : Pcs m H xs ps) {i : Nat} {x : V} (e : xs[i]? = some x) : ∃ (p : Bk) (a q : Addr) (ts : List V), ps[i]? = some p ∧ x = .ref a ∧ H a = some (.tup [.int p.1, .int (p.2.1 + m + 1), .ref q]) ∧ H q = some (.tup ts) ∧ Tal p.2.2 ts := by
  obtain ⟨l, f⟩ := paired_at h
  have hi := (List.getElem?_eq_some_iff.mp e).1
  have e2 := List.getElem?_eq_getElem (show i < ps.length by omega)
  obtain ⟨a, q, ts, r⟩ := f i _ _ e e2
  exact ⟨_, a, q, ts, e2, r⟩
def Up (ps : List Bk) : Prop := ps.Pairwise fun a b => a.1 < b.1
def spAhead : Sp := fun vs H Q _ => ∃ (r mk : Addr) (xs : List V) (z s : Int) (ps : List Bk), vs = [.ref r, .ref mk] ∧ H r = some (.lst xs) ∧ Pcs z H xs ps ∧ ps.length ≤ 100000 ∧ H mk = some (.tup [.int s]) ∧ Up ps ∧
  ∀ n : Nat, n ≤ ps.length → (∀ (i : Nat) p, i < n → ps[i]? = some p → p.1 < s) → (∀ (i : Nat) p, n ≤ i → ps[i]? = some p → ¬ p.1 < s) → Q (.int (n : Int)) H
theorem up_at {ps : List Bk} (h : Up ps) {i j : Nat} {a b : Bk} (hij : i ≤ j) (ea : ps[i]? = some a) (eb : ps[j]? = some b) : a.1 ≤ b.1 := by
  by_cases e : i = j
  · subst e
    rw [ea] at eb
    cases eb
    exact Int.le_refl _
  · obtain ⟨hi, e1⟩ := List.getElem?_eq_some_iff.mp ea
    obtain ⟨hj, e2⟩ := List.getElem?_eq_some_iff.mp eb
    have := List.pairwise_iff_getElem.mp h i j hi hj (by omega)
    rw [e1, e2] at this
    exact Int.le_of_lt this
theorem lex_one (t a b : Int) : lexK [.inl t, .inl a] [.inl b] = decide (t < b) := by
  show (if (Sum.inl t : Key) = Sum.inl b then false else decide (t < b)) = _
  split
  · rename_i e
    have e := Sum.inl.inj e
    rw [e]
    exact (decide_eq_false (Int.lt_irrefl b)).symm
  · rfl
theorem ok_ahead (T : Tx K mg ad) : FnOk P w K mg base CX0 1 ad.a_ahead ad.d_ahead ["rows", "mark"] spAhead := by
  refine T.F_ahead.ok sc_ahead (fun vs H Q E h => ?_) (fun cdv A outer s H vs Q E hr h => ?_)
  · obtain ⟨r, mk, xs, z, s, ps, rfl, _⟩ := h
    rfl
  · obtain ⟨r, mk, xs, z, sv, ps, rfl, er, hw, hl, em, up, k⟩ := h
    have nd := sc_ahead.nd
    refine ⟨_, (pss_cons (ps_set (i := 2) nd rfl (Or.inl rfl) pe_int)
        (pss_cons (ps_set (i := 3) nd rfl (Or.inl rfl) (pe_callB (call_len_seqK (K := K)) (by rfl) T.z_len PySem.boot_len (pa_cons (pv 0) pa_nil)))
        (pss_cons (ps_while PassesOwn.never (pt_cmpR op_lt (pv 2) (pv 3) (nomark _))
        (pss_cons (ps_set (i := 4) nd rfl (Or.inl rfl) (pe_op op_fdiv (pe_op op_add (pv 2) (pv 3)) pe_int))
        (pss_one (ps_if (pt_cmpR (op_ltG (K := K) hr.units0) (pe_ix (ix_listK (K := K)) (pv 0) (pv 4) (fun _ _ => rfl)) (pv 1) (nomark _))
        (pss_one (ps_set (i := 2) nd rfl (Or.inl rfl) (pe_op op_add (pv 4) pe_int)))
        (pss_one (ps_set (i := 3) nd rfl (Or.inl rfl) (pv 4)))))))
        (pss_one (ps_ret (pv 2)))))), ?_⟩
    have len := hw.len
    refine ⟨_, rfl, r, _, rfl, .inl (SqL.of er), ?_⟩
    refine while_by (fun σ H' => H' = H ∧ ∃ (lo hi : Nat) (o4 : Option V), σ = [some (.ref r), some (.ref mk), some (.int (lo : Int)), some (.int (hi : Int)), o4] ∧ lo ≤ hi ∧ hi ≤ ps.length ∧ (∀ (i : Nat) p, i < lo → ps[i]? = some p → p.1 < sv) ∧ (∀ (i : Nat) p, hi ≤ i → ps[i]? = some p → ¬ p.1 < sv))
      (fun σ _ => match σ with | [_, _, some (.int lo), some (.int hi), _] => (hi - lo).toNat | _ => 0) ⟨rfl, 0, ps.length, none, by rw [len]; rfl, Nat.zero_le _, Nat.le_refl _, fun i ks h => by omega, fun i ks h e => by have := (List.getElem?_eq_some_iff.mp e).1; omega⟩ ?_ ?_
    · rintro σ H' ⟨rfl, lo, hi, o4, rfl, h1, h2, h3, h4⟩
      refine ⟨_, rfl, _, rfl, _, _, rfl, rfl, _, rfl, iteP (fun e => ?_) fun e => ?_⟩
      · have e : lo < hi := by omega
        have em2 : ((lo : Int) + (hi : Int)) / 2 = (((lo + hi) / 2 : Nat) : Int) := by omega
        have hm : (lo + hi) / 2 < ps.length := by omega
        have ek : ps[(lo + hi) / 2]? = some ps[(lo + hi) / 2] := List.getElem?_eq_getElem hm
        obtain ⟨a, q, ts, ea, eq, _, _⟩ := hw.at ek
        generalize ps[(lo + hi) / 2] = pm at ek eq
        refine ⟨_, rfl, _, rfl, _, _, rfl, rfl, _, _, rfl, rfl, ⟨by decide, by decide⟩, ?_⟩
        have ea2 : atI xs (((lo : Int) + (hi : Int)) / 2) = some (.ref a) := by rw [em2]; exact atI_nat ea
        refine ⟨_, rfl, _, rfl, r, _, _, _, rfl, rfl, SqL.of er, ea2, _, rfl, a, mk, [.inl pm.1, .inl (pm.2.1 + z + 1)], [.ref q], [.inl sv], rfl, rfl, SqT.of eq, SqT.of em, .inr (by show 1 ≤ 2; decide), (fun i k m e1 e2 => ?_), _, rfl, ?_⟩
        · have hi0 : i = 0 := by have := (List.getElem?_eq_some_iff.mp e2).1; simp at this; omega
          subst hi0
          cases e1
          cases e2
          rfl
        rw [lex_one]
        refine iteP (fun b => ?_) fun b => ?_
        · refine ⟨_, rfl, _, _, rfl, rfl, ⟨rfl, (lo + hi) / 2 + 1, hi, _, by show _ = [_, _, some (V.int _), _, _]; rw [show ((((lo + hi) / 2 + 1 : Nat)) : Int) = ((lo : Int) + (hi : Int)) / 2 + 1 by omega]; rfl, by omega, h2, fun i ks hi' e' => ?_, h4⟩, ?_⟩
          · have := up_at up (by omega) e' ek
            omega
          · show ((hi : Int) - (((lo : Int) + (hi : Int)) / 2 + 1)).toNat < ((hi : Int) - (lo : Int)).toNat
            omega
        · refine ⟨_, rfl, ⟨rfl, lo, (lo + hi) / 2, _, by show _ = [_, _, _, some (V.int _), _]; rw [← em2]; rfl, by omega, by omega, h3, fun i ks hi' e' => ?_⟩, ?_⟩
          · have := up_at up hi' ek e'
            omega
          · show ((((lo : Int) + (hi : Int)) / 2) - (lo : Int)).toNat < ((hi : Int) - (lo : Int)).toNat
            omega
      · have e : lo = hi := by omega
        subst e
        exact ⟨_, rfl, k lo h2 h3 h4⟩
    · rintro σ H1 R R' hR ⟨v, e1, u, e2, i, j, e3, e4, b, e5, q⟩
      exact ⟨v, e1, u, e2, i, j, e3, e4, b, e5, hR _ _ q⟩
theorem cutV_to (xs : List V) (n : Nat) (h : n ≤ xs.length) : cutV xs none (some (n : Int)) = xs.take n := by
  unfold cutV
  have e1 : HT.sIx xs.length 0 none = 0 := rfl
  have e2 : HT.sIx xs.length xs.length (some (n : Int)) = n := by
    show (if (n : Int) < 0 then ((n : Int) + (xs.length : Int)).toNat else min (n : Int).toNat xs.length) = n
    rw [if_neg (by omega)]
    omega
  rw [e1, e2]
  rfl
theorem cutV_from (xs : List V) (n : Nat) (h : n ≤ xs.length) : cutV xs (some (n : Int)) none = xs.drop n := by
  unfold cutV
  have e1 : HT.sIx xs.length xs.length none = xs.length := rfl
  have e2 : HT.sIx xs.length 0 (some (n : Int)) = n := by
    show (if (n : Int) < 0 then ((n : Int) + (xs.length : Int)).toNat else min (n : Int).toNat xs.length) = n
    rw [if_neg (by omega)]
    omega
  rw [e1, e2]
  exact List.take_of_length_le (by rw [List.length_drop]; exact Nat.le_refl _)
def spPut : Sp := fun vs H Q _ => ∃ (l q : Addr) (xs ts : List V) (ps : List Bk) (m S E : Int) (ns : List Int), vs = [.ref l, .int S, .int (E + m + 1), .ref q] ∧ H l = some (.lst xs) ∧ Pcs m H xs ps ∧ Up ps ∧ ps.length ≤ 10000 ∧ H q = some (.tup ts) ∧ Tal ns ts ∧ (∀ p ∈ ps, p.1 ≠ S) ∧
  ∀ H' r xs' n, Same H H' → H r = none → H' r = some (.lst xs') → n ≤ ps.length → (∀ (i : Nat) p, i < n → ps[i]? = some p → p.1 < S) → (∀ (i : Nat) p, n ≤ i → ps[i]? = some p → ¬ p.1 < S) → Pcs m H' xs' (ps.take n ++ [(S, E, ns)] ++ ps.drop n) → Q (.ref r) H'
theorem ok_putw (T : Tx K mg ad) : FnOk P w K mg base CX0 2 ad.a_put_window ad.d_put_window ["pieces", "start", "end", "tally"] spPut := by
  have G_ahead := ok_ahead (P := P) (w := w) (base := base) T
  have G_added := ok_added (P := P) (w := w) (base := base) T
  refine T.F_put_window.ok sc_put_window (fun vs H Q E h => ?_) (fun cdv A outer s H vs Q E hr h => ?_)
  · obtain ⟨l, q, xs, ts, ps, z, S, E', ns, rfl, _⟩ := h
    rfl
  · obtain ⟨l, q, xs, ts, ps, z, sv, ev', ns, rfl, el, hw, up, hl, eq, tal, hno, k⟩ := h
    have nd := sc_put_window.nd
    refine ⟨_, (pss_cons (ps_set (i := 4) nd rfl (Or.inl rfl) (pe_call G_ahead (hr.mono (by decide)) (by rfl) T.m_ahead T.F_ahead.kp T.b_ahead .nil pass0 (pa_cons (pv 0) (pa_cons (pe_tup (pa_cons (pv 1) pa_nil)) pa_nil))))
        (pss_cons (ps_cut (ps_if (PW.pt (pw_and (pt_cmpR op_lt (pv 4) (pe_callB (call_len_seqK (K := K)) (by rfl) T.z_len PySem.boot_len (pa_cons (pv 0) pa_nil)) (nomark _)) (pw_and1 (pt_cmpR op_eq (pe_ix (ix_tupK (K := K)) (pe_ix (ix_listK (K := K)) (pv 0) (pv 4) (fun _ _ => rfl)) pe_int (fun _ _ => rfl)) (pv 1) (nomark _)))))
        (pss_cons (ps_set (i := 5) nd rfl (Or.inl rfl) (pe_ix (ix_listK (K := K)) (pv 0) (pv 4) (fun _ _ => rfl)))
        (pss_one (ps_ret (pe_op op_cat (pe_op op_cat (pe_slice (sl_listK (K := K)) (pv 0) po_none (po_some (pv 4))) (pe_lst (pa_cons (pe_tup (pa_cons (pv 1) (pa_cons (pe_ix (ix_tupK (K := K)) (pv 5) pe_int (fun _ _ => rfl)) (pa_cons (pe_call G_added (hr.mono (by decide)) (by rfl) T.m_added T.F_added.kp T.b_added .nil pass0 (pa_cons (pe_ix (ix_tupK (K := K)) (pv 5) pe_int (fun _ _ => rfl)) (pa_cons (pv 3) pa_nil))) pa_nil)))) pa_nil))) (pe_slice (sl_listK (K := K)) (pv 0) (po_some (pe_op op_add (pv 4) pe_int)) po_none)))))
        pss_nil))
        (pss_one (ps_ret (pe_op op_cat (pe_op op_cat (pe_slice (sl_listK (K := K)) (pv 0) po_none (po_some (pv 4))) (pe_lst (pa_cons (pe_tup (pa_cons (pv 1) (pa_cons (pv 2) (pa_cons (pv 3) pa_nil)))) pa_nil))) (pe_slice (sl_listK (K := K)) (pv 0) (po_some (pv 4)) po_none)))))), ?_⟩
    have sz : sizeLine = 16777216 := sizeLine_eq
    have i0 : ∀ {a b c : V}, atI [a, b, c] 0 = some a := atI_nat (j := 0) rfl
    have i1 : ∀ {a b c : V}, atI [a, b, c] 1 = some b := atI_nat (j := 1) rfl
    have i2 : ∀ {a b c : V}, atI [a, b, c] 2 = some c := atI_nat (j := 2) rfl
    have lx := hw.len
    refine ⟨_, rfl, _, rfl, Nat.le_of_ble_eq_true rfl, fun mk hmk => ?_⟩
    have s1 := Same.upd' (o := .tup [.int sv]) hmk
    have emk : (upd H mk (.tup [.int sv])) mk = some (.tup [.int sv]) := upd_same
    generalize upd H mk (.tup [.int sv]) = H1 at s1 emk ⊢
    have el1 := s1 _ _ el
    have hw1 := hw.keep s1.tp
    have eq1 := s1 _ _ eq
    refine ⟨l, mk, xs, z, sv, ps, rfl, el1, hw1, by omega, emk, up, fun n hn b1 b2 => ?_⟩
    refine cutBy (fun σ' H' => H' = H1 ∧ σ' = [some (.ref l), some (.int sv), some (.int (ev' + z + 1)), some (.ref q), some (.int (n : Int)), none]) ?_ ?_
    · refine ⟨_, rfl, _, rfl, l, _, rfl, .inl (SqL.of el1), _, _, rfl, rfl, _, rfl, iteP (fun e => ?_) fun e => ⟨rfl, rfl⟩⟩
      have hnl : n < ps.length := by omega
      have ep : ps[n]? = some ps[n] := List.getElem?_eq_getElem hnl
      have hpn := hno _ (List.getElem_mem hnl)
      generalize ps[n] = p at ep hpn
      obtain ⟨a, qp, tp, ea, ea1, eqp, talp⟩ := hw1.at ep
      have at1 : atI xs (n : Int) = some (.ref a) := atI_nat ea
      exact ⟨_, rfl, _, rfl, l, _, _, _, rfl, rfl, SqL.of el1, at1, a, _, _, _, rfl, rfl, SqT.of ea1, i0, _, rfl, rfl, _, rfl, iteVI (fun es => absurd es hpn) fun es => ⟨rfl, rfl⟩⟩
    rintro σ' H1' ⟨rfl, rfl⟩
    refine ⟨_, rfl, _, rfl, _, rfl, l, xs, rfl, SqL.of el1, fun c1 hc1 => ?_⟩
    rw [cutV_to xs n (by omega)]
    have s2 := Same.upd' (o := .lst (xs.take n)) hc1
    have ec1 : (upd H1' c1 (.lst (xs.take n))) c1 = some (.lst (xs.take n)) := upd_same
    generalize upd H1' c1 (.lst (xs.take n)) = H2 at s2 ec1 ⊢
    refine ⟨_, rfl, _, rfl, _, rfl, Nat.le_of_ble_eq_true rfl, fun v hv => ⟨Nat.le_of_ble_eq_true rfl, fun c2 hc2 => ?_⟩⟩
    have s4 := Same.upd' (o := .tup [.int sv, .int (ev' + z + 1), .ref q]) hv
    have ev : (upd H2 v (.tup [.int sv, .int (ev' + z + 1), .ref q])) v = some (.tup [.int sv, .int (ev' + z + 1), .ref q]) := upd_same
    generalize upd H2 v (.tup [.int sv, .int (ev' + z + 1), .ref q]) = H4 at s4 ev hc2 ⊢
    have s5 := Same.upd' (o := .lst [.ref v]) hc2
    have ec2 : (upd H4 c2 (.lst [.ref v])) c2 = some (.lst [.ref v]) := upd_same
    generalize upd H4 c2 (.lst [.ref v]) = H5 at s5 ec2 ⊢
    have s25 := s4.trans s5
    refine ⟨c1, c2, _, _, rfl, rfl, s25 _ _ ec1, ec2, by rw [List.length_take]; simp; omega, fun c3 hc3 => ?_⟩
    have s6 := Same.upd' (o := .lst (xs.take n ++ [.ref v])) hc3
    have ec3 : (upd H5 c3 (.lst (xs.take n ++ [.ref v]))) c3 = some (.lst (xs.take n ++ [.ref v])) := upd_same
    generalize upd H5 c3 (.lst (xs.take n ++ [.ref v])) = H6 at s6 ec3 ⊢
    have s16 := s2.trans (s25.trans s6)
    refine ⟨_, rfl, _, rfl, _, rfl, l, xs, rfl, SqL.of (s16 _ _ el1), fun c4 hc4 => ?_⟩
    rw [cutV_from xs n (by omega)]
    have s7 := Same.upd' (o := .lst (xs.drop n)) hc4
    have ec4 : (upd H6 c4 (.lst (xs.drop n))) c4 = some (.lst (xs.drop n)) := upd_same
    generalize upd H6 c4 (.lst (xs.drop n)) = H7 at s7 ec4 ⊢
    refine ⟨c3, c4, _, _, rfl, rfl, s7 _ _ ec3, ec4, by rw [List.length_append, List.length_take, List.length_drop]; simp; omega, fun c5 hc5 => ?_⟩
    have s8 := Same.upd' (o := .lst (xs.take n ++ [.ref v] ++ xs.drop n)) hc5
    have s18 := s16.trans (s7.trans s8)
    have s48 := s5.trans (s6.trans (s7.trans s8))
    refine k _ c5 _ n (s1.trans s18) ((s1.trans (s16.trans s7)).free hc5) upd_same hn b1 b2 ?_
    have h8 := hw1.keep s18.tp
    exact paired_app (paired_app (paired_take n h8) (.cons ⟨v, q, ts, rfl, s48 _ _ ev, s18 _ _ eq1, tal⟩ .nil)) (paired_drop n h8)
def spGap : Sp := fun vs H Q _ => ∃ (l : Addr) (xs : List V) (its : Its2) (bs : List Bk) (t a m : Int), vs = [.ref l, .int t, .int a, .int m] ∧ 0 ≤ m ∧ H l = some (.lst xs) ∧ Pcs m H xs bs ∧ Gd m its bs ∧ bs.length ≤ 1000 ∧
  ∀ H' r xs' cs, Same H H' → H r = none → H' r = some (.lst xs') → Pcs m H' xs' cs → Gd m (its ++ [(t, a)]) cs → cs.length ≤ bs.length + 1 → Q (.ref r) H'
theorem gd_up {m : Int} {its : Its2} {bs : List Bk} (hm : 0 ≤ m) (g : Gd m its bs) : Up bs := by
  have := List.Pairwise.and_mem.mp g.ap
  exact this.imp fun {a b} ⟨ha, hb, h⟩ => by have := g.le a ha; omega
theorem filt_snoc' {α : Type} {p : α → Bool} {l : List α} {n : Nat} {x : α} (e : l[n]? = some x) : (l.take (n + 1)).filter p = (l.take n).filter p ++ (if p x = true then [x] else []) := by
  rw [List.take_add_one, e, List.filter_append]
  congr 1
  show [x].filter p = _
  rw [List.filter_cons]
  cases p x <;> rfl
theorem ok_gap (T : Tx K mg ad) : FnOk P w K mg base CX0 3 ad.a_put_gap ad.d_put_gap ["pieces", "time", "amount", "most"] spGap := by
  have G_meets := ok_meets (P := P) (w := w) (base := base) T
  have G_tally_of := ok_tally_of (P := P) (w := w) (base := base) T
  have G_added := ok_added (P := P) (w := w) (base := base) T
  have G_put_window := ok_putw (P := P) (w := w) (base := base) T
  refine T.F_put_gap.ok sc_put_gap (fun vs H Q E h => ?_) (fun cdv A outer s H vs Q E hr h => ?_)
  · obtain ⟨l, xs, its, bs, t, a, m, rfl, _⟩ := h
    rfl
  · obtain ⟨l, xs, its, bs, t, a, m, rfl, hm, el, hw, gd, hl, k⟩ := h
    have nd := sc_put_gap.nd
    refine ⟨_, (pss_cons (ps_setC (i := 4) (osc := defScope s_put_gap) [("time", 1), ("most", 3)] nd rfl (Or.inl rfl) rfl (pi_listK (K := K) (pv 0)) rfl rfl (by decide +kernel) (by decide +kernel) (by decide +kernel) ⟨rfl, rfl, rfl, rfl, trivial⟩ rfl (by decide +kernel) (fun _ _ _ _ => pts_one (pt_val (pe_call G_meets (hr.mono (by decide)) (by rfl) T.m_meets T.F_meets.kp T.b_meets .nil pass0 (pa_cons (pe_ix (ix_tupK (K := K)) (pv 0) pe_int (fun _ _ => rfl)) (pa_cons (pe_ix (ix_tupK (K := K)) (pv 0) pe_int (fun _ _ => rfl)) (pa_cons (pv 1) (pa_cons (pv 2) pa_nil))))))) (fun _ _ _ _ => (pv 0)))
        (pss_cons (ps_setC (i := 5) (osc := defScope s_put_gap) [("time", 1), ("most", 3)] nd rfl (Or.inl rfl) rfl (pi_listK (K := K) (pv 0)) rfl rfl (by decide +kernel) (by decide +kernel) (by decide +kernel) ⟨rfl, rfl, rfl, rfl, trivial⟩ rfl (by decide +kernel) (fun _ _ _ _ => pts_one (pt_not (pt_val (pe_call G_meets (hr.mono (by decide)) (by rfl) T.m_meets T.F_meets.kp T.b_meets .nil pass0 (pa_cons (pe_ix (ix_tupK (K := K)) (pv 0) pe_int (fun _ _ => rfl)) (pa_cons (pe_ix (ix_tupK (K := K)) (pv 0) pe_int (fun _ _ => rfl)) (pa_cons (pv 1) (pa_cons (pv 2) pa_nil)))))))) (fun _ _ _ _ => (pv 0)))
        (pss_cons (ps_set (i := 6) nd rfl (Or.inl rfl) (pe_callB (call_minL (K := K) rfl) (by rfl) T.z_min PyProof.Rows.boot_min (pa_cons (pe_op op_cat (pe_lst (pa_cons (pv 1) pa_nil)) (pe_comp1 (osc := defScope s_put_gap) [] rfl (pi_listK (K := K) (pv 4)) rfl rfl (by decide +kernel) (by decide +kernel) (by decide +kernel) trivial rfl (by decide +kernel) (fun _ _ _ _ => pts_nil) (fun _ _ _ _ => (pe_ix (ix_tupK (K := K)) (pv 0) pe_int (fun _ _ => rfl))))) pa_nil)))
        (pss_cons (ps_set (i := 7) nd rfl (Or.inl rfl) (pe_callB (call_maxL (K := K) rfl) (by rfl) T.z_max PyProof.Rows.boot_max (pa_cons (pe_op op_cat (pe_lst (pa_cons (pe_op op_add (pe_op op_add (pv 1) (pv 3)) pe_int) pa_nil)) (pe_comp1 (osc := defScope s_put_gap) [] rfl (pi_listK (K := K) (pv 4)) rfl rfl (by decide +kernel) (by decide +kernel) (by decide +kernel) trivial rfl (by decide +kernel) (fun _ _ _ _ => pts_nil) (fun _ _ _ _ => (pe_ix (ix_tupK (K := K)) (pv 0) pe_int (fun _ _ => rfl))))) pa_nil)))
        (pss_cons (ps_set (i := 8) nd rfl (Or.inl rfl) (pe_call G_tally_of (hr.mono (by decide)) (by rfl) T.m_tally_of T.F_tally_of.kp T.b_tally_of .nil pass0 (pa_cons (pv 2) pa_nil)))
        (pss_cons (ps_for PassesOwn.never rfl (pi_listK (K := K) (pv 4)) (pg_name (i := 9) nd rfl (Or.inl rfl))
        (pss_one (ps_set (i := 8) nd rfl (Or.inl rfl) (pe_call G_added (hr.mono (by decide)) (by rfl) T.m_added T.F_added.kp T.b_added .nil pass0 (pa_cons (pv 8) (pa_cons (pe_ix (ix_tupK (K := K)) (pv 9) pe_int (fun _ _ => rfl)) pa_nil))))))
        (pss_one (ps_ret (pe_call G_put_window (hr.mono (by decide)) (by rfl) T.m_put_window T.F_put_window.kp T.b_put_window .nil pass0 (pa_cons (pv 5) (pa_cons (pv 6) (pa_cons (pv 7) (pa_cons (pv 8) pa_nil))))))))))))), ?_⟩
    have sz : sizeLine = 16777216 := sizeLine_eq
    have i0 : ∀ {a b c : V}, atI [a, b, c] 0 = some a := atI_nat (j := 0) rfl
    have i1 : ∀ {a b c : V}, atI [a, b, c] 1 = some b := atI_nat (j := 1) rfl
    have i2 : ∀ {a b c : V}, atI [a, b, c] 2 = some c := atI_nat (j := 2) rfl
    have lx := hw.len
    have hmt : ∀ p : Bk, (decide (p.1 - t ≤ m) && decide (t - (p.2.1 + m + 1 - m - 1) ≤ m)) = mts m t p := fun p => by
      unfold mts
      rw [show p.2.1 + m + 1 - m - 1 = p.2.1 by omega]
    refine ⟨_, rfl, l, rfl, ⟨_, SqL.of el⟩, ?_⟩
    refine comp_list (K := K) (xs := xs) (fun n τ acc H' => (∃ o, τ = [o, some (.int t), some (.int m)]) ∧ H' = H ∧ Pcs m H acc ((bs.take n).filter (mts m t))) (by omega) ⟨⟨none, rfl⟩, rfl, .nil⟩ (fun n τ acc H' ⟨_, e, _⟩ => by rw [e]; exact SqL.of el) ?_ ?_
    · rintro n y τ acc H' R1 R0 hy _ ⟨⟨o, rfl⟩, rfl, hp⟩ k1 k0
      obtain ⟨p, b, q, ts, ep, rfl, eb, eq, tal⟩ := hw.ix hy
      refine ⟨_, rfl, b, _, _, _, rfl, rfl, SqT.of eb, i0, _, rfl, b, _, _, _, rfl, rfl, SqT.of eb, i1, _, rfl, _, rfl, _, _, _, _, rfl, ?_⟩
      rw [hmt]
      have fs := filt_snoc' (p := mts m t) ep
      cases hb : mts m t p with
      | true =>
        rw [hb, if_pos rfl] at fs
        exact ⟨_, rfl, iteT ⟨_, rfl, k1 _ _ _ ⟨⟨_, rfl⟩, rfl, by rw [fs]; exact paired_app hp (.cons ⟨b, q, ts, rfl, eb, eq, tal⟩ .nil)⟩⟩⟩
      | false =>
        rw [hb, if_neg Bool.false_ne_true, List.append_nil] at fs
        exact ⟨_, rfl, iteF (k0 _ _ ⟨⟨_, rfl⟩, rfl, by rw [fs]; exact hp⟩)⟩
    rintro τ xm H' lxm ⟨_, rfl, hpm⟩ lm hlm
    rw [List.take_of_length_le (by omega)] at hpm
    have s1 := Same.upd' (o := .lst xm) hlm
    have elm : (upd H' lm (.lst xm)) lm = some (.lst xm) := upd_same
    have hpm1 := hpm.keep s1.tp
    generalize upd H' lm (.lst xm) = H1 at s1 elm hpm1 ⊢
    have el1 := s1 _ _ el
    have hw1 := hw.keep s1.tp
    refine ⟨_, rfl, l, rfl, ⟨_, SqL.of el1⟩, ?_⟩
    refine comp_list (K := K) (xs := xs) (fun n τ acc H' => (∃ o, τ = [o, some (.int t), some (.int m)]) ∧ H' = H1 ∧ Pcs m H1 acc ((bs.take n).filter fun p => !mts m t p)) (by omega) ⟨⟨none, rfl⟩, rfl, .nil⟩ (fun n τ acc H' ⟨_, e, _⟩ => by rw [e]; exact SqL.of el1) ?_ ?_
    · rintro n y τ acc H2 R1 R0 hy _ ⟨⟨o, rfl⟩, rfl, hp⟩ k1 k0
      obtain ⟨p, b, q, ts, ep, rfl, eb, eq, tal⟩ := hw1.ix hy
      refine ⟨_, rfl, b, _, _, _, rfl, rfl, SqT.of eb, i0, _, rfl, b, _, _, _, rfl, rfl, SqT.of eb, i1, _, rfl, _, rfl, _, _, _, _, rfl, ?_⟩
      rw [hmt]
      have fs := filt_snoc' (p := fun p => !mts m t p) ep
      cases hb : mts m t p with
      | true =>
        rw [hb, if_neg (by decide), List.append_nil] at fs
        exact ⟨_, rfl, iteF (k0 _ _ ⟨⟨_, rfl⟩, rfl, by rw [fs]; exact hp⟩)⟩
      | false =>
        rw [hb, if_pos (by decide)] at fs
        exact ⟨_, rfl, iteT ⟨_, rfl, k1 _ _ _ ⟨⟨_, rfl⟩, rfl, by rw [fs]; exact paired_app hp (.cons ⟨b, q, ts, rfl, eb, eq, tal⟩ .nil)⟩⟩⟩
    rintro τ xr H2 lxr ⟨_, rfl, hpr⟩ lr hlr
    rw [List.take_of_length_le (by omega)] at hpr
    have s2 := Same.upd' (o := .lst xr) hlr
    have elr : (upd H2 lr (.lst xr)) lr = some (.lst xr) := upd_same
    have hpr2 := hpr.keep s2.tp
    have hpm2 := hpm1.keep s2.tp
    have elm2 := s2 _ _ elm
    have s02 := s1.trans s2
    generalize upd H2 lr (.lst xr) = H3 at s2 elr hpr2 hpm2 elm2 s02 ⊢
    have lmm : (bs.filter (mts m t)).length ≤ bs.length := List.length_filter_le _ _
    have lxm2 : xm.length ≤ 1000 := by rw [hpm.len]; omega
    refine ⟨_, rfl, Nat.le_of_ble_eq_true rfl, fun q1 hq1 => ?_⟩
    have s3 := Same.upd' (o := .lst [.int t]) hq1
    have eq1 : (upd H3 q1 (.lst [.int t])) q1 = some (.lst [.int t]) := upd_same
    generalize upd H3 q1 (.lst [.int t]) = H4 at s3 eq1 ⊢
    refine ⟨_, rfl, lm, rfl, ⟨_, SqL.of (s3 _ _ elm2)⟩, ?_⟩
    refine comp_listN (K := K) (xs := xm) (fun n τ acc H' => (∃ o, τ = [o]) ∧ H' = H4 ∧ acc = ((bs.filter (mts m t)).take n).map fun p => V.int p.1) (by omega) ⟨⟨none, rfl⟩, rfl, rfl⟩ (fun n τ acc H' ⟨_, e, _⟩ => by rw [e]; exact SqL.of (s3 _ _ elm2)) ?_ ?_
    · rintro n y τ acc H5 R1 hy _ ⟨⟨o, rfl⟩, rfl, rfl⟩ k1
      obtain ⟨p, b, q, ts, ep, rfl, eb, eq, tal⟩ := (hpm2.keep s3.tp).ix hy
      exact ⟨_, rfl, b, _, _, _, rfl, rfl, SqT.of eb, i0, k1 _ _ _ ⟨⟨_, rfl⟩, rfl, by rw [List.take_add_one, ep, List.map_append]; rfl⟩⟩
    rintro τ acc H5 _ ⟨_, rfl, rfl⟩ q2 hq2
    rw [List.take_of_length_le (by rw [hpm.len]; exact Nat.le_refl _)]
    have s4 := Same.upd' (o := .lst ((bs.filter (mts m t)).map fun p => V.int p.1)) hq2
    have eq2 : (upd H5 q2 (.lst ((bs.filter (mts m t)).map fun p => V.int p.1))) q2 = some (.lst ((bs.filter (mts m t)).map fun p => V.int p.1)) := upd_same
    generalize upd H5 q2 (.lst ((bs.filter (mts m t)).map fun p => V.int p.1)) = H6 at s4 eq2 ⊢
    refine ⟨q1, q2, _, _, rfl, rfl, s4 _ _ eq1, eq2, by simp; omega, fun q3 hq3 => ?_⟩
    have s5 := Same.upd' (o := .lst ([V.int t] ++ (bs.filter (mts m t)).map fun p => V.int p.1)) hq3
    have eq3 : (upd H6 q3 (.lst ([V.int t] ++ (bs.filter (mts m t)).map fun p => V.int p.1))) q3 = some (.lst ((t :: (bs.filter (mts m t)).map (·.1)).map V.int)) := by rw [upd_same, List.map_cons, List.map_map]; rfl
    generalize upd H6 q3 (.lst ([V.int t] ++ (bs.filter (mts m t)).map fun p => V.int p.1)) = H7 at s5 eq3 ⊢
    refine ⟨q3, _, rfl, SqL.of eq3, by simp, fun S hS1 hS2 => ?_⟩
    have s37 := s3.trans (s4.trans s5)
    refine ⟨_, rfl, _, rfl, _, _, rfl, rfl, _, _, rfl, rfl, Nat.le_of_ble_eq_true rfl, fun q4 hq4 => ?_⟩
    have s6 := Same.upd' (o := .lst [.int (t + m + 1)]) hq4
    have eq4 : (upd H7 q4 (.lst [.int (t + m + 1)])) q4 = some (.lst [.int (t + m + 1)]) := upd_same
    generalize upd H7 q4 (.lst [.int (t + m + 1)]) = H8 at s6 eq4 ⊢
    have s38 := s37.trans s6
    refine ⟨_, rfl, lm, rfl, ⟨_, SqL.of (s38 _ _ elm2)⟩, ?_⟩
    refine comp_listN (K := K) (xs := xm) (fun n τ acc H' => (∃ o, τ = [o]) ∧ H' = H8 ∧ acc = ((bs.filter (mts m t)).take n).map fun p => V.int (p.2.1 + m + 1)) (by omega) ⟨⟨none, rfl⟩, rfl, rfl⟩ (fun n τ acc H' ⟨_, e, _⟩ => by rw [e]; exact SqL.of (s38 _ _ elm2)) ?_ ?_
    · rintro n y τ acc H9 R1 hy _ ⟨⟨o, rfl⟩, rfl, rfl⟩ k1
      obtain ⟨p, b, q, ts, ep, rfl, eb, eq, tal⟩ := (hpm2.keep s38.tp).ix hy
      exact ⟨_, rfl, b, _, _, _, rfl, rfl, SqT.of eb, i1, k1 _ _ _ ⟨⟨_, rfl⟩, rfl, by rw [List.take_add_one, ep, List.map_append]; rfl⟩⟩
    rintro τ acc H9 _ ⟨_, rfl, rfl⟩ q5 hq5
    rw [List.take_of_length_le (by rw [hpm.len]; exact Nat.le_refl _)]
    have s7 := Same.upd' (o := .lst ((bs.filter (mts m t)).map fun p => V.int (p.2.1 + m + 1))) hq5
    have eq5 : (upd H9 q5 (.lst ((bs.filter (mts m t)).map fun p => V.int (p.2.1 + m + 1)))) q5 = some (.lst ((bs.filter (mts m t)).map fun p => V.int (p.2.1 + m + 1))) := upd_same
    generalize upd H9 q5 (.lst ((bs.filter (mts m t)).map fun p => V.int (p.2.1 + m + 1))) = HA at s7 eq5 ⊢
    refine ⟨q4, q5, _, _, rfl, rfl, s7 _ _ eq4, eq5, by simp; omega, fun q6 hq6 => ?_⟩
    have s8 := Same.upd' (o := .lst ([V.int (t + m + 1)] ++ (bs.filter (mts m t)).map fun p => V.int (p.2.1 + m + 1))) hq6
    have eq6 : (upd HA q6 (.lst ([V.int (t + m + 1)] ++ (bs.filter (mts m t)).map fun p => V.int (p.2.1 + m + 1)))) q6 = some (.lst (((t + m + 1) :: (bs.filter (mts m t)).map fun p => p.2.1 + m + 1).map V.int)) := by rw [upd_same, List.map_cons, List.map_map]; rfl
    generalize upd HA q6 (.lst ([V.int (t + m + 1)] ++ (bs.filter (mts m t)).map fun p => V.int (p.2.1 + m + 1))) = HB at s8 eq6 ⊢
    refine ⟨q6, _, rfl, SqL.of eq6, by simp, fun E1 hE1 hE2 => ?_⟩
    have s3B := s38.trans (s7.trans s8)
    refine ⟨_, rfl, a, rfl, fun u hu => ?_⟩
    have s9 := Same.upd' (o := .tup [.int 1, .int a, .int a, .int a]) hu
    have eu : (upd HB u (.tup [.int 1, .int a, .int a, .int a])) u = some (.tup [.int 1, .int a, .int a, .int a]) := upd_same
    generalize upd HB u (.tup [.int 1, .int a, .int a, .int a]) = HC at s9 eu ⊢
    have s3C := s3B.trans s9
    refine ⟨_, rfl, lm, rfl, ⟨_, SqL.of (s3C _ _ elm2)⟩, for_list (K := K) (xs := xm) (fun n σ H' => ∃ (o9 : Option V) (tl : Addr) (ts : List V), σ = [some (.ref l), some (.int t), some (.int a), some (.int m), some (.ref lm), some (.ref lr), some (.int S), some (.int E1), some (.ref tl), o9] ∧ Same HC H' ∧ H' tl = some (.tup ts) ∧ Tal ([a] ++ ((bs.filter (mts m t)).take n).flatMap (·.2.2)) ts)
      ⟨none, u, _, rfl, Same.refl _, eu, by simpa using Tal.one a⟩ (fun n σ H' _ ⟨_, _, _, _, s', _⟩ => SqL.of ((s3C.trans s') _ _ elm2)) ?_ ?_⟩
    · rintro n y σ HD hy ⟨o9, tl, ts, rfl, sD, etl, tal⟩
      obtain ⟨p, b, q, us, ep, rfl, eb, eq, tal2⟩ := (hpm2.keep (s3C.trans sD).tp).ix hy
      refine ⟨_, rfl, _, rfl, b, _, _, _, rfl, rfl, SqT.of eb, i2, tl, q, _, _, ts, us, rfl, etl, eq, tal, tal2, fun r zs hr' talr => ⟨_, r, zs, rfl, sD.upd hr', upd_same, ?_⟩⟩
      rw [List.take_add_one, ep, List.flatMap_append, ← List.append_assoc]
      simpa using talr
    · rintro σ HD ⟨o9, tl, ts, rfl, sD, etl, tal⟩
      rw [hpm.len, List.take_of_length_le (Nat.le_refl _)] at tal
      have s3D := s3C.trans sD
      have mem : ∀ {p : Bk}, p ∈ bs.filter (mts m t) ↔ p ∈ bs ∧ mts m t p = true := List.mem_filter
      have lS : S ≤ t := hS2 t List.mem_cons_self
      have mS : ∀ b ∈ bs, mts m t b = true → S ≤ b.1 := fun b hb mb => hS2 _ (List.mem_cons_of_mem _ (List.mem_map.mpr ⟨b, mem.mpr ⟨hb, mb⟩, rfl⟩))
      have hS : S = t ∨ ∃ b ∈ bs, mts m t b = true ∧ b.1 = S := by
        rcases List.mem_cons.mp hS1 with h | h
        · exact .inl h
        · obtain ⟨b, hb, e⟩ := List.mem_map.mp h
          exact .inr ⟨b, (mem.mp hb).1, (mem.mp hb).2, e⟩
      obtain ⟨E0, rfl⟩ : ∃ E0, E1 = E0 + m + 1 := ⟨E1 - m - 1, by omega⟩
      have lE : t ≤ E0 := by have := hE2 _ List.mem_cons_self; omega
      have mE : ∀ b ∈ bs, mts m t b = true → b.2.1 ≤ E0 := fun b hb mb => by
        have := hE2 _ (List.mem_cons_of_mem _ (List.mem_map.mpr ⟨b, mem.mpr ⟨hb, mb⟩, rfl⟩))
        omega
      have hE : E0 = t ∨ ∃ b ∈ bs, mts m t b = true ∧ b.2.1 = E0 := by
        rcases List.mem_cons.mp hE1 with h | h
        · exact .inl (by omega)
        · obtain ⟨b, hb, e⟩ := List.mem_map.mp h
          exact .inr ⟨b, (mem.mp hb).1, (mem.mp hb).2, by have e : b.2.1 + m + 1 = E0 + m + 1 := e; omega⟩
      have memr : ∀ {p : Bk}, p ∈ bs.filter (fun p => !mts m t p) ↔ p ∈ bs ∧ mts m t p = false := fun {p} => by
        rw [List.mem_filter]
        cases mts m t p <;> simp
      have sep : ∀ {r : Bk}, r ∈ bs.filter (fun p => !mts m t p) → (r.2.1 + m < S) ∨ (E0 + m < r.1) := fun h => (gd_sep hm gd hS hE (memr.mp h).1 (memr.mp h).2).imp (·.1) (·.1)
      have upr : Up (bs.filter fun p => !mts m t p) := (gd_up hm gd).sublist List.filter_sublist
      have apr : Apart m (bs.filter fun p => !mts m t p) := gd.ap.sublist List.filter_sublist
      refine ⟨_, rfl, _, rfl, _, rfl, _, rfl, lr, tl, xr, ts, _, m, S, E0, _, rfl, s3D _ _ elr, hpr2.keep s3D.tp, upr, by have := List.length_filter_le (fun p => !mts m t p) bs; omega, etl, tal, (fun p hp e => ?_), fun HE r xe n sE hre ere hn b1 b2 hpe => ?_⟩
      · have := gd.le p (memr.mp hp).1
        rcases sep hp with q | q <;> omega
      · have s0E : Same H' HE := s02.trans (s3D.trans sE)
        refine k _ r xe _ s0E ((s02.trans s3D).free hre) ere hpe (gd_put (L := (bs.filter fun p => !mts m t p).take n ++ [(S, E0, _)] ++ (bs.filter fun p => !mts m t p).drop n) hm gd hS hE lS lE mS mE (List.Perm.refl _) (fun x => ?_) ?_) ?_
        · rw [List.append_assoc, List.mem_append, List.mem_append, List.mem_singleton, ← memr]
          have : x ∈ (bs.filter fun p => !mts m t p) ↔ x ∈ (bs.filter fun p => !mts m t p).take n ∨ x ∈ (bs.filter fun p => !mts m t p).drop n := by
            rw [← List.mem_append, List.take_append_drop]
          rw [this]
          constructor
          · rintro (h | h | h)
            · exact .inr (.inl h)
            · exact .inl h
            · exact .inr (.inr h)
          · rintro (h | h | h)
            · exact .inr (.inl h)
            · exact .inl h
            · exact .inr (.inr h)
        · have ap2 : Apart m ((bs.filter fun p => !mts m t p).take n ++ (bs.filter fun p => !mts m t p).drop n) := by rw [List.take_append_drop]; exact apr
          obtain ⟨p1, p2, p3⟩ := List.pairwise_append.mp ap2
          have lo : ∀ x ∈ (bs.filter fun p => !mts m t p).take n, x.2.1 + m < S := fun x hx => by
            obtain ⟨i, hi, e⟩ := List.mem_iff_getElem.mp hx
            rw [List.length_take] at hi
            have := b1 i x (by omega) (by rw [← e, List.getElem_take]; exact List.getElem?_eq_getElem _)
            rcases sep (List.mem_of_mem_take hx) with q | q
            · exact q
            · omega
          have hi' : ∀ x ∈ (bs.filter fun p => !mts m t p).drop n, E0 + m < x.1 := fun x hx => by
            obtain ⟨i, hi, e⟩ := List.mem_iff_getElem.mp hx
            rw [List.length_drop] at hi
            have := b2 (n + i) x (by omega) (by rw [← e, List.getElem_drop]; exact List.getElem?_eq_getElem _)
            have hx' := List.mem_of_mem_drop hx
            have := gd.le x (memr.mp hx').1
            rcases sep hx' with q | q
            · omega
            · exact q
          refine List.pairwise_append.mpr ⟨List.pairwise_append.mpr ⟨p1, List.pairwise_singleton _ _, fun x hx y hy => by rw [List.mem_singleton.mp hy]; exact lo x hx⟩, p2, fun x hx y hy => ?_⟩
          rcases List.mem_append.mp hx with hx | hx
          · exact p3 x hx y hy
          · rw [List.mem_singleton.mp hx]; exact hi' y hy
        · have := List.length_filter_le (fun p => !mts m t p) bs
          simp only [List.length_append, List.length_take, List.length_drop, List.length_singleton]
          omega
theorem Tal.ints {ns : List Int} {ts : List V} (h : Tal ns ts) : ∃ is : List Int, ts = is.map V.int ∧ is.length = 4 := by
  obtain ⟨n, s, l, g, rfl⟩ := h.four
  exact ⟨[n, s, l, g], rfl, rfl⟩
def SameBk (b c : Bk) : Prop := b.1 = c.1 ∧ b.2.1 = c.2.1 ∧ b.2.2.Perm c.2.2
theorem pcs_data {z : Int} {H : Hp} : ∀ {xs ys : List V} {ps qs : List Bk}, Pcs z H xs ps → Pcs z H ys qs → Paired SameBk ps qs → ∃ D, Dvs K H xs D ∧ Dvs K H ys D ∧ PyData.canLayAll0 D = true ∧ PyData.depthAll D ≤ 2
  | _, _, _, _, .nil, .nil, .nil => ⟨[], .nil, .nil, rfl, by decide⟩
  | _, _, _, _, .cons h1 t1, .cons h2 t2, .cons h3 t3 => by
    obtain ⟨D, a1, a2, a3, a4⟩ := pcs_data t1 t2 t3
    obtain ⟨a, q, ts, rfl, ea, eq, ta⟩ := h1
    obtain ⟨b, r, us, rfl, eb, er, tb⟩ := h2
    obtain ⟨f1, f2, f3⟩ := h3
    have e := ta.same tb f3
    subst e
    rw [← f1, ← f2] at eb
    obtain ⟨n, s, l, g, rfl⟩ := ta.four
    rename_i p _ _ _ _
    have dq : ∀ {q : Addr}, H q = some (.tup [.int n, .int s, .int l, .int g]) → Dv K H (.ref q) (.tuple [.int n, .int s, .int l, .int g]) := fun e => .tup (SqT.of e) (.cons (.int _) (.cons (.int _) (.cons (.int _) (.cons (.int _) .nil))))
    refine ⟨_ :: D, .cons (.tup (SqT.of ea) (.cons (.int _) (.cons (.int _) (.cons (dq eq) .nil)))) a1, .cons (.tup (SqT.of eb) (.cons (.int _) (.cons (.int _) (.cons (dq er) .nil)))) a2, ?_, ?_⟩
    · simp [PyData.canLayAll0, PyData.canLay0, a3]
    · simp [PyData.depthAll, PyData.depth]
      omega
theorem pcs_same {z : Int} {H : Hp} {xs ys : List V} {ps qs : List Bk} {l m : Addr} (h1 : Pcs z H xs ps) (h2 : Pcs z H ys qs) (h3 : Paired SameBk ps qs) (e1 : H l = some (.lst xs)) (e2 : H m = some (.lst ys)) : ∃ D, Dv K H (.ref l) D ∧ Dv K H (.ref m) D ∧ SeqAt.shaped D = true ∧ ∃ ds, D = .list ds ∧ PyData.canLayAll0 ds = true ∧ PyData.depthAll ds ≤ 2 := by
  obtain ⟨D, a1, a2, a3, a4⟩ := pcs_data (K := K) h1 h2 h3
  refine ⟨.list D, .lst (SqL.of e1) a1, .lst (SqL.of e2) a2, ?_, D, rfl, a3, a4⟩
  simp [SeqAt.shaped, PyData.canLay0, PyData.depth, a3]
  omega
theorem same_refl : ∀ ps : List Bk, Paired SameBk ps ps
  | [] => .nil
  | p :: ps => .cons ⟨rfl, rfl, List.Perm.refl _⟩ (same_refl ps)
def spRight : Sp := fun vs H Q _ => ∃ (l m : Addr) (xs ys : List V) (ps qs : List Bk) (z : Int), vs = [.ref l, .ref m] ∧ H l = some (.lst xs) ∧ H m = some (.lst ys) ∧ Pcs z H xs ps ∧ Pcs z H ys qs ∧ Paired SameBk ps qs ∧ ∀ H', Same H H' → Q (.bl true) H'
theorem ok_right (T : Tx K mg ad) : FnOk P w K mg base CX0 1 ad.a_u_law_right ad.d_u_law_right ["_law_found", "_law_due_here"] spRight := by
  refine T.F_u_law_right.ok sc_u_law_right (fun vs H Q E h => ?_) (fun cdv A outer s H vs Q E hr h => ?_)
  · obtain ⟨l, m, xs, ys, ps, qs, z, rfl, _⟩ := h
    rfl
  · obtain ⟨l, m, xs, ys, ps, qs, z, rfl, el, em, h1, h2, h3, k⟩ := h
    have nd := sc_u_law_right.nd
    refine ⟨_, (pss_cons (ps_if (PW.pt (pw_or (pt_not (pt_val (pe_callB (call_isinst (K := K)) (by rfl) T.z_isinstance PyProof.Rows.boot_isinstance (pa_cons (pv 0) (pa_cons (pe_bltn (v := .ty "list") (by rfl) T.z_list PyProof.Rows.boot_list rfl) pa_nil))))) (pw_or1 (pt_cmpR (op_neD (K := K) hr.units) (pv 0) (pv 1) (nomark _)))))
        (pss_one (ps_ret pe_bl))
        pss_nil)
        (pss_cons (ps_for PassesOwn.never rfl (pi_listK (K := K) (pv 0)) (pg_name (i := 2) nd rfl (Or.inl rfl))
        (pss_cons (ps_if (PW.pt (pw_or (pt_not (pt_val (pe_callB (call_isinst (K := K)) (by rfl) T.z_isinstance PyProof.Rows.boot_isinstance (pa_cons (pv 2) (pa_cons (pe_bltn (v := .ty "tuple") (by rfl) T.z_tuple PyProof.Rows.boot_tuple rfl) pa_nil))))) (pw_or1 (pt_not (pt_val (pe_callB (call_isinst (K := K)) (by rfl) T.z_isinstance PyProof.Rows.boot_isinstance (pa_cons (pe_ix (ix_tupK (K := K)) (pv 2) pe_int (fun _ _ => rfl)) (pa_cons (pe_bltn (v := .ty "tuple") (by rfl) T.z_tuple PyProof.Rows.boot_tuple rfl) pa_nil))))))))
        (pss_one (ps_ret pe_bl))
        pss_nil)
        (pss_one (ps_for PassesOwn.never rfl (pi_tupK (K := K) (pe_op (op_catTK (K := K)) (pe_slice (sl_tupK (K := K)) (pv 2) po_none (po_some pe_int)) (pe_ix (ix_tupK (K := K)) (pv 2) pe_int (fun _ _ => rfl)))) (pg_name (i := 3) nd rfl (Or.inl rfl))
        (pss_one (ps_if (pt_val (pe_callB (call_isinst (K := K)) (by rfl) T.z_isinstance PyProof.Rows.boot_isinstance (pa_cons (pv 3) (pa_cons (pe_bltn (v := .ty "bool") (by rfl) T.z_bool PyProof.Rows.boot_bool rfl) pa_nil))))
        (pss_one (ps_ret pe_bl))
        pss_nil))))))
        (pss_one (ps_ret pe_bl)))), ?_⟩
    have i2 : ∀ {a b c : V}, atI [a, b, c] 2 = some c := atI_nat (j := 2) rfl
    obtain ⟨D, d1, d2, sh, _⟩ := pcs_same (K := K) h1 h2 h3 el em
    refine ⟨_, rfl, _, "list", _, true, rfl, .lst el, rfl, _, rfl, iteF ⟨_, rfl, _, rfl, neD_same d1 d2 sh ⟨_, rfl, iteF ?_⟩⟩⟩
    refine ⟨_, rfl, l, rfl, ⟨_, SqL.of el⟩, for_list (K := K) (xs := xs) (fun n σ H' => ∃ (o2 o3 : Option V), σ = [some (.ref l), some (.ref m), o2, o3] ∧ Same H H') ⟨none, none, rfl, Same.refl _⟩ (fun n σ H' _ ⟨_, _, _, s'⟩ => SqL.of (s' _ _ el)) ?_ ?_⟩
    · rintro n x σ H1 hx ⟨o2, o3, rfl, s1⟩
      obtain ⟨lp, f⟩ := paired_at h1
      have hn : n < ps.length := by have := (List.getElem?_eq_some_iff.mp hx).1; omega
      obtain ⟨a, q, ts, rfl, ea, eq, ta⟩ := f n _ _ hx (List.getElem?_eq_getElem hn)
      generalize ps[n] = p at ea ta
      have ea1 := s1 _ _ ea
      have eq1 := s1 _ _ eq
      obtain ⟨is, rfl, li⟩ := ta.ints
      refine ⟨_, rfl, _, "tuple", _, true, rfl, .tup ea1, rfl, _, rfl, iteF ⟨_, rfl, a, _, _, _, rfl, rfl, SqT.of ea1, i2, _, "tuple", _, true, rfl, .tup eq1, rfl, _, rfl, iteF ?_⟩⟩
      refine ⟨_, rfl, _, rfl, a, _, rfl, SqT.of ea1, (by intro z; have := z.2; revert this; show ¬ (2 : Nat) = 3; decide), fun c hc => ?_⟩
      have s2 := Same.upd' (o := .tup [.int p.1, .int (p.2.1 + z + 1)]) hc
      have ec : (upd H1 c (.tup [.int p.1, .int (p.2.1 + z + 1)])) c = some (.tup [.int p.1, .int (p.2.1 + z + 1)]) := upd_same
      have cv : cutV [V.int p.1, .int (p.2.1 + z + 1), .ref q] none (some 2) = [.int p.1, .int (p.2.1 + z + 1)] := rfl
      rw [cv]
      generalize upd H1 c (.tup [.int p.1, .int (p.2.1 + z + 1)]) = H2 at s2 ec ⊢
      have sz : sizeLine = 16777216 := sizeLine_eq
      refine ⟨_, rfl, a, _, _, _, rfl, rfl, SqT.of (s2 _ _ ea1), i2, c, q, _, _, rfl, rfl, SqT.of ec, SqT.of (s2 _ _ eq1), by simp, by rw [List.length_map, li]; show 2 + 4 ≤ sizeLine; omega, (fun e => by have := congrArg List.length e; rw [List.length_map, li] at this; cases this), fun _ u hu => ?_⟩
      have s3 := Same.upd' (o := .tup ([V.int p.1, .int (p.2.1 + z + 1)] ++ is.map V.int)) hu
      have eu : (upd H2 u (.tup ([V.int p.1, .int (p.2.1 + z + 1)] ++ is.map V.int))) u = some (.tup ([V.int p.1, .int (p.2.1 + z + 1)] ++ is.map V.int)) := upd_same
      generalize upd H2 u (.tup ([V.int p.1, .int (p.2.1 + z + 1)] ++ is.map V.int)) = H3 at s3 eu ⊢
      refine ⟨u, rfl, ⟨_, SqT.of eu⟩, for_tup (K := K) (xs := [V.int p.1, .int (p.2.1 + z + 1)] ++ is.map V.int) (fun i σ H' => (∃ o3, σ = [some (.ref l), some (.ref m), some (.ref a), o3]) ∧ H' = H3) ⟨⟨_, rfl⟩, rfl⟩ (fun i σ H' _ ⟨_, e⟩ => by rw [e]; exact SqT.of eu) ?_ ?_⟩
      · rintro i x σ H' hx ⟨⟨o3, rfl⟩, rfl⟩
        obtain ⟨nn, rfl⟩ : ∃ nn : Int, x = .int nn := by
          rcases List.mem_append.mp (List.mem_of_getElem? hx) with h | h
          · simp only [List.mem_cons, List.not_mem_nil, or_false] at h
            rcases h with rfl | rfl <;> exact ⟨_, rfl⟩
          · obtain ⟨nn, _, rfl⟩ := List.mem_map.mp h
            exact ⟨nn, rfl⟩
        exact ⟨_, rfl, _, "bool", _, false, rfl, .int nn, rfl, _, rfl, iteF ⟨⟨_, rfl⟩, rfl⟩⟩
      · rintro σ H' ⟨⟨o3, rfl⟩, rfl⟩
        exact ⟨_, _, rfl, s1.trans (s2.trans s3)⟩
    · rintro σ H1 ⟨o2, o3, rfl, s1⟩
      exact k _ s1
def spParted : Sp := fun vs H Q _ => ∃ (l : Addr) (xs : List V) (ps : List Bk) (m now : Int), vs = [.ref l, .int now] ∧ H l = some (.lst xs) ∧ Pcs m H xs ps ∧ ps.length ≤ 1000 ∧
  ∀ H' q r1 r2 x1 x2, Same H H' → H r1 = none → H r2 = none → r1 ≠ r2 → H' q = some (.tup [.ref r1, .ref r2]) → H' r1 = some (.lst x1) → H' r2 = some (.lst x2) → Pcs m H' x1 (ps.filter fun p => decide (p.2.1 + m + 1 ≤ now)) → Pcs m H' x2 (ps.filter fun p => decide (p.2.1 + m + 1 > now)) → Q (.ref q) H'
theorem ok_parted (T : Tx K mg ad) : FnOk P w K mg base CX0 1 ad.a_parted ad.d_parted ["pieces", "now"] spParted := by
  refine T.F_parted.ok sc_parted (fun vs H Q E h => ?_) (fun cdv A outer s H vs Q E hr h => ?_)
  · obtain ⟨l, xs, ps, m, now, rfl, _⟩ := h
    rfl
  · obtain ⟨l, xs, ps, m, now, rfl, el, hw, hl, k⟩ := h
    have nd := sc_parted.nd
    refine ⟨_, (pss_cons (ps_setC (i := 2) (osc := defScope s_parted) [("now", 1)] nd rfl (Or.inl rfl) rfl (pi_listK (K := K) (pv 0)) rfl rfl (by decide +kernel) (by decide +kernel) (by decide +kernel) ⟨rfl, rfl, trivial⟩ rfl (by decide +kernel) (fun _ _ _ _ => pts_one (pt_cmpR op_le (pe_ix (ix_tupK (K := K)) (pv 0) pe_int (fun _ _ => rfl)) (pv 1) (nomark _))) (fun _ _ _ _ => (pv 0)))
        (pss_cons (ps_setC (i := 3) (osc := defScope s_parted) [("now", 1)] nd rfl (Or.inl rfl) rfl (pi_listK (K := K) (pv 0)) rfl rfl (by decide +kernel) (by decide +kernel) (by decide +kernel) ⟨rfl, rfl, trivial⟩ rfl (by decide +kernel) (fun _ _ _ _ => pts_one (pt_cmpR op_gt (pe_ix (ix_tupK (K := K)) (pv 0) pe_int (fun _ _ => rfl)) (pv 1) (nomark _))) (fun _ _ _ _ => (pv 0)))
        (pss_one (ps_ret (pe_tup (pa_cons (pv 2) (pa_cons (pv 3) pa_nil))))))), ?_⟩
    have sz : sizeLine = 16777216 := sizeLine_eq
    have i1 : ∀ {a b c : V}, atI [a, b, c] 1 = some b := atI_nat (j := 1) rfl
    have lx := hw.len
    refine ⟨_, rfl, l, rfl, ⟨_, SqL.of el⟩, ?_⟩
    refine comp_list (K := K) (xs := xs) (fun n τ acc H' => (∃ o, τ = [o, some (.int now)]) ∧ H' = H ∧ Pcs m H acc ((ps.take n).filter fun p => decide (p.2.1 + m + 1 ≤ now))) (by omega) ⟨⟨none, rfl⟩, rfl, .nil⟩ (fun n τ acc H' ⟨_, e, _⟩ => by rw [e]; exact SqL.of el) ?_ ?_
    · rintro n y τ acc H' R1 R0 hy _ ⟨⟨o, rfl⟩, rfl, hp⟩ k1 k0
      obtain ⟨p, b, q, ts, ep, rfl, eb, eq, tal⟩ := hw.ix hy
      have fs := filt_snoc' (p := fun p => decide (p.2.1 + m + 1 ≤ now)) ep
      refine ⟨_, rfl, b, _, _, _, rfl, rfl, SqT.of eb, i1, _, rfl, _, _, rfl, rfl, _, rfl, iteP (fun e => ⟨_, rfl, k1 _ _ _ ⟨⟨_, rfl⟩, rfl, ?_⟩⟩) fun e => k0 _ _ ⟨⟨_, rfl⟩, rfl, ?_⟩⟩
      · rw [if_pos (decide_eq_true e)] at fs
        rw [fs]; exact paired_app hp (.cons ⟨b, q, ts, rfl, eb, eq, tal⟩ .nil)
      · rw [if_neg (by simpa using e), List.append_nil] at fs
        rw [fs]; exact hp
    rintro τ x1 H' _ ⟨_, rfl, hp1⟩ r1 hr1
    rw [List.take_of_length_le (by omega)] at hp1
    have s1 := Same.upd' (o := .lst x1) hr1
    have e1 : (upd H' r1 (.lst x1)) r1 = some (.lst x1) := upd_same
    have hp1' := hp1.keep s1.tp
    generalize upd H' r1 (.lst x1) = H1 at s1 e1 hp1' ⊢
    have hw1 := hw.keep s1.tp
    refine ⟨_, rfl, l, rfl, ⟨_, SqL.of (s1 _ _ el)⟩, ?_⟩
    refine comp_list (K := K) (xs := xs) (fun n τ acc H' => (∃ o, τ = [o, some (.int now)]) ∧ H' = H1 ∧ Pcs m H1 acc ((ps.take n).filter fun p => decide (p.2.1 + m + 1 > now))) (by omega) ⟨⟨none, rfl⟩, rfl, .nil⟩ (fun n τ acc H' ⟨_, e, _⟩ => by rw [e]; exact SqL.of (s1 _ _ el)) ?_ ?_
    · rintro n y τ acc H2 R1 R0 hy _ ⟨⟨o, rfl⟩, rfl, hp⟩ k1 k0
      obtain ⟨p, b, q, ts, ep, rfl, eb, eq, tal⟩ := hw1.ix hy
      have fs := filt_snoc' (p := fun p => decide (p.2.1 + m + 1 > now)) ep
      refine ⟨_, rfl, b, _, _, _, rfl, rfl, SqT.of eb, i1, _, rfl, _, _, rfl, rfl, _, rfl, iteP (fun e => ⟨_, rfl, k1 _ _ _ ⟨⟨_, rfl⟩, rfl, ?_⟩⟩) fun e => k0 _ _ ⟨⟨_, rfl⟩, rfl, ?_⟩⟩
      · rw [if_pos (decide_eq_true e)] at fs
        rw [fs]; exact paired_app hp (.cons ⟨b, q, ts, rfl, eb, eq, tal⟩ .nil)
      · rw [if_neg (by simpa using e), List.append_nil] at fs
        rw [fs]; exact hp
    rintro τ x2 H2 _ ⟨_, rfl, hp2⟩ r2 hr2
    rw [List.take_of_length_le (by omega)] at hp2
    have s2 := Same.upd' (o := .lst x2) hr2
    have e2 : (upd H2 r2 (.lst x2)) r2 = some (.lst x2) := upd_same
    have hp2' := hp2.keep s2.tp
    have n12 : r1 ≠ r2 := ne_of_none e1 hr2
    generalize upd H2 r2 (.lst x2) = H3 at s2 e2 hp2' ⊢
    refine ⟨_, rfl, _, rfl, Nat.le_of_ble_eq_true rfl, fun q hq => ?_⟩
    have s3 := Same.upd' (o := .tup [.ref r1, .ref r2]) hq
    exact k _ q r1 r2 x1 x2 (s1.trans (s2.trans s3)) hr1 (s1.free hr2) n12 upd_same ((s2.trans s3) _ _ e1) (s3 _ _ e2) (hp1'.keep (s2.trans s3).tp) (hp2'.keep s3.tp)
def tmK (i : Int × Int) : List Key := [.inl i.1, .inl i.2]
theorem map_snoc_at {α β : Type} {f : α → β} {l : List α} {i : Nat} {x : β} (h : (l.map f)[i]? = some x) : ∃ y, l[i]? = some y ∧ f y = x := by
  rw [List.getElem?_map] at h
  exact Option.map_eq_some_iff.mp h
def unT : List Key → Int × Int
  | [.inl t, .inl a] => (t, a)
  | _ => (0, 0)
theorem sorted_items {kss : List (List Key)} {L : Its2} (p : kss.Perm (L.map tmK)) : ∃ L' : Its2, kss = L'.map tmK ∧ L'.Perm L := by
  refine ⟨kss.map unT, ?_, ?_⟩
  · rw [List.map_map]
    refine ((List.map_congr_left (g := id) fun ks hk => ?_).trans (List.map_id _)).symm
    obtain ⟨i, _, rfl⟩ := List.mem_map.mp (p.mem_iff.mp hk)
    rfl
  · have := p.map unT
    rw [List.map_map] at this
    refine this.trans (List.Perm.of_eq ?_)
    exact (List.map_congr_left (g := id) fun i _ => rfl).trans (List.map_id _)
theorem sd_times {L : Its2} (h : Sd (L.map tmK)) : L.Pairwise fun a b => a.1 ≤ b.1 := by
  unfold Sd at h
  rw [List.pairwise_map] at h
  refine h.imp fun {a b} q => ?_
  have q : (if (Sum.inl b.1 : Key) = Sum.inl a.1 then lexK [.inl b.2] [.inl a.2] else decide (b.1 < a.1)) = false := q
  by_cases e : b.1 = a.1
  · omega
  · rw [if_neg (fun z => e (Sum.inl.inj z))] at q
    have := of_decide_eq_false q
    omega
theorem gd_perm {m : Int} {its jts : Its2} {bs : List Bk} (g : Gd m its bs) (p : its.Perm jts) : Gd m jts bs :=
  ⟨g.ap, fun b hb => (g.am b hb).trans ((p.filter _).map _), fun i hi => g.cov i (p.mem_iff.mpr hi), fun b hb => let ⟨i, hi, e⟩ := g.lo b hb; ⟨i, p.mem_iff.mp hi, e⟩, fun b hb => let ⟨i, hi, e⟩ := g.hi b hb; ⟨i, p.mem_iff.mp hi, e⟩, g.le, fun b hb i hi h1 h2 => let ⟨j, hj, r⟩ := g.ch b hb i (p.mem_iff.mpr hi) h1 h2; ⟨j, p.mem_iff.mp hj, r⟩⟩
def BlAt (H0 H : Hp) (c : Addr × Addr) (b : Bk) : Prop := H0 c.1 = none ∧ H0 c.2 = none ∧ H c.1 = some (.lst [.int b.1, .int b.2.1, .ref c.2]) ∧ H c.2 = some (.lst (b.2.2.map V.int))
def adr (cs : List (Addr × Addr)) : List Addr := cs.flatMap fun c => [c.1, c.2]
theorem bl_keep {H0 H : Hp} {x : Addr} {o : HO} : ∀ {cs : List (Addr × Addr)} {bs : List Bk}, Paired (BlAt H0 H) cs bs → x ∉ adr cs → Paired (BlAt H0 (upd H x o)) cs bs
  | _, _, .nil, _ => .nil
  | _, _, .cons (a := c) ⟨h1, h2, h3, h4⟩ t, hx => by
    rename_i b l1 l2
    have hx' : x ≠ c.1 ∧ x ≠ c.2 ∧ x ∉ adr l1 := by
      unfold adr at hx
      rw [List.flatMap_cons] at hx
      simp only [List.cons_append, List.nil_append, List.mem_cons, not_or] at hx
      exact hx
    exact .cons ⟨h1, h2, by rw [upd_ne hx'.1.symm]; exact h3, by rw [upd_ne hx'.2.1.symm]; exact h4⟩ (bl_keep t hx'.2.2)
theorem bl_same {H0 H H' : Hp} (s : Same H H') {cs : List (Addr × Addr)} {bs : List Bk} (h : Paired (BlAt H0 H) cs bs) : Paired (BlAt H0 H') cs bs := paired_imp (fun c b ⟨h1, h2, h3, h4⟩ => ⟨h1, h2, s _ _ h3, s _ _ h4⟩) h
def spDue : Sp := fun vs H Q _ => ∃ (l : Addr) (xs : List V) (its : Its2) (m : Int), vs = [.ref l, .int m] ∧ 0 ≤ m ∧ H l = some (.lst xs) ∧ Rws H xs (its.map tmK) ∧ its.length ≤ 100 ∧
  ∀ H' r xs' cs, Same H H' → H r = none → H' r = some (.lst xs') → Pcs m H' xs' cs → Gd m its cs → Q (.ref r) H'
theorem adr_snoc (cs : List (Addr × Addr)) (c : Addr × Addr) : adr (cs ++ [c]) = adr cs ++ [c.1, c.2] := by
  unfold adr
  rw [List.flatMap_append]
  simp
theorem atI_lastC (cs : List (Addr × Addr)) (c : Addr × Addr) : atI ((cs ++ [c]).map fun c => V.ref c.1) (-1) = some (.ref c.1) := by
  rw [List.map_append]
  exact atI_last _ _
theorem paired_snocL {α β : Type} {F : α → β → Prop} : ∀ {l : List α} {x : α} {m : List β}, Paired F (l ++ [x]) m → ∃ m0 y, m = m0 ++ [y] ∧ Paired F l m0 ∧ F x y
  | [], x, _, .cons h .nil => ⟨[], _, rfl, .nil, h⟩
  | a :: l, x, _, .cons h t => by
    obtain ⟨m0, y, rfl, h1, h2⟩ := paired_snocL t
    exact ⟨_ :: m0, y, rfl, .cons h h1, h2⟩
theorem adr_there {H0 H : Hp} {x : Addr} : ∀ {cs : List (Addr × Addr)} {bs : List Bk}, Paired (BlAt H0 H) cs bs → x ∈ adr cs → ∃ o, H x = some o
  | _, _, .nil, h => by cases h
  | _, _, .cons (a := c) ⟨_, _, h3, h4⟩ t, hx => by
    unfold adr at hx
    rw [List.flatMap_cons] at hx
    rcases List.mem_append.mp hx with h | h
    · simp only [List.mem_cons, List.not_mem_nil, or_false] at h
      rcases h with rfl | rfl
      · exact ⟨_, h3⟩
      · exact ⟨_, h4⟩
    · exact adr_there t h
theorem ok_due (T : Tx K mg ad) : FnOk P w K mg base CX0 1 ad.a_u_law_due ad.d_u_law_due ["_law_items", "_law_most"] spDue := by
  refine T.F_u_law_due.ok sc_u_law_due (fun vs H Q E h => ?_) (fun cdv A outer s H vs Q E hr h => ?_)
  · obtain ⟨l, xs, its, m, rfl, _⟩ := h
    rfl
  · obtain ⟨l, xs, its, m, rfl, hm, el, hw, hlen, k⟩ := h
    have nd := sc_u_law_due.nd
    refine ⟨_, (pss_cons (ps_set (i := 2) nd rfl (Or.inl rfl) (pe_lst pa_nil))
        (pss_cons (ps_for PassesOwn.never rfl (pi_listK (K := K) (pe_callB (call_sortedL (K := K)) (by rfl) T.z_sorted PyProof.Rows.boot_sorted (pa_cons (pv 0) pa_nil))) (pg_tup rfl (pgs_cons (pg_name (i := 3) nd rfl (Or.inl rfl)) (pgs_cons (pg_name (i := 4) nd rfl (Or.inl rfl)) pgs_nil)))
        (pss_cons (ps_cut (ps_if (PW.pt (pw_or (pt_cmpR (op_eqNil (K := K) hr.units0) (pv 2) (pe_lst pa_nil) (nomark _)) (pw_or1 (pt_cmpR op_gt (pe_op op_sub (pv 3) (pe_ix (ix_listK (K := K)) (pe_ix (ix_listK (K := K)) (pv 2) (pe_un un_neg pe_int) (fun _ _ => rfl)) pe_int (fun _ _ => rfl))) (pv 1) (nomark _)))))
        (pss_one (ps_expr (pe_bmK (K := K) PySem.F.plainAttrs_list PySem.F.slot_list_append PySem.F.type_list_append mt_append (pv 2) (pa_cons (pe_lst (pa_cons (pv 3) (pa_cons (pv 3) (pa_cons (pe_lst pa_nil) pa_nil)))) pa_nil))))
        pss_nil))
        (pss_cons (ps_lput (pe_ix (ix_listK (K := K)) (pv 2) (pe_un un_neg pe_int) (fun _ _ => rfl)) pe_int (pv 3) rfl)
        (pss_one (ps_expr (pe_bmK (K := K) PySem.F.plainAttrs_list PySem.F.slot_list_append PySem.F.type_list_append mt_append (pe_ix (ix_listK (K := K)) (pe_ix (ix_listK (K := K)) (pv 2) (pe_un un_neg pe_int) (fun _ _ => rfl)) pe_int (fun _ _ => rfl)) (pa_cons (pv 4) pa_nil)))))))
        (pss_cons (ps_set (i := 5) nd rfl (Or.inl rfl) (pe_lst pa_nil))
        (pss_cons (ps_for PassesOwn.never rfl (pi_listK (K := K) (pv 2)) (pg_lst rfl (pgs_cons (pg_name (i := 6) nd rfl (Or.inl rfl)) (pgs_cons (pg_name (i := 7) nd rfl (Or.inl rfl)) (pgs_cons (pg_name (i := 8) nd rfl (Or.inl rfl)) pgs_nil))))
        (pss_one (ps_expr (pe_bmK (K := K) PySem.F.plainAttrs_list PySem.F.slot_list_append PySem.F.type_list_append mt_append (pv 5) (pa_cons (pe_tup (pa_cons (pv 6) (pa_cons (pe_op op_add (pe_op op_add (pv 7) (pv 1)) pe_int) (pa_cons (pe_tup (pa_cons (pe_callB (call_len_seqK (K := K)) (by rfl) T.z_len PySem.boot_len (pa_cons (pv 8) pa_nil)) (pa_cons (pe_callB (call_sumL (K := K) rfl) (by rfl) T.z_sum PyProof.Rows.boot_sum (pa_cons (pv 8) pa_nil)) (pa_cons (pe_callB (call_minL (K := K) rfl) (by rfl) T.z_min PyProof.Rows.boot_min (pa_cons (pv 8) pa_nil)) (pa_cons (pe_callB (call_maxL (K := K) rfl) (by rfl) T.z_max PyProof.Rows.boot_max (pa_cons (pv 8) pa_nil)) pa_nil))))) pa_nil)))) pa_nil)))))
        (pss_one (ps_ret (pv 5))))))), ?_⟩
    have sz : sizeLine = 16777216 := sizeLine_eq
    have i0 : ∀ {a b c : V}, atI [a, b, c] 0 = some a := atI_nat (j := 0) rfl
    have i1 : ∀ {a b c : V}, atI [a, b, c] 1 = some b := atI_nat (j := 1) rfl
    have i2 : ∀ {a b c : V}, atI [a, b, c] 2 = some c := atI_nat (j := 2) rfl
    refine ⟨Nat.zero_le _, fun fl hfl => ?_⟩
    have s0 := Same.upd' (o := .lst []) hfl
    have efl : (upd H fl (.lst [])) fl = some (.lst []) := upd_same
    generalize upd H fl (.lst []) = H0 at s0 efl ⊢
    have hw0 := hw.keep s0.tp
    refine ⟨_, rfl, l, xs, _, rfl, SqL.of (s0 _ _ el), hw0.sorts (sh := [true, true]) (by simp) (fun ks hk => ?_), fun sl qs hsl pq sq => ?_⟩
    · obtain ⟨i', _, rfl⟩ := List.mem_map.mp hk
      rfl
    obtain ⟨g1, g2⟩ := hw0.sorted pq
    obtain ⟨its', eL, pm⟩ := sorted_items g2
    have ups := sd_times (L := its') (by rw [← eL]; exact sq)
    have s1 := Same.upd' (o := .lst (qs.map (·.1))) hsl
    have esl : (upd H0 sl (.lst (qs.map (·.1)))) sl = some (.lst (qs.map (·.1))) := upd_same
    have hws : Rws (upd H0 sl (.lst (qs.map (·.1)))) (qs.map (·.1)) (its'.map tmK) := by rw [← eL]; exact g1.keep s1.tp
    generalize upd H0 sl (.lst (qs.map (·.1))) = H1 at s1 esl hws ⊢
    generalize qs.map (·.1) = rs at esl hws
    have lrs : rs.length = its'.length := by rw [hws.len, List.length_map]
    have lits : its'.length ≤ 100 := by rw [pm.length_eq]; exact hlen
    have nsf : sl ≠ fl := (ne_of_none efl hsl).symm
    have hsl0 : H sl = none := s0.free hsl
    have s01 := s0.trans s1
    refine ⟨sl, rfl, ⟨_, SqL.of esl⟩, for_list (K := K) (xs := rs) (fun n σ H' => ∃ (o3 o4 : Option V) (cs : List (Addr × Addr)) (bs : List Bk), σ = [some (.ref l), some (.int m), some (.ref fl), o3, o4, none, none, none, none] ∧ Same H H' ∧ H' sl = some (.lst rs) ∧ Tp H1 H' ∧ H' fl = some (.lst (cs.map fun c => .ref c.1)) ∧ Paired (BlAt H H') cs bs ∧ (sl :: fl :: adr cs).Nodup ∧ Gd m (its'.take n) bs ∧ bs.length ≤ n)
      ⟨none, none, [], [], rfl, s01, esl, Tp.refl _, s1 _ _ efl, .nil, by simp [adr]; exact nsf, ⟨.nil, (fun b hb => by cases hb), (fun i hi => by simp at hi), (fun b hb => by cases hb), (fun b hb => by cases hb), (fun b hb => by cases hb), fun b hb => by cases hb⟩, Nat.le_refl _⟩ (fun n σ H' _ ⟨_, _, _, _, _, _, e, _⟩ => SqL.of e) ?_ ?_⟩
    · rintro n y σ H2 hy ⟨o3, o4, cs, bs, rfl, s2, esl2, tp2, efl2, hbl, nd2, gd, lb⟩
      obtain ⟨b, ks, rfl, ek, eb⟩ := hws.at hy
      obtain ⟨⟨t, a⟩, ei, rfl⟩ := map_snoc_at ek
      have eb2 : H2 b = some (.tup [.int t, .int a]) := tp2 _ _ eb
      have hn : n < its'.length := (List.getElem?_eq_some_iff.mp ei).1
      have tk : its'.take (n + 1) = its'.take n ++ [(t, a)] := by rw [List.take_add_one, ei]; rfl
      have hall : ∀ i ∈ its'.take n, i.1 ≤ t := fun i hi => by
        obtain ⟨j, hj, e⟩ := List.mem_iff_getElem.mp hi
        rw [List.length_take] at hj
        have e2 := (List.getElem?_eq_some_iff.mp ei).2
        have := List.pairwise_iff_getElem.mp ups j n (by omega) hn (by omega)
        rw [List.getElem_take] at e
        rw [e, e2] at this
        exact this
      refine ⟨b, _, rfl, SqT.of eb2, rfl, _, _, rfl, _, _, rfl, rfl, ?_⟩
      refine cutBy (fun σ' H' => ∃ (cs0 : List (Addr × Addr)) (c : Addr × Addr) (bs0 : List Bk) (f l0 : Int) (ns : List Int), σ' = [some (.ref l), some (.int m), some (.ref fl), some (.int t), some (.int a), none, none, none, none] ∧ Same H H' ∧ H' sl = some (.lst rs) ∧ Tp H1 H' ∧ H' fl = some (.lst ((cs0 ++ [c]).map fun c => .ref c.1)) ∧ Paired (BlAt H H') cs0 bs0 ∧ BlAt H H' c (f, l0, ns) ∧ (sl :: fl :: adr (cs0 ++ [c])).Nodup ∧ Gd m (its'.take (n + 1)) (bs0 ++ [(f, t, ns ++ [a])]) ∧ bs0.length ≤ n ∧ ns.length ≤ n) ?_ ?_
      · have nb : ∀ {H' : Hp} {s0' c0' : Addr}, Same H2 H' → H' s0' = none → (upd H' s0' (.lst [])) c0' = none → (∀ b ∈ bs, b.2.1 + m < t) → ∃ (cs0 : List (Addr × Addr)) (c : Addr × Addr) (bs0 : List Bk) (f l0 : Int) (ns : List Int), [some (V.ref l), some (.int m), some (.ref fl), some (.int t), some (.int a), none, none, none, none] = [some (.ref l), some (.int m), some (.ref fl), some (.int t), some (.int a), none, none, none, none] ∧ Same H (upd (upd (upd H' s0' (.lst [])) c0' (.lst [.int t, .int t, .ref s0'])) fl (.lst ((cs.map fun c => .ref c.1) ++ [.ref c0']))) ∧ (upd (upd (upd H' s0' (.lst [])) c0' (.lst [.int t, .int t, .ref s0'])) fl (.lst ((cs.map fun c => .ref c.1) ++ [.ref c0']))) sl = some (.lst rs) ∧ Tp H1 (upd (upd (upd H' s0' (.lst [])) c0' (.lst [.int t, .int t, .ref s0'])) fl (.lst ((cs.map fun c => .ref c.1) ++ [.ref c0']))) ∧ (upd (upd (upd H' s0' (.lst [])) c0' (.lst [.int t, .int t, .ref s0'])) fl (.lst ((cs.map fun c => .ref c.1) ++ [.ref c0']))) fl = some (.lst ((cs0 ++ [c]).map fun c => .ref c.1)) ∧ Paired (BlAt H (upd (upd (upd H' s0' (.lst [])) c0' (.lst [.int t, .int t, .ref s0'])) fl (.lst ((cs.map fun c => .ref c.1) ++ [.ref c0'])))) cs0 bs0 ∧ BlAt H (upd (upd (upd H' s0' (.lst [])) c0' (.lst [.int t, .int t, .ref s0'])) fl (.lst ((cs.map fun c => .ref c.1) ++ [.ref c0']))) c (f, l0, ns) ∧ (sl :: fl :: adr (cs0 ++ [c])).Nodup ∧ Gd m (its'.take (n + 1)) (bs0 ++ [(f, t, ns ++ [a])]) ∧ bs0.length ≤ n ∧ ns.length ≤ n := fun {H' s0' c0'} sh hs0 hc0 far => by
          have t1 := Same.upd' (o := .lst []) hs0
          have t2 := Same.upd' (o := .lst [.int t, .int t, .ref s0']) hc0
          have S2 := sh.trans (t1.trans t2)
          have hs0H : H s0' = none := (s2.trans sh).free hs0
          have hc0H : H c0' = none := (s2.trans (sh.trans t1)).free hc0
          have nsc : s0' ≠ c0' := ne_of_none upd_same hc0
          have nx : ∀ {x : Addr} {o : HO}, H2 x = some o → x ≠ s0' ∧ x ≠ c0' := fun e => ⟨ne_of_none (sh _ _ e) hs0, ne_of_none ((sh.trans t1) _ _ e) hc0⟩
          have eflS := S2 _ _ efl2
          have tpl := (Tp.refl _).upd (o := .lst ((cs.map fun c => .ref c.1) ++ [.ref c0'])) eflS (fun xs => by intro z; cases z)
          simp only [List.nodup_cons, List.mem_cons, not_or] at nd2
          obtain ⟨⟨q1, q2⟩, q3, q4⟩ := nd2
          refine ⟨cs, (c0', s0'), bs, t, t, [], rfl, (s2.trans S2).updN hfl, by rw [upd_ne q1]; exact S2 _ _ esl2, (tp2.trans S2.tp).trans tpl, by rw [upd_same, List.map_append]; rfl, bl_keep (bl_same S2 hbl) q3, ⟨hc0H, hs0H, by rw [upd_ne (nx efl2).2.symm]; exact upd_same, by rw [upd_ne (nx efl2).1.symm, upd_ne nsc]; exact upd_same⟩, ?_, by rw [tk]; exact gd_new hm gd far, lb, Nat.zero_le _⟩
          rw [adr_snoc]
          simp only [List.nodup_cons, List.mem_cons, List.mem_append, List.nodup_append, List.not_mem_nil, or_false, not_or, not_false_eq_true, List.nodup_nil, and_true]
          refine ⟨⟨q1, q2, (nx esl2).2, (nx esl2).1⟩, ⟨q3, (nx efl2).2, (nx efl2).1⟩, q4, nsc.symm, fun x hx y hy e => ?_⟩
          obtain ⟨o, ho⟩ := adr_there hbl hx
          rcases hy with rfl | rfl
          · exact (nx ho).2 e
          · exact (nx ho).1 e
        refine ⟨_, rfl, Nat.zero_le _, fun e0 he0 => ?_⟩
        have t0 := Same.upd' (o := .lst []) he0
        have ee0 : (upd H2 e0 (.lst [])) e0 = some (.lst []) := upd_same
        generalize upd H2 e0 (.lst []) = H3 at t0 ee0 ⊢
        refine ⟨fl, e0, _, rfl, rfl, SqL.of (t0 _ _ efl2), SqL.of ee0, _, rfl, ?_⟩
        have lcs : (cs.map fun c => V.ref c.1).length ≤ 1000 := by rw [List.length_map, Paired.length hbl]; omega
        rcases List.eq_nil_or_concat cs with rfl | ⟨cs0, c, rfl⟩
        · have : bs = [] := by cases hbl; rfl
          subst this
          exact iteT ⟨_, rfl, .inl ⟨rfl, _, SqL.of (t0 _ _ efl2)⟩, _, rfl, _, rfl, Nat.zero_le _, fun s0' hs0' => ⟨Nat.le_of_ble_eq_true rfl, fun c0' hc0' => ⟨fl, _, _, rfl, rfl, ((Same.upd' hs0').trans (Same.upd' hc0')) _ _ (t0 _ _ efl2), by omega, nb t0 hs0' hc0' (fun b hb => by cases hb)⟩⟩⟩
        · rw [List.concat_eq_append] at *
          obtain ⟨bs0, ⟨f, l0, ns⟩, rfl, hb0, hcb⟩ := paired_snocL hbl
          have hc1 := t0 _ _ hcb.2.2.1
          have emp : ((cs0 ++ [c]).map fun c => V.ref c.1).isEmpty = false := by simp
          rw [emp]
          refine iteF ⟨_, rfl, _, rfl, _, rfl, fl, _, _, _, rfl, rfl, SqL.of (t0 _ _ efl2), atI_lastC cs0 c, c.1, _, _, _, rfl, rfl, SqL.of hc1, i1, _, _, rfl, rfl, _, rfl, _, _, rfl, rfl, _, rfl, iteP (fun e => ?_) fun e => ?_⟩
          · have e : t - l0 > m := e
            refine ⟨_, rfl, .inl ⟨rfl, _, SqL.of (t0 _ _ efl2)⟩, _, rfl, _, rfl, Nat.zero_le _, fun s0' hs0' => ⟨Nat.le_of_ble_eq_true rfl, fun c0' hc0' => ⟨fl, _, _, rfl, rfl, ((Same.upd' hs0').trans (Same.upd' hc0')) _ _ (t0 _ _ efl2), by omega, nb t0 hs0' hc0' (fun b hb => ?_)⟩⟩⟩
            obtain ⟨_, _, p3⟩ := List.pairwise_append.mp gd.ap
            have hle := gd.le _ (List.mem_append_right _ (List.mem_singleton.mpr rfl) : (f, l0, ns) ∈ bs0 ++ [(f, l0, ns)])
            have hle : f ≤ l0 := hle
            rcases List.mem_append.mp hb with hb | hb
            · have : b.2.1 + m < f := p3 b hb _ (List.mem_singleton.mpr rfl)
              omega
            · rw [List.mem_singleton.mp hb]
              show l0 + m < t
              omega
          · have e : ¬ t - l0 > m := e
            have lns : ns.length ≤ n := by
              have := (gd.am _ (List.mem_append_right _ (List.mem_singleton.mpr rfl) : (f, l0, ns) ∈ bs0 ++ [(f, l0, ns)])).length_eq
              have this : ns.length = _ := this
              rw [this, List.length_map]
              refine Nat.le_trans (List.length_filter_le _ _) ?_
              rw [List.length_take]
              omega
            rw [List.length_append] at lb
            refine ⟨cs0, c, bs0, f, l0, ns, rfl, s2.trans t0, t0 _ _ esl2, tp2.trans t0.tp, t0 _ _ efl2, bl_same t0 hb0, ⟨hcb.1, hcb.2.1, hc1, t0 _ _ hcb.2.2.2⟩, nd2, by rw [tk]; exact gd_ext hm gd hall (by omega), by omega, lns⟩
      · rintro σ' H3 ⟨cs0, c, bs0, f, l0, ns, rfl, s3, esl3, tp3, efl3, hbl3, hc, nd3, gd3, lb3, lns⟩
        obtain ⟨h01, h02, hc1, hc2⟩ := hc
        have ndc : c.1 ∉ adr cs0 ∧ c.2 ∉ adr cs0 ∧ c.1 ≠ c.2 ∧ fl ≠ c.1 ∧ fl ≠ c.2 ∧ sl ≠ c.1 ∧ sl ≠ c.2 := by
          rw [adr_snoc] at nd3
          simp only [List.nodup_cons, List.mem_cons, List.mem_append, List.nodup_append, List.not_mem_nil, or_false, not_or] at nd3
          obtain ⟨⟨_, _, q1, q2⟩, ⟨_, q3, q4⟩, _, ⟨q5, _⟩, q6⟩ := nd3
          exact ⟨fun h => q6 _ h _ (.inl rfl) rfl, fun h => q6 _ h _ (.inr rfl) rfl, q5, q3, q4, q1, q2⟩
        refine ⟨_, rfl, _, rfl, _, rfl, fl, _, _, _, rfl, rfl, SqL.of efl3, atI_lastC cs0 c, c.1, _, 1, rfl, rfl, hc1, (by show 1 < 3; decide), ?_⟩
        have hH4 : (upd H3 c.1 (.lst [.int f, .int t, .ref c.2])) c.1 = some (.lst [.int f, .int t, .ref c.2]) := upd_same
        have tp4 : Tp H3 (upd H3 c.1 (.lst [.int f, .int t, .ref c.2])) := (Tp.refl H3).upd hc1 fun xs => by intro z; cases z
        have efl4 : (upd H3 c.1 (.lst [.int f, .int t, .ref c.2])) fl = some (.lst ((cs0 ++ [c]).map fun c => .ref c.1)) := by rw [upd_ne ndc.2.2.2.1]; exact efl3
        have esl4 : (upd H3 c.1 (.lst [.int f, .int t, .ref c.2])) sl = some (.lst rs) := by rw [upd_ne ndc.2.2.2.2.2.1]; exact esl3
        have hc4 : (upd H3 c.1 (.lst [.int f, .int t, .ref c.2])) c.2 = some (.lst (ns.map V.int)) := by rw [upd_ne ndc.2.2.1.symm]; exact hc2
        have hbl4 : Paired (BlAt H (upd H3 c.1 (.lst [.int f, .int t, .ref c.2]))) cs0 bs0 := bl_keep hbl3 ndc.1
        have s4 : Same H (upd H3 c.1 (.lst [.int f, .int t, .ref c.2])) := s3.updN h01
        show _
        refine ⟨_, rfl, _, rfl, fl, _, _, _, rfl, rfl, SqL.of efl4, atI_lastC cs0 c, c.1, _, _, _, rfl, rfl, SqL.of hH4, i2, .inl ⟨rfl, _, SqL.of hc4⟩, _, rfl, c.2, _, _, rfl, rfl, hc4, by rw [List.length_map]; omega, ?_⟩
        have tp5 : Tp (upd H3 c.1 (.lst [.int f, .int t, .ref c.2])) (upd (upd H3 c.1 (.lst [.int f, .int t, .ref c.2])) c.2 (.lst (ns.map V.int ++ [.int a]))) := (Tp.refl _).upd hc4 fun xs => by intro z; cases z
        refine ⟨_, _, cs0 ++ [c], bs0 ++ [(f, t, ns ++ [a])], rfl, s4.updN h02, by rw [upd_ne ndc.2.2.2.2.2.2]; exact esl4, (tp3.trans tp4).trans tp5, by rw [upd_ne ndc.2.2.2.2.1]; exact efl4, paired_app (bl_keep hbl4 ndc.2.1) (.cons ⟨h01, h02, by rw [upd_ne ndc.2.2.1]; exact hH4, by rw [upd_same, List.map_append]; rfl⟩ .nil), nd3, gd3, by rw [List.length_append, List.length_singleton]; omega⟩
    · rintro σ H2 ⟨o3, o4, cs, bs, rfl, s2, esl2, tp2, efl2, hbl, nd2, gd, lb⟩
      rw [lrs, List.take_of_length_le (Nat.le_refl _)] at gd
      have gd' := gd_perm gd pm
      have hposb : ∀ b ∈ bs, 0 < b.2.2.length := fun b hb => by
        rw [(gd.am b hb).length_eq, List.length_map]
        obtain ⟨i, hi, e⟩ := gd.lo b hb
        exact List.length_pos_of_mem (List.mem_filter.mpr ⟨hi, decide_eq_true ⟨by omega, by have := gd.le b hb; omega⟩⟩)
      refine ⟨Nat.zero_le _, fun dl hdl => ?_⟩
      have hdl0 : H dl = none := s2.free hdl
      have s3 := Same.upd' (o := .lst []) hdl
      have edl : (upd H2 dl (.lst [])) dl = some (.lst []) := upd_same
      generalize upd H2 dl (.lst []) = H3 at s3 edl ⊢
      have lcb := Paired.length hbl
      refine ⟨_, rfl, fl, rfl, ⟨_, SqL.of (s3 _ _ efl2)⟩, for_list (K := K) (xs := cs.map fun c => .ref c.1) (fun n σ H' => ∃ (o6 o7 o8 : Option V) (acc : List V), σ = [some (.ref l), some (.int m), some (.ref fl), o3, o4, some (.ref dl), o6, o7, o8] ∧ Same H2 H' ∧ H' dl = some (.lst acc) ∧ Pcs m H' acc (bs.take n))
        ⟨none, none, none, [], rfl, s3, edl, .nil⟩ (fun n σ H' _ ⟨_, _, _, _, _, s', _⟩ => SqL.of (s' _ _ efl2)) ?_ ?_⟩
      · rintro n y σ H4 hy ⟨o6, o7, o8, acc, rfl, s4, edl4, hp4⟩
        obtain ⟨c, hc, rfl⟩ := map_snoc_at hy
        obtain ⟨lp, f⟩ := paired_at hbl
        have hnb : n < bs.length := by have := (List.getElem?_eq_some_iff.mp hc).1; omega
        have ebn : bs[n]? = some bs[n] := List.getElem?_eq_getElem hnb
        have hpos := hposb _ (List.getElem_mem hnb)
        obtain ⟨_, _, hc1, hc2⟩ := f n c _ hc ebn
        generalize bs[n] = b at ebn hpos hc1 hc2
        have hc1' := s4 _ _ hc1
        have hc2' := s4 _ _ hc2
        have lacc : acc.length ≤ 1000 := by rw [hp4.len, List.length_take]; omega
        refine ⟨c.1, _, rfl, SqL.of hc1', rfl, _, _, rfl, _, _, rfl, _, _, rfl, rfl, ?_⟩
        refine ⟨_, rfl, .inl ⟨rfl, _, SqL.of edl4⟩, _, rfl, _, rfl, _, rfl, _, _, rfl, rfl, _, _, rfl, rfl, _, rfl, c.2, _, rfl, .inl (SqL.of hc2'), _, rfl, c.2, _, rfl, SqL.of hc2', _, rfl, c.2, _, rfl, SqL.of hc2', hpos, fun mn hm1 hm2 => ⟨_, rfl, c.2, _, rfl, SqL.of hc2', hpos, fun mx hx1 hx2 => ⟨Nat.le_of_ble_eq_true rfl, fun q hq => ⟨Nat.le_of_ble_eq_true rfl, fun p hp => ?_⟩⟩⟩⟩
        have t1 : Same H4 (upd H4 q (.tup [.int ((b.2.2.map V.int).length : Int), .int b.2.2.sum, .int mn, .int mx])) := Same.upd' hq
        have eq : (upd H4 q (.tup [.int ((b.2.2.map V.int).length : Int), .int b.2.2.sum, .int mn, .int mx])) q = some (.tup [.int ((b.2.2.map V.int).length : Int), .int b.2.2.sum, .int mn, .int mx]) := upd_same
        generalize upd H4 q (.tup [.int ((b.2.2.map V.int).length : Int), .int b.2.2.sum, .int mn, .int mx]) = H5 at t1 eq hp ⊢
        have t2 : Same H5 (upd H5 p (.tup [.int b.1, .int (b.2.1 + m + 1), .ref q])) := Same.upd' hp
        have ep : (upd H5 p (.tup [.int b.1, .int (b.2.1 + m + 1), .ref q])) p = some (.tup [.int b.1, .int (b.2.1 + m + 1), .ref q]) := upd_same
        have t12 : Same H4 (upd H5 p (.tup [.int b.1, .int (b.2.1 + m + 1), .ref q])) := t1.trans t2
        have edl6 := t12 _ _ edl4
        have tp6 : Tp (upd H5 p (.tup [.int b.1, .int (b.2.1 + m + 1), .ref q])) (upd (upd H5 p (.tup [.int b.1, .int (b.2.1 + m + 1), .ref q])) dl (.lst (acc ++ [.ref p]))) := (Tp.refl _).upd edl6 fun xs => by intro z; cases z
        refine ⟨dl, _, _, rfl, rfl, edl6, by omega, _, _, _, acc ++ [.ref p], rfl, (s4.trans t12).updN hdl, upd_same, ?_⟩
        rw [List.take_add_one, ebn]
        exact Pcs.keep (paired_app (hp4.keep t12.tp) (.cons ⟨p, q, _, rfl, ep, t2 _ _ eq, mn, mx, by rw [List.length_map], hm1, hm2, hx1, hx2⟩ .nil)) tp6
      · rintro σ H4 ⟨o6, o7, o8, acc, rfl, s4, edl4, hp4⟩
        rw [List.length_map, lcb, List.take_of_length_le (Nat.le_refl _)] at hp4
        exact ⟨_, rfl, k _ dl acc _ (s2.trans s4) hdl0 edl4 hp4 gd'⟩
def spTime : Sp := fun vs H Q _ => ∃ (l : Addr) (xs : List V) (its : Its2) (m c : Int), vs = [.int c, .ref l, .int m] ∧ H l = some (.lst xs) ∧ Rws H xs (its.map tmK) ∧ ∀ H' t, Same H H' → Q (.int t) H'
theorem ok_time (T : Tx K mg ad) : FnOk P w K mg base CX0 1 ad.a_u_law_time_by ad.d_u_law_time_by ["_law_cell", "_law_items", "_law_most"] spTime := by
  refine T.F_u_law_time_by.ok sc_u_law_time_by (fun vs H Q E h => ?_) (fun cdv A outer s H vs Q E hr h => ?_)
  · obtain ⟨l, xs, its, m, c, rfl, _⟩ := h
    rfl
  · obtain ⟨l, xs, its, m, c, rfl, el, hw, k⟩ := h
    have nd := sc_u_law_time_by.nd
    refine ⟨_, (pss_cons (ps_set (i := 3) nd rfl (Or.inl rfl) pe_int)
        (pss_cons (ps_cut (ps_if (pt_cmpR (op_neNil (K := K) hr.units0) (pv 1) (pe_lst pa_nil) (nomark _))
        (pss_one (ps_set (i := 3) nd rfl (Or.inl rfl) (pe_ix (ix_tupK (K := K)) (pe_ix (ix_listK (K := K)) (pv 1) (pe_op op_mod (pe_op op_fdiv (pv 0) pe_int) (pe_callB (call_len_seqK (K := K)) (by rfl) T.z_len PySem.boot_len (pa_cons (pv 1) pa_nil))) (fun _ _ => rfl)) pe_int (fun _ _ => rfl))))
        pss_nil))
        (pss_cons (ps_if (pt_cmpR op_eq (pe_op op_mod (pv 0) pe_int) pe_int (nomark _))
        (pss_one (ps_ret (pe_callB (call_max2 rfl) (by rfl) T.z_max PyProof.Rows.boot_max (pa_cons pe_int (pa_cons (pe_callB (call_min2 rfl) (by rfl) T.z_min PyProof.Rows.boot_min (pa_cons pe_int (pa_cons (pe_op op_sub (pe_op op_add (pv 3) (pe_op op_mod (pe_op op_fdiv (pv 0) pe_int) pe_int)) pe_int) pa_nil))) pa_nil)))))
        pss_nil)
        (pss_cons (ps_if (pt_cmpR op_eq (pe_op op_mod (pv 0) pe_int) pe_int (nomark _))
        (pss_one (ps_ret (pe_op op_mod (pe_op op_fdiv (pv 0) pe_int) pe_int)))
        pss_nil)
        (pss_cons (ps_set (i := 4) nd rfl (Or.inl rfl) (pe_op op_sub pe_int (pe_op op_mul pe_int (pe_op op_mod (pe_op op_fdiv (pv 0) pe_int) pe_int))))
        (pss_one (ps_ret (pe_callB (call_max2 rfl) (by rfl) T.z_max PyProof.Rows.boot_max (pa_cons pe_int (pa_cons (pe_callB (call_min2 rfl) (by rfl) T.z_min PyProof.Rows.boot_min (pa_cons pe_int (pa_cons (pe_op op_add (pv 3) (pe_op op_mul (pv 4) (pe_op op_sub (pe_op op_add (pv 2) (pe_op op_mod (pe_op op_fdiv (pv 0) pe_int) pe_int)) pe_int))) pa_nil))) pa_nil)))))))))), ?_⟩
    have j0 : ∀ {a b : V}, atI [a, b] 0 = some a := atI_nat (j := 0) rfl
    refine cutBy (fun σ' H' => Same H H' ∧ ∃ nr : Int, σ' = [some (.int c), some (.ref l), some (.int m), some (.int nr), none]) ?_ ?_
    · refine ⟨_, rfl, Nat.zero_le _, fun e0 he0 => ?_⟩
      have t0 := Same.upd' (o := .lst []) he0
      have ee0 : (upd H e0 (.lst [])) e0 = some (.lst []) := upd_same
      generalize upd H e0 (.lst []) = H1 at t0 ee0 ⊢
      refine ⟨l, e0, _, rfl, rfl, SqL.of (t0 _ _ el), SqL.of ee0, _, rfl, ?_⟩
      cases xs with
      | nil => exact iteF ⟨t0, _, rfl⟩
      | cons x r =>
        refine iteT ?_
        obtain ⟨v, hv, mv⟩ := atI_mod (x :: r) _ rfl (by simp only [List.length_cons]; omega) (c / 4)
        obtain ⟨i, hi, rfl⟩ := List.mem_iff_getElem.mp mv
        obtain ⟨b, ks, eb, ek, ebt⟩ := hw.at (List.getElem?_eq_getElem hi)
        obtain ⟨⟨t, a⟩, ei, rfl⟩ := map_snoc_at ek
        rw [eb] at hv
        have ebt1 : H1 b = some (.tup [.int t, .int a]) := t0 _ _ ebt
        exact ⟨_, rfl, _, rfl, _, _, rfl, rfl, ⟨by decide, by decide⟩, _, rfl, l, _, rfl, .inl (SqL.of (t0 _ _ el)), _, _, rfl, rfl, (by simp only [List.length_cons]; omega), l, _, _, _, rfl, rfl, SqL.of (t0 _ _ el), hv, b, _, _, _, rfl, rfl, SqT.of ebt1, j0, t0, _, rfl⟩
    rintro σ' H1 ⟨s1, nr, rfl⟩
    refine ⟨_, rfl, _, _, rfl, rfl, (by decide : (0 : Int) < 4), rfl, _, rfl, iteVI (fun _ => ?_) fun _ => ?_⟩
    · exact ⟨_, rfl, _, rfl, _, _, rfl, rfl, ⟨by decide, by decide⟩, _, _, rfl, rfl, (by decide : (0 : Int) < 31), _, _, rfl, rfl, _, _, rfl, rfl, _, _, rfl, _, _, rfl, k _ _ s1⟩
    · refine ⟨_, rfl, _, _, rfl, rfl, (by decide : (0 : Int) < 4), rfl, _, rfl, iteVI (fun _ => ?_) fun _ => ?_⟩
      · exact ⟨_, rfl, _, _, rfl, rfl, ⟨by decide, by decide⟩, _, _, rfl, rfl, (by decide : (0 : Int) < 1000000001), k _ _ s1⟩
      · have b2 : 0 ≤ c / 12 % 2 ∧ c / 12 % 2 < 2 := ⟨Int.emod_nonneg _ (by decide), Int.emod_lt_of_pos _ (by decide)⟩
        refine ⟨_, rfl, _, _, rfl, rfl, ⟨by decide, by decide⟩, _, _, rfl, rfl, (by decide : (0 : Int) < 2), _, _, rfl, rfl, .inl ⟨by decide, by decide⟩, _, _, rfl, rfl, ?_⟩
        exact ⟨_, rfl, _, rfl, _, rfl, _, rfl, _, _, rfl, rfl, ⟨by decide, by decide⟩, _, _, rfl, rfl, (by decide : (0 : Int) < 3), _, _, rfl, rfl, _, _, rfl, rfl, _, _, rfl, rfl, .inl ⟨by omega, by omega⟩, _, _, rfl, rfl, _, _, rfl, _, _, rfl, k _ _ s1⟩
def spPR : Sp := fun vs H Q _ => ∃ (l : Addr) (xs : List V) (ps : List Bk) (m c : Int), vs = [.ref l, .int c] ∧ H l = some (.lst xs) ∧ Pcs m H xs ps ∧ ps.length ≤ 1000 ∧ ∀ H', Same H H' → Q (.bl true) H'
theorem ok_pr (T : Tx K mg ad) : FnOk P w K mg base CX0 2 ad.a_u_law_parted_right ad.d_u_law_parted_right ["_law_pieces", "_law_cell"] spPR := by
  have G_parted := ok_parted (P := P) (w := w) (base := base) T
  have G_u_law_right := ok_right (P := P) (w := w) (base := base) T
  refine T.F_u_law_parted_right.ok sc_u_law_parted_right (fun vs H Q E h => ?_) (fun cdv A outer s H vs Q E hr h => ?_)
  · obtain ⟨l, xs, ps, m, c, rfl, _⟩ := h
    rfl
  · obtain ⟨l, xs, ps, m, c, rfl, el, hw, hl, k⟩ := h
    have nd := sc_u_law_parted_right.nd
    refine ⟨_, (pss_cons (ps_set (i := 2) nd rfl (Or.inr rfl) (pe_op op_mod (pv 1) pe_int))
        (pss_cons (ps_cut (ps_if (PW.pt (pw_and (pt_cmpR (op_neNil (K := K) hr.units0) (pv 0) (pe_lst pa_nil) (nomark _)) (pw_and1 (pt_cmpR op_gt (pe_op op_mod (pv 1) pe_int) pe_int (nomark _)))))
        (pss_one (ps_set (i := 2) nd rfl (Or.inr rfl) (pe_callB (call_min2 rfl) (by rfl) T.z_min PyProof.Rows.boot_min (pa_cons pe_int (pa_cons (pe_op op_sub (pe_op op_add (pe_ix (ix_tupK (K := K)) (pe_ix (ix_listK (K := K)) (pv 0) (pe_op op_mod (pe_op op_fdiv (pv 1) pe_int) (pe_callB (call_len_seqK (K := K)) (by rfl) T.z_len PySem.boot_len (pa_cons (pv 0) pa_nil))) (fun _ _ => rfl)) pe_int (fun _ _ => rfl)) (pe_op op_mod (pe_op op_fdiv (pv 1) pe_int) pe_int)) pe_int) pa_nil)))))
        pss_nil))
        (pss_cons (ps_set (i := 3) nd rfl (Or.inl rfl) (pe_callTy (call_list_ofK (K := K)) (by rfl) T.z_list PyProof.Rows.boot_list (pa_cons (pv 0) pa_nil)))
        (pss_cons (ps_set (i := 4) nd rfl (Or.inl rfl) (pe_call G_parted (hr.mono (by decide)) (by rfl) T.m_parted T.F_parted.kp T.b_parted .nil pass0 (pa_cons (pv 3) (pa_cons (pv 2) pa_nil))))
        (pss_cons (ps_if (PW.pt (pw_or (pt_not (pt_val (pe_callB (call_isinst (K := K)) (by rfl) T.z_isinstance PyProof.Rows.boot_isinstance (pa_cons (pv 4) (pa_cons (pe_bltn (v := .ty "tuple") (by rfl) T.z_tuple PyProof.Rows.boot_tuple rfl) pa_nil))))) (pw_or (pt_cmpR op_ne (pe_callB (call_len_seqK (K := K)) (by rfl) T.z_len PySem.boot_len (pa_cons (pv 4) pa_nil)) pe_int (nomark _)) (pw_or1 (pt_cmpR (op_neD (K := K) hr.units) (pv 3) (pv 0) (nomark _))))))
        (pss_one (ps_ret pe_bl))
        pss_nil)
        (pss_cons (ps_setC (i := 5) (osc := defScope s_u_law_parted_right) [("_law_now", 2)] nd rfl (Or.inl rfl) rfl (pi_listK (K := K) (pv 0)) rfl rfl (by decide +kernel) (by decide +kernel) (by decide +kernel) ⟨rfl, rfl, trivial⟩ rfl (by decide +kernel) (fun _ _ _ _ => pts_one (pt_cmpR op_le (pe_ix (ix_tupK (K := K)) (pv 0) pe_int (fun _ _ => rfl)) (pv 1) (nomark _))) (fun _ _ _ _ => (pv 0)))
        (pss_cons (ps_setC (i := 6) (osc := defScope s_u_law_parted_right) [("_law_now", 2)] nd rfl (Or.inl rfl) rfl (pi_listK (K := K) (pv 0)) rfl rfl (by decide +kernel) (by decide +kernel) (by decide +kernel) ⟨rfl, rfl, trivial⟩ rfl (by decide +kernel) (fun _ _ _ _ => pts_one (pt_cmpR op_gt (pe_ix (ix_tupK (K := K)) (pv 0) pe_int (fun _ _ => rfl)) (pv 1) (nomark _))) (fun _ _ _ _ => (pv 0)))
        (pss_cons (ps_if (PW.pt (pw_or (pt_not (pt_val (pe_call G_u_law_right (hr.mono (by decide)) (by rfl) T.m_u_law_right T.F_u_law_right.kp T.b_u_law_right .nil pass0 (pa_cons (pe_ix (ix_tupK (K := K)) (pv 4) pe_int (fun _ _ => rfl)) (pa_cons (pv 5) pa_nil))))) (pw_or1 (pt_not (pt_val (pe_call G_u_law_right (hr.mono (by decide)) (by rfl) T.m_u_law_right T.F_u_law_right.kp T.b_u_law_right .nil pass0 (pa_cons (pe_ix (ix_tupK (K := K)) (pv 4) pe_int (fun _ _ => rfl)) (pa_cons (pv 6) pa_nil))))))))
        (pss_one (ps_ret pe_bl))
        pss_nil)
        (pss_cons (ps_expr (pe_bmK (K := K) PySem.F.plainAttrs_list PySem.F.slot_list_append PySem.F.type_list_append mt_append (pe_ix (ix_tupK (K := K)) (pv 4) pe_int (fun _ _ => rfl)) (pa_cons pe_int pa_nil)))
        (pss_cons (ps_expr (pe_bmK (K := K) PySem.F.plainAttrs_list PySem.F.slot_list_append PySem.F.type_list_append mt_append (pe_ix (ix_tupK (K := K)) (pv 4) pe_int (fun _ _ => rfl)) (pa_cons pe_int pa_nil)))
        (pss_one (ps_ret (pe_and (pe_cmpR (op_eqD (K := K) hr.units) (pv 3) (pv 0) (nomark _)) (pe_one (pe_cmpR (op_eqD (K := K) hr.units) (pe_call G_parted (hr.mono (by decide)) (by rfl) T.m_parted T.F_parted.kp T.b_parted .nil pass0 (pa_cons (pv 3) (pa_cons (pv 2) pa_nil))) (pe_tup (pa_cons (pv 5) (pa_cons (pv 6) pa_nil))) (nomark _)))))))))))))))), ?_⟩
    have sz : sizeLine = 16777216 := sizeLine_eq
    have i1 : ∀ {a b c : V}, atI [a, b, c] 1 = some b := atI_nat (j := 1) rfl
    have j0 : ∀ {a b : V}, atI [a, b] 0 = some a := atI_nat (j := 0) rfl
    have j1 : ∀ {a b : V}, atI [a, b] 1 = some b := atI_nat (j := 1) rfl
    have lx := hw.len
    refine ⟨_, rfl, _, _, rfl, rfl, (by decide : (0 : Int) < 1000000001), ?_⟩
    refine cutBy (fun σ' H' => Same H H' ∧ ∃ now : Int, σ' = [some (.ref l), some (.int c), some (.int now), none, none, none, none]) ?_ ?_
    · refine ⟨_, rfl, Nat.zero_le _, fun e0 he0 => ?_⟩
      have t0 := Same.upd' (o := .lst []) he0
      have ee0 : (upd H e0 (.lst [])) e0 = some (.lst []) := upd_same
      generalize upd H e0 (.lst []) = H1 at t0 ee0 ⊢
      refine ⟨l, e0, _, rfl, rfl, SqL.of (t0 _ _ el), SqL.of ee0, _, rfl, ?_⟩
      cases xs with
      | nil => exact iteF ⟨t0, _, rfl⟩
      | cons x r =>
        refine iteT ⟨_, rfl, _, _, rfl, rfl, (by decide : (0 : Int) < 3), _, _, rfl, rfl, _, rfl, iteP (fun _ => ?_) fun _ => ⟨t0, _, rfl⟩⟩
        obtain ⟨v, hv, mv⟩ := atI_mod (x :: r) _ rfl (by simp only [List.length_cons]; omega) (c / 3)
        obtain ⟨i, hi, rfl⟩ := List.mem_iff_getElem.mp mv
        obtain ⟨p, b, q, ts, ep, eb, ebt, _, _⟩ := hw.ix (List.getElem?_eq_getElem hi)
        rw [eb] at hv
        exact ⟨_, rfl, _, rfl, _, _, rfl, rfl, ⟨by decide, by decide⟩, _, rfl, l, _, rfl, .inl (SqL.of (t0 _ _ el)), _, _, rfl, rfl, (by simp only [List.length_cons]; omega), l, _, _, _, rfl, rfl, SqL.of (t0 _ _ el), hv, b, _, _, _, rfl, rfl, SqT.of (t0 _ _ ebt), i1, _, rfl, _, _, rfl, rfl, ⟨by decide, by decide⟩, _, _, rfl, rfl, (by decide : (0 : Int) < 3), _, _, rfl, rfl, _, _, rfl, rfl, _, _, rfl, t0, _, rfl⟩
    rintro σ' H1 ⟨s1, now, rfl⟩
    have el1 := s1 _ _ el
    have hw1 := hw.keep s1.tp
    refine ⟨_, rfl, l, xs, rfl, .inl (SqL.of el1), fun hl' hhl => ?_⟩
    have s2 := Same.upd' (o := .lst xs) hhl
    have ehl : (upd H1 hl' (.lst xs)) hl' = some (.lst xs) := upd_same
    generalize upd H1 hl' (.lst xs) = H2 at s2 ehl ⊢
    have el2 := s2 _ _ el1
    have hw2 := hw1.keep s2.tp
    refine ⟨_, rfl, _, rfl, hl', xs, ps, m, now, rfl, ehl, hw2, hl, fun H3 q r1 r2 x1 x2 s3 hr1 hr2 n12 eq e1 e2 hp1 hp2 => ?_⟩
    obtain ⟨D, d1, d2, sh, _⟩ := pcs_same (K := K) (hw2.keep s3.tp) (hw2.keep s3.tp) (same_refl ps) (s3 _ _ ehl) (s3 _ _ el2)
    refine ⟨_, rfl, _, "tuple", _, true, rfl, .tup eq, rfl, _, rfl, iteF ⟨_, rfl, q, _, rfl, .inr (SqT.of eq), rfl, _, rfl, iteNS rfl ⟨_, rfl, _, rfl, neD_same d1 d2 sh ⟨_, rfl, iteF ?_⟩⟩⟩⟩
    have el3 := s3 _ _ el2
    have hw3 := hw2.keep s3.tp
    refine ⟨_, rfl, l, rfl, ⟨_, SqL.of el3⟩, ?_⟩
    refine comp_list (K := K) (xs := xs) (fun n τ acc H' => (∃ o, τ = [o, some (.int now)]) ∧ H' = H3 ∧ Pcs m H3 acc ((ps.take n).filter fun p => decide (p.2.1 + m + 1 ≤ now))) (by omega) ⟨⟨none, rfl⟩, rfl, .nil⟩ (fun n τ acc H' ⟨_, e, _⟩ => by rw [e]; exact SqL.of el3) ?_ ?_
    · rintro n y τ acc H' R1 R0 hy _ ⟨⟨o, rfl⟩, rfl, hp⟩ k1 k0
      obtain ⟨p, b, q, ts, ep, rfl, eb, eq, tal⟩ := hw3.ix hy
      have fs := filt_snoc' (p := fun p => decide (p.2.1 + m + 1 ≤ now)) ep
      refine ⟨_, rfl, b, _, _, _, rfl, rfl, SqT.of eb, i1, _, rfl, _, _, rfl, rfl, _, rfl, iteP (fun e => ⟨_, rfl, k1 _ _ _ ⟨⟨_, rfl⟩, rfl, ?_⟩⟩) fun e => k0 _ _ ⟨⟨_, rfl⟩, rfl, ?_⟩⟩
      · rw [if_pos (decide_eq_true e)] at fs
        rw [fs]; exact paired_app hp (.cons ⟨b, q, ts, rfl, eb, eq, tal⟩ .nil)
      · rw [if_neg (by simpa using e), List.append_nil] at fs
        rw [fs]; exact hp
    rintro τ y1 H' _ ⟨_, rfl, hq1⟩ o1 ho1
    rw [List.take_of_length_le (by omega)] at hq1
    have s4 := Same.upd' (o := .lst y1) ho1
    have f1 : (upd H' o1 (.lst y1)) o1 = some (.lst y1) := upd_same
    have hq1' := hq1.keep s4.tp
    have no1 : ∀ {x : Addr} {o : HO}, H' x = some o → x ≠ o1 := fun e => ne_of_none e ho1
    have a1 := no1 e1
    have a2 := no1 e2
    generalize upd H' o1 (.lst y1) = H4 at s4 f1 hq1' ⊢
    have hw4 := hw3.keep s4.tp
    refine ⟨_, rfl, l, rfl, ⟨_, SqL.of (s4 _ _ el3)⟩, ?_⟩
    refine comp_list (K := K) (xs := xs) (fun n τ acc H' => (∃ o, τ = [o, some (.int now)]) ∧ H' = H4 ∧ Pcs m H4 acc ((ps.take n).filter fun p => decide (p.2.1 + m + 1 > now))) (by omega) ⟨⟨none, rfl⟩, rfl, .nil⟩ (fun n τ acc H' ⟨_, e, _⟩ => by rw [e]; exact SqL.of (s4 _ _ el3)) ?_ ?_
    · rintro n y τ acc H5 R1 R0 hy _ ⟨⟨o, rfl⟩, rfl, hp⟩ k1 k0
      obtain ⟨p, b, q, ts, ep, rfl, eb, eq, tal⟩ := hw4.ix hy
      have fs := filt_snoc' (p := fun p => decide (p.2.1 + m + 1 > now)) ep
      refine ⟨_, rfl, b, _, _, _, rfl, rfl, SqT.of eb, i1, _, rfl, _, _, rfl, rfl, _, rfl, iteP (fun e => ⟨_, rfl, k1 _ _ _ ⟨⟨_, rfl⟩, rfl, ?_⟩⟩) fun e => k0 _ _ ⟨⟨_, rfl⟩, rfl, ?_⟩⟩
      · rw [if_pos (decide_eq_true e)] at fs
        rw [fs]; exact paired_app hp (.cons ⟨b, q, ts, rfl, eb, eq, tal⟩ .nil)
      · rw [if_neg (by simpa using e), List.append_nil] at fs
        rw [fs]; exact hp
    rintro τ y2 H5 _ ⟨_, rfl, hq2⟩ o2 ho2
    rw [List.take_of_length_le (by omega)] at hq2
    have s5 := Same.upd' (o := .lst y2) ho2
    have f2 : (upd H5 o2 (.lst y2)) o2 = some (.lst y2) := upd_same
    have hq2' := hq2.keep s5.tp
    have no2 : ∀ {x : Addr} {o : HO}, H5 x = some o → x ≠ o2 := fun e => ne_of_none e ho2
    have b1 := no2 (s4 _ _ e1)
    have b2 := no2 (s4 _ _ e2)
    have s35 := s4.trans s5
    generalize upd H5 o2 (.lst y2) = H6 at s5 f2 hq2' s35 ⊢
    have f1' := s5 _ _ f1
    have hq1'' := hq1'.keep s5.tp
    refine ⟨_, rfl, q, _, _, _, rfl, rfl, SqT.of (s35 _ _ eq), j0, _, rfl, r1, o1, x1, y1, _, _, m, rfl, s35 _ _ e1, f1', hp1.keep s35.tp, hq1'', same_refl _, fun H7 s7 => ⟨_, rfl, iteF ?_⟩⟩
    have s37 := s35.trans s7
    refine ⟨_, rfl, q, _, _, _, rfl, rfl, SqT.of (s37 _ _ eq), j1, _, rfl, r2, o2, x2, y2, _, _, m, rfl, s37 _ _ e2, s7 _ _ f2, hp2.keep s37.tp, hq2'.keep s7.tp, same_refl _, fun H8 s8 => ⟨_, rfl, iteF ?_⟩⟩
    have s38 := s37.trans s8
    have l1 : x1.length ≤ 1000 := by rw [hp1.len]; exact Nat.le_trans (List.length_filter_le _ _) hl
    have l2 : x2.length ≤ 1000 := by rw [hp2.len]; exact Nat.le_trans (List.length_filter_le _ _) hl
    have e18 := s38 _ _ e1
    refine ⟨_, rfl, q, _, _, _, rfl, rfl, SqT.of (s38 _ _ eq), j0, .inl ⟨rfl, _, SqL.of e18⟩, r1, _, _, rfl, rfl, e18, by omega, ?_⟩
    have tp9 : Tp H8 (upd H8 r1 (.lst (x1 ++ [.int 1]))) := (Tp.refl H8).upd e18 fun xs => by intro z; cases z
    have e29 : (upd H8 r1 (.lst (x1 ++ [.int 1]))) r2 = some (.lst x2) := by rw [upd_ne n12.symm]; exact s38 _ _ e2
    have s29 : Same H2 (upd H8 r1 (.lst (x1 ++ [.int 1]))) := (s3.trans s38).updN hr1
    have f19 : (upd H8 r1 (.lst (x1 ++ [.int 1]))) o1 = some (.lst y1) := by rw [upd_ne a1.symm]; exact (s7.trans s8) _ _ f1'
    have f29 : (upd H8 r1 (.lst (x1 ++ [.int 1]))) o2 = some (.lst y2) := by rw [upd_ne b1.symm]; exact (s7.trans s8) _ _ f2
    have eq9 := tp9 _ _ (s38 _ _ eq)
    have hA := (hq1''.keep (s7.trans s8).tp).keep tp9
    have hB := (hq2'.keep (s7.trans s8).tp).keep tp9
    generalize upd H8 r1 (.lst (x1 ++ [.int 1])) = H9 at tp9 e29 s29 f19 f29 eq9 hA hB ⊢
    refine ⟨_, rfl, q, _, _, _, rfl, rfl, SqT.of eq9, j1, .inl ⟨rfl, _, SqL.of e29⟩, r2, _, _, rfl, rfl, e29, by omega, ?_⟩
    have tpA : Tp H9 (upd H9 r2 (.lst (x2 ++ [.int 1]))) := (Tp.refl H9).upd e29 fun xs => by intro z; cases z
    have s2A : Same H2 (upd H9 r2 (.lst (x2 ++ [.int 1]))) := s29.updN hr2
    have f1A : (upd H9 r2 (.lst (x2 ++ [.int 1]))) o1 = some (.lst y1) := by rw [upd_ne a2.symm]; exact f19
    have f2A : (upd H9 r2 (.lst (x2 ++ [.int 1]))) o2 = some (.lst y2) := by rw [upd_ne b2.symm]; exact f29
    have hAA := hA.keep tpA
    have hBA := hB.keep tpA
    generalize upd H9 r2 (.lst (x2 ++ [.int 1])) = HA at s2A f1A f2A hAA hBA ⊢
    obtain ⟨D2, d3, d4, sh2, _⟩ := pcs_same (K := K) (hw2.keep s2A.tp) (hw2.keep s2A.tp) (same_refl ps) (s2A _ _ ehl) (s2A _ _ el2)
    refine ⟨_, rfl, _, rfl, eqD_same d3 d4 sh2 ⟨_, rfl, iteT ?_⟩⟩
    refine ⟨_, rfl, _, rfl, hl', xs, ps, m, now, rfl, s2A _ _ ehl, hw2.keep s2A.tp, hl, fun HB q2 r3 r4 x3 x4 sB _ _ _ eq2 e3 e4 hp3 hp4 => ?_⟩
    refine ⟨_, rfl, _, rfl, Nat.le_of_ble_eq_true rfl, fun u hu => ?_⟩
    have sC := Same.upd' (o := .tup [.ref o1, .ref o2]) hu
    have eu : (upd HB u (.tup [.ref o1, .ref o2])) u = some (.tup [.ref o1, .ref o2]) := upd_same
    generalize upd HB u (.tup [.ref o1, .ref o2]) = HC at sC eu ⊢
    have sAC := sB.trans sC
    obtain ⟨G1, v1, v2, _, g1, rfl, w1, w2⟩ := pcs_same (K := K) (hp3.keep sC.tp) (hAA.keep sAC.tp) (same_refl _) (sC _ _ e3) (sAC _ _ f1A)
    obtain ⟨G2, v3, v4, _, g2, rfl, w3, w4⟩ := pcs_same (K := K) (hp4.keep sC.tp) (hBA.keep sAC.tp) (same_refl _) (sC _ _ e4) (sAC _ _ f2A)
    refine eqD_same (d := .tuple [.list g1, .list g2]) (.tup (SqT.of (sC _ _ eq2)) (.cons v1 (.cons v3 .nil))) (.tup (SqT.of eu) (.cons v2 (.cons v4 .nil))) ?_ (k _ (s1.trans (s2.trans (s2A.trans sAC))))
    simp [SeqAt.shaped, PyData.canLay0, PyData.canLayAll0, PyData.depth, PyData.depthAll, w1, w3]
    omega
theorem len_cutV (xs : List V) (lo hi : Option Int) : (cutV xs lo hi).length ≤ xs.length := by
  unfold cutV
  rw [List.length_take, List.length_drop]
  omega
theorem ok_law (T : Tx K mg ad) : FnOk P w K mg base CX0 4 ad.a_law ad.d_law ["_law_script"] (sp_law K) := by
  have G_u_law_cell_at := ok_at (P := P) (w := w) (base := base) T
  have G_u_law_time_by := ok_time (P := P) (w := w) (base := base) T
  have G_put_gap := ok_gap (P := P) (w := w) (base := base) T
  have G_u_law_due := ok_due (P := P) (w := w) (base := base) T
  have G_u_law_right := ok_right (P := P) (w := w) (base := base) T
  have G_u_law_parted_right := ok_pr (P := P) (w := w) (base := base) T
  refine T.F_law.ok sc_law (fun vs H Q E h => ?_) (fun cdv A outer s H vs Q E hr h => ?_)
  · obtain ⟨a, ns, rfl, _⟩ := h
    rfl
  · obtain ⟨a, ns, rfl, hS, hl, k⟩ := h
    have nd := sc_law.nd
    refine ⟨_, (pss_cons (ps_set (i := 1) nd rfl (Or.inl rfl) (pe_op op_mod (pe_op op_fdiv (pe_call G_u_law_cell_at (hr.mono (by decide)) (by rfl) T.m_u_law_cell_at T.F_u_law_cell_at.kp T.b_u_law_cell_at .nil pass0 (pa_cons (pv 0) (pa_cons pe_int pa_nil))) pe_int) (pe_ix (ix_listK (K := K)) (pe_lst (pa_cons pe_int (pa_cons pe_int pa_nil))) (pe_op op_mod (pe_call G_u_law_cell_at (hr.mono (by decide)) (by rfl) T.m_u_law_cell_at T.F_u_law_cell_at.kp T.b_u_law_cell_at .nil pass0 (pa_cons (pv 0) (pa_cons pe_int pa_nil))) pe_int) (fun _ _ => rfl))))
        (pss_cons (ps_set (i := 2) nd rfl (Or.inl rfl) (pe_lst pa_nil))
        (pss_cons (ps_set (i := 3) nd rfl (Or.inl rfl) (pe_lst pa_nil))
        (pss_cons (ps_for PassesOwn.never rfl (pi_listK (K := K) (pe_slice (sl_listK (K := K)) (pv 0) (po_some pe_int) (po_some pe_int))) (pg_name (i := 4) nd rfl (Or.inl rfl))
        (pss_cons (ps_set (i := 5) nd rfl (Or.inl rfl) (pe_op op_mul (pe_op op_sub (pe_op op_mod (pe_op op_fdiv (pv 4) pe_int) pe_int) pe_int) (pe_ix (ix_listK (K := K)) (pe_lst (pa_cons pe_int (pa_cons pe_int (pa_cons (pe_op op_pow pe_int pe_int) pa_nil)))) (pe_op op_mod (pe_op op_fdiv (pv 4) pe_int) pe_int) (fun _ _ => rfl))))
        (pss_cons (ps_expr (pe_bmK (K := K) PySem.F.plainAttrs_list PySem.F.slot_list_append PySem.F.type_list_append mt_append (pv 2) (pa_cons (pe_tup (pa_cons (pe_call G_u_law_time_by (hr.mono (by decide)) (by rfl) T.m_u_law_time_by T.F_u_law_time_by.kp T.b_u_law_time_by .nil pass0 (pa_cons (pv 4) (pa_cons (pv 2) (pa_cons (pv 1) pa_nil)))) (pa_cons (pv 5) pa_nil))) pa_nil)))
        (pss_cons (ps_set (i := 6) nd rfl (Or.inl rfl) (pe_callTy (call_list_ofK (K := K)) (by rfl) T.z_list PyProof.Rows.boot_list (pa_cons (pv 3) pa_nil)))
        (pss_cons (ps_set (i := 7) nd rfl (Or.inl rfl) (pe_call G_put_gap (hr.mono (by decide)) (by rfl) T.m_put_gap T.F_put_gap.kp T.b_put_gap .nil pass0 (pa_cons (pv 6) (pa_cons (pe_ix (ix_tupK (K := K)) (pe_ix (ix_listK (K := K)) (pv 2) (pe_un un_neg pe_int) (fun _ _ => rfl)) pe_int (fun _ _ => rfl)) (pa_cons (pe_ix (ix_tupK (K := K)) (pe_ix (ix_listK (K := K)) (pv 2) (pe_un un_neg pe_int) (fun _ _ => rfl)) pe_int (fun _ _ => rfl)) (pa_cons (pv 1) pa_nil))))))
        (pss_cons (ps_if (PW.pt (pw_or (pt_not (pt_val (pe_call G_u_law_right (hr.mono (by decide)) (by rfl) T.m_u_law_right T.F_u_law_right.kp T.b_u_law_right .nil pass0 (pa_cons (pv 7) (pa_cons (pe_call G_u_law_due (hr.mono (by decide)) (by rfl) T.m_u_law_due T.F_u_law_due.kp T.b_u_law_due .nil pass0 (pa_cons (pv 2) (pa_cons (pv 1) pa_nil))) pa_nil))))) (pw_or1 (pt_cmpR (op_neD (K := K) hr.units) (pv 6) (pv 3) (nomark _)))))
        (pss_one (ps_ret pe_bl))
        pss_nil)
        (pss_cons (ps_set (i := 3) nd rfl (Or.inl rfl) (pe_callTy (call_list_ofK (K := K)) (by rfl) T.z_list PyProof.Rows.boot_list (pa_cons (pv 7) pa_nil)))
        (pss_one (ps_expr (pe_bmK (K := K) PySem.F.plainAttrs_list PySem.F.slot_list_append PySem.F.type_list_append mt_append (pv 7) (pa_cons (pe_tup (pa_cons pe_int (pa_cons pe_int (pa_cons (pe_tup (pa_cons pe_int (pa_cons pe_int (pa_cons pe_int (pa_cons pe_int pa_nil))))) pa_nil)))) pa_nil)))))))))))
        (pss_one (ps_ret (pe_and (pe_call G_u_law_parted_right (hr.mono (by decide)) (by rfl) T.m_u_law_parted_right T.F_u_law_parted_right.kp T.b_u_law_parted_right .nil pass0 (pa_cons (pv 3) (pa_cons (pe_call G_u_law_cell_at (hr.mono (by decide)) (by rfl) T.m_u_law_cell_at T.F_u_law_cell_at.kp T.b_u_law_cell_at .nil pass0 (pa_cons (pv 0) (pa_cons (pe_callB (call_max2 rfl) (by rfl) T.z_max PyProof.Rows.boot_max (pa_cons pe_int (pa_cons (pe_op op_sub (pe_callB (call_len_seqK (K := K)) (by rfl) T.z_len PySem.boot_len (pa_cons (pv 0) pa_nil)) pe_int) pa_nil))) pa_nil))) pa_nil))) (pe_one (pe_call G_u_law_parted_right (hr.mono (by decide)) (by rfl) T.m_u_law_parted_right T.F_u_law_parted_right.kp T.b_u_law_parted_right .nil pass0 (pa_cons (pv 3) (pa_cons pe_int pa_nil))))))))))), ?_⟩
    have sz : sizeLine = 16777216 := sizeLine_eq
    have j0 : ∀ {a b : V}, atI [a, b] 0 = some a := atI_nat (j := 0) rfl
    have j1 : ∀ {a b : V}, atI [a, b] 1 = some b := atI_nat (j := 1) rfl
    refine ⟨_, rfl, a, ns, _, rfl, hS, by decide, hl, fun c1 => ⟨_, _, rfl, rfl, ⟨by decide, by decide⟩, Nat.le_of_ble_eq_true rfl, fun q hq => ?_⟩⟩
    have s1 := Same.upd' (o := .lst [.int 10, .int 1000001]) hq
    have eq : (upd H q (.lst [.int 10, .int 1000001])) q = some (.lst [.int 10, .int 1000001]) := upd_same
    generalize upd H q (.lst [.int 10, .int 1000001]) = H2 at s1 eq ⊢
    refine ⟨_, rfl, a, ns, _, rfl, s1.seq hS, by decide, hl, fun c2 => ?_⟩
    obtain ⟨v, hv, mv⟩ := atI_mod [V.int 10, V.int 1000001] 2 rfl (by decide) c2
    obtain ⟨nn, rfl, nn0⟩ : ∃ m : Int, v = .int m ∧ 0 < m := by
      simp only [List.mem_cons, List.not_mem_nil, or_false] at mv
      rcases mv with rfl | rfl <;> exact ⟨_, rfl, by decide⟩
    have hm : 0 ≤ c1 / 2 % nn := Int.emod_nonneg _ (by omega)
    refine ⟨_, _, rfl, rfl, (by decide : (0 : Int) < 2), q, _, _, _, rfl, rfl, SqL.of eq, hv, _, _, rfl, rfl, nn0, ?_⟩
    refine ⟨Nat.zero_le _, fun il hil => ⟨Nat.zero_le _, fun pl hpl => ?_⟩⟩
    have g1 := Same.upd' (o := .lst []) hil
    have eil : (upd H2 il (.lst [])) il = some (.lst []) := upd_same
    generalize upd H2 il (.lst []) = H3 at g1 eil hpl ⊢
    have g2 := Same.upd' (o := .lst []) hpl
    have epl : (upd H3 pl (.lst [])) pl = some (.lst []) := upd_same
    generalize upd H3 pl (.lst []) = H4 at g2 epl ⊢
    have eil4 := g2 _ _ eil
    refine ⟨_, rfl, _, rfl, _, rfl, a, _, rfl, (s1.trans (g1.trans g2)).seq hS, fun cl hcl => ?_⟩
    have lcut := len_cutV (ns.map V.int) (some 1) (some 31)
    rw [List.length_map] at lcut
    have mcut : ∀ y ∈ cutV (ns.map V.int) (some 1) (some 31), ∃ c : Int, y = .int c := fun y hy => by
      obtain ⟨c, _, rfl⟩ := List.mem_map.mp (mem_cutV hy)
      exact ⟨c, rfl⟩
    generalize hcv : cutV (ns.map V.int) (some 1) (some 31) = cv at lcut mcut
    have g3 := Same.upd' (o := .lst cv) hcl
    have ecl : (upd H4 cl (.lst cv)) cl = some (.lst cv) := upd_same
    have ncl : cl ≠ il := (ne_of_none eil4 hcl).symm
    generalize upd H4 cl (.lst cv) = H5 at g3 ecl ⊢
    refine ⟨cl, rfl, ⟨_, SqL.of ecl⟩, for_list (K := K) (xs := cv) (fun n σ H' => ∃ (o4 o5 o6 o7 : Option V) (pl : Addr) (xi : List V) (its : Its2) (xp : List V) (bs : List Bk), σ = [some (.ref a), some (.int (c1 / 2 % nn)), some (.ref il), some (.ref pl), o4, o5, o6, o7] ∧ Same H2 H' ∧ H' cl = some (.lst cv) ∧ H' il = some (.lst xi) ∧ Rws H' xi (its.map tmK) ∧ pl ≠ il ∧ H' pl = some (.lst xp) ∧ Pcs (c1 / 2 % nn) H' xp bs ∧ Gd (c1 / 2 % nn) its bs ∧ its.length ≤ n ∧ bs.length ≤ n)
      ⟨none, none, none, none, pl, [], [], [], [], rfl, g1.trans (g2.trans g3), ecl, g3 _ _ eil4, rws_nil _, (ne_of_none eil hpl).symm, g3 _ _ epl, .nil, ⟨.nil, (fun b hb => by cases hb), (fun i hi => by cases hi), (fun b hb => by cases hb), (fun b hb => by cases hb), (fun b hb => by cases hb), fun b hb => by cases hb⟩, Nat.le_refl _, Nat.le_refl _⟩ (fun n σ H' _ ⟨_, _, _, _, _, _, _, _, _, _, _, e, _⟩ => SqL.of e) ?_ ?_⟩
    · rintro n y σ Ha hy ⟨o4, o5, o6, o7, pl, xi, its, xp, bs, rfl, sa, ecla, eila, hwi, npl, epla, hwp, gd, li, lb⟩
      have hn : n < cv.length := (List.getElem?_eq_some_iff.mp hy).1
      obtain ⟨c, rfl⟩ := mcut y (List.mem_of_getElem? hy)
      have bx : 0 ≤ c / 7 % 2001 ∧ c / 7 % 2001 < 2001 := ⟨Int.emod_nonneg _ (by decide), Int.emod_lt_of_pos _ (by decide)⟩
      obtain ⟨v2, hv2, mv2⟩ := atI_mod [V.int 1, V.int 1, V.int (10 ^ 15)] 3 rfl (by decide) (c / 11)
      obtain ⟨m2, rfl⟩ : ∃ m : Int, v2 = .int m := by
        simp only [List.mem_cons, List.not_mem_nil, or_false] at mv2
        rcases mv2 with rfl | rfl | rfl <;> exact ⟨_, rfl⟩
      refine ⟨_, rfl, _, _, rfl, rfl, ⟨by decide, by decide⟩, _, _, rfl, rfl, (by decide : (0 : Int) < 2001), _, _, rfl, rfl, _, _, rfl, rfl, ⟨by decide, by decide, by decide⟩, Nat.le_of_ble_eq_true rfl, fun q2 hq2 => ?_⟩
      have t2 : Same Ha (upd Ha q2 (.lst [.int 1, .int 1, .int (10 ^ 15)])) := Same.upd' hq2
      have eq2 : (upd Ha q2 (.lst [.int 1, .int 1, .int (10 ^ 15)])) q2 = some (.lst [.int 1, .int 1, .int (10 ^ 15)]) := upd_same
      refine ⟨_, rfl, _, _, rfl, rfl, ⟨by decide, by decide⟩, _, _, rfl, rfl, (by decide : (0 : Int) < 3), q2, _, _, _, rfl, rfl, SqL.of eq2, hv2, _, _, rfl, rfl, .inl ⟨by omega, by omega⟩, ?_⟩
      have lxi : xi.length ≤ 100 := by rw [hwi.len, List.length_map]; omega
      refine ⟨_, rfl, .inl ⟨rfl, _, SqL.of (t2 _ _ eila)⟩, _, rfl, _, rfl, _, rfl, il, xi, its, _, c, rfl, t2 _ _ eila, hwi.keep t2.tp, fun Hd tm sd => ⟨_, rfl, Nat.le_of_ble_eq_true rfl, fun p hp => ?_⟩⟩
      have td : Same Ha Hd := t2.trans sd
      have t3 : Same Hd (upd Hd p (.tup [.int tm, .int ((c / 7 % 2001 - 1000) * m2)])) := Same.upd' hp
      have ep : (upd Hd p (.tup [.int tm, .int ((c / 7 % 2001 - 1000) * m2)])) p = some (.tup ((tmK (tm, ((c / 7 % 2001 - 1000) * m2))).map kV)) := upd_same
      have t13 : Same Ha (upd Hd p (.tup [.int tm, .int ((c / 7 % 2001 - 1000) * m2)])) := td.trans t3
      have eild := t13 _ _ eila
      refine ⟨il, _, _, rfl, rfl, eild, by omega, ?_⟩
      have tpe : Tp (upd Hd p (.tup [.int tm, .int ((c / 7 % 2001 - 1000) * m2)])) (upd (upd Hd p (.tup [.int tm, .int ((c / 7 % 2001 - 1000) * m2)])) il (.lst (xi ++ [.ref p]))) := (Tp.refl _).upd eild fun xs => by intro z; cases z
      have sye : Same H2 (upd (upd Hd p (.tup [.int tm, .int ((c / 7 % 2001 - 1000) * m2)])) il (.lst (xi ++ [.ref p]))) := (sa.trans t13).updN hil
      have eile : (upd (upd Hd p (.tup [.int tm, .int ((c / 7 % 2001 - 1000) * m2)])) il (.lst (xi ++ [.ref p]))) il = some (.lst (xi ++ [.ref p])) := upd_same
      have ecle : (upd (upd Hd p (.tup [.int tm, .int ((c / 7 % 2001 - 1000) * m2)])) il (.lst (xi ++ [.ref p]))) cl = some (.lst cv) := by rw [upd_ne ncl]; exact t13 _ _ ecla
      have eple : (upd (upd Hd p (.tup [.int tm, .int ((c / 7 % 2001 - 1000) * m2)])) il (.lst (xi ++ [.ref p]))) pl = some (.lst xp) := by rw [upd_ne npl]; exact t13 _ _ epla
      have epe : (upd (upd Hd p (.tup [.int tm, .int ((c / 7 % 2001 - 1000) * m2)])) il (.lst (xi ++ [.ref p]))) p = some (.tup [.int tm, .int ((c / 7 % 2001 - 1000) * m2)]) := tpe _ _ ep
      have hwie : Rws (upd (upd Hd p (.tup [.int tm, .int ((c / 7 % 2001 - 1000) * m2)])) il (.lst (xi ++ [.ref p]))) (xi ++ [.ref p]) ((its ++ [(tm, ((c / 7 % 2001 - 1000) * m2))]).map tmK) := by
        rw [List.map_append]
        exact ((hwi.keep t13.tp).snoc ep).keep tpe
      have hwpe : Pcs (c1 / 2 % nn) (upd (upd Hd p (.tup [.int tm, .int ((c / 7 % 2001 - 1000) * m2)])) il (.lst (xi ++ [.ref p]))) xp bs := (hwp.keep t13.tp).keep tpe
      refine ⟨_, rfl, pl, xp, rfl, .inl (SqL.of eple), fun hl' hhl => ?_⟩
      have g : Same (upd (upd Hd p (.tup [.int tm, .int ((c / 7 % 2001 - 1000) * m2)])) il (.lst (xi ++ [.ref p]))) (upd (upd (upd Hd p (.tup [.int tm, .int ((c / 7 % 2001 - 1000) * m2)])) il (.lst (xi ++ [.ref p]))) hl' (.lst xp)) := Same.upd' hhl
      have ehl : (upd (upd (upd Hd p (.tup [.int tm, .int ((c / 7 % 2001 - 1000) * m2)])) il (.lst (xi ++ [.ref p]))) hl' (.lst xp)) hl' = some (.lst xp) := upd_same
      have syh : Same H2 (upd (upd (upd Hd p (.tup [.int tm, .int ((c / 7 % 2001 - 1000) * m2)])) il (.lst (xi ++ [.ref p]))) hl' (.lst xp)) := sye.trans g
      have eilh := g _ _ eile
      have eclh := g _ _ ecle
      have eplh := g _ _ eple
      have hwih := hwie.keep g.tp
      have hwph := hwpe.keep g.tp
      have eph := g _ _ epe
      have li' : (its ++ [(tm, ((c / 7 % 2001 - 1000) * m2))]).length ≤ n + 1 := by rw [List.length_append, List.length_singleton]; omega
      refine ⟨_, rfl, _, rfl, _, rfl, il, _, _, _, rfl, rfl, SqL.of eilh, atI_last _ _, p, _, _, _, rfl, rfl, SqT.of eph, j0, _, rfl, _, rfl, il, _, _, _, rfl, rfl, SqL.of eilh, atI_last _ _, p, _, _, _, rfl, rfl, SqT.of eph, j1, _, rfl, hl', xp, its, bs, tm, ((c / 7 % 2001 - 1000) * m2), (c1 / 2 % nn), rfl, hm, ehl, hwph, gd, by omega, fun Hf f xf pf sf hf ef hwf gdf lenf => ?_⟩
      refine ⟨_, rfl, _, rfl, _, rfl, il, _, _, (c1 / 2 % nn), rfl, hm, sf _ _ eilh, hwih.keep sf.tp, by omega, fun Hg dr xd pd sg hdr edr hwd gdd => ?_⟩
      have sfg := sf.trans sg
      refine ⟨f, dr, xf, xd, pf, pd, (c1 / 2 % nn), rfl, sg _ _ ef, edr, hwf.keep sg.tp, hwd, gd_unique hm gdf gdd, fun Hh sh => ⟨_, rfl, iteF ?_⟩⟩
      have sfh := sfg.trans sh
      obtain ⟨D, dv1, dv2, shp, _⟩ := pcs_same (K := K) (hwph.keep sfh.tp) (hwph.keep sfh.tp) (same_refl bs) (sfh _ _ ehl) (sfh _ _ eplh)
      refine ⟨_, rfl, _, rfl, neD_same dv1 dv2 shp ⟨_, rfl, iteF ?_⟩⟩
      have efh := (sg.trans sh) _ _ ef
      have hwfh := hwf.keep (sg.trans sh).tp
      refine ⟨_, rfl, f, xf, rfl, .inl (SqL.of efh), fun np hnp => ?_⟩
      have r1 := Same.upd' (o := .lst xf) hnp
      have enp : (upd Hh np (.lst xf)) np = some (.lst xf) := upd_same
      have nnp : np ≠ f := (ne_of_none efh hnp).symm
      have nil : np ≠ il := (ne_of_none (sfh _ _ eilh) hnp).symm
      generalize upd Hh np (.lst xf) = Hi at r1 enp ⊢
      have lxf : xf.length ≤ 3000 := by rw [hwf.len]; omega
      refine ⟨_, rfl, .inl ⟨rfl, _, SqL.of (r1 _ _ efh)⟩, Nat.le_of_ble_eq_true rfl, fun u hu => ⟨Nat.le_of_ble_eq_true rfl, fun v hv => ?_⟩⟩
      have r2 := Same.upd' (o := .tup [.int 0, .int 0, .int 0, .int 0]) hu
      generalize upd Hi u (.tup [.int 0, .int 0, .int 0, .int 0]) = Hj at r2 hv ⊢
      have r3 := Same.upd' (o := .tup [.int 0, .int 0, .ref u]) hv
      generalize upd Hj v (.tup [.int 0, .int 0, .ref u]) = Hk at r3 ⊢
      have rik := r2.trans r3
      have efk := rik _ _ (r1 _ _ efh)
      have tpl : Tp Hk (upd Hk f (.lst (xf ++ [.ref v]))) := (Tp.refl Hk).upd efk fun xs => by intro z; cases z
      have shl : Same (upd (upd (upd Hd p (.tup [.int tm, .int ((c / 7 % 2001 - 1000) * m2)])) il (.lst (xi ++ [.ref p]))) hl' (.lst xp)) (upd Hk f (.lst (xf ++ [.ref v]))) := (sfh.trans (r1.trans rik)).updN hf
      exact ⟨f, _, _, rfl, rfl, efk, by omega, _, _, _, _, np, _, _, xf, pf, rfl, syh.trans shl, shl _ _ eclh, shl _ _ eilh, hwih.keep shl.tp, nil, by rw [upd_ne nnp]; exact rik _ _ enp, (hwfh.keep (r1.trans rik).tp).keep tpl, gdf, li', by omega⟩
    · rintro σ Ha ⟨o4, o5, o6, o7, pl, xi, its, xp, bs, rfl, sa, ecla, eila, hwi, npl, epla, hwp, gd, li, lb⟩
      refine ⟨_, rfl, _, rfl, _, rfl, a, _, rfl, .inl ((s1.trans sa).seq hS), _, _, rfl, rfl, _, _, rfl, a, ns, _, rfl, (s1.trans sa).seq hS, (by split <;> omega), hl, fun c => ⟨pl, xp, bs, (c1 / 2 % nn), c, rfl, epla, hwp, by omega, fun Hb sb => ⟨true, rfl, iteT ?_⟩⟩⟩
      exact ⟨_, rfl, pl, xp, bs, (c1 / 2 % nn), 2, rfl, sb _ _ epla, hwp.keep sb.tp, by omega, fun Hc sc => k _⟩
theorem all_mk {l : PySem.W.OpenLaw} {w : World} {K : PySem.W.Frag} {h : Heap} {mg : Str → Option Value} {fa : Addr} (X : K.In h) (G : h.Ns mainGlobals mg) (hfa : mg "law" = some (.ref fa))
    {f_ahead : Addr} {od_ahead an_ahead : Option Addr} {sl_ahead : Array (Option Value)} {oc_ahead kV_ahead dc_ahead pm_ahead cd_ahead ct_ahead : Value}
    {f_meets : Addr} {od_meets an_meets : Option Addr} {sl_meets : Array (Option Value)} {oc_meets kV_meets dc_meets pm_meets cd_meets ct_meets : Value}
    {f_tally_of : Addr} {od_tally_of an_tally_of : Option Addr} {sl_tally_of : Array (Option Value)} {oc_tally_of kV_tally_of dc_tally_of pm_tally_of cd_tally_of ct_tally_of : Value}
    {f_added : Addr} {od_added an_added : Option Addr} {sl_added : Array (Option Value)} {oc_added kV_added dc_added pm_added cd_added ct_added : Value}
    {f_put_window : Addr} {od_put_window an_put_window : Option Addr} {sl_put_window : Array (Option Value)} {oc_put_window kV_put_window dc_put_window pm_put_window cd_put_window ct_put_window : Value}
    {f_put_gap : Addr} {od_put_gap an_put_gap : Option Addr} {sl_put_gap : Array (Option Value)} {oc_put_gap kV_put_gap dc_put_gap pm_put_gap cd_put_gap ct_put_gap : Value}
    {f_parted : Addr} {od_parted an_parted : Option Addr} {sl_parted : Array (Option Value)} {oc_parted kV_parted dc_parted pm_parted cd_parted ct_parted : Value}
    {f_u_law_cell_at : Addr} {od_u_law_cell_at an_u_law_cell_at : Option Addr} {sl_u_law_cell_at : Array (Option Value)} {oc_u_law_cell_at kV_u_law_cell_at dc_u_law_cell_at pm_u_law_cell_at cd_u_law_cell_at ct_u_law_cell_at : Value}
    {f_u_law_time_by : Addr} {od_u_law_time_by an_u_law_time_by : Option Addr} {sl_u_law_time_by : Array (Option Value)} {oc_u_law_time_by kV_u_law_time_by dc_u_law_time_by pm_u_law_time_by cd_u_law_time_by ct_u_law_time_by : Value}
    {f_u_law_due : Addr} {od_u_law_due an_u_law_due : Option Addr} {sl_u_law_due : Array (Option Value)} {oc_u_law_due kV_u_law_due dc_u_law_due pm_u_law_due cd_u_law_due ct_u_law_due : Value}
    {f_u_law_right : Addr} {od_u_law_right an_u_law_right : Option Addr} {sl_u_law_right : Array (Option Value)} {oc_u_law_right kV_u_law_right dc_u_law_right pm_u_law_right cd_u_law_right ct_u_law_right : Value}
    {f_u_law_parted_right : Addr} {od_u_law_parted_right an_u_law_parted_right : Option Addr} {sl_u_law_parted_right : Array (Option Value)} {oc_u_law_parted_right kV_u_law_parted_right dc_u_law_parted_right pm_u_law_parted_right cd_u_law_parted_right ct_u_law_parted_right : Value}
    {f_law : Addr} {od_law an_law : Option Addr} {sl_law : Array (Option Value)} {oc_law kV_law dc_law pm_law cd_law ct_law : Value}
    (a_ahead : PySem.W.nsIn K mainGlobals "ahead" = some (some (.ref f_ahead)))
    (l_ahead : K.lookup f_ahead = some ⟨oc_ahead, od_ahead, .func (PySem.W.fnOf "ahead" "ahead" (defArgs s_ahead) (defBody s_ahead) (defScope s_ahead) .none kV_ahead dc_ahead pm_ahead an_ahead cd_ahead ct_ahead), sl_ahead⟩)
    (c_ahead : PySem.W.codeIn K cd_ahead "ahead" = true)
    (k_ahead : PySem.W.keepIn K (.ref f_ahead) = true)
    (a_meets : PySem.W.nsIn K mainGlobals "meets" = some (some (.ref f_meets)))
    (l_meets : K.lookup f_meets = some ⟨oc_meets, od_meets, .func (PySem.W.fnOf "meets" "meets" (defArgs s_meets) (defBody s_meets) (defScope s_meets) .none kV_meets dc_meets pm_meets an_meets cd_meets ct_meets), sl_meets⟩)
    (c_meets : PySem.W.codeIn K cd_meets "meets" = true)
    (k_meets : PySem.W.keepIn K (.ref f_meets) = true)
    (a_tally_of : PySem.W.nsIn K mainGlobals "tally_of" = some (some (.ref f_tally_of)))
    (l_tally_of : K.lookup f_tally_of = some ⟨oc_tally_of, od_tally_of, .func (PySem.W.fnOf "tally_of" "tally_of" (defArgs s_tally_of) (defBody s_tally_of) (defScope s_tally_of) .none kV_tally_of dc_tally_of pm_tally_of an_tally_of cd_tally_of ct_tally_of), sl_tally_of⟩)
    (c_tally_of : PySem.W.codeIn K cd_tally_of "tally_of" = true)
    (k_tally_of : PySem.W.keepIn K (.ref f_tally_of) = true)
    (a_added : PySem.W.nsIn K mainGlobals "added" = some (some (.ref f_added)))
    (l_added : K.lookup f_added = some ⟨oc_added, od_added, .func (PySem.W.fnOf "added" "added" (defArgs s_added) (defBody s_added) (defScope s_added) .none kV_added dc_added pm_added an_added cd_added ct_added), sl_added⟩)
    (c_added : PySem.W.codeIn K cd_added "added" = true)
    (k_added : PySem.W.keepIn K (.ref f_added) = true)
    (a_put_window : PySem.W.nsIn K mainGlobals "put_window" = some (some (.ref f_put_window)))
    (l_put_window : K.lookup f_put_window = some ⟨oc_put_window, od_put_window, .func (PySem.W.fnOf "put_window" "put_window" (defArgs s_put_window) (defBody s_put_window) (defScope s_put_window) .none kV_put_window dc_put_window pm_put_window an_put_window cd_put_window ct_put_window), sl_put_window⟩)
    (c_put_window : PySem.W.codeIn K cd_put_window "put_window" = true)
    (k_put_window : PySem.W.keepIn K (.ref f_put_window) = true)
    (a_put_gap : PySem.W.nsIn K mainGlobals "put_gap" = some (some (.ref f_put_gap)))
    (l_put_gap : K.lookup f_put_gap = some ⟨oc_put_gap, od_put_gap, .func (PySem.W.fnOf "put_gap" "put_gap" (defArgs s_put_gap) (defBody s_put_gap) (defScope s_put_gap) .none kV_put_gap dc_put_gap pm_put_gap an_put_gap cd_put_gap ct_put_gap), sl_put_gap⟩)
    (c_put_gap : PySem.W.codeIn K cd_put_gap "put_gap" = true)
    (k_put_gap : PySem.W.keepIn K (.ref f_put_gap) = true)
    (a_parted : PySem.W.nsIn K mainGlobals "parted" = some (some (.ref f_parted)))
    (l_parted : K.lookup f_parted = some ⟨oc_parted, od_parted, .func (PySem.W.fnOf "parted" "parted" (defArgs s_parted) (defBody s_parted) (defScope s_parted) .none kV_parted dc_parted pm_parted an_parted cd_parted ct_parted), sl_parted⟩)
    (c_parted : PySem.W.codeIn K cd_parted "parted" = true)
    (k_parted : PySem.W.keepIn K (.ref f_parted) = true)
    (a_u_law_cell_at : PySem.W.nsIn K mainGlobals "_law_cell_at" = some (some (.ref f_u_law_cell_at)))
    (l_u_law_cell_at : K.lookup f_u_law_cell_at = some ⟨oc_u_law_cell_at, od_u_law_cell_at, .func (PySem.W.fnOf "_law_cell_at" "_law_cell_at" (defArgs s_u_law_cell_at) (defBody s_u_law_cell_at) (defScope s_u_law_cell_at) .none kV_u_law_cell_at dc_u_law_cell_at pm_u_law_cell_at an_u_law_cell_at cd_u_law_cell_at ct_u_law_cell_at), sl_u_law_cell_at⟩)
    (c_u_law_cell_at : PySem.W.codeIn K cd_u_law_cell_at "_law_cell_at" = true)
    (k_u_law_cell_at : PySem.W.keepIn K (.ref f_u_law_cell_at) = true)
    (a_u_law_time_by : PySem.W.nsIn K mainGlobals "_law_time_by" = some (some (.ref f_u_law_time_by)))
    (l_u_law_time_by : K.lookup f_u_law_time_by = some ⟨oc_u_law_time_by, od_u_law_time_by, .func (PySem.W.fnOf "_law_time_by" "_law_time_by" (defArgs s_u_law_time_by) (defBody s_u_law_time_by) (defScope s_u_law_time_by) .none kV_u_law_time_by dc_u_law_time_by pm_u_law_time_by an_u_law_time_by cd_u_law_time_by ct_u_law_time_by), sl_u_law_time_by⟩)
    (c_u_law_time_by : PySem.W.codeIn K cd_u_law_time_by "_law_time_by" = true)
    (k_u_law_time_by : PySem.W.keepIn K (.ref f_u_law_time_by) = true)
    (a_u_law_due : PySem.W.nsIn K mainGlobals "_law_due" = some (some (.ref f_u_law_due)))
    (l_u_law_due : K.lookup f_u_law_due = some ⟨oc_u_law_due, od_u_law_due, .func (PySem.W.fnOf "_law_due" "_law_due" (defArgs s_u_law_due) (defBody s_u_law_due) (defScope s_u_law_due) .none kV_u_law_due dc_u_law_due pm_u_law_due an_u_law_due cd_u_law_due ct_u_law_due), sl_u_law_due⟩)
    (c_u_law_due : PySem.W.codeIn K cd_u_law_due "_law_due" = true)
    (k_u_law_due : PySem.W.keepIn K (.ref f_u_law_due) = true)
    (a_u_law_right : PySem.W.nsIn K mainGlobals "_law_right" = some (some (.ref f_u_law_right)))
    (l_u_law_right : K.lookup f_u_law_right = some ⟨oc_u_law_right, od_u_law_right, .func (PySem.W.fnOf "_law_right" "_law_right" (defArgs s_u_law_right) (defBody s_u_law_right) (defScope s_u_law_right) .none kV_u_law_right dc_u_law_right pm_u_law_right an_u_law_right cd_u_law_right ct_u_law_right), sl_u_law_right⟩)
    (c_u_law_right : PySem.W.codeIn K cd_u_law_right "_law_right" = true)
    (k_u_law_right : PySem.W.keepIn K (.ref f_u_law_right) = true)
    (a_u_law_parted_right : PySem.W.nsIn K mainGlobals "_law_parted_right" = some (some (.ref f_u_law_parted_right)))
    (l_u_law_parted_right : K.lookup f_u_law_parted_right = some ⟨oc_u_law_parted_right, od_u_law_parted_right, .func (PySem.W.fnOf "_law_parted_right" "_law_parted_right" (defArgs s_u_law_parted_right) (defBody s_u_law_parted_right) (defScope s_u_law_parted_right) .none kV_u_law_parted_right dc_u_law_parted_right pm_u_law_parted_right an_u_law_parted_right cd_u_law_parted_right ct_u_law_parted_right), sl_u_law_parted_right⟩)
    (c_u_law_parted_right : PySem.W.codeIn K cd_u_law_parted_right "_law_parted_right" = true)
    (k_u_law_parted_right : PySem.W.keepIn K (.ref f_u_law_parted_right) = true)
    (a_law : PySem.W.nsIn K mainGlobals "law" = some (some (.ref f_law)))
    (l_law : K.lookup f_law = some ⟨oc_law, od_law, .func (PySem.W.fnOf "law" "law" (defArgs s_law) (defBody s_law) (defScope s_law) .none kV_law dc_law pm_law an_law cd_law ct_law), sl_law⟩)
    (c_law : PySem.W.codeIn K cd_law "law" = true)
    (k_law : PySem.W.keepIn K (.ref f_law) = true)
    (z_bool : PySem.W.nsIn K mainGlobals "bool" = some none)
    (z_isinstance : PySem.W.nsIn K mainGlobals "isinstance" = some none)
    (z_len : PySem.W.nsIn K mainGlobals "len" = some none)
    (z_list : PySem.W.nsIn K mainGlobals "list" = some none)
    (z_max : PySem.W.nsIn K mainGlobals "max" = some none)
    (z_min : PySem.W.nsIn K mainGlobals "min" = some none)
    (z_sorted : PySem.W.nsIn K mainGlobals "sorted" = some none)
    (z_sum : PySem.W.nsIn K mainGlobals "sum" = some none)
    (z_tuple : PySem.W.nsIn K mainGlobals "tuple" = some none)
    : ∃ fd : FuncData, (∀ (s : Shared) (v : Value), BindsTo s fd ⟨[v], []⟩ [("_law_script", v)]) ∧ ∀ base : Heap, K.In base → base.Ns mainGlobals mg → FnOk l.prog w K mg base CX0 depth fa fd ["_law_script"] (sp_law K) := by
  have e := hfa.symm.trans (PySem.W.mg_of X G a_law)
  cases e
  exact ⟨_, fun s v => .of_eq rfl, fun base _ _ => ok_law (tx_mk X G a_ahead l_ahead c_ahead k_ahead a_meets l_meets c_meets k_meets a_tally_of l_tally_of c_tally_of k_tally_of a_added l_added c_added k_added a_put_window l_put_window c_put_window k_put_window a_put_gap l_put_gap c_put_gap k_put_gap a_parted l_parted c_parted k_parted a_u_law_cell_at l_u_law_cell_at c_u_law_cell_at k_u_law_cell_at a_u_law_time_by l_u_law_time_by c_u_law_time_by k_u_law_time_by a_u_law_due l_u_law_due c_u_law_due k_u_law_due a_u_law_right l_u_law_right c_u_law_right k_u_law_right a_u_law_parted_right l_u_law_parted_right c_u_law_parted_right k_u_law_parted_right a_law l_law c_law k_law z_bool z_isinstance z_len z_list z_max z_min z_sorted z_sum z_tuple)⟩
end K13
open PySem PySem.W PyProof.Rows
set_option maxRecDepth 100000 in
set_option maxHeartbeats 0 in
theorem PySem.Challenge.cw_brooktally_k13_whole_pieces_of_gaps_holds : PySem.Challenge.rw_brooktally_k13_whole_pieces_of_gaps.Holds := by
  w_on; o_law; k_head; (case hw => w_witness2)
  k_fill
  refine L2.walk_ofK (l := PySem.Challenge.rw_brooktally_k13_whole_pieces_of_gaps) (n := 63) (k := K13.depth) (x := "_law_script") (CX := L2.CX0) (sp := K13.sp_law) rfl (by decide) rfl ⟨rfl, by decide, by decide⟩ (fun w h Y => PySem.W.kIn_of Y) ?F K13.law_sp (fun _ _ _ _ z => z)
  case F =>
    intro w mg fa h KX G hmg
    refine' K13.all_mk KX G hmg ?a_ahead ?l_ahead ?c_ahead ?k_ahead ?a_meets ?l_meets ?c_meets ?k_meets ?a_tally_of ?l_tally_of ?c_tally_of ?k_tally_of ?a_added ?l_added ?c_added ?k_added ?a_put_window ?l_put_window ?c_put_window ?k_put_window ?a_put_gap ?l_put_gap ?c_put_gap ?k_put_gap ?a_parted ?l_parted ?c_parted ?k_parted ?a_u_law_cell_at ?l_u_law_cell_at ?c_u_law_cell_at ?k_u_law_cell_at ?a_u_law_time_by ?l_u_law_time_by ?c_u_law_time_by ?k_u_law_time_by ?a_u_law_due ?l_u_law_due ?c_u_law_due ?k_u_law_due ?a_u_law_right ?l_u_law_right ?c_u_law_right ?k_u_law_right ?a_u_law_parted_right ?l_u_law_parted_right ?c_u_law_parted_right ?k_u_law_parted_right ?a_law ?l_law ?c_law ?k_law ?z_bool ?z_isinstance ?z_len ?z_list ?z_max ?z_min ?z_sorted ?z_sum ?z_tuple
    (case a_ahead => k_is)
    (case l_ahead => k_is)
    (case c_ahead => k_is)
    (case k_ahead => k_is)
    (case a_meets => k_is)
    (case l_meets => k_is)
    (case c_meets => k_is)
    (case k_meets => k_is)
    (case a_tally_of => k_is)
    (case l_tally_of => k_is)
    (case c_tally_of => k_is)
    (case k_tally_of => k_is)
    (case a_added => k_is)
    (case l_added => k_is)
    (case c_added => k_is)
    (case k_added => k_is)
    (case a_put_window => k_is)
    (case l_put_window => k_is)
    (case c_put_window => k_is)
    (case k_put_window => k_is)
    (case a_put_gap => k_is)
    (case l_put_gap => k_is)
    (case c_put_gap => k_is)
    (case k_put_gap => k_is)
    (case a_parted => k_is)
    (case l_parted => k_is)
    (case c_parted => k_is)
    (case k_parted => k_is)
    (case a_u_law_cell_at => k_is)
    (case l_u_law_cell_at => k_is)
    (case c_u_law_cell_at => k_is)
    (case k_u_law_cell_at => k_is)
    (case a_u_law_time_by => k_is)
    (case l_u_law_time_by => k_is)
    (case c_u_law_time_by => k_is)
    (case k_u_law_time_by => k_is)
    (case a_u_law_due => k_is)
    (case l_u_law_due => k_is)
    (case c_u_law_due => k_is)
    (case k_u_law_due => k_is)
    (case a_u_law_right => k_is)
    (case l_u_law_right => k_is)
    (case c_u_law_right => k_is)
    (case k_u_law_right => k_is)
    (case a_u_law_parted_right => k_is)
    (case l_u_law_parted_right => k_is)
    (case c_u_law_parted_right => k_is)
    (case k_u_law_parted_right => k_is)
    (case a_law => k_is)
    (case l_law => k_is)
    (case c_law => k_is)
    (case k_law => k_is)
    (case z_bool => k_is)
    (case z_isinstance => k_is)
    (case z_len => k_is)
    (case z_list => k_is)
    (case z_max => k_is)
    (case z_min => k_is)
    (case z_sorted => k_is)
    (case z_sum => k_is)
    (case z_tuple => k_is)
