import PyProof.Rows.All
import Wide.All
import OpenK.AllK
import Wide.FinOn
import Lean
import PyProof.EqAt
import PyProof.EqKinds
import PyProof.TupleCall
import PySem.Challenge.RW_brooktally_k05_plans_looked_at
set_option Elab.async false
set_option linter.all false
set_option maxRecDepth 100000
namespace L2
open PySem PySem.Spec PyProof.Rows
abbrev Key := Sum Int Str
def keyIs : Key → Value → Bool
  | .inl k,v => Value.isInt k v
  | .inr x,v => Value.isStrOf x v
def keyH (w : World) : Key → Int
  | .inl k => hashInt k
  | .inr x => hashStr w x
theorem keyIs_shape : ∀ {k : Key} {v : Value},keyIs k v = true → (∃ i t,k = Sum.inl i ∧ v = Value.int i t) ∨ (∃ x t,k = Sum.inr x ∧ v = Value.str x t)
  | .inl i,v,h => by
    obtain ⟨t,e⟩ := Value.isInt_shape (k := i) (v := v) h
    exact .inl ⟨i,t,rfl,e⟩
  | .inr x,v,h => by
    obtain ⟨t,e⟩ := Value.isStrOf_shape (x := x) (v := v) h
    exact .inr ⟨x,t,rfl,e⟩
theorem keyIs_int (i : Int) (t : Tok) : keyIs (.inl i) (.int i t) = true := by simp [keyIs,Value.isInt]
theorem keyIs_str (x : Str) (t : Tok) : keyIs (.inr x) (.str x t) = true := by simp [keyIs,Value.isStrOf]
theorem key_ll (a b : Int) : decide ((Sum.inl a : Key) = Sum.inl b) = (a == b) := by
  by_cases e : a = b
  · subst e; simp
  · have h : ¬ (Sum.inl a : Key) = Sum.inl b := fun q => e (Sum.inl.inj q)
    rw [decide_eq_false h]
    exact (beq_eq_false_iff_ne.mpr e).symm
theorem key_rr (a b : Str) : decide ((Sum.inr a : Key) = Sum.inr b) = decide (a = b) := by
  by_cases e : a = b
  · subst e; simp
  · have h : ¬ (Sum.inr a : Key) = Sum.inr b := fun q => e (Sum.inr.inj q)
    rw [decide_eq_false h,decide_eq_false e]
theorem key_lr (a : Int) (b : Str) : decide ((Sum.inl a : Key) = Sum.inr b) = false := decide_eq_false (fun q => nomatch q)
theorem key_rl (a : Str) (b : Int) : decide ((Sum.inr a : Key) = Sum.inl b) = false := decide_eq_false (fun q => nomatch q)
def mixKind (prog : Program) (w : World) : PySem.KeyKind prog w Key where
  is := keyIs
  hash := keyH w
  inj := fun v a b ha hb => by
    rcases keyIs_shape ha with ⟨i,t,rfl,rfl⟩ | ⟨x,t,rfl,rfl⟩
    · rcases keyIs_shape hb with ⟨j,u,rfl,e⟩ | ⟨y,u,rfl,e⟩
      · injection e with e1 _; rw [e1]
      · exact nomatch e
    · rcases keyIs_shape hb with ⟨j,u,rfl,e⟩ | ⟨y,u,rfl,e⟩
      · exact nomatch e
      · injection e with e1 _; rw [e1]
  byValue := fun k v h => by
    rcases keyIs_shape h with ⟨i,t,rfl,rfl⟩ | ⟨x,t,rfl,rfl⟩ <;> rfl
  pyHash := fun hv h => by
    rcases keyIs_shape hv with ⟨i,t,rfl,rfl⟩ | ⟨x,t,rfl,rfl⟩
    · exact wpAny_pyHash_int h
    · exact wpAny_pyHash_str h
  eqBool := fun hu hv h => by
    rcases keyIs_shape hu with ⟨i,t,rfl,rfl⟩ | ⟨x,t,rfl,rfl⟩
    · rcases keyIs_shape hv with ⟨j,u,rfl,rfl⟩ | ⟨y,u,rfl,rfl⟩
      · rw [key_ll] at h; exact wpAny_eqBool_int h
      · rw [key_lr] at h; exact SeqAt.EqAt.int_str i t y u _ _ _ _ h
    · rcases keyIs_shape hv with ⟨j,u,rfl,rfl⟩ | ⟨y,u,rfl,rfl⟩
      · rw [key_rl] at h; exact SeqAt.EqAt.str_int x t j u _ _ _ _ h
      · rw [key_rr] at h; exact wpAny_eqBool_str h
  «strs» := fun k x t v h => by
    rcases keyIs_shape h with ⟨i,u,rfl,e⟩ | ⟨y,u,rfl,e⟩
    · exact nomatch e
    · injection e with e1 _
      subst e1
      cases v <;> rfl
theorem mixKind_int (prog : Program) (w : World) (i : Int) (t : Tok) : (mixKind prog w).is (.inl i) (.int i t) = true := keyIs_int i t
theorem mixKind_str (prog : Program) (w : World) (x : Str) (t : Tok) : (mixKind prog w).is (.inr x) (.str x t) = true := keyIs_str x t
end L2
namespace L2
open PySem PySem.Spec PyProof.Rows
inductive V where
  | non | bl (b : Bool) | int (i : Int) | str (x : Str) | byt (b : Array UInt8) | flt (b : UInt64) | ref (a : Addr) | ty (n : String)
  deriving DecidableEq
def RelV : V → Value → Prop
  | .non,u => u = Value.none
  | .bl b,u => u = Value.bool b
  | .int i,u => ∃ t,u = Value.int i t
  | .str x,u => ∃ t,u = Value.str x t
  | .byt b,u => ∃ t,u = Value.bytes b t
  | .flt b,u => ∃ t,u = Value.float b t
  | .ref a,u => u = Value.ref a
  | .ty n,u => u = Value.type n
abbrev Vals : List V → List Value → Prop := Paired RelV
theorem Vals.length {xs : List V} {us : List Value} (r : Vals xs us) : xs.length = us.length := Paired.length r
theorem Vals.get : ∀ {xs : List V} {us : List Value} {i : Nat} {x : V},Vals xs us → xs[i]? = some x → ∃ u,us[i]? = some u ∧ RelV x u
  | _,_,_,_,.nil,e => by simp at e
  | _,_,0,_,.cons r _,e => by simp at e; subst e; exact ⟨_,rfl,r⟩
  | _,_,i + 1,x,.cons _ t,e => by
    obtain ⟨u,h1,h2⟩ := Vals.get (i := i) (x := x) t (by simpa using e)
    exact ⟨u,by simpa using h1,h2⟩
theorem Vals.set {x : V} {u : Value} (r : RelV x u) : ∀ {xs : List V} {us : List Value} (i : Nat),Vals xs us → Vals (xs.set i x) (us.set i u)
  | _,_,_,.nil => .nil
  | _,_,0,.cons _ t => .cons r t
  | _,_,i + 1,.cons q t => .cons q (Vals.set r i t)
theorem Vals.append : ∀ {xs ys : List V} {us ws : List Value},Vals xs us → Vals ys ws → Vals (xs ++ ys) (us ++ ws)
  | _,_,_,_,.nil,s => s
  | _,_,_,_,.cons r t,s => .cons r (Vals.append t s)
theorem Vals.take : ∀ {xs : List V} {us : List Value} (n : Nat),Vals xs us → Vals (xs.take n) (us.take n)
  | _,_,0,_ => .nil
  | _,_,_ + 1,.nil => .nil
  | _,_,n + 1,.cons r t => .cons r (Vals.take n t)
theorem Vals.drop : ∀ {xs : List V} {us : List Value} (n : Nat),Vals xs us → Vals (xs.drop n) (us.drop n)
  | _,_,0,r => r
  | _,_,_ + 1,.nil => .nil
  | _,_,n + 1,.cons _ t => Vals.drop n t
def RelO : Option V → Option Value → Prop
  | some v,some u => RelV v u
  | none,none => True
  | _,_ => False
def KV {κ : Type} : List (κ × V) → List (κ × Value) → Prop := Paired fun (p : κ × V) (q : κ × Value) => p.1 = q.1 ∧ RelV p.2 q.2
def kV : Key → V
  | .inl i => .int i
  | .inr x => .str x
inductive HO where
  | lst (xs : List V)
  | tup (xs : List V)
  | dK (kvs : List (Key × V)) | dT (kvs : List (List Key × V))
  | set (S : Int → Bool) (n : Nat)
  | ins (C dx : Addr) (fs : List (Str × V))
  | own (x : Addr)
  | xd (fs : List (Str × V))
  | met (f x : Addr)
  | rng (lo hi : Int)
  | frz (o : Obj) (u : HO)
  | tbl (ps : Array Value)
  | ext (φ : Heap → Prop)
abbrev Hp := Addr → Option HO
def upd (H : Hp) (a : Addr) (o : HO) : Hp := fun b => if b = a then some o else H b
theorem upd_same {H : Hp} {a : Addr} {o : HO} : upd H a o a = some o := by unfold upd; rw [if_pos rfl]
theorem upd_ne {H : Hp} {a b : Addr} {o : HO} (h : b ≠ a) : upd H a o b = H b := by unfold upd; rw [if_neg h]
theorem ne_of {H : Hp} {a b : Addr} {o u : HO} (h : H a = some o) (h' : H b = some u) (d : o ≠ u) : a ≠ b := by
  intro e; subst e; rw [h] at h'; exact d (Option.some.inj h')
theorem ne_of_none {H : Hp} {a b : Addr} {o : HO} (h : H a = some o) (h' : H b = none) : a ≠ b := by
  intro e; subst e; rw [h] at h'; cases h'
section
variable (P : Program) (w : World)
def ObjOk (H : Hp) (h : Heap) (a : Addr) : HO → Prop
  | .lst xs => xs.length ≤ sizeLine ∧ ∃ (its : List Value) (n : Nat),Vals xs its ∧ h.get? a = some { cls := .type "list", data := .seq its.toArray n }
  | .tup xs => xs.length ≤ sizeLine ∧ ∃ its : List Value,Vals xs its ∧ IsTup h a its.toArray
  | .dK kvs => kvs.length ≤ sizeLine ∧ (a == sysModules) = false ∧ ∃ vs,KV kvs vs ∧ h.DictOf (mixKind P w) a vs
  | .dT kvs => kvs.length ≤ sizeLine ∧ (a == sysModules) = false ∧ ∃ xs : List (List Key × Addr × Value),
      Paired (fun (p : List Key × V) (q : List Key × Addr × Value) => p.1 = q.1 ∧ H q.2.1 = some (.tup (p.1.map kV)) ∧ RelV p.2 q.2.2) kvs xs ∧
      ∃ o es ep,h.get? a = some o ∧ o.ExactDict ∧ o.data = .dict es ep ∧ es.toList = xs.map (entryOfKey (tupleKind (mixKind P w))) ∧ (xs.map (·.1)).Nodup
  | .set S n => h.SetOf (intKind P w) a S n
  | .ins C dx fs => H dx = some (.own a) ∧ fs.length ≤ 1000 ∧ dx ≠ a ∧ h.get? a = some (PySem.W.instObj C dx) ∧
      ∃ mA,h.Ns1 dx mA ∧ (∀ f,RelO (fs.lookup f) (mA f)) ∧ PySem.Within mA (fs.map (·.1))
  | .own _ => ∃ o,h.get? a = some o
  | .xd fs => ∃ mA,h.Ns1 a mA ∧ ∀ f,RelO (fs.lookup f) (mA f)
  | .rng lo hi => ∃ t u v,h.get? a = some { cls := .type "range", data := .fields #[.int lo t,.int hi u,.int 1 v] }
  | .frz o u => h.get? a = some o ∧ ObjOk H h a u
  | .tbl ps => h.get? a = some { cls := .none,data := .fields ps }
  | .met f x => h.get? a = some (PySem.W.methodObj (.ref f) (.ref x))
  | .ext φ => φ h ∧ (∃ o,h.get? a = some o) ∧ ∀ h1 h2 : Heap,φ h1 → (∀ o,h1.get? a = some o → h2.get? a = some o) → φ h2
def HOk (H : Hp) (h : Heap) : Prop := ∀ a o,H a = some o → ObjOk P w H h a o
end
section
variable {P : Program} {w : World} {H H' : Hp} {h h' : Heap} {a : Addr} {o : HO}
theorem ObjOk.lt (x : ObjOk P w H h a o) : a < h.objs.size := by
  cases o with
  | lst xs => obtain ⟨_,_,_,_,e⟩ := x; exact Heap.lt_size e
  | tup xs => obtain ⟨_,_,_,p⟩ := x; exact p.lt
  | dK kvs => obtain ⟨_,_,_,_,o,_,_,e,_⟩ := x; exact Heap.lt_size e
  | dT kvs => obtain ⟨_,_,_,_,o,_,_,e,_⟩ := x; exact Heap.lt_size e
  | set S n => obtain ⟨o,_,_,_,e,_⟩ := x; exact Heap.lt_size e
  | ins C dx fs => obtain ⟨_,_,_,e,_⟩ := x; exact Heap.lt_size e
  | own y => obtain ⟨_,e⟩ := x; exact Heap.lt_size e
  | xd fs => obtain ⟨_,⟨_,_,_,e,_⟩,_⟩ := x; exact Heap.lt_size e
  | rng lo hi => obtain ⟨_,_,_,e⟩ := x; exact Heap.lt_size e
  | frz ob u => obtain ⟨e,_⟩ := x; exact Heap.lt_size e
  | tbl ps => exact Heap.lt_size (show h.get? a = some _ from x)
  | met f y => exact Heap.lt_size (show h.get? a = some _ from x)
  | ext φ => obtain ⟨_,⟨_,e⟩,_⟩ := x; exact Heap.lt_size e
theorem Paired.mapP {α β : Type} {F G : α → β → Prop} : ∀ {l₁ : List α} {l₂ : List β},Paired F l₁ l₂ → (∀ a b,F a b → G a b) → Paired G l₁ l₂
  | _,_,.nil,_ => .nil
  | _,_,.cons r t,f => .cons (f _ _ r) (Paired.mapP t f)
theorem ObjOk.stay (x : ObjOk P w H h a o) (k : ∀ b u,(b = a ∨ H b = some (.own a)) → h.get? b = some u → h'.get? b = some u)
    (ho : ∀ b,H b = some (.own a) → H' b = some (.own a)) (ht : ∀ b xs,H b = some (.tup xs) → H' b = some (.tup xs)) : ObjOk P w H' h' a o := by
  induction o with
  | lst xs => obtain ⟨z,its,n,r,e⟩ := x; exact ⟨z,its,n,r,k _ _ (.inl rfl) e⟩
  | tup xs => obtain ⟨z,its,r,ob,e,c⟩ := x; exact ⟨z,its,r,ob,k _ _ (.inl rfl) e,c⟩
  | dK kvs => obtain ⟨z,y,vs,r,ob,es,ep,e,c⟩ := x; exact ⟨z,y,vs,r,ob,es,ep,k _ _ (.inl rfl) e,c⟩
  | dT kvs =>
    obtain ⟨z,y,xs,r,ob,es,ep,e,c⟩ := x
    exact ⟨z,y,xs,Paired.mapP r fun p q z => ⟨z.1,ht _ _ z.2.1,z.2.2⟩,ob,es,ep,k _ _ (.inl rfl) e,c⟩
  | set S n => obtain ⟨ob,es,ep,t,e,c⟩ := x; exact ⟨ob,es,ep,t,k _ _ (.inl rfl) e,c⟩
  | ins C dx fs =>
    obtain ⟨d,z,ne,e,mA,⟨od,es,ep,e2,c⟩,r⟩ := x
    exact ⟨ho _ d,z,ne,k _ _ (.inl rfl) e,mA,⟨od,es,ep,k _ _ (.inr d) e2,c⟩,r⟩
  | own y => obtain ⟨ob,e⟩ := x; exact ⟨ob,k _ _ (.inl rfl) e⟩
  | xd fs => obtain ⟨mA,⟨od,es,ep,e,c⟩,r⟩ := x; exact ⟨mA,⟨od,es,ep,k _ _ (.inl rfl) e,c⟩,r⟩
  | rng lo hi => obtain ⟨t,u,v,e⟩ := x; exact ⟨t,u,v,k _ _ (.inl rfl) e⟩
  | frz ob u ih => obtain ⟨e,q⟩ := x; exact ⟨k _ _ (.inl rfl) e,ih q⟩
  | tbl ps =>
    have e : h.get? a = some { cls := .none,data := .fields ps } := x
    show h'.get? a = some { cls := .none,data := .fields ps }
    exact k a _ (.inl rfl) e
  | met f y =>
    have e : h.get? a = some (PySem.W.methodObj (.ref f) (.ref y)) := x
    show h'.get? a = some (PySem.W.methodObj (.ref f) (.ref y))
    exact k a _ (.inl rfl) e
  | ext φ => obtain ⟨p,⟨o,e⟩,st⟩ := x; exact ⟨st _ _ p fun o q => k _ _ (.inl rfl) q,⟨o,k _ _ (.inl rfl) e⟩,st⟩
theorem HOk.lt (x : HOk P w H h) (e : H a = some o) : a < h.objs.size := (x a o e).lt
theorem HOk.fresh (x : HOk P w H h) (e : h.objs.size ≤ a) : H a = none := by
  cases q : H a with
  | none => rfl
  | some u => exact absurd (Nat.lt_of_lt_of_le (x.lt q) e) (Nat.lt_irrefl _)
theorem HOk.kept (x : HOk P w H h) (k : ∀ b u,h.get? b = some u → h'.get? b = some u) : HOk P w H h' := fun a o e =>
  (x a o e).stay (fun b u _ q => k b u q) (fun _ q => q) fun _ _ q => q
theorem HOk.laid (x : HOk P w H h) (k : ∀ b u,h.get? b = some u → h'.get? b = some u) (hp : h.objs.size ≤ a) (new : ObjOk P w (upd H a o) h' a o) : HOk P w (upd H a o) h' := fun b u e => by
  have hn := x.fresh hp
  by_cases hb : b = a
  · subst hb; rw [upd_same] at e; cases e; exact new
  · rw [upd_ne hb] at e
    exact (x b u e).stay (fun c v _ q => k c v q) (fun c q => by rw [upd_ne (ne_of_none q hn)]; exact q) fun c xs q => by rw [upd_ne (ne_of_none q hn)]; exact q
end
def Rd (H : Hp) (a : Addr) (u : HO) : Prop := H a = some u ∨ ∃ o,H a = some (.frz o u)
theorem Rd.of {H : Hp} {a : Addr} {u : HO} (h : H a = some u) : Rd H a u := .inl h
theorem Rd.ok {P : Program} {w : World} {H : Hp} {h : Heap} {a : Addr} {u : HO} (r : Rd H a u) (x : HOk P w H h) : ObjOk P w H h a u := by
  rcases r with r | ⟨o,r⟩
  · exact x a u r
  · obtain ⟨_,q⟩ := x a _ r
    exact q
def Mut : Option HO → Prop
  | some (.lst _) => True
  | some (.dK _) => True
  | some (.dT _) => True
  | some (.set _ _) => True
  | some (.ins _ _ _) => True
  | some (.ext _) => True
  | _ => False
section
variable {P : Program} {w : World} {H : Hp} {h h' : Heap} {x e : Addr} {o' : HO}
theorem HOk.write (ok : HOk P w H h) (mu : Mut (H x)) (he : e = x ∨ H e = some (.own x)) (k : ∀ b u,b ≠ e → h.get? b = some u → h'.get? b = some u) (heo : ∃ u,h'.get? e = some u)
    (new : ObjOk P w (upd H x o') h' x o') : HOk P w (upd H x o') h' := fun b u q => by
  have nown : ∀ c y,H c = some (.own y) → c ≠ x := fun c y r z => by subst z; rw [r] at mu; exact mu
  have ntup : ∀ c xs,H c = some (.tup xs) → c ≠ x := fun c xs r z => by subst z; rw [r] at mu; exact mu
  by_cases hb : b = x
  · subst hb; rw [upd_same] at q; cases q; exact new
  · rw [upd_ne hb] at q
    by_cases hbe : b = e
    · have q' : H b = some (.own x) := by
        rcases he with z | z
        · exact absurd (hbe.trans z) hb
        · rw [hbe]; exact z
      rw [q] at q'; cases q'
      obtain ⟨v,hv⟩ := heo
      exact ⟨v,by rw [hbe]; exact hv⟩
    · refine (ok b u q).stay (fun c v hc r => k c v ?_ r) (fun c r => by rw [upd_ne (nown c b r)]; exact r) fun c xs r => by rw [upd_ne (ntup c xs r)]; exact r
      rcases hc with rfl | hc
      · exact hbe
      · rintro rfl
        rcases he with z | z
        · exact nown c b hc z
        · rw [hc] at z; cases z; exact hb rfl
end
structure Un (fs ex : List Addr) (H H' : Hp) (h h' : Heap) : Prop where
  keep : ∀ b o,h.get? b = some o → H b = none → b ∉ fs → b ∉ ex → h'.get? b = some o
  slot : ∀ b o,h.get? b = some o → H b = none → b ∈ fs → b ∉ ex → ∃ sl,h'.get? b = some { o with slots := sl }
  free : ∀ b o,h.get? b = some o → H b = none → b ∉ ex → H' b = none
  there : ∀ b o,h.get? b = some o → b ∉ ex → ∃ o',h'.get? b = some o'
  tups : ∀ b xs,H b = some (.tup xs) → H' b = some (.tup xs)
  frzs : ∀ b o u,H b = some (.frz o u) → H' b = some (.frz o u)
  tbls : ∀ b ps,H b = some (.tbl ps) → ∃ more,H' b = some (.tbl (ps ++ more))
section
variable {fs fs' ex ex' : List Addr} {H H1 H2 : Hp} {h h1 h2 h' : Heap} {a x e : Addr} {o : HO}
theorem Un.any (u : Un fs ex H H1 h h1) {b : Addr} {ob : Obj} (q : h.get? b = some ob) (n : H b = none) (hx : b ∉ ex) : ∃ sl,h1.get? b = some { ob with slots := sl } := by
  by_cases hb : b ∈ fs
  · exact u.slot b ob q n hb hx
  · exact ⟨ob.slots,u.keep b ob q n hb hx⟩
theorem Un.trans (a : Un fs ex H H1 h h1) (b : Un fs ex H1 H2 h1 h2) : Un fs ex H H2 h h2 where
  keep := fun c ob q n hc hx => b.keep c ob (a.keep c ob q n hc hx) (a.free c ob q n hx) hc hx
  slot := fun c ob q n hc hx => by
    obtain ⟨sl,e1⟩ := a.slot c ob q n hc hx
    obtain ⟨sl',e2⟩ := b.slot c _ e1 (a.free c ob q n hx) hc hx
    exact ⟨sl',e2⟩
  free := fun c ob q n hx => by
    obtain ⟨o',e1⟩ := a.there c ob q hx
    exact b.free c o' e1 (a.free c ob q n hx) hx
  there := fun c ob q hx => by
    obtain ⟨o',e1⟩ := a.there c ob q hx
    exact b.there c o' e1 hx
  tups := fun c xs q => b.tups c xs (a.tups c xs q)
  frzs := fun c ob xs q => b.frzs c ob xs (a.frzs c ob xs q)
  tbls := fun c ps q => by
    obtain ⟨m1,e1⟩ := a.tbls c ps q
    obtain ⟨m2,e2⟩ := b.tbls c _ e1
    exact ⟨m1 ++ m2,by rw [e2,Array.append_assoc]⟩
theorem Un.kept (k : ∀ b u,h.get? b = some u → h'.get? b = some u) : Un fs ex H H h h' :=
  ⟨fun b ob q _ _ _ => k b ob q,fun b ob q _ _ _ => ⟨ob.slots,k b ob q⟩,fun _ _ _ n _ => n,fun b ob q _ => ⟨ob,k b ob q⟩,fun _ _ q => q,fun _ _ _ q => q,fun _ ps q => ⟨#[],by rw [q]; simp⟩⟩
theorem Un.refl : Un fs ex H H h h := Un.kept fun _ _ q => q
theorem Un.laid (k : ∀ b u,h.get? b = some u → h'.get? b = some u) (hp : h.objs.size ≤ a) (hn : H a = none) : Un fs ex H (upd H a o) h h' where
  keep := fun b u q _ _ _ => k b u q
  slot := fun b u q _ _ _ => ⟨u.slots,k b u q⟩
  free := fun b u q n _ => by rw [upd_ne (Nat.ne_of_lt (Nat.lt_of_lt_of_le (Heap.lt_size q) hp))]; exact n
  there := fun b u q _ => ⟨u,k b u q⟩
  tups := fun b xs q => by rw [upd_ne (ne_of_none q hn)]; exact q
  frzs := fun b u xs q => by rw [upd_ne (ne_of_none q hn)]; exact q
  tbls := fun b ps q => ⟨#[],by rw [upd_ne (ne_of_none q hn),q]; simp⟩
theorem Un.write (mu : Mut (H x)) (he : e = x ∨ H e = some (.own x)) (k : ∀ b u,b ≠ e → h.get? b = some u → h'.get? b = some u) (heo : ∃ u,h'.get? e = some u) : Un fs ex H (upd H x o) h h' := by
  have hx : ∀ b,H b = none → b ≠ x := fun b n z => by subst z; rw [n] at mu; exact mu
  have hb : ∀ b,H b = none → b ≠ e := fun b n z => by
    subst z
    rcases he with r | r
    · exact hx b n r
    · rw [n] at r; cases r
  have hm : ∀ b u,H b = some u → ¬ Mut (some u) → b ≠ x := fun b u q nm z => by subst z; rw [q] at mu; exact nm mu
  refine ⟨fun b u q n _ _ => k b u (hb b n) q,fun b u q n _ _ => ⟨u.slots,k b u (hb b n) q⟩,fun b u q n _ => by rw [upd_ne (hx b n)]; exact n,fun b u q _ => ?_,
    fun b xs q => by rw [upd_ne (hm b _ q fun z => z)]; exact q,fun b u xs q => by rw [upd_ne (hm b _ q fun z => z)]; exact q,fun b ps q => ⟨#[],by rw [upd_ne (hm b _ q fun z => z),q]; simp⟩⟩
  by_cases hbe : b = e
  · subst hbe; exact heo
  · exact ⟨u,k b u hbe q⟩
theorem Un.mono (u : Un fs ex H H1 h h1) (hs : ∀ b ∈ fs,b ∈ fs') (hx : ∀ b ∈ ex,b ∈ ex') : Un fs' ex' H H1 h h1 :=
  ⟨fun b ob q n hb he => u.keep b ob q n (fun z => hb (hs b z)) fun z => he (hx b z),fun _ _ q n _ he => u.any q n fun z => he (hx _ z),fun b ob q n he => u.free b ob q n fun z => he (hx b z),fun b ob q he => u.there b ob q fun z => he (hx b z),u.tups,u.frzs,u.tbls⟩
end
def trk (h : Heap) (H : Hp) : List Addr := (List.range h.objs.size).filter fun a => (H a).isSome
def hidT (h : Heap) (H : Hp) : Heap := PySem.W.hideAll h (trk h H)
theorem hidT_size (h : Heap) (H : Hp) : (hidT h H).objs.size = h.objs.size := PySem.W.hideAll_size _ _
theorem hidT_get {h : Heap} {H : Hp} {b : Addr} {o : Obj} (e : h.get? b = some o) (n : H b = none) : (hidT h H).get? b = some o :=
  PySem.W.hideAll_get _ e fun hm => by
    have q : (H b).isSome = true := (List.mem_filter.mp hm).2
    rw [n] at q; simp at q
theorem of_hidT {h : Heap} {H : Hp} {b : Addr} {o : Obj} (e : (hidT h H).get? b = some o) : h.get? b = some o ∧ H b = none := by
  have e' : h.get? b = some o := PySem.W.of_hideAll (trk h H) e
  refine ⟨e',?_⟩
  cases q : H b with
  | none => rfl
  | some x =>
    have hm : b ∈ trk h H := List.mem_filter.mpr ⟨List.mem_range.mpr (Heap.lt_size e'),by simp [q]⟩
    have z : (hidT h H).get? b = none := PySem.W.hideAll_none (trk h H) hm
    rw [z] at e; cases e
def allNews (g h : Heap) (L : Addr) : List (Addr × Obj) := (List.range h.objs.size).filterMap fun a => if a = L ∨ (g.get? a).isSome = true then none else (h.get? a).map fun o => (a,o)
def rest (g h : Heap) (L d : Addr) : List (Addr × Obj) := (allNews g h L).filter fun p => decide (p.1 ≠ d)
end L2
namespace L2
open PySem PySem.Spec PyProof.Rows
structure Mod (K : PySem.W.Frag) (mg : Str → Option Value) (base : Heap) : Prop where
  kin : K.In base
  glob : base.Ns mainGlobals mg
  blt : ∃ mb,base.Ns builtinsNs mb ∧ ∀ x : Str,x ≠ "__name__" → mb x = bootBuiltins x
  nolimit : base.NoLimit
structure Cx where
  prog : Program
  w : World
  K : PySem.W.Frag
  mg : Str → Option Value
  base : Heap
  A : Around
  N : List Str
  s₀ : Shared
  H₀ : Hp
  env : Env
  outer : List Env
  stack : List Env
  ex : List Addr
  fn : Str → Bool
  calm : Bool
  pn : List (Addr × Obj)
  xe : Value → Shared → Prop
def frs (l : List Env) : List Addr := l.filterMap (·.frame)
abbrev Cx.fs (X : Cx) : List Addr := frs X.outer
def Vis (sc : Scope) (x : Str) : Prop := sc.names.lookup x = some .local ∨ sc.names.lookup x = some .cell ∨ sc.names.lookup x = some .free
def Loc (sc : Scope) (x : Str) : Prop := sc.names.lookup x = some .local ∨ sc.names.lookup x = some .cell
def Look (env : Env) (h : Heap) (m : Str → Option Value) (x : Str) (u : Value) : Prop :=
  (env.kindOf x = some .local ∧ m x = some u) ∨ ((env.kindOf x = some .cell ∨ env.kindOf x = some .free) ∧ ∃ c,env.cells.lookup x = some c ∧ h.IsCell c (some u))
structure Cx.Ok (X : Cx) : Prop where
  mod : Mod X.K X.mg X.base
  kind : X.env.scope.kind = .function
  glob : X.env.globals = mainGlobals
  blt : X.env.builtins = builtinsNs
  above : X.s₀.heap.objs.size ≤ X.env.locals
  inj : ∀ x y c,X.env.cells.lookup x = some c → X.env.cells.lookup y = some c → x = y
  has : ∀ x,(X.env.kindOf x = some .cell ∨ X.env.kindOf x = some .free) → ∃ c,X.env.cells.lookup x = some c
  cab : ∀ x c,X.fn x = true → X.env.cells.lookup x = some c → X.s₀.heap.objs.size ≤ c
  hd : X.calm = true → X.A.handled = none
  frames : X.A.frames = some X.stack
  stk : X.stack = X.outer ∨ (X.stack = X.env :: X.outer ∧ X.env.frame = some X.env.locals)
  exf : ∀ b ∈ X.ex,b ≠ X.env.locals ∧ ∀ x c,X.env.cells.lookup x = some c → c ≠ b
  bs : ∀ b o,X.base.get? b = some o → X.s₀.heap.get? b = some o ∧ X.H₀ b = none
  bsz : X.base.objs.size ≤ X.s₀.heap.objs.size
  noex : ∀ b o,X.base.get? b = some o → b ∉ X.ex
  exfs : ∀ b ∈ X.ex,b ∉ X.fs
  funs : X.s₀.heap.FunFrames X.base X.outer
  frf : ∀ b ∈ X.fs,X.H₀ b = none
structure Inv (X : Cx) (pins : List (Addr × Obj)) (σ : List (Option V)) (H : Hp) (s : Shared) : Prop where
  ok : X.Ok
  os : s.os = X.s₀.os
  bare : AllBare s.gens
  base : Un X.fs X.ex X.H₀ H X.s₀.heap s.heap
  loc : ∃ m,s.heap.Ns X.env.locals m ∧ ∀ (i : Nat) (x : Str) (v : V),X.N[i]? = some x → σ[i]? = some (some v) → Vis X.env.scope x → ∃ u,RelV v u ∧ Look X.env s.heap m x u
  cell : ∀ x c,X.env.cells.lookup x = some c → ∃ v,s.heap.IsCell c v
  free : H X.env.locals = none
  freeC : ∀ x c,X.env.cells.lookup x = some c → H c = none
  pin : ∀ p ∈ X.pn ++ pins,s.heap.get? p.1 = some p.2 ∧ H p.1 = none ∧ p.1 ≠ X.env.locals ∧ p.1 ∉ X.fs ∧ ∀ v,p.2.data ≠ .cell v
  hok : HOk X.prog X.w H s.heap
  len : σ.length = X.N.length
section
variable {X : Cx} {pins : List (Addr × Obj)} {σ : List (Option V)} {H H' : Hp} {s : Shared} {h' : Heap}
theorem Cx.Ok.nofr (ok : X.Ok) {b : Addr} {o : Obj} (e : X.base.get? b = some o) : b ∉ X.fs := fun hb => by
  have := (ok.funs.mem hb).1
  rw [e] at this; cases this
theorem Inv.bs (I : Inv X pins σ H s) : ∀ b o,X.base.get? b = some o → s.heap.get? b = some o ∧ H b = none := fun b o e =>
  ⟨I.base.keep b o (I.ok.bs b o e).1 (I.ok.bs b o e).2 (I.ok.nofr e) (I.ok.noex b o e),I.base.free b o (I.ok.bs b o e).1 (I.ok.bs b o e).2 (I.ok.noex b o e)⟩
theorem Inv.bk (I : Inv X pins σ H s) : ∀ b o,X.base.get? b = some o → s.heap.get? b = some o := fun b o e => (I.bs b o e).1
theorem Inv.mod (I : Inv X pins σ H s) : Mod X.K X.mg X.base := I.ok.mod
theorem Inv.kIn (I : Inv X pins σ H s) : X.K.In s.heap := I.ok.mod.kin.keeps I.bk
theorem Inv.nolimit (I : Inv X pins σ H s) : s.heap.NoLimit := I.ok.mod.nolimit.keeps I.bk
theorem Inv.fr (I : Inv X pins σ H s) : ∃ m,Fr X.base X.env.locals s.heap m :=
  let ⟨m,hn,_⟩ := I.loc
  ⟨m,hn,I.bk,Nat.le_trans I.ok.bsz I.ok.above⟩
theorem Inv.lt (I : Inv X pins σ H s) : X.env.locals < s.heap.objs.size := let ⟨_,hn,_⟩ := I.loc; hn.lt
theorem Inv.sz (I : Inv X pins σ H s) : X.s₀.heap.objs.size ≤ s.heap.objs.size := Nat.le_trans I.ok.above (Nat.le_of_lt I.lt)
theorem Inv.nofs (I : Inv X pins σ H s) {a : Addr} (h : s.heap.objs.size ≤ a) : a ∉ X.fs := fun hb => by
  obtain ⟨_,o,ho,_⟩ := I.ok.funs.mem hb
  exact absurd (Nat.lt_of_lt_of_le (Heap.lt_size ho) (Nat.le_trans I.sz h)) (Nat.lt_irrefl _)
theorem Inv.cne (I : Inv X pins σ H s) : ∀ x c,X.env.cells.lookup x = some c → c ≠ X.env.locals := fun x c e z => by
  obtain ⟨v,o,ho,hd⟩ := I.cell x c e
  obtain ⟨m,⟨o',es,ep,ho',hd',_⟩,_⟩ := I.loc
  rw [z,ho'] at ho; cases ho; rw [hd'] at hd; cases hd
theorem Inv.funs (I : Inv X pins σ H s) : s.heap.FunFrames X.base X.outer := by
  have all : ∀ (l : List Env),(∀ b ∈ frs l,b ∈ X.fs) → X.s₀.heap.FunFrames X.base l → s.heap.FunFrames X.base l := by
    intro l
    induction l with
    | nil => intro _ _; trivial
    | cons env r ih =>
      intro hs hl
      obtain ⟨hk,⟨L,o,hf,hn,ho,hd⟩,hr⟩ := hl
      have hL : L ∈ X.fs := hs L (by unfold frs; rw [List.filterMap_cons,hf]; exact List.mem_cons_self)
      obtain ⟨sl,e⟩ := I.base.slot L o ho (I.ok.frf L hL) hL fun z => I.ok.exfs L z hL
      exact ⟨hk,⟨L,_,hf,hn,e,hd⟩,ih (fun b hb => hs b (by unfold frs; rw [List.filterMap_cons,hf]; exact List.mem_cons_of_mem _ hb)) hr⟩
  exact all X.outer (fun _ hb => hb) I.ok.funs
theorem Inv.stack (I : Inv X pins σ H s) : s.heap.FunFrames X.base X.stack := by
  rcases I.ok.stk with e | ⟨e,hf⟩
  · rw [e]; exact I.funs
  · rw [e]
    obtain ⟨m,hn,_⟩ := I.loc
    refine .cons (by rw [I.ok.kind]; decide) hf hn ?_ I.funs
    exact Heap.get?_none_of_le (Nat.le_trans I.ok.bsz I.ok.above)
theorem Inv.stkSub (I : Inv X pins σ H s) : ∀ b ∈ frs X.stack,b ∈ X.env.locals :: X.fs := fun b hb => by
  rcases I.ok.stk with e | ⟨e,hf⟩
  · rw [e] at hb; exact List.mem_cons_of_mem _ hb
  · rw [e] at hb
    unfold frs at hb
    rw [List.filterMap_cons,hf] at hb
    exact hb
theorem Inv.stkFree (I : Inv X pins σ H s) : ∀ b ∈ frs X.stack,H b = none := fun b hb => by
  rcases List.mem_cons.mp (I.stkSub b hb) with e | hb
  · rw [e]; exact I.free
  · obtain ⟨_,o,ho,_⟩ := I.ok.funs.mem hb
    exact I.base.free b o ho (I.ok.frf b hb) fun z => I.ok.exfs b z hb
theorem Inv.step {g' : Array GenState} {t' : Nat} {d' : Drawn} {ch : List Addr} (I : Inv X pins σ H s)
    (hch : ∀ b ∈ ch,(b ∈ X.ex ∨ X.s₀.heap.objs.size ≤ b) ∧ b ≠ X.env.locals ∧ (∀ x c,X.env.cells.lookup x = some c → c ≠ b) ∧ ∀ p ∈ X.pn ++ pins,p.1 ≠ b)
    (keep : ∀ b o,b ≠ X.env.locals → b ∉ X.fs → b ∉ ch → s.heap.get? b = some o → H b = none → h'.get? b = some o)
    (slot : ∀ b o,b ≠ X.env.locals → b ∈ X.fs → b ∉ ch → s.heap.get? b = some o → H b = none → ∃ sl,h'.get? b = some { o with slots := sl }) (free : ∀ b o,b ∉ ch → s.heap.get? b = some o → H b = none → H' b = none)
    (there : ∀ b o,b ∉ ch → s.heap.get? b = some o → ∃ o',h'.get? b = some o')
    (tups : ∀ b xs,H b = some (.tup xs) → H' b = some (.tup xs)) (frzs : ∀ b o u,H b = some (.frz o u) → H' b = some (.frz o u)) (tbls : ∀ b ps,H b = some (.tbl ps) → ∃ more,H' b = some (.tbl (ps ++ more)))
    (ns : ∀ m,s.heap.Ns X.env.locals m → h'.Ns X.env.locals m) (hok : HOk X.prog X.w H' h') (hg : AllBare g') :
    Inv X pins σ H' { s with heap := h',gens := g',drawn := d',toks := t' } := by
  have neL : ∀ b o,X.s₀.heap.get? b = some o → b ≠ X.env.locals := fun b o e => Nat.ne_of_lt (Nat.lt_of_lt_of_le (Heap.lt_size e) I.ok.above)
  have neC : ∀ b o,X.s₀.heap.get? b = some o → b ∉ X.ex → b ∉ ch := fun b o e hx hb => by
    rcases (hch b hb).1 with z | z
    · exact hx z
    · exact absurd (Nat.lt_of_lt_of_le (Heap.lt_size e) z) (Nat.lt_irrefl _)
  have cellK : ∀ x c,X.env.cells.lookup x = some c → ∀ v,s.heap.IsCell c v → h'.IsCell c v := fun x c e v ⟨o,ho,hd⟩ => by
    have nch : c ∉ ch := fun z => (hch c z).2.2.1 x c e rfl
    by_cases hc : c ∈ X.fs
    · obtain ⟨sl,q⟩ := slot c o (I.cne x c e) hc nch ho (I.freeC x c e)
      exact ⟨_,q,hd⟩
    · exact ⟨o,keep c o (I.cne x c e) hc nch ho (I.freeC x c e),hd⟩
  refine ⟨I.ok,I.os,hg,⟨fun b o e n hb hx => ?_,fun b o e n hb hx => ?_,fun b o e n hx => ?_,fun b o e hx => ?_,fun b xs e => tups b xs (I.base.tups b xs e),fun b o xs e => frzs b o xs (I.base.frzs b o xs e),fun b ps e => ?_⟩,?_,fun x c e => ?_,?_,fun x c e => ?_,fun p hp => ?_,hok,I.len⟩
  · exact keep b o (neL b o e) hb (neC b o e hx) (I.base.keep b o e n hb hx) (I.base.free b o e n hx)
  · obtain ⟨sl,e1⟩ := I.base.slot b o e n hb hx
    obtain ⟨sl',e2⟩ := slot b _ (neL b o e) hb (neC b o e hx) e1 (I.base.free b o e n hx)
    exact ⟨sl',e2⟩
  · obtain ⟨o',e1⟩ := I.base.there b o e hx
    exact free b o' (neC b o e hx) e1 (I.base.free b o e n hx)
  · obtain ⟨o',e1⟩ := I.base.there b o e hx
    exact there b o' (neC b o e hx) e1
  · obtain ⟨m1,e1⟩ := I.base.tbls b ps e
    obtain ⟨m2,e2⟩ := tbls b _ e1
    exact ⟨m1 ++ m2,by rw [e2,Array.append_assoc]⟩
  · obtain ⟨m,hn,hl⟩ := I.loc
    refine ⟨m,ns m hn,fun i x v e1 e2 e3 => ?_⟩
    obtain ⟨u,r,l⟩ := hl i x v e1 e2 e3
    refine ⟨u,r,?_⟩
    rcases l with l | ⟨k,c,e,z⟩
    · exact .inl l
    · exact .inr ⟨k,c,e,cellK x c e _ z⟩
  · obtain ⟨v,z⟩ := I.cell x c e
    exact ⟨v,cellK x c e v z⟩
  · obtain ⟨m,⟨o,_,_,ho,_⟩,_⟩ := I.loc
    exact free _ o (fun z => (hch _ z).2.1 rfl) ho I.free
  · obtain ⟨v,o,ho,hd⟩ := I.cell x c e
    exact free c o (fun z => (hch c z).2.2.1 x c e rfl) ho (I.freeC x c e)
  · obtain ⟨e,n,ne,nf,d⟩ := I.pin p hp
    have nch : p.1 ∉ ch := fun z => (hch p.1 z).2.2.2 p hp rfl
    exact ⟨keep p.1 p.2 ne nf nch e n,free p.1 p.2 nch e n,ne,nf,d⟩
theorem Inv.un {t' : Nat} (I : Inv X pins σ H s) (u : Un X.fs [] H H' s.heap h') (hok : HOk X.prog X.w H' h') : Inv X pins σ H' { s with heap := h',toks := t' } := by
  obtain ⟨m,⟨o,es,ep,ho,r⟩,_⟩ := id I.loc
  obtain ⟨sl,hL⟩ := u.any ho I.free (by simp)
  exact I.step (g' := s.gens) (d' := s.drawn) (ch := []) (fun _ z => nomatch z) (fun b o _ hb _ e n => u.keep b o e n hb (by simp)) (fun b o _ hb _ e n => u.slot b o e n hb (by simp)) (fun b o _ e n => u.free b o e n (by simp)) (fun b o _ e => u.there b o e (by simp)) u.tups u.frzs u.tbls (fun m' hm => by
    obtain ⟨o',es',ep',ho',r'⟩ := hm
    rw [ho] at ho'; cases ho'
    exact ⟨_,es',ep',hL,r'⟩) hok I.bare
theorem Inv.call {g' : Array GenState} {t' : Nat} {d' : Drawn} {ch : List Addr} (I : Inv X pins σ H s) (u : Un (frs X.stack) ch H H' s.heap h') (hok : HOk X.prog X.w H' h') (hg : AllBare g')
    (hch : ∀ b ∈ ch,(b ∈ X.ex ∨ X.s₀.heap.objs.size ≤ b) ∧ b ≠ X.env.locals ∧ (∀ x c,X.env.cells.lookup x = some c → c ≠ b) ∧ ∀ p ∈ X.pn ++ pins,p.1 ≠ b) :
    Inv X pins σ H' { s with heap := h',gens := g',drawn := d',toks := t' } := by
  obtain ⟨m,⟨o,es,ep,ho,r⟩,_⟩ := id I.loc
  obtain ⟨sl,hL⟩ := u.any ho I.free fun z => (hch _ z).2.1 rfl
  exact I.step (ch := ch) hch (fun b o hL hb hc e n => u.keep b o e n (fun z => (List.mem_cons.mp (I.stkSub b z)).elim hL hb) hc) (fun b o _ _ hc e n => u.any e n hc) (fun b o hc e n => u.free b o e n hc) (fun b o hc e => u.there b o e hc) u.tups u.frzs u.tbls (fun m' hm => by
    obtain ⟨o',es',ep',ho',r'⟩ := hm
    rw [ho] at ho'; cases ho'
    exact ⟨_,es',ep',hL,r'⟩) hok hg
theorem Inv.turned {t' : Nat} {it : Addr} (I : Inv X pins σ H s) (k : ∀ b o,b ≠ it → s.heap.get? b = some o → h'.get? b = some o) (hn : H it = none) (hL : it ≠ X.env.locals)
    (h1 : it ∈ X.ex ∨ X.s₀.heap.objs.size ≤ it) (h2 : ∀ x c,X.env.cells.lookup x = some c → c ≠ it) (h3 : ∀ p ∈ X.pn ++ pins,p.1 ≠ it) : Inv X pins σ H { s with heap := h',toks := t' } := by
  have nit : ∀ b u,H b = some u → b ≠ it := fun b u e z => by rw [z,hn] at e; cases e
  refine I.step (g' := s.gens) (d' := s.drawn) (ch := [it]) (fun b hb => ?_) (fun b o _ _ hc e _ => k b o (fun z => hc (by simp [z])) e) (fun b o _ _ hc e _ => ⟨o.slots,k b o (fun z => hc (by simp [z])) e⟩) (fun _ _ _ _ n => n)
    (fun b o hc e => ⟨o,k b o (fun z => hc (by simp [z])) e⟩) (fun _ _ e => e) (fun _ _ _ e => e) (fun b ps e => ⟨#[],by rw [e]; simp⟩) (fun m hm => ?_) (fun b u e => ?_) I.bare
  · have e : b = it := by simpa using hb
    subst e
    exact ⟨h1,hL,h2,h3⟩
  · obtain ⟨o,es,ep,ho,r⟩ := hm
    exact ⟨o,es,ep,k _ o (Ne.symm hL) ho,r⟩
  · refine (I.hok b u e).stay (fun c v hc q => k c v ?_ q) (fun _ q => q) fun _ _ q => q
    rcases hc with z | z
    · rw [z]; exact nit b u e
    · exact nit c _ z
theorem Inv.tok (I : Inv X pins σ H s) (t : Nat) : Inv X pins σ H { s with toks := t } := I.un (h' := s.heap) (t' := t) Un.refl I.hok
theorem Inv.kept {t' : Nat} (I : Inv X pins σ H s) (k : ∀ b u,s.heap.get? b = some u → h'.get? b = some u) : Inv X pins σ H { s with heap := h',toks := t' } := I.un (Un.kept k) (I.hok.kept k)
theorem Inv.laid {a : Addr} {o : HO} {t' : Nat} (I : Inv X pins σ H s) (k : ∀ b u,s.heap.get? b = some u → h'.get? b = some u) (hp : s.heap.objs.size ≤ a) (new : ObjOk X.prog X.w (upd H a o) h' a o) :
    Inv X pins σ (upd H a o) { s with heap := h',toks := t' } := I.un (Un.laid k hp (I.hok.fresh hp)) (I.hok.laid k hp new)
theorem Inv.write {x e : Addr} {o : HO} {t' : Nat} (I : Inv X pins σ H s) (mu : Mut (H x)) (he : e = x ∨ H e = some (.own x)) (k : ∀ b u,b ≠ e → s.heap.get? b = some u → h'.get? b = some u) (heo : ∃ u,h'.get? e = some u)
    (new : ObjOk X.prog X.w (upd H x o) h' x o) : Inv X pins σ (upd H x o) { s with heap := h',toks := t' } := I.un (Un.write mu he k heo) (I.hok.write mu he k heo new)
theorem Inv.pins_of {pins' : List (Addr × Obj)} (I : Inv X pins σ H s) (h : ∀ p ∈ pins',s.heap.get? p.1 = some p.2 ∧ H p.1 = none ∧ p.1 ≠ X.env.locals ∧ p.1 ∉ X.fs ∧ ∀ v,p.2.data ≠ .cell v) : Inv X pins' σ H s :=
  ⟨I.ok,I.os,I.bare,I.base,I.loc,I.cell,I.free,I.freeC,fun p hp => (List.mem_append.mp hp).elim (fun z => I.pin p (List.mem_append_left _ z)) (h p),I.hok,I.len⟩
theorem nodup_ix {N : List Str} (hN : N.Nodup) {i j : Nat} {x : Str} (a : N[i]? = some x) (b : N[j]? = some x) : i = j := by
  obtain ⟨h1,e1⟩ := List.getElem?_eq_some_iff.mp a
  obtain ⟨h2,e2⟩ := List.getElem?_eq_some_iff.mp b
  exact (List.getElem_inj hN).mp (e1.trans e2.symm)
theorem store_ok2 {M : Model} {A : Around} {E : Value → Shared → Prop} {i : Nat} {x : Str} {v : V} {u : Value} {Q : Unit → Shared → Prop} (I : Inv X pins σ H s) (hN : X.N.Nodup) (hi : X.N[i]? = some x) (hx : Loc X.env.scope x) (r : RelV v u)
    (h : ∀ s',Inv X pins (σ.set i (some v)) H s' → (∃ a,Heap.SameBut a s.heap s'.heap ∧ (a = X.env.locals ∨ X.env.cells.lookup x = some a)) → Q () s') (hf : X.fn x = true ∨ X.env.scope.names.lookup x = some .local := by first | exact .inl rfl | exact .inr rfl | assumption) : wpAny M A (storeName X.env x u) Q E s := by
  obtain ⟨m,hn,hl⟩ := id I.loc
  have hcls : (X.env.scope.kind == .class || (X.env.scope.kind == .module && X.env.locals != X.env.globals)) = false := by rw [I.ok.kind]; rfl
  have hiσ : i < σ.length := by rw [I.len]; exact (List.getElem?_eq_some_iff.mp hi).1
  have cne := I.cne
  have tracked : ∀ {a : Addr} {h' : Heap},(∃ o,s.heap.get? a = some o ∧ H a = none) → Heap.SameBut a s.heap h' → HOk X.prog X.w H h' := fun {a h'} ha hs b ob e => by
    obtain ⟨_,_,hfree⟩ := ha
    refine (I.hok b ob e).stay (fun c w' hc q => (hs.2 c ?_).trans q) (fun _ q => q) fun _ _ q => q
    rintro rfl
    rcases hc with rfl | hc
    · rw [hfree] at e; cases e
    · rw [hfree] at hc; cases hc
  rcases hx with hk | hk
  · refine wpAny_storeName_local hk hn (fun h' hn' hs => ?_) hcls
    obtain ⟨oL,_,_,hoL,_⟩ := id hn
    refine h _ ⟨I.ok,I.os,I.bare,⟨fun b o e n hb hx => ?_,fun b o e n hb hx => ?_,I.base.free,fun b o e hx => ?_,I.base.tups,I.base.frzs,I.base.tbls⟩,⟨_,hn',fun j y v' e1 e2 e3 => ?_⟩,fun y c e => ?_,I.free,I.freeC,fun p hp => ?_,tracked ⟨oL,hoL,I.free⟩ hs,by simpa using I.len⟩ ⟨_,hs,.inl rfl⟩
    · exact (hs.2 b (Nat.ne_of_lt (Nat.lt_of_lt_of_le (Heap.lt_size e) I.ok.above))).trans (I.base.keep b o e n hb hx)
    · obtain ⟨sl,e1⟩ := I.base.slot b o e n hb hx
      exact ⟨sl,(hs.2 b (Nat.ne_of_lt (Nat.lt_of_lt_of_le (Heap.lt_size e) I.ok.above))).trans e1⟩
    · obtain ⟨o',e1⟩ := I.base.there b o e hx
      exact ⟨o',(hs.2 b (Nat.ne_of_lt (Nat.lt_of_lt_of_le (Heap.lt_size e) I.ok.above))).trans e1⟩
    · by_cases hj : j = i
      · subst hj
        rw [hi] at e1; cases e1
        rw [List.getElem?_set_self hiσ] at e2
        cases e2
        exact ⟨u,r,.inl ⟨hk,by simp⟩⟩
      · rw [List.getElem?_set_ne (Ne.symm hj)] at e2
        obtain ⟨u',r',q⟩ := hl j y v' e1 e2 e3
        refine ⟨u',r',?_⟩
        rcases q with ⟨k,e⟩ | ⟨k,c,e,z⟩
        · refine .inl ⟨k,?_⟩
          have : y ≠ x := fun e => hj (nodup_ix hN e1 (e ▸ hi))
          simp [this,e]
        · exact .inr ⟨k,c,e,z.sameBut hs (cne y c e)⟩
    · obtain ⟨w',z⟩ := I.cell y c e
      exact ⟨w',z.sameBut hs (cne y c e)⟩
    · obtain ⟨e,n,ne,nf,d⟩ := I.pin p hp
      exact ⟨(hs.2 p.1 ne).trans e,n,ne,nf,d⟩
  · have hfn : X.fn x = true := by
      rcases hf with z | z
      · exact z
      · rw [z] at hk; cases hk
    obtain ⟨c,hc⟩ := I.ok.has x (.inl hk)
    obtain ⟨w',z⟩ := I.cell x c hc
    refine wpAny_storeName_cell I.ok.kind hk hc z (fun h' hc' hs => ?_)
    obtain ⟨oc,hoc,hocd⟩ := id z
    refine h { s with heap := h' } ⟨I.ok,I.os,I.bare,⟨fun b o e n hb hx => ?_,fun b o e n hb hx => ?_,I.base.free,fun b o e hx => ?_,I.base.tups,I.base.frzs,I.base.tbls⟩,⟨m,hn.sameBut hs (Ne.symm (cne x c hc)),fun j y v' e1 e2 e3 => ?_⟩,fun y c' e => ?_,I.free,I.freeC,fun p hp => ?_,tracked ⟨oc,hoc,I.freeC x c hc⟩ hs,by simpa using I.len⟩ ⟨c,hs,.inr hc⟩
    · exact (hs.2 b (Nat.ne_of_lt (Nat.lt_of_lt_of_le (Heap.lt_size e) (I.ok.cab x c hfn hc)))).trans (I.base.keep b o e n hb hx)
    · obtain ⟨sl,e1⟩ := I.base.slot b o e n hb hx
      exact ⟨sl,(hs.2 b (Nat.ne_of_lt (Nat.lt_of_lt_of_le (Heap.lt_size e) (I.ok.cab x c hfn hc)))).trans e1⟩
    · obtain ⟨o',e1⟩ := I.base.there b o e hx
      exact ⟨o',(hs.2 b (Nat.ne_of_lt (Nat.lt_of_lt_of_le (Heap.lt_size e) (I.ok.cab x c hfn hc)))).trans e1⟩
    · by_cases hj : j = i
      · subst hj
        rw [hi] at e1; cases e1
        rw [List.getElem?_set_self hiσ] at e2
        cases e2
        exact ⟨u,r,.inr ⟨.inl hk,c,hc,hc'⟩⟩
      · rw [List.getElem?_set_ne (Ne.symm hj)] at e2
        obtain ⟨u',r',q⟩ := hl j y v' e1 e2 e3
        refine ⟨u',r',?_⟩
        rcases q with q | ⟨k,c',e,z'⟩
        · exact .inl q
        · refine .inr ⟨k,c',e,z'.sameBut hs ?_⟩
          rintro rfl
          exact hj (nodup_ix hN e1 (I.ok.inj _ _ _ e hc ▸ hi))
    · by_cases hcc : c' = c
      · subst hcc; exact ⟨_,hc'⟩
      · obtain ⟨w2,z2⟩ := I.cell y c' e
        exact ⟨w2,z2.sameBut hs hcc⟩
    · obtain ⟨e,n,ne,nf,d⟩ := I.pin p hp
      refine ⟨(hs.2 p.1 ?_).trans e,n,ne,nf,d⟩
      intro q
      rw [q,hoc] at e
      have q' : oc = p.2 := Option.some.inj e
      exact d w' (by rw [← q']; exact hocd)
theorem store_ok {M : Model} {A : Around} {E : Value → Shared → Prop} {i : Nat} {x : Str} {v : V} {u : Value} {Q : Unit → Shared → Prop} (I : Inv X pins σ H s) (hN : X.N.Nodup) (hi : X.N[i]? = some x) (hx : Loc X.env.scope x) (r : RelV v u)
    (h : ∀ s',Inv X pins (σ.set i (some v)) H s' → Q () s') (hf : X.fn x = true ∨ X.env.scope.names.lookup x = some .local := by first | exact .inl rfl | exact .inr rfl | assumption) : wpAny M A (storeName X.env x u) Q E s :=
  store_ok2 I hN hi hx r (fun s' I' _ => h s' I') hf
theorem Inv.call' {s' : Shared} {ch : List Addr} (I : Inv X pins σ H s) (ho : s'.os = s.os) (u : Un (frs X.stack) ch H H' s.heap s'.heap) (hok : HOk X.prog X.w H' s'.heap) (hg : AllBare s'.gens)
    (hch : ∀ b ∈ ch,(b ∈ X.ex ∨ X.s₀.heap.objs.size ≤ b) ∧ b ≠ X.env.locals ∧ (∀ x c,X.env.cells.lookup x = some c → c ≠ b) ∧ ∀ p ∈ X.pn ++ pins,p.1 ≠ b) : Inv X pins σ H' s' := by
  obtain ⟨h',g',d',t',o'⟩ := s'
  have e : o' = s.os := ho
  subst e
  exact I.call (g' := g') (t' := t') (d' := d') u hok hg hch
end
abbrev XK := Value → Option Addr → Hp → Prop
abbrev St := List (Option V)
abbrev VK := V → Hp → Prop
abbrev TE := St → Hp → VK → Prop
abbrev TT := St → Hp → (Bool → Hp → Prop) → Prop
abbrev TA := St → Hp → (List V → Hp → Prop) → Prop
structure Ends where
  nx : St → Hp → Prop
  rt : VK
  bk : St → Hp → Prop := fun _ _ => False
  ct : St → Hp → Prop := fun _ _ => False
abbrev TS := Ends → St → Hp → Prop
def EP (X : Cx) (pins : List (Addr × Obj)) (σ : St) (Q : VK) (u : Value) (s' : Shared) : Prop := ∃ v H',Inv X pins σ H' s' ∧ RelV v u ∧ Q v H'
def TP (X : Cx) (pins : List (Addr × Obj)) (σ : St) (Q : Bool → Hp → Prop) (b : Bool) (s' : Shared) : Prop := ∃ H',Inv X pins σ H' s' ∧ Q b H'
def AP (X : Cx) (pins : List (Addr × Obj)) (σ : St) (Q : List V → Hp → Prop) (us : List Value) (s' : Shared) : Prop := ∃ vs H',Inv X pins σ H' s' ∧ Vals vs us ∧ Q vs H'
def SP (X : Cx) (pins : List (Addr × Obj)) (D : Ends) (f : Flow) (s' : Shared) : Prop :=
  match f with
  | .next => ∃ σ' H',Inv X pins σ' H' s' ∧ D.nx σ' H'
  | .brk => ∃ σ' H',Inv X pins σ' H' s' ∧ D.bk σ' H'
  | .cont => ∃ σ' H',Inv X pins σ' H' s' ∧ D.ct σ' H'
  | .ret u => ∃ v σ' H',Inv X pins σ' H' s' ∧ RelV v u ∧ D.rt v H'
def PE (X : Cx) (e : Expr) (t : TE) : Prop :=
  ∀ (pins : List (Addr × Obj)) (s : Shared) (σ : St) (H : Hp) (Q : VK),Inv X pins σ H s → t σ H Q → wpAny (model X.prog X.w) X.A (eval e X.env) (EP X pins σ Q) X.xe s
def PT (X : Cx) (e : Expr) (t : TT) : Prop :=
  ∀ (pins : List (Addr × Obj)) (s : Shared) (σ : St) (H : Hp) (Q : Bool → Hp → Prop),Inv X pins σ H s → t σ H Q → wpAny (model X.prog X.w) X.A (isTrue e X.env (eval e X.env)) (TP X pins σ Q) X.xe s
def PW (X : Cx) (e : Expr) (t : TT) : Prop :=
  ∀ (whole : Sem Value) (pins : List (Addr × Obj)) (s : Shared) (σ : St) (H : Hp) (Q : Bool → Hp → Prop),Inv X pins σ H s → t σ H Q → wpAny (model X.prog X.w) X.A (isTrue e X.env whole) (TP X pins σ Q) X.xe s
theorem PW.pt {X : Cx} {e : Expr} {t : TT} (h : PW X e t) : PT X e t := h _
def PA (X : Cx) (es : List Expr) (t : TA) : Prop :=
  ∀ (pos : Pos) (pins : List (Addr × Obj)) (s : Shared) (σ : St) (H : Hp) (Q : List V → Hp → Prop),Inv X pins σ H s → t σ H Q → wpAny (model X.prog X.w) X.A (spliced (backTo pos (starEach es X.env))) (AP X pins σ Q) X.xe s
def PS (X : Cx) (st : Stmt) (t : TS) : Prop :=
  ∀ (pins : List (Addr × Obj)) (s : Shared) (σ : St) (H : Hp) (D : Ends),Inv X pins σ H s → t D σ H → wpAny (model X.prog X.w) X.A (exec st X.env) (SP X pins D) X.xe s
def PSs (X : Cx) (st : List Stmt) (t : TS) : Prop :=
  ∀ (pins : List (Addr × Obj)) (s : Shared) (σ : St) (H : Hp) (D : Ends),Inv X pins σ H s → t D σ H → wpAny (model X.prog X.w) X.A (execs st X.env) (SP X pins D) X.xe s
theorem thn {α : Type} {t : Sem α} {Q Q' : α → Shared → Prop} {M : Model} {A : Around} {E : Value → Shared → Prop} {s : Shared} (h : wpAny M A t Q E s) (hQ : ∀ a s,Q a s → Q' a s) : wpAny M A t Q' E s := wpAny_mono h hQ fun _ _ x => x
end L2
namespace L2
open PySem PySem.Spec PyProof.Rows
section
variable {X : Cx}
def tVar (i : Nat) : TE := fun σ H Q => ∃ v,σ[i]? = some (some v) ∧ Q v H
def tC (v : V) : TE := fun _ H Q => Q v H
theorem pe_var {i : Nat} {x : Str} {pos : Pos} (hN : X.N[i]? = some x) (hv : Vis X.env.scope x) (hd : (x == ("__debug__" : Str)) = false := by decide) (hcd : (x == ("__classdict__" : Str)) = false := by decide) : PE X (.Name x pos) (tVar i) := by
  intro pins s σ H Q I h
  obtain ⟨v,e,h⟩ := h
  obtain ⟨m,hn,hl⟩ := I.loc
  obtain ⟨u,r,l⟩ := hl i x v hN e hv
  have fin : EP X pins σ Q u s := ⟨v,H,I,r,h⟩
  rcases l with ⟨hk,hm⟩ | ⟨hk,c,hc,hcell⟩
  · exact wpAny_Name (wpAny_loadName_local I.ok.kind hk hn hm fin) hd
  · rcases hk with hk | hk
    · exact wpAny_Name (wpAny_loadName_cell I.ok.kind hk hc hcell fin) hd
    · exact wpAny_Name (wpAny_loadName_free I.ok.kind hk hc hcell fin hcd) hd
theorem pe_int {i j pos} : PE X (.Constant (.int i) j pos) (tC (.int i)) := fun _ _ _ H _ I h => wpAny_Constant_int ⟨.int i,H,I.tok _,⟨_,rfl⟩,h⟩
theorem pe_bl {b j pos} : PE X (.Constant (.bool b) j pos) (tC (.bl b)) := fun _ _ _ H _ I h => Constant_bool ⟨.bl b,H,I,rfl,h⟩
theorem pe_non {j pos} : PE X (.Constant .none j pos) (tC .non) := fun _ _ _ H _ I h => Constant_none ⟨.non,H,I,rfl,h⟩
theorem pe_str {x j pos} : PE X (.Constant (.str x) j pos) (tC (.str x)) := fun _ _ _ H _ I h => Calls.Constant_str ⟨.str x,H,I.tok _,⟨_,rfl⟩,h⟩
def Gl (X : Cx) (x : Str) : Prop := X.env.kindOf x = some .globalImplicit
theorem ld_glob {E : Value → Shared → Prop} {pins : List (Addr × Obj)} {s : Shared} {σ : St} {H : Hp} {x : Str} {u : Value} {pos : Pos} {Q : Value → Shared → Prop} (I : Inv X pins σ H s) (hg : Gl X x) (hm : X.mg x = some u) (h : Q u s)
    (hd : (x == ("__debug__" : Str)) = false := by decide) : wpAny (model X.prog X.w) X.A (eval (.Name x pos) X.env) Q E s :=
  Calls.Name_function_global I.ok.kind hg (Calls.loadGlobal_global (by rw [I.ok.glob]; exact I.mod.glob.keeps I.bk) hm h) hd
theorem ld_blt {E : Value → Shared → Prop} {pins : List (Addr × Obj)} {s : Shared} {σ : St} {H : Hp} {x : Str} {u : Value} {pos : Pos} {Q : Value → Shared → Prop} (I : Inv X pins σ H s) (hg : Gl X x) (hm : X.mg x = none) (hv : bootBuiltins x = some u) (h : Q u s)
    (hn : x ≠ "__name__" := by decide) (hd : (x == ("__debug__" : Str)) = false := by decide) : wpAny (model X.prog X.w) X.A (eval (.Name x pos) X.env) Q E s := by
  obtain ⟨mb,h1,h2⟩ := I.mod.blt
  exact Calls.Name_function_global I.ok.kind hg (Calls.loadGlobal_builtin (by rw [I.ok.glob]; exact I.mod.glob.keeps I.bk) hm (by rw [I.ok.blt]; exact h1.keeps I.bk) ((h2 x hn).trans hv) h) hd
theorem pe_glob {x : Str} {v : V} {u : Value} {pos : Pos} (hg : Gl X x) (hm : X.mg x = some u) (r : RelV v u) (hd : (x == ("__debug__" : Str)) = false := by decide) : PE X (.Name x pos) (tC v) :=
  fun _ _ _ H _ I h => ld_glob I hg hm ⟨v,H,I,r,h⟩ hd
theorem pe_bltn {x : Str} {v : V} {u : Value} {pos : Pos} (hg : Gl X x) (hm : X.mg x = none) (hv : bootBuiltins x = some u) (r : RelV v u) (hn : x ≠ "__name__" := by decide) (hd : (x == ("__debug__" : Str)) = false := by decide) : PE X (.Name x pos) (tC v) :=
  fun _ _ _ H _ I h => ld_blt I hg hm hv ⟨v,H,I,r,h⟩ hn hd
variable {a b : Expr} {ta tb : TE} {pos : Pos}
def PC (X : Cx) (op : CmpOp) (a b : Expr) (t : TE) : Prop :=
  ∀ (pins : List (Addr × Obj)) (s : Shared) (σ : St) (H : Hp) (Q : VK),Inv X pins σ H s → t σ H Q →
    wpAny (model X.prog X.w) X.A (eval a X.env) (fun v s₁ => wpAny (model X.prog X.w) X.A (eval b X.env) (fun u s₂ => wpAny (model X.prog X.w) X.A (compareOp op v u) (EP X pins σ Q) X.xe s₂) X.xe s₁) X.xe s
theorem nobehind (b : Expr) {op : CmpOp} (h : op ≠ .In) (h2 : op ≠ .NotIn) : behindInMarks op b = false := by
  have e1 : (op == CmpOp.In) = false := by cases op <;> first | rfl | exact absurd rfl h
  have e2 : (op == CmpOp.NotIn) = false := by cases op <;> first | rfl | exact absurd rfl h2
  cases b <;> simp [behindInMarks,e1,e2]
def tB (t : TE) : TT := fun σ H Q => t σ H fun x H1 => ∃ c,x = .bl c ∧ Q c H1
theorem pe_cmp {op : CmpOp} {t : TE} (h : PC X op a b t) (h1 : behindInMarks op b = false := by first | exact nobehind _ (by decide) (by decide) | rfl) : PE X (.Compare a [op] [b] pos) t := fun pins s σ H Q I hw => wpAny_Compare1 (h pins s σ H Q I hw) h1
theorem pt_cmp {op : CmpOp} {t : TE} (h : PC X op a b t) (h1 : behindInMarks op b = false := by first | exact nobehind _ (by decide) (by decide) | rfl) : PT X (.Compare a [op] [b] pos) (tB t) := by
  intro pins s σ H Q I hw
  refine wpAny_isTrue_Compare1 (thn (h pins s σ H _ I hw) fun v s1 h1 => thn h1 fun u s2 h2 => thn h2 fun c s3 ⟨x,H1,I1,r1,q1⟩ => ?_) h1
  obtain ⟨d,rfl,q⟩ := q1
  cases r1
  exact wpAny_truthy_bool ⟨H1,I1,q⟩
theorem pt_val {e : Expr} {t : TE} (h : PE X e t) (he : ∀ whole,isTrue e X.env whole = (do let v ← whole; standAt e.pos; holding [v] (truthy v)) := by intro _; rfl) : PT X e (tB t) := by
  intro pins s σ H Q I hw
  refine isTrue_plain (thn (h pins s σ H _ I hw) fun v s1 ⟨x,H1,I1,r1,q1⟩ => ?_) (he _)
  obtain ⟨d,rfl,q⟩ := q1
  cases r1
  exact wpAny_truthy_bool ⟨H1,I1,q⟩
variable {tA tB' : TT} {rest : List Expr}
def tAnd (t u : TT) : TT := fun σ H Q => t σ H fun c H1 => if c = true then u σ H1 Q else Q false H1
def tOr (t u : TT) : TT := fun σ H Q => t σ H fun c H1 => if c = true then Q true H1 else u σ H1 Q
def tNot (t : TT) : TT := fun σ H Q => t σ H fun c H1 => Q (!c) H1
theorem pw_and1 (ha : PT X a tA) : PW X (.BoolOp .And [a] pos) tA := by
  intro wh pins s σ H Q I h
  refine isTrue_and (thn (ha pins s σ H Q I h) fun c s1 e => ?_)
  cases c with
  | true => exact isTrue_and_nil e
  | false => exact e
theorem pw_or1 (ha : PT X a tA) : PW X (.BoolOp .Or [a] pos) tA := by
  intro wh pins s σ H Q I h
  refine isTrue_or (thn (ha pins s σ H Q I h) fun c s1 e => ?_)
  cases c with
  | false => exact isTrue_or_nil e
  | true => exact e
theorem pw_and (ha : PT X a tA) (hb : PW X (.BoolOp .And (b :: rest) pos) tB') : PW X (.BoolOp .And (a :: b :: rest) pos) (tAnd tA tB') := by
  intro wh pins s σ H Q I h
  refine isTrue_and (thn (ha pins s σ H _ I h) fun c s1 ⟨H1,I1,q1⟩ => ?_)
  cases c with
  | true => exact hb wh pins s1 σ H1 Q I1 q1
  | false => exact ⟨H1,I1,q1⟩
theorem pw_or (ha : PT X a tA) (hb : PW X (.BoolOp .Or (b :: rest) pos) tB') : PW X (.BoolOp .Or (a :: b :: rest) pos) (tOr tA tB') := by
  intro wh pins s σ H Q I h
  refine isTrue_or (thn (ha pins s σ H _ I h) fun c s1 ⟨H1,I1,q1⟩ => ?_)
  cases c with
  | true => exact ⟨H1,I1,q1⟩
  | false => exact hb wh pins s1 σ H1 Q I1 q1
theorem pt_not (ha : PT X a tA) : PT X (.UnaryOp .Not a pos) (tNot tA) := by
  intro pins s σ H Q I h
  exact isTrue_not (ha pins s σ H (fun c H1 => Q (!c) H1) I h)
def tAndV (ta tb : TE) : TE := fun σ H Q => ta σ H fun x H1 => ∃ c,x = .bl c ∧ if c = true then tb σ H1 Q else Q (.bl false) H1
def tOrV (ta tb : TE) : TE := fun σ H Q => ta σ H fun x H1 => ∃ c,x = .bl c ∧ if c = true then Q (.bl true) H1 else tb σ H1 Q
def tNotV (ta : TE) : TE := fun σ H Q => ta σ H fun x H1 => ∃ c,x = .bl c ∧ Q (.bl (!c)) H1
theorem pe_one {op} {t : TE} (h : PE X a t) : PE X (.BoolOp op [a] pos) t := fun pins s σ H Q I hw => BoolOp_one (h pins s σ H Q I hw)
theorem pe_and (ha : PE X a ta) (hb : PE X (.BoolOp .And (b :: rest) pos) tb) : PE X (.BoolOp .And (a :: b :: rest) pos) (tAndV ta tb) := by
  intro pins s σ H Q I h
  refine BoolOp_and (thn (ha pins s σ H _ I h) fun v s1 ⟨x,H1,I1,r1,q1⟩ => ?_)
  obtain ⟨c,rfl,q1⟩ := q1
  cases r1
  refine wpAny_truthy_bool ?_
  cases c with
  | true => exact hb pins s1 σ H1 Q I1 q1
  | false => exact ⟨.bl false,H1,I1,rfl,q1⟩
theorem pe_or (ha : PE X a ta) (hb : PE X (.BoolOp .Or (b :: rest) pos) tb) : PE X (.BoolOp .Or (a :: b :: rest) pos) (tOrV ta tb) := by
  intro pins s σ H Q I h
  refine BoolOp_or (thn (ha pins s σ H _ I h) fun v s1 ⟨x,H1,I1,r1,q1⟩ => ?_)
  obtain ⟨c,rfl,q1⟩ := q1
  cases r1
  refine wpAny_truthy_bool ?_
  cases c with
  | false => exact hb pins s1 σ H1 Q I1 q1
  | true => exact ⟨.bl true,H1,I1,rfl,q1⟩
theorem pe_not (ha : PE X a ta) : PE X (.UnaryOp .Not a pos) (tNotV ta) := by
  intro pins s σ H Q I h
  refine UnaryOp_ (thn (ha pins s σ H _ I h) fun v s1 ⟨x,H1,I1,r1,q1⟩ => ?_)
  obtain ⟨c,rfl,q1⟩ := q1
  cases r1
  exact not_of (wpAny_truthy_bool ⟨.bl (!c),H1,I1,rfl,q1⟩)
def tIf (t : TT) (ta tb : TE) : TE := fun σ H Q => t σ H fun c H1 => if c = true then ta σ H1 Q else tb σ H1 Q
theorem pe_ifExp {c : Expr} (hc : PT X c tA) (ha : PE X a ta) (hb : PE X b tb) : PE X (.IfExp c a b pos) (tIf tA ta tb) := by
  intro pins s σ H Q I h
  refine wpAny_IfExp (thn (hc pins s σ H _ I h) fun d s1 ⟨H1,I1,q1⟩ => ?_)
  cases d with
  | true => exact ha pins s1 σ H1 Q I1 q1
  | false => exact hb pins s1 σ H1 Q I1 q1
end
end L2
namespace L2
open PySem PySem.Spec PyProof.Rows
def SqL (K : PySem.W.Frag) (H : Hp) (a : Addr) (xs : List V) : Prop :=
  Rd H a (.lst xs) ∨
    ∃ (o : Obj) (its : Array Value) (n : Nat),K.lookup a = some o ∧ o.cls = .type "list" ∧ o.dict = none ∧ o.data = .seq its n ∧ its.size ≤ sizeLine ∧ Vals xs its.toList
def SqT (K : PySem.W.Frag) (H : Hp) (a : Addr) (xs : List V) : Prop :=
  Rd H a (.tup xs) ∨
    ∃ (o : Obj) (its : Array Value) (n : Nat),K.lookup a = some o ∧ o.cls = .type "tuple" ∧ o.data = .seq its n ∧ its.size ≤ sizeLine ∧ Vals xs its.toList
def absV : Value → Option V
  | .none => some .non
  | .bool b => some (.bl b)
  | .int i _ => some (.int i)
  | .str x _ => some (.str x)
  | .bytes b _ => some (.byt b)
  | .float b _ => some (.flt b)
  | .ref a => some (.ref a)
  | .type n => some (.ty n)
  | _ => none
theorem RelV.abs {x : V} {u : Value} (r : RelV x u) : absV u = some x := by
  cases x with
  | non => cases r; rfl
  | bl _ => cases r; rfl
  | int _ => obtain ⟨t,rfl⟩ := r; rfl
  | str _ => obtain ⟨t,rfl⟩ := r; rfl
  | byt _ => obtain ⟨t,rfl⟩ := r; rfl
  | flt _ => obtain ⟨t,rfl⟩ := r; rfl
  | ref _ => cases r; rfl
  | ty _ => cases r; rfl
theorem RelV.inj {x y : V} {u : Value} (r : RelV x u) (q : RelV y u) : x = y := Option.some.inj (r.abs.symm.trans q.abs)
theorem Vals.inj : ∀ {xs ys : List V} {us : List Value},Vals xs us → Vals ys us → xs = ys
  | _,_,_,.nil,.nil => rfl
  | _,_,_,.cons r t,.cons r' t' => by rw [r.inj r',Vals.inj t t']
section
variable {X : Cx} {pins : List (Addr × Obj)} {σ : St} {H : Hp} {s : Shared} {a : Addr} {xs ys : List V}
theorem SqL.of {K : PySem.W.Frag} (h : H a = some (.lst xs)) : SqL K H a xs := .inl (.inl h)
theorem SqT.of {K : PySem.W.Frag} (h : H a = some (.tup xs)) : SqT K H a xs := .inl (.inl h)
theorem Inv.list (I : Inv X pins σ H s) (h : SqL X.K H a xs) : ∃ its : List Value,Vals xs its ∧ PlainL s.heap a its.toArray ∧ xs.length ≤ sizeLine := by
  rcases h with h | ⟨o,its,n,hk,hc,hd,hs,hz,r⟩
  · obtain ⟨z,its,n,r,e⟩ := h.ok I.hok
    exact ⟨its,r,⟨_,n,e,rfl,rfl,rfl⟩,z⟩
  · refine ⟨its.toList,r,⟨o,n,I.kIn a o hk,hc,hd,by simpa using hs⟩,?_⟩
    have e := r.length
    simp only [Array.length_toList] at e
    omega
theorem Inv.tuple (I : Inv X pins σ H s) (h : SqT X.K H a xs) : ∃ its : List Value,Vals xs its ∧ IsTup s.heap a its.toArray ∧ xs.length ≤ sizeLine := by
  rcases h with h | ⟨o,its,n,hk,hc,hs,hz,r⟩
  · obtain ⟨z,its,r,p⟩ := h.ok I.hok
    exact ⟨its,r,p,z⟩
  · refine ⟨its.toList,r,⟨o,I.kIn a o hk,hc,n,by simpa using hs⟩,?_⟩
    have e := r.length
    simp only [Array.length_toList] at e
    omega
theorem Inv.list_inj (I : Inv X pins σ H s) (h : SqL X.K H a xs) (h' : SqL X.K H a ys) : xs = ys := by
  obtain ⟨its,r,⟨o,n,e,_,_,d⟩,_⟩ := I.list h
  obtain ⟨its',r',⟨o',n',e',_,_,d'⟩,_⟩ := I.list h'
  rw [e] at e'; cases e'
  rw [d] at d'
  injection d' with d1 _
  have : its = its' := by simpa using congrArg Array.toList d1
  subst this
  exact r.inj r'
theorem Inv.tuple_inj (I : Inv X pins σ H s) (h : SqT X.K H a xs) (h' : SqT X.K H a ys) : xs = ys := by
  obtain ⟨its,r,⟨o,e,_,n,d⟩,_⟩ := I.tuple h
  obtain ⟨its',r',⟨o',e',_,n',d'⟩,_⟩ := I.tuple h'
  rw [e] at e'; cases e'
  rw [d] at d'
  injection d' with d1 _
  have : its = its' := by simpa using congrArg Array.toList d1
  subst this
  exact r.inj r'
end
abbrev Cx.wish (X : Cx) (E : Value → Shared → Prop) : Cx := { X with xe := E }
abbrev Cx.nox (X : Cx) : Cx := X.wish fun _ _ => False
theorem Cx.Ok.wish {X : Cx} (ok : X.Ok) (E : Value → Shared → Prop) : (X.wish E).Ok :=
  ⟨ok.mod,ok.kind,ok.glob,ok.blt,ok.above,ok.inj,ok.has,ok.cab,ok.hd,ok.frames,ok.stk,ok.exf,ok.bs,ok.bsz,ok.noex,ok.exfs,ok.funs,ok.frf⟩
theorem Cx.Ok.unwish {X : Cx} {E : Value → Shared → Prop} (ok : (X.wish E).Ok) : X.Ok :=
  ⟨ok.mod,ok.kind,ok.glob,ok.blt,ok.above,ok.inj,ok.has,ok.cab,ok.hd,ok.frames,ok.stk,ok.exf,ok.bs,ok.bsz,ok.noex,ok.exfs,ok.funs,ok.frf⟩
section
variable {X : Cx} {pins : List (Addr × Obj)} {σ : St} {H : Hp} {s : Shared} {E : Value → Shared → Prop}
theorem Inv.wish (I : Inv X pins σ H s) (E : Value → Shared → Prop) : Inv (X.wish E) pins σ H s := ⟨I.ok.wish E,I.os,I.bare,I.base,I.loc,I.cell,I.free,I.freeC,I.pin,I.hok,I.len⟩
theorem Inv.unwish (I : Inv (X.wish E) pins σ H s) : Inv X pins σ H s := ⟨I.ok.unwish,I.os,I.bare,I.base,I.loc,I.cell,I.free,I.freeC,I.pin,I.hok,I.len⟩
theorem SP.unwish {D : Ends} {f : Flow} {s' : Shared} (h : SP (X.wish E) pins D f s') : SP X pins D f s' := by
  cases f with
  | next => obtain ⟨σ',H',I,q⟩ := h; exact ⟨σ',H',I.unwish,q⟩
  | brk => obtain ⟨σ',H',I,q⟩ := h; exact ⟨σ',H',I.unwish,q⟩
  | cont => obtain ⟨σ',H',I,q⟩ := h; exact ⟨σ',H',I.unwish,q⟩
  | ret u => obtain ⟨v,σ',H',I,r,q⟩ := h; exact ⟨v,σ',H',I.unwish,r,q⟩
theorem PE.nox {e : Expr} {t : TE} (h : PE X.nox e t) : PE X e t := fun pins s σ H Q I hw =>
  wpAny_mono (h pins s σ H Q (I.wish _) hw) (fun _ _ ⟨v,H',I',r,q⟩ => ⟨v,H',I'.unwish,r,q⟩) fun _ _ z => False.elim z
theorem PT.nox {e : Expr} {t : TT} (h : PT X.nox e t) : PT X e t := fun pins s σ H Q I hw =>
  wpAny_mono (h pins s σ H Q (I.wish _) hw) (fun _ _ ⟨H',I',q⟩ => ⟨H',I'.unwish,q⟩) fun _ _ z => False.elim z
theorem PSs.nox {st : List Stmt} {t : TS} (h : PSs X.nox st t) : PSs X st t := fun pins s σ H D I hw =>
  wpAny_mono (h pins s σ H D (I.wish _) hw) (fun _ _ q => q.unwish) fun _ _ z => False.elim z
end
section
variable {X : Cx} {st : Stmt} {rest : List Stmt} {t u : TS} {e : Expr} {te : TE} {pos : Pos}
def tNext : TS := fun D σ H => D.nx σ H
def tSeq (t u : TS) : TS := fun D σ H => t { D with nx := u D } σ H
theorem pss_nil : PSs X [] tNext := fun _ _ σ H _ I h => wpAny_execs_nil ⟨σ,H,I,h⟩
theorem pss_cons (h1 : PS X st t) (h2 : PSs X rest u) : PSs X (st :: rest) (tSeq t u) := by
  intro pins s σ H D I h
  refine wpAny_execs_cons (thn (h1 pins s σ H { D with nx := u D } I h) fun f s1 q => ?_)
  cases f with
  | next =>
    obtain ⟨σ',H',I',q⟩ := q
    exact h2 pins s1 σ' H' D I' q
  | ret v => exact q
  | brk => exact q
  | cont => exact q
theorem pss_one (h1 : PS X st t) : PSs X [st] t := by
  intro pins s σ H D I h
  refine wpAny_execs_cons (thn (h1 pins s σ H D I h) fun f s1 q => ?_)
  cases f with
  | next => exact wpAny_execs_nil q
  | ret v => exact q
  | brk => exact q
  | cont => exact q
theorem Inv.quiet {pins : List (Addr × Obj)} {σ : St} {H : Hp} {s : Shared} (I : Inv X pins σ H s) : interactive X.env = false := by simp [interactive,I.ok.kind]
def tDrop (te : TE) : TS := fun D σ H => te σ H fun _ H1 => D.nx σ H1
theorem ps_expr (he : PE X e te) (hs : swapsWith e none pos.line X.env = pure false := by rfl) : PS X (.Expr e pos) (tDrop te) := by
  intro pins s σ H D I h
  exact wpAny_Expr_any (thn (he pins s σ H _ I h) fun v s1 ⟨x,H1,I1,r1,q1⟩ => ⟨σ,H1,I1,q1⟩) I.quiet hs
def tRet (te : TE) : TS := fun D σ H => te σ H D.rt
theorem ps_ret (he : PE X e te) : PS X (.Return (some e) pos) (tRet te) := by
  intro pins s σ H D I h
  exact wpAny_Return_some (thn (he pins s σ H _ I h) fun v s1 ⟨x,H1,I1,r1,q1⟩ => ⟨x,σ,H1,I1,r1,q1⟩)
def tIfS (c : TT) (t u : TS) : TS := fun D σ H => c σ H fun b H1 => if b = true then t D σ H1 else u D σ H1
theorem ps_if {c : Expr} {a b : List Stmt} {tc : TT} (hc : PT X c tc) (ha : PSs X a t) (hb : PSs X b u) : PS X (.If c a b pos) (tIfS tc t u) := by
  intro pins s σ H D I h
  refine wpAny_If (thn (hc pins s σ H _ I h) fun d s1 ⟨H1,I1,q1⟩ => ?_)
  cases d with
  | true => exact ha pins s1 σ H1 D I1 q1
  | false => exact hb pins s1 σ H1 D I1 q1
end
abbrev TG := V → St → Hp → (St → Hp → Prop) → Prop
abbrev TGs := List V → St → Hp → (St → Hp → Prop) → Prop
def PG (X : Cx) (target : Expr) (t : TG) : Prop :=
  ∀ (pins : List (Addr × Obj)) (s : Shared) (σ : St) (H : Hp) (v : V) (u : Value) (Q : St → Hp → Prop),Inv X pins σ H s → RelV v u → t v σ H Q →
    wpAny (model X.prog X.w) X.A (assign target X.env u) (fun _ s' => ∃ σ' H',Inv X pins σ' H' s' ∧ Q σ' H') X.xe s
def PGs (X : Cx) (ts : List Expr) (t : TGs) : Prop :=
  ∀ (pins : List (Addr × Obj)) (s : Shared) (σ : St) (H : Hp) (vs : List V) (us : List Value) (Q : St → Hp → Prop),Inv X pins σ H s → Vals vs us → t vs σ H Q →
    wpAny (model X.prog X.w) X.A (assignInOrder ((assignEach ts X.env).map (·.2)) us) (fun _ s' => ∃ σ' H',Inv X pins σ' H' s' ∧ Q σ' H') X.xe s
section
variable {X : Cx} {pos : Pos}
def gName (i : Nat) : TG := fun v σ H Q => Q (σ.set i (some v)) H
theorem pg_name {i : Nat} {x : Str} (hN : X.N.Nodup) (hi : X.N[i]? = some x) (hx : Loc X.env.scope x) (hf : X.fn x = true ∨ X.env.scope.names.lookup x = some .local := by first | exact .inl rfl | exact .inr rfl | assumption) : PG X (.Name x pos) (gName i) := by
  intro pins s σ H v u Q I r h
  exact wpAny_assign_Name (store_ok I hN hi hx r (fun s' I' => ⟨_,H,I',h⟩) hf)
def gNil : TGs := fun vs σ H Q => vs = [] ∧ Q σ H
def gCons (t : TG) (u : TGs) : TGs := fun vs σ H Q => ∃ v r,vs = v :: r ∧ t v σ H fun σ' H' => u r σ' H' Q
theorem pgs_nil : PGs X [] gNil := by
  intro pins s σ H vs us Q I r h
  obtain ⟨e,h⟩ := h
  subst e
  cases r
  exact assignInOrder_nil ⟨σ,H,I,h⟩
theorem pgs_cons {e : Expr} {es : List Expr} {t : TG} {u : TGs} (h1 : PG X e t) (h2 : PGs X es u)
    (hs : (assignEach (e :: es) X.env).map (·.2) = assign e X.env :: (assignEach es X.env).map (·.2) := by rfl) : PGs X (e :: es) (gCons t u) := by
  intro pins s σ H vs us Q I r h
  obtain ⟨v,vr,e1,h⟩ := h
  subst e1
  cases r with
  | cons r rr =>
    rw [hs]
    refine assignInOrder_cons (thn (h1 pins s σ H _ _ _ I r h) fun _ s1 ⟨σ1,H1,I1,q1⟩ => ?_)
    exact h2 pins s1 σ1 H1 _ _ Q I1 rr q1
def gTup (K : PySem.W.Frag) (n : Nat) (t : TGs) : TG := fun v σ H Q => ∃ a xs,v = .ref a ∧ SqT K H a xs ∧ xs.length = n ∧ t xs σ H Q
theorem pg_tup {es : List Expr} {k : Nat} {t : TGs} {n : Nat} (hc : X.calm = true) (h : PGs X es t)
    (hn : (assignEach es X.env).length = n := by rfl) (hst : (assignEach es X.env).findIdx? (·.1) = none := by rfl) : PG X (.Tuple es k pos) (gTup X.K n t) := by
  intro pins s σ H v u Q I r hw
  obtain ⟨a,xs,e1,hq,hl,hw⟩ := hw
  subst e1
  cases r
  obtain ⟨its,rv,ht,hz⟩ := I.tuple hq
  refine assign_Tuple_tuple (I.ok.hd hc) ht (by simp [hn,← hl,rv.length]) hst fun h' hx => ?_
  have I1 : Inv X pins σ H { s with heap := h' } := I.kept (t' := s.toks) fun b o e => hx b o (Nat.ne_of_lt (Heap.lt_size e)) e
  exact h pins _ σ H xs _ Q I1 (by simpa using rv) hw
def tAsg (te : TE) (g : TG) : TS := fun D σ H => te σ H fun x H1 => g x σ H1 D.nx
theorem ps_asg {tg e : Expr} {te : TE} {g : TG} (he : PE X e te) (hg : PG X tg g) (hs : swapsWithSole [tg] e pos.line X.env = pure false := by rfl) (hw : swappedStores [tg] e X.env = pure none := by rfl)
    (h1 : (assignEach [tg] X.env).map (·.2) = [assign tg X.env] := by rfl) : PS X (.Assign [tg] e pos) (tAsg te g) := by
  intro pins s σ H D I h
  refine wpAny_Assign_stores (thn (he pins s σ H _ I h) fun v s1 ⟨x,H1,I1,r1,q1⟩ => ?_) hs hw
  rw [h1]
  exact thn (hg pins s1 σ H1 x v _ I1 r1 q1) fun _ s2 q => q
theorem ps_set {i : Nat} {x : Str} {e : Expr} {te : TE} {pos' : Pos} (hN : X.N.Nodup) (hi : X.N[i]? = some x) (hx : Loc X.env.scope x) (he : PE X e te) (hs : swapsWith e (some (.Name x pos')) pos.line X.env = pure false := by rfl) (hf : X.fn x = true ∨ X.env.scope.names.lookup x = some .local := by first | exact .inl rfl | exact .inr rfl | assumption) :
    PS X (.Assign [.Name x pos'] e pos) (tAsg te (gName i)) := by
  intro pins s σ H D I h
  refine wpAny_Assign_Name (thn (he pins s σ H _ I h) fun v s1 ⟨y,H1,I1,r1,q1⟩ => ?_) hs
  exact store_ok I1 hN hi hx r1 (fun s2 I2 => ⟨_,H1,I2,q1⟩) hf
end
section
variable {X : Cx} {pos : Pos}
end
structure It where
  go : Nat → Hp → Prop
  yld : Nat → Hp → V → Hp → Prop
  stop : Nat → Hp → Prop
def FpOk (X : Cx) (pins : List (Addr × Obj)) (H : Hp) (b : Addr) : Prop :=
  H b = none ∧ b ≠ X.env.locals ∧ b ∉ X.fs ∧ (b ∈ X.ex ∨ X.s₀.heap.objs.size ≤ b) ∧ (∀ x c,X.env.cells.lookup x = some c → c ≠ b) ∧ ∀ p ∈ X.pn ++ pins,p.1 ≠ b
theorem Inv.fpOk {X : Cx} {pins : List (Addr × Obj)} {σ : St} {H H' : Hp} {s : Shared} {b : Addr} (I : Inv X pins σ H s) (hb : s.heap.objs.size ≤ b) (hn : H' b = none) : FpOk X pins H' b := by
  refine ⟨hn,Nat.ne_of_gt (Nat.lt_of_lt_of_le I.lt hb),I.nofs hb,.inr (Nat.le_trans I.sz hb),fun x c e z => ?_,fun p hp z => ?_⟩
  · obtain ⟨v,q⟩ := I.cell x c e
    exact absurd (Nat.lt_of_lt_of_le q.lt (by rw [z]; exact hb)) (Nat.lt_irrefl _)
  · exact absurd (Nat.lt_of_lt_of_le (Heap.lt_size (I.pin p hp).1) (by rw [z]; exact hb)) (Nat.lt_irrefl _)
structure Turn (P : Program) (w : World) (K : PySem.W.Frag) (tg : Expr) (J : It) (fp : List Addr) (it : Addr) (tn : Nat → Heap → Prop) : Prop where
  mem : it ∈ fp
  obj : ∀ i h,tn i h → ∀ b ∈ fp,∃ o,h.get? b = some o ∧ ∀ v,o.data ≠ .cell v
  keep : ∀ i h h',tn i h → (∀ b ∈ fp,∀ o,h.get? b = some o → h'.get? b = some o) → tn i h'
  item : ∀ (X : Cx),X.prog = P → X.w = w → X.K = K → X.calm = true → ∀ (i : Nat) (pins : List (Addr × Obj)) (s : Shared) (σ : St) (H : Hp) (E : Value → Shared → Prop),Inv X pins σ H s → (∀ b ∈ fp,FpOk X pins H b) → tn i s.heap → J.go i H →
    wpAny (model P w) X.A (pyNext (.ref it)) (fun r s1 => ∃ u,r = some u ∧
      wpAny (model P w) X.A (letOwnedTupleGo tg (.ref it) u) (fun _ s2 => ∃ x H',Inv X pins σ H' s2 ∧ RelV x u ∧ J.yld i H x H' ∧ tn (i + 1) s2.heap ∧ ∀ b ∈ fp,H' b = none) E s1) E s
  done : ∀ (X : Cx),X.prog = P → X.w = w → X.K = K → X.calm = true → ∀ (i : Nat) (pins : List (Addr × Obj)) (s : Shared) (σ : St) (H : Hp) (E : Value → Shared → Prop),Inv X pins σ H s → (∀ b ∈ fp,FpOk X pins H b) → tn i s.heap → J.stop i H →
    wpAny (model P w) X.A (pyNext (.ref it)) (fun r s1 => r = none ∧ Inv X pins σ H s1) E s
  self : ∀ (A : Around) (i : Nat) (s : Shared) (Q : Value → Shared → Prop) (E : Value → Shared → Prop),tn i s.heap → Q (.ref it) s → wpAny (model P w) A (pyIter (.ref it)) Q E s
abbrev TI := St → Hp → (It → Hp → Prop) → Prop
def PIE (X : Cx) (pins : List (Addr × Obj)) (σ : St) (tg : Expr) (R : It → Hp → Prop) (itv : Value) (s2 : Shared) : Prop :=
  ∃ (it : Addr) (fp : List Addr) (tn : Nat → Heap → Prop) (J : It) (H' : Hp),itv = .ref it ∧ Inv X pins σ H' s2 ∧ Turn X.prog X.w X.K tg J fp it tn ∧ tn 0 s2.heap ∧ (∀ b ∈ fp,FpOk X pins H' b) ∧ R J H'
def PI (X : Cx) (tg iter : Expr) (wi : TI) : Prop :=
  ∀ (pins : List (Addr × Obj)) (s : Shared) (σ : St) (H : Hp) (R : It → Hp → Prop),Inv X pins σ H s → wi σ H R →
    wpAny (model X.prog X.w) X.A (eval iter X.env) (fun v s1 => wpAny (model X.prog X.w) X.A (pyIter v) (PIE X pins σ tg R) X.xe s1) X.xe s
theorem go_of {M : Model} {A : Around} {E : Value → Shared → Prop} {s : Shared} {tg : Expr} {it : Addr} {u : Value} {o : Obj} {n : String} {vs : Array Value} {Q : Unit → Shared → Prop} (ho : s.heap.get? it = some o) (hc : o.cls = .type n) (hd : o.data = .fields vs)
    (hn : ["enumerate", "zip", "dict_itemiterator", "dict_reverseitemiterator", "odict_iterator", "itertools.zip_longest", "itertools.pairwise"].contains n = false) (hQ : Q () s) : wpAny M A (letOwnedTupleGo tg (.ref it) u) Q E s := by
  unfold letOwnedTupleGo
  cases tg <;> first
    | exact wpAny_pure hQ
    | (cases u <;> first
        | exact wpAny_pure hQ
        | (refine wpAny_bind (wpAny_load ho ?_)
           rw [hc,hd]
           show wpAny M A (if (["enumerate", "zip", "dict_itemiterator", "dict_reverseitemiterator", "odict_iterator", "itertools.zip_longest", "itertools.pairwise"].contains n && vs[0]? == some (rawInt _)) = true then _ else _) Q E s
           rw [if_neg (by intro h; rw [hn,Bool.false_and] at h; cases h)]
           exact wpAny_pure hQ))
def Itl (K : PySem.W.Frag) (a : Addr) : It :=
  ⟨fun i H => ∃ xs x,SqL K H a xs ∧ xs[i]? = some x,fun i H x H' => H' = H ∧ ∀ xs,SqL K H a xs → xs[i]? = some x,fun i H => ∃ xs,SqL K H a xs ∧ xs.length ≤ i⟩
def Itt (K : PySem.W.Frag) (a : Addr) : It :=
  ⟨fun i H => ∃ xs x,SqT K H a xs ∧ xs[i]? = some x,fun i H x H' => H' = H ∧ ∀ xs,SqT K H a xs → xs[i]? = some x,fun i H => ∃ xs,SqT K H a xs ∧ xs.length ≤ i⟩
def Itr (lo : Int) (n : Nat) : It := ⟨fun i _ => i < n,fun i H x H' => H' = H ∧ x = .int (lo + i),fun i _ => n ≤ i⟩
theorem turn_list {P : Program} {w : World} {K : PySem.W.Frag} {tg : Expr} (a it : Addr) : Turn P w K tg (Itl K a) [it] it (fun i h => h.IsListIter it a i) where
  mem := by simp
  obj := fun i h st b hb => by
    have e : b = it := by simpa using hb
    subst e
    obtain ⟨o,e,c,d⟩ := st
    exact ⟨o,e,fun v z => by rw [d] at z; cases z⟩
  keep := fun i h h' st k => st.at fun o e => k it (by simp) o e
  item := by
    intro X hP hw hK hc i pins s σ H E I hf st hg
    subst hP hw hK
    obtain ⟨xs,x,hq,hx⟩ := hg
    obtain ⟨its,rv,p,hz⟩ := I.list hq
    obtain ⟨u,hu,ru⟩ := rv.get hx
    obtain ⟨f0,f1,f2,f3,f4,f5⟩ := hf it (by simp)
    refine wpAny_pyNext_list_item st p.isList (x := u) (by simpa using hu) fun h' st' sb => ?_
    have I1 : Inv X pins σ H { s with heap := h' } := I.turned (t' := s.toks) (fun b o hb e => (sb.2 b hb).trans e) f0 f1 f3 f4 f5
    obtain ⟨o,e,c,d⟩ := id st'
    exact ⟨u,rfl,go_of (s := { s with heap := h' }) e c d (by decide) ⟨x,H,I1,ru,⟨rfl,fun ys hy => by rw [I.list_inj hy hq]; exact hx⟩,st',fun b hb => (hf b hb).1⟩⟩
  done := by
    intro X hP hw hK hc i pins s σ H E I hf st hg
    subst hP hw hK
    obtain ⟨xs,hq,hx⟩ := hg
    obtain ⟨its,rv,p,hz⟩ := I.list hq
    obtain ⟨f0,f1,f2,f3,f4,f5⟩ := hf it (by simp)
    have hl := rv.length
    exact wpAny_pyNext_list_end (I.ok.hd hc) st p.isList (by simp; omega) fun h' eb => ⟨rfl,I.turned (t' := s.toks) (fun b o hb e => eb b o hb e) f0 f1 f3 f4 f5⟩
  self := fun _ _ _ _ _ st h => wpAny_pyIter_listiter st h
theorem turn_tuple {P : Program} {w : World} {K : PySem.W.Frag} {tg : Expr} (a it : Addr) : Turn P w K tg (Itt K a) [it] it (fun i h => h.IsTupleIter it a i) where
  mem := by simp
  obj := fun i h st b hb => by
    have e : b = it := by simpa using hb
    subst e
    obtain ⟨o,e,c,d⟩ := st
    exact ⟨o,e,fun v z => by rw [d] at z; cases z⟩
  keep := fun i h h' st k => st.at fun o e => k it (by simp) o e
  item := by
    intro X hP hw hK hc i pins s σ H E I hf st hg
    subst hP hw hK
    obtain ⟨xs,x,hq,hx⟩ := hg
    obtain ⟨its,rv,p,hz⟩ := I.tuple hq
    obtain ⟨u,hu,ru⟩ := rv.get hx
    obtain ⟨f0,f1,f2,f3,f4,f5⟩ := hf it (by simp)
    refine wpAny_pyNext_tuple_item st (show s.heap.IsTuple a its.toArray from p) (x := u) (by simpa using hu) fun h' st' sb => ?_
    have I1 : Inv X pins σ H { s with heap := h' } := I.turned (t' := s.toks) (fun b o hb e => (sb.2 b hb).trans e) f0 f1 f3 f4 f5
    obtain ⟨o,e,c,d⟩ := id st'
    exact ⟨u,rfl,go_of (s := { s with heap := h' }) e c d (by decide) ⟨x,H,I1,ru,⟨rfl,fun ys hy => by rw [I.tuple_inj hy hq]; exact hx⟩,st',fun b hb => (hf b hb).1⟩⟩
  done := by
    intro X hP hw hK hc i pins s σ H E I hf st hg
    subst hP hw hK
    obtain ⟨xs,hq,hx⟩ := hg
    obtain ⟨its,rv,p,hz⟩ := I.tuple hq
    obtain ⟨f0,f1,f2,f3,f4,f5⟩ := hf it (by simp)
    have hl := rv.length
    exact wpAny_pyNext_tuple_end (I.ok.hd hc) st (show s.heap.IsTuple a its.toArray from p) (by simp; omega) fun h' eb => ⟨rfl,I.turned (t' := s.toks) (fun b o hb e => eb b o hb e) f0 f1 f3 f4 f5⟩
  self := fun _ _ _ _ _ st h => wpAny_pyIter_tupleiter st h
theorem turn_range {P : Program} {w : World} {K : PySem.W.Frag} {tg : Expr} (it : Addr) (lo : Int) (n : Nat) : Turn P w K tg (Itr lo n) [it] it (fun i h => IsRangeIter h it (lo + (i : Nat) * 1) ((n : Int) - (i : Nat)) 1) where
  mem := by simp
  obj := fun i h st b hb => by
    have e : b = it := by simpa using hb
    subst e
    exact ⟨_,st,fun v z => by
      have z' : Data.fields _ = Data.cell v := z
      cases z'⟩
  keep := fun i h h' st k => k it (by simp) _ st
  item := by
    intro X hP hw hK hc i pins s σ H E I hf st hg
    subst hP hw hK
    obtain ⟨f0,f1,f2,f3,f4,f5⟩ := hf it (by simp)
    have W := Walks.range (prog := X.prog) (w := X.w) (I.ok.hd hc) it lo 1 n
    refine W.item i s _ _ hg st fun v h' tk hv st' kk => ?_
    obtain ⟨t,rfl⟩ := hv
    have I1 : Inv X pins σ H { s with heap := h',toks := tk } := I.turned (fun b o hb e => kk b o (by simpa using hb) e) f0 f1 f3 f4 f5
    refine ⟨_,rfl,go_of (s := { s with heap := h',toks := tk }) (n := "range_iterator") st' rfl rfl (by decide) ⟨.int (lo + i),H,I1,⟨t,?_⟩,⟨rfl,rfl⟩,st',fun b hb => (hf b hb).1⟩⟩
    rw [Int.mul_one]
  done := by
    intro X hP hw hK hc i pins s σ H E I hf st hg
    subst hP hw hK
    obtain ⟨f0,f1,f2,f3,f4,f5⟩ := hf it (by simp)
    exact wpAny_pyNext_range_end (I.ok.hd hc) st (by have : n ≤ i := hg; omega) fun h' eb => ⟨rfl,I.turned (t' := s.toks) (fun b o hb e => eb b o hb e) f0 f1 f3 f4 f5⟩
  self := fun _ _ _ _ _ st h => wpAny_pyIter_rangeiter st h
end L2
namespace L2
open PySem PySem.Spec PyProof.Rows
section
variable {X : Cx} {tg : Expr}
def iList (K : PySem.W.Frag) (tl : TE) : TI := fun σ H R => tl σ H fun x H1 => ∃ a,x = .ref a ∧ (∃ xs,SqL K H1 a xs) ∧ R (Itl K a) H1
def iTup (K : PySem.W.Frag) (tl : TE) : TI := fun σ H R => tl σ H fun x H1 => ∃ a,x = .ref a ∧ (∃ xs,SqT K H1 a xs) ∧ R (Itt K a) H1
theorem pi_list {l : Expr} {tl : TE} (hl : PE X l tl) : PI X tg l (iList X.K tl) := by
  intro pins s σ H R I h
  refine thn (hl pins s σ H _ I h) fun v s1 ⟨x,H1,I1,r1,q1⟩ => ?_
  obtain ⟨a,e,⟨xs,hq⟩,q⟩ := q1
  subst e
  cases r1
  obtain ⟨its,rv,p,hz⟩ := I1.list hq
  refine wpAny_pyIter_list p.isList ?_
  refine ⟨s1.heap.objs.size,[s1.heap.objs.size],_,_,H1,rfl,I1.kept (t' := s1.toks) fun b o e => Heap.get?_push_of_some _ e,turn_list a _,⟨_,Heap.get?_push_size _ rfl,rfl,rfl⟩,fun b hb => ?_,q⟩
  have e : b = s1.heap.objs.size := by simpa using hb
  subst e
  exact I1.fpOk (Nat.le_refl _) (I1.hok.fresh (Nat.le_refl _))
theorem pi_tup {l : Expr} {tl : TE} (hl : PE X l tl) : PI X tg l (iTup X.K tl) := by
  intro pins s σ H R I h
  refine thn (hl pins s σ H _ I h) fun v s1 ⟨x,H1,I1,r1,q1⟩ => ?_
  obtain ⟨a,e,⟨xs,hq⟩,q⟩ := q1
  subst e
  cases r1
  obtain ⟨its,rv,p,hz⟩ := I1.tuple hq
  refine wpAny_pyIter_tuple (show s1.heap.IsTuple a its.toArray from p) ?_
  refine ⟨s1.heap.objs.size,[s1.heap.objs.size],_,_,H1,rfl,I1.kept (t' := s1.toks) fun b o e => Heap.get?_push_of_some _ e,turn_tuple a _,⟨_,Heap.get?_push_size _ rfl,rfl,rfl⟩,fun b hb => ?_,q⟩
  have e : b = s1.heap.objs.size := by simpa using hb
  subst e
  exact I1.fpOk (Nat.le_refl _) (I1.hok.fresh (Nat.le_refl _))
theorem range_it {pins : List (Addr × Obj)} {σ : St} {H : Hp} {s : Shared} {R : It → Hp → Prop} {E : Value → Shared → Prop} {lo hi : Int} {t u v : Tok} {tk : Nat} (I : Inv X pins σ H s) (h1 : -(2 ^ 62) ≤ lo) (h2 : lo < 2 ^ 62) (h3 : -(2 ^ 62) ≤ hi) (h4 : hi < 2 ^ 62)
    (q : R (Itr lo (hi - lo).toNat) H) : wpAny (model X.prog X.w) X.A (pyIter (.ref s.heap.objs.size)) (PIE X pins σ tg R) E { s with heap := s.heap.push { cls := .type "range", data := .fields #[.int lo t,.int hi u,.int 1 v] },toks := tk } := by
  refine wpAny_pyIter_range (IsRange.new ..) (small_one h1 h2 h3 h4) ?_
  have I1 : Inv X pins σ H { s with heap := s.heap.push { cls := .type "range", data := .fields #[.int lo t,.int hi u,.int 1 v] },toks := tk } := I.kept fun b o e => Heap.get?_push_of_some _ e
  refine ⟨(s.heap.push { cls := .type "range", data := .fields #[.int lo t,.int hi u,.int 1 v] }).objs.size,[(s.heap.push { cls := .type "range", data := .fields #[.int lo t,.int hi u,.int 1 v] }).objs.size],_,_,H,rfl,
    I1.kept (t' := tk) fun b o e => Heap.get?_push_of_some _ e,turn_range _ lo (hi - lo).toNat,?_,fun b hb => ?_,q⟩
  · have e1 : lo + ((0 : Nat) : Int) * 1 = lo := by simp
    have e2 : (((hi - lo).toNat : Nat) : Int) - ((0 : Nat) : Int) = Builtin.Range.rangeSize lo hi 1 := by rw [rangeSize_one]; split <;> omega
    show IsRangeIter _ _ (lo + ((0 : Nat) : Int) * 1) ((((hi - lo).toNat : Nat) : Int) - ((0 : Nat) : Int)) 1
    rw [e1,e2]
    exact Heap.get?_push_size _ rfl
  · have e : b = (s.heap.push { cls := .type "range", data := .fields #[.int lo t,.int hi u,.int 1 v] }).objs.size := by simpa using hb
    subst e
    exact I1.fpOk (Nat.le_refl _) (I1.hok.fresh (Nat.le_refl _))
def iRng1 (ta : TA) : TI := fun σ H R => ta σ H fun vs H1 => ∃ j : Int,vs = [.int j] ∧ -(2 ^ 62) ≤ j ∧ j < 2 ^ 62 ∧ R (Itr 0 j.toNat) H1
theorem pi_range1 {a : Expr} {ta : TA} {p pos : Pos} (hg : Gl X "range") (hm : X.mg "range" = none) (ha : PA X [a] ta) (hs : starEach [a] X.env = [(false,eval a X.env)] := by rfl) : PI X tg (.Call (.Name "range" p) [a] [] pos) (iRng1 ta) := by
  intro pins s σ H R I h
  refine Call_ (ld_blt I hg hm boot_range (PyProof.Rows.callWith_type1 (thn (ha pos pins s σ H _ I h) fun us s1 ⟨vs,H1,I1,r1,q1⟩ => ?_) hs rfl))
  obtain ⟨j,e,q1,q2,q⟩ := q1
  subst e
  cases r1 with
  | cons r rr =>
    cases rr
    obtain ⟨t,rfl⟩ := r
    exact call_range_1 (range_it I1 (by omega) (by omega) q1 q2 (by simpa using q))
def tFor (wi : TI) (g : TG) (tb : TS) : TS := fun D σ H => wi σ H fun J H1 => ∃ W : Nat → Nat → St → Hp → Prop,(∃ m,W 0 m σ H1) ∧ ∀ i m σ H,W i m σ H →
  (J.stop i H ∧ D.nx σ H) ∨ (J.go i H ∧ ∃ N : St → Hp → Prop,(∀ σ' H',N σ' H' → ∃ m',m' < m ∧ W (i + 1) m' σ' H') ∧ ∀ x H',J.yld i H x H' → g x σ H' fun σ2 H2 => tb { D with nx := N,ct := N,bk := D.nx } σ2 H2)
def pinsAt (fp : List Addr) (h : Heap) : List (Addr × Obj) := fp.filterMap fun b => (h.get? b).map fun o => (b,o)
theorem mem_pinsAt {fp : List Addr} {h : Heap} {b : Addr} {o : Obj} (hb : b ∈ fp) (e : h.get? b = some o) : (b,o) ∈ pinsAt fp h := List.mem_filterMap.mpr ⟨b,hb,by rw [e]; rfl⟩
theorem of_pinsAt {fp : List Addr} {h : Heap} {p : Addr × Obj} (hp : p ∈ pinsAt fp h) : p.1 ∈ fp ∧ h.get? p.1 = some p.2 := by
  obtain ⟨b,hb,e⟩ := List.mem_filterMap.mp hp
  cases q : h.get? b with
  | none => rw [q] at e; cases e
  | some o =>
    rw [q] at e
    have e' : (b,o) = p := Option.some.inj e
    subst e'
    exact ⟨hb,q⟩
theorem Inv.pinned {pins : List (Addr × Obj)} {σ : St} {H : Hp} {s : Shared} {fp : List Addr} (I : Inv X pins σ H s) (hf : ∀ b ∈ fp,FpOk X pins H b) (ho : ∀ b ∈ fp,∃ o,s.heap.get? b = some o ∧ ∀ v,o.data ≠ .cell v) : Inv X (pins ++ pinsAt fp s.heap) σ H s :=
  I.pins_of fun p hp => (List.mem_append.mp hp).elim (fun z => I.pin p (List.mem_append_right _ z)) fun z => by
    obtain ⟨hb,e⟩ := of_pinsAt z
    obtain ⟨f0,f1,f2,_⟩ := hf p.1 hb
    obtain ⟨o,e',d⟩ := ho p.1 hb
    rw [e] at e'; cases e'
    exact ⟨e,f0,f1,f2,d⟩
theorem Inv.unpinned {pins pl : List (Addr × Obj)} {σ : St} {H : Hp} {s : Shared} (I : Inv X (pins ++ pl) σ H s) : Inv X pins σ H s := I.pins_of fun p hp => I.pin p (List.mem_append_right _ (List.mem_append_left _ hp))
theorem ps_for {iter : Expr} {body : List Stmt} {wi : TI} {g : TG} {tb : TS} {pos : Pos} (hp : PassesOwn (model X.prog X.w) X.A X.env X.xe) (hc : X.calm = true) (hi : PI X tg iter wi) (hg : PG X tg g) (hb : PSs X body tb)
    (hs : ∀ x,foldedSetIterable iter X.env x = pure x := by intro _; rfl) : PS X (.For tg iter body [] pos) (tFor wi g tb) := by
  intro pins s σ H D I h
  refine wpAny_For (thn (hi pins s σ H _ I h) fun v s1 h1 => thn h1 fun itv s2 h2 => ?_) hs
  obtain ⟨it,fp,tn,J,H2,e,I2,T,st2,f2,W,⟨m0,w0⟩,turn⟩ := h2
  subst e
  have stat : ∀ {H' : Hp},(∀ b ∈ fp,H' b = none) → ∀ b ∈ fp,FpOk X pins H' b := fun hn b hb => ⟨hn b hb,(f2 b hb).2⟩
  refine codeAny_forLoop_any (fun n s' => ∃ i σ' H',Inv X pins σ' H' s' ∧ tn i s'.heap ∧ (∀ b ∈ fp,H' b = none) ∧ W i n σ' H') ?_ m0 ⟨0,σ,H2,I2,st2,fun b hb => (f2 b hb).1,w0⟩
  rintro n s3 ⟨i,σ3,H3,I3,st3,fr3,w3⟩
  rcases turn i n σ3 H3 w3 with ⟨stop,qn⟩ | ⟨go,N,hN,step⟩
  · refine wpAny_passesOwn hp (thn (T.done X rfl rfl rfl hc i pins s3 σ3 H3 X.xe I3 (stat fr3) st3 stop) fun r s4 ⟨hr,I4⟩ => ?_)
    subst hr
    exact wpAny_execs_nil ⟨σ3,H3,I4,qn⟩
  · refine wpAny_passesOwn hp (thn (T.item X rfl rfl rfl hc i pins s3 σ3 H3 X.xe I3 (stat fr3) st3 go) fun r s4 ⟨u,hr,h4⟩ => ?_)
    subst hr
    refine wpAny_passesOwn hp (thn h4 fun _ s5 ⟨x,H5,I5,r5,y5,st5,fr5⟩ => ?_)
    have I5' := I5.pinned (stat fr5) (T.obj _ _ st5)
    refine wpAny_passesOwn hp (thn (hg _ s5 σ3 H5 x u _ I5' r5 (step x H5 y5)) fun _ s6 ⟨σ6,H6,I6,q6⟩ => ?_)
    refine wpAny_passesOwn hp (thn (hb _ s6 σ6 H6 _ I6 q6) fun f s7 q7 => ?_)
    have again : ∀ {σ7 : St} {H7 : Hp},Inv X (pins ++ pinsAt fp s5.heap) σ7 H7 s7 → N σ7 H7 → ∃ m,m < n ∧ ∃ i σ' H',Inv X pins σ' H' s7 ∧ tn i s7.heap ∧ (∀ b ∈ fp,H' b = none) ∧ W i m σ' H' := fun {σ7 H7} I7 n7 => by
      obtain ⟨m',hm,w7⟩ := hN σ7 H7 n7
      refine ⟨m',hm,i + 1,σ7,H7,I7.unpinned,T.keep _ _ _ st5 fun b hb o e => (I7.pin (b,o) (List.mem_append_right _ (List.mem_append_right _ (mem_pinsAt hb e)))).1,fun b hb => ?_,w7⟩
      obtain ⟨o,e,d⟩ := T.obj _ _ st5 b hb
      exact (I7.pin (b,o) (List.mem_append_right _ (List.mem_append_right _ (mem_pinsAt hb e)))).2.1
    cases f with
    | next => obtain ⟨σ7,H7,I7,n7⟩ := q7; exact again I7 n7
    | cont => obtain ⟨σ7,H7,I7,n7⟩ := q7; exact again I7 n7
    | brk => obtain ⟨σ7,H7,I7,q7⟩ := q7; exact ⟨σ7,H7,I7.unpinned,q7⟩
    | ret v => obtain ⟨x7,σ7,H7,I7,r7,q7⟩ := q7; exact ⟨x7,σ7,H7,I7.unpinned,r7,q7⟩
end
theorem for_range {lo : Int} {n : Nat} {g : TG} {tb : TS} {D : Ends} {σ : St} {H : Hp} (Pv : Nat → St → Hp → Prop) (h0 : Pv 0 σ H)
    (hs : ∀ i σ H,i < n → Pv i σ H → g (.int (lo + i)) σ H fun σ2 H2 => tb { D with nx := Pv (i + 1),ct := Pv (i + 1),bk := D.nx } σ2 H2) (hd : ∀ σ H,Pv n σ H → D.nx σ H) :
    ∃ W : Nat → Nat → St → Hp → Prop,(∃ m,W 0 m σ H) ∧ ∀ i m σ H,W i m σ H →
      ((Itr lo n).stop i H ∧ D.nx σ H) ∨ ((Itr lo n).go i H ∧ ∃ N : St → Hp → Prop,(∀ σ' H',N σ' H' → ∃ m',m' < m ∧ W (i + 1) m' σ' H') ∧ ∀ x H',(Itr lo n).yld i H x H' → g x σ H' fun σ2 H2 => tb { D with nx := N,ct := N,bk := D.nx } σ2 H2) := by
  refine ⟨fun i m σ H => m = n - i ∧ i ≤ n ∧ Pv i σ H,⟨n,by simp,Nat.zero_le _,h0⟩,?_⟩
  rintro i m σ H ⟨rfl,hi,p⟩
  by_cases hlt : i < n
  · refine .inr ⟨hlt,Pv (i + 1),fun σ' H' p' => ⟨n - (i + 1),by omega,rfl,hlt,p'⟩,fun x H' y => ?_⟩
    obtain ⟨e,y⟩ := y
    subst e y
    exact hs i σ _ hlt p
  · have e : i = n := by omega
    subst e
    exact .inl ⟨Nat.le_refl _,hd σ H p⟩
end L2
namespace L2
open PySem PySem.Spec PyProof.Rows
abbrev R2 := V → V → Hp → VK → Prop
def OpR (X : Cx) (f : Value → Value → Sem Value) (r : R2) : Prop :=
  ∀ (pins : List (Addr × Obj)) (s : Shared) (σ : St) (H : Hp) (x y : V) (v u : Value) (Q : VK),Inv X pins σ H s → RelV x v → RelV y u → r x y H Q →
    wpAny (model X.prog X.w) X.A (f v u) (EP X pins σ Q) X.xe s
def UnR (X : Cx) (f : Value → Sem Value) (r : V → Hp → VK → Prop) : Prop :=
  ∀ (pins : List (Addr × Obj)) (s : Shared) (σ : St) (H : Hp) (x : V) (v : Value) (Q : VK),Inv X pins σ H s → RelV x v → r x H Q →
    wpAny (model X.prog X.w) X.A (f v) (EP X pins σ Q) X.xe s
def CallR (X : Cx) (f : Value) (r : List V → Hp → VK → Prop) : Prop :=
  ∀ (pins : List (Addr × Obj)) (s : Shared) (σ : St) (H : Hp) (xs : List V) (us : List Value) (Q : VK),Inv X pins σ H s → Vals xs us → r xs H Q →
    wpAny (model X.prog X.w) X.A (call f us) (EP X pins σ Q) X.xe s
def TruR (X : Cx) (r : V → Hp → (Bool → Hp → Prop) → Prop) : Prop :=
  ∀ (pins : List (Addr × Obj)) (s : Shared) (σ : St) (H : Hp) (x : V) (v : Value) (Q : Bool → Hp → Prop),Inv X pins σ H s → RelV x v → r x H Q →
    wpAny (model X.prog X.w) X.A (truthy v) (TP X pins σ Q) X.xe s
def tOp (r : R2) (ta tb : TE) : TE := fun σ H Q => ta σ H fun x H1 => tb σ H1 fun y H2 => r x y H2 Q
def tUn (r : V → Hp → VK → Prop) (ta : TE) : TE := fun σ H Q => ta σ H fun x H1 => r x H1 Q
def rI (C : Int → Int → Prop) (g : Int → Int → V) : R2 := fun x y H Q => ∃ i j,x = .int i ∧ y = .int j ∧ C i j ∧ Q (g i j) H
def rI0 (g : Int → Int → V) : R2 := fun x y H Q => ∃ i j,x = .int i ∧ y = .int j ∧ Q (g i j) H
def rU (g : Int → V) : V → Hp → VK → Prop := fun x H Q => ∃ i,x = .int i ∧ Q (g i) H
section
variable {X : Cx} {a b c : Expr} {ta tb tc : TE} {pos : Pos}
theorem binT (ha : PE X a ta) (hb : PE X b tb) {pins : List (Addr × Obj)} {s : Shared} {σ : St} {H : Hp} {R : V → V → Hp → Prop} (I : Inv X pins σ H s)
    (h : ta σ H fun x H1 => tb σ H1 fun y H2 => R x y H2) {Q : Value → Shared → Prop} {f : Value → Value → Sem Value}
    (hf : ∀ v u s2 x y H2,Inv X pins σ H2 s2 → RelV x v → RelV y u → R x y H2 → wpAny (model X.prog X.w) X.A (f v u) Q X.xe s2) :
    wpAny (model X.prog X.w) X.A (eval a X.env) (fun v s₁ => wpAny (model X.prog X.w) X.A (eval b X.env) (fun u s₂ => wpAny (model X.prog X.w) X.A (f v u) Q X.xe s₂) X.xe s₁) X.xe s := by
  refine thn (ha pins s σ H _ I h) fun v s1 ⟨x,H1,I1,r1,q1⟩ => ?_
  refine thn (hb pins s1 σ H1 _ I1 q1) fun u s2 ⟨y,H2,I2,r2,q2⟩ => ?_
  exact hf v u s2 x y H2 I2 r1 r2 q2
theorem pe_op {op : Operator} {r : R2} (ho : OpR X (binaryOp op) r) (ha : PE X a ta) (hb : PE X b tb) : PE X (.BinOp a op b pos) (tOp r ta tb) := by
  intro pins s σ H Q I h
  exact wpAny_BinOp (binT ha hb I h fun v u s2 x y H2 I2 rx ry q => ho pins s2 σ H2 x y v u Q I2 rx ry q)
theorem pe_un {op : UnaryOp} {r : V → Hp → VK → Prop} (ho : UnR X (unaryOp op) r) (ha : PE X a ta) : PE X (.UnaryOp op a pos) (tUn r ta) := by
  intro pins s σ H Q I h
  exact UnaryOp_ (thn (ha pins s σ H _ I h) fun v s1 ⟨x,H1,I1,r1,q1⟩ => ho pins s1 σ H1 x v Q I1 r1 q1)
theorem opI {f : Value → Value → Sem Value} {C : Int → Int → Prop} {g : Int → Int → Int}
    (rule : ∀ (i j : Int) (t u : Tok) (s : Shared) (Q : Value → Shared → Prop) (E : Value → Shared → Prop),C i j → Q (.int (g i j) s.toks) { s with toks := s.toks + 1 } → wpAny (model X.prog X.w) X.A (f (.int i t) (.int j u)) Q E s) :
    OpR X f (rI C fun i j => .int (g i j)) := by
  intro pins s σ H x y v u Q I rx ry h
  obtain ⟨i,j,rfl,rfl,hc,q⟩ := h
  obtain ⟨t,rfl⟩ := rx
  obtain ⟨t',rfl⟩ := ry
  exact rule i j t t' s _ _ hc ⟨.int (g i j),H,I.tok _,⟨_,rfl⟩,q⟩
theorem opI0 {f : Value → Value → Sem Value} {g : Int → Int → Int}
    (rule : ∀ (i j : Int) (t u : Tok) (s : Shared) (Q : Value → Shared → Prop) (E : Value → Shared → Prop),Q (.int (g i j) s.toks) { s with toks := s.toks + 1 } → wpAny (model X.prog X.w) X.A (f (.int i t) (.int j u)) Q E s) :
    OpR X f (rI0 fun i j => .int (g i j)) := by
  intro pins s σ H x y v u Q I rx ry h
  obtain ⟨i,j,rfl,rfl,q⟩ := h
  obtain ⟨t,rfl⟩ := rx
  obtain ⟨t',rfl⟩ := ry
  exact rule i j t t' s _ _ ⟨.int (g i j),H,I.tok _,⟨_,rfl⟩,q⟩
theorem opB0 {f : Value → Value → Sem Value} {g : Int → Int → Bool}
    (rule : ∀ (i j : Int) (t u : Tok) (s : Shared) (Q : Value → Shared → Prop) (E : Value → Shared → Prop),Q (.bool (g i j)) s → wpAny (model X.prog X.w) X.A (f (.int i t) (.int j u)) Q E s) :
    OpR X f (rI0 fun i j => .bl (g i j)) := by
  intro pins s σ H x y v u Q I rx ry h
  obtain ⟨i,j,rfl,rfl,q⟩ := h
  obtain ⟨t,rfl⟩ := rx
  obtain ⟨t',rfl⟩ := ry
  exact rule i j t t' s _ _ ⟨.bl (g i j),H,I,rfl,q⟩
def CDiv (i j : Int) : Prop := 0 < j ∧ j < 1073741824
def CMul (i j : Int) : Prop := (-(2 ^ 64) < i ∧ i < 2 ^ 64) ∨ (-(2 ^ 64) < j ∧ j < 2 ^ 64)
theorem CMul.ok {i j : Int} (h : CMul i j) : IntMulOk i j := by
  rcases h with ⟨h1,h2⟩ | ⟨h1,h2⟩
  · exact .of_left (intBits_le_64 h1 h2)
  · exact .of_right (intBits_le_64 h1 h2)
theorem op_add : OpR X (binaryOp .Add) (rI0 fun i j => .int (i + j)) := opI0 fun _ _ _ _ _ _ _ q => add_int q
theorem op_sub : OpR X (binaryOp .Sub) (rI0 fun i j => .int (i - j)) := opI0 fun _ _ _ _ _ _ _ q => sub_int q
theorem op_mul : OpR X (binaryOp .Mult) (rI CMul fun i j => .int (i * j)) := opI fun _ _ _ _ _ _ _ hc q => mul_int q hc.ok
theorem op_fdiv : OpR X (binaryOp .FloorDiv) (rI CDiv fun i j => .int (i / j)) := opI fun i j _ _ _ _ _ hc q => by
  have h1 : (0 : Int) < j := hc.1
  have h2 : j < 1073741824 := hc.2
  exact floordiv_int (by omega) (by rw [Int.fdiv_eq_ediv_of_nonneg i (by omega)]; exact q) (.inl (PyProof.noPylong_small (by omega)))
theorem op_mod : OpR X (binaryOp .Mod) (rI (fun _ j => 0 < j) fun i j => .int (i % j)) := opI fun i j _ _ _ _ _ hc q => by
  have h1 : (0 : Int) < j := hc
  exact mod_int' (by omega) (by rw [Int.fmod_eq_emod_of_nonneg i (by omega)]; exact q)
theorem unI {f : Value → Sem Value} {g : Int → Int}
    (rule : ∀ (i : Int) (t : Tok) (s : Shared) (Q : Value → Shared → Prop) (E : Value → Shared → Prop),Q (.int (g i) s.toks) { s with toks := s.toks + 1 } → wpAny (model X.prog X.w) X.A (f (.int i t)) Q E s) :
    UnR X f (rU fun i => .int (g i)) := by
  intro pins s σ H x v Q I rx h
  obtain ⟨i,rfl,q⟩ := h
  obtain ⟨t,rfl⟩ := rx
  exact rule i t s _ _ ⟨.int (g i),H,I.tok _,⟨_,rfl⟩,q⟩
theorem un_neg : UnR X (unaryOp .USub) (rU fun i => .int (-i)) := unI fun _ _ _ _ _ q => neg_int q
end
def scal : V → V → Bool
  | .non,.non => true | .non,.int _ => true | .int _,.non => true | .non,.bl _ => true | .bl _,.non => true | .non,.str _ => true | .str _,.non => true
  | .int _,.int _ => true | .bl _,.bl _ => true | .str _,.str _ => true | .byt _,.byt _ => true
  | .int _,.str _ => true | .str _,.int _ => true | .bl _,.str _ => true | .str _,.bl _ => true
  | _,_ => false
def rEq : R2 := fun x y H Q => scal x y = true ∧ Q (.bl (decide (x = y))) H
def rNe : R2 := fun x y H Q => scal x y = true ∧ Q (.bl (!decide (x = y))) H
theorem dec_int {i j : Int} : decide (V.int i = V.int j) = (i == j) := by
  rw [Bool.eq_iff_iff]
  simp
theorem dec_bl {i j : Bool} : decide (V.bl i = V.bl j) = (i == j) := by
  rw [Bool.eq_iff_iff]
  simp
theorem dec_str {i j : Str} : decide (V.str i = V.str j) = (i == j) := by
  rw [Bool.eq_iff_iff]
  simp
theorem dec_byt {i j : Array UInt8} : decide (V.byt i = V.byt j) = (i.toList == j.toList) := by
  rw [Bool.eq_iff_iff]
  cases i
  cases j
  simp
section
variable {X : Cx} {a b c : Expr} {ta tb tc : TE} {pos : Pos}
theorem fin_bl {pins : List (Addr × Obj)} {σ : St} {H : Hp} {s : Shared} {Q : VK} {k k' : Bool} (I : Inv X pins σ H s) (q : Q (.bl k) H) (e : k = k') : EP X pins σ Q (.bool k') s := by
  subst e
  exact ⟨.bl k,H,I,rfl,q⟩
theorem op_eq : OpR X (compareOp .Eq) rEq := by
  intro pins s σ H x y v u Q I rx ry h
  obtain ⟨hs,q⟩ := h
  cases x with
  | non =>
    cases rx
    cases y with
    | non => cases ry; exact PySem.EqNone.eq_none_none (fin_bl I q (by simp))
    | bl j => cases ry; exact PySem.EqNone.eq_none_bool (fin_bl I q (by simp))
    | int j => obtain ⟨t',rfl⟩ := ry; exact PySem.EqNone.eq_none_int (fin_bl I q (by simp))
    | str j => obtain ⟨t',rfl⟩ := ry; exact PySem.EqNone.eq_none_str (fin_bl I q (by simp))
    | _ => exact absurd (show false = true from hs) Bool.false_ne_true
  | bl i =>
    cases rx
    cases y with
    | non => cases ry; exact PySem.EqNone.eq_bool_none (fin_bl I q (by simp))
    | bl j => cases ry; exact eq_bool (fin_bl I q dec_bl)
    | str j => obtain ⟨t',rfl⟩ := ry; exact PySem.EqMixed.eq_bool_str (fin_bl I q (by simp))
    | _ => exact absurd (show false = true from hs) Bool.false_ne_true
  | int i =>
    obtain ⟨t,rfl⟩ := rx
    cases y with
    | non => cases ry; exact PySem.EqNone.eq_int_none (fin_bl I q (by simp))
    | int j => obtain ⟨t',rfl⟩ := ry; exact eq_int (fin_bl I q dec_int)
    | str j => obtain ⟨t',rfl⟩ := ry; exact PySem.EqMixed.eq_int_str (fin_bl I q (by simp))
    | _ => exact absurd (show false = true from hs) Bool.false_ne_true
  | str i =>
    obtain ⟨t,rfl⟩ := rx
    cases y with
    | non => cases ry; exact PySem.EqNone.eq_str_none (fin_bl I q (by simp))
    | bl j => cases ry; exact PySem.EqMixed.eq_str_bool (fin_bl I q (by simp))
    | int j => obtain ⟨t',rfl⟩ := ry; exact PySem.EqMixed.eq_str_int (fin_bl I q (by simp))
    | str j => obtain ⟨t',rfl⟩ := ry; exact eq_str (fin_bl I q dec_str)
    | _ => exact absurd (show false = true from hs) Bool.false_ne_true
  | byt i =>
    obtain ⟨t,rfl⟩ := rx
    cases y with
    | byt j => obtain ⟨t',rfl⟩ := ry; exact PySem.W.eq_bytes (fin_bl I q dec_byt)
    | _ => exact absurd (show false = true from hs) Bool.false_ne_true
  | _ => cases y <;> exact absurd (show false = true from hs) Bool.false_ne_true
theorem op_ne : OpR X (compareOp .NotEq) rNe := by
  intro pins s σ H x y v u Q I rx ry h
  obtain ⟨hs,q⟩ := h
  cases x with
  | non =>
    cases rx
    cases y with
    | non => cases ry; exact PySem.EqNone.ne_none_none (fin_bl I q (by simp))
    | bl j => cases ry; exact PySem.EqNone.ne_none_bool (fin_bl I q (by simp))
    | int j => obtain ⟨t',rfl⟩ := ry; exact PySem.EqNone.ne_none_int (fin_bl I q (by simp))
    | str j => obtain ⟨t',rfl⟩ := ry; exact PySem.EqNone.ne_none_str (fin_bl I q (by simp))
    | _ => exact absurd (show false = true from hs) Bool.false_ne_true
  | bl i =>
    cases rx
    cases y with
    | non => cases ry; exact PySem.EqNone.ne_bool_none (fin_bl I q (by simp))
    | bl j => cases ry; exact ne_bool (fin_bl I q (congrArg not dec_bl))
    | str j => obtain ⟨t',rfl⟩ := ry; exact PySem.EqMixed.ne_bool_str (fin_bl I q (by simp))
    | _ => exact absurd (show false = true from hs) Bool.false_ne_true
  | int i =>
    obtain ⟨t,rfl⟩ := rx
    cases y with
    | non => cases ry; exact PySem.EqNone.ne_int_none (fin_bl I q (by simp))
    | int j => obtain ⟨t',rfl⟩ := ry; exact ne_int (fin_bl I q (congrArg not dec_int))
    | str j => obtain ⟨t',rfl⟩ := ry; exact PySem.EqMixed.ne_int_str (fin_bl I q (by simp))
    | _ => exact absurd (show false = true from hs) Bool.false_ne_true
  | str i =>
    obtain ⟨t,rfl⟩ := rx
    cases y with
    | non => cases ry; exact PySem.EqNone.ne_str_none (fin_bl I q (by simp))
    | bl j => cases ry; exact PySem.EqMixed.ne_str_bool (fin_bl I q (by simp))
    | int j => obtain ⟨t',rfl⟩ := ry; exact PySem.EqMixed.ne_str_int (fin_bl I q (by simp))
    | str j => obtain ⟨t',rfl⟩ := ry; exact ne_str (fin_bl I q (congrArg not dec_str))
    | _ => exact absurd (show false = true from hs) Bool.false_ne_true
  | byt i =>
    obtain ⟨t,rfl⟩ := rx
    cases y with
    | byt j => obtain ⟨t',rfl⟩ := ry; exact PySem.W.ne_bytes (fin_bl I q (congrArg not dec_byt))
    | _ => exact absurd (show false = true from hs) Bool.false_ne_true
  | _ => cases y <;> exact absurd (show false = true from hs) Bool.false_ne_true
theorem op_lt : OpR X (compareOp .Lt) (rI0 fun i j => .bl (decide (i < j))) := opB0 fun _ _ _ _ _ _ _ q => lt_int q
theorem op_le : OpR X (compareOp .LtE) (rI0 fun i j => .bl (decide (i ≤ j))) := opB0 fun _ _ _ _ _ _ _ q => le_int q
theorem op_gt : OpR X (compareOp .Gt) (rI0 fun i j => .bl (decide (j < i))) := opB0 fun _ _ _ _ _ _ _ q => gt_int q
theorem op_in_str : OpR X (compareOp .In) (fun x y H Q => ∃ i j,x = .str i ∧ y = .str j ∧ Q (.bl (!(Builtin.Str.occurrences j i 0 j.length 1).isEmpty)) H) := by
  intro pins s σ H x y v u Q I rx ry h
  obtain ⟨i,j,rfl,rfl,q⟩ := h
  obtain ⟨t,rfl⟩ := rx
  obtain ⟨t',rfl⟩ := ry
  exact in_str (fin_bl I q rfl)
theorem op_isN : OpR X (compareOp .Is) (fun x y H Q => y = .non ∧ Q (.bl (decide (x = .non))) H) := by
  intro pins s σ H x y v u Q I rx ry h
  obtain ⟨rfl,q⟩ := h
  cases ry
  refine is_none_gen (fin_bl I q ?_)
  cases x <;> first
    | (cases rx; rfl)
    | (obtain ⟨t,rfl⟩ := rx; rfl)
theorem op_notin_str : OpR X (compareOp .NotIn) (fun x y H Q => ∃ i j,x = .str i ∧ y = .str j ∧ Q (.bl (!(!(Builtin.Str.occurrences j i 0 j.length 1).isEmpty))) H) := by
  intro pins s σ H x y v u Q I rx ry h
  obtain ⟨i,j,rfl,rfl,q⟩ := h
  obtain ⟨t,rfl⟩ := rx
  obtain ⟨t',rfl⟩ := ry
  exact notIn_str (fin_bl I q rfl)
theorem OpR.or {f : Value → Value → Sem Value} {r r' : R2} (h : OpR X f r) (h' : OpR X f r') : OpR X f (fun x y H Q => r x y H Q ∨ r' x y H Q) := by
  intro pins s σ H x y v u Q I rx ry q
  rcases q with q | q
  · exact h pins s σ H x y v u Q I rx ry q
  · exact h' pins s σ H x y v u Q I rx ry q
theorem nomark (b : Expr) {op : CmpOp} (h : op ≠ .In := by decide) (h2 : op ≠ .NotIn := by decide) : behindInMarks op b = false := by
  have e1 : (op == CmpOp.In) = false := by cases op <;> first | rfl | exact absurd rfl h
  have e2 : (op == CmpOp.NotIn) = false := by cases op <;> first | rfl | exact absurd rfl h2
  cases b <;> simp [behindInMarks,e1,e2]
theorem pe_cmpR {op : CmpOp} {r : R2} (ho : OpR X (compareOp op) r) (ha : PE X a ta) (hb : PE X b tb) (hm : behindInMarks op b = false) : PE X (.Compare a [op] [b] pos) (tOp r ta tb) := by
  intro pins s σ H Q I h
  exact wpAny_Compare1 (binT ha hb I h fun v u s2 x y H2 I2 rx ry q => ho pins s2 σ H2 x y v u Q I2 rx ry q) hm
def tTest (t : TE) : TT := fun σ H Q => t σ H fun x H' => ∃ k,x = .bl k ∧ Q k H'
theorem pt_cmpR {op : CmpOp} {r : R2} (ho : OpR X (compareOp op) r) (ha : PE X a ta) (hb : PE X b tb) (hm : behindInMarks op b = false) : PT X (.Compare a [op] [b] pos) (tTest (tOp r ta tb)) := by
  intro pins s σ H Q I h
  refine wpAny_isTrue_Compare1 (thn (ha pins s σ H _ I h) fun v s1 ⟨x,H1,I1,r1,q1⟩ => thn (hb pins s1 σ H1 _ I1 q1) fun u s2 ⟨y,H2,I2,r2,q2⟩ =>
    thn (ho pins s2 σ H2 x y v u _ I2 r1 r2 q2) fun c s3 ⟨z,H3,I3,r3,k,e,q3⟩ => ?_) hm
  subst e
  cases r3
  exact wpAny_truthy_bool ⟨H3,I3,q3⟩
def tChain (r r' : R2) (ta tb tc : TE) : TE := fun σ H Q => ta σ H fun x H1 => tb σ H1 fun y H2 => r x y H2 fun z H3 => ∃ k,z = .bl k ∧
  (if k = true then tc σ H3 fun w' H4 => r' y w' H4 Q else Q (.bl false) H3)
theorem pe_chain {op op' : CmpOp} {r r' : R2} (ho : OpR X (compareOp op) r) (ho' : OpR X (compareOp op') r') (ha : PE X a ta) (hb : PE X b tb) (hc : PE X c tc)
    (hm : lastMarks [op,op'] [b,c] = false := by with_unfolding_all rfl) : PE X (.Compare a [op,op'] [b,c] pos) (tChain r r' ta tb tc) := by
  intro pins s σ H Q I h
  refine Compare_chain (thn (ha pins s σ H _ I h) fun v s1 ⟨x,H1,I1,r1,q1⟩ => chain_link (thn (hb pins s1 σ H1 _ I1 q1) fun u s2 ⟨y,H2,I2,r2,q2⟩ =>
    thn (ho pins s2 σ H2 x y v u _ I2 r1 r2 q2) fun d s3 ⟨z,H3,I3,r3,k,e,q3⟩ => ?_)) hm
  subst e
  cases r3
  refine wpAny_truthy_bool ?_
  cases k with
  | false => exact ite_ff ⟨.bl false,H3,I3,rfl,q3⟩
  | true => exact ite_tt (chain_last (thn (hc pins s3 σ H3 _ I3 q3) fun w' s4 ⟨z',H4,I4,r4,q4⟩ => ho' pins s4 σ H4 y z' u w' Q I4 r2 r4 q4))
theorem pt_chain {op op' : CmpOp} {r r' : R2} (ho : OpR X (compareOp op) r) (ho' : OpR X (compareOp op') r') (ha : PE X a ta) (hb : PE X b tb) (hc : PE X c tc)
    (hm : lastMarks [op,op'] [b,c] = false := by with_unfolding_all rfl) : PT X (.Compare a [op,op'] [b,c] pos) (tTest (tChain r r' ta tb tc)) := by
  intro pins s σ H Q I h
  refine isTrue_chain (thn (ha pins s σ H _ I h) fun v s1 ⟨x,H1,I1,r1,q1⟩ => test_link (thn (hb pins s1 σ H1 _ I1 q1) fun u s2 ⟨y,H2,I2,r2,q2⟩ =>
    thn (ho pins s2 σ H2 x y v u _ I2 r1 r2 q2) fun d s3 ⟨z,H3,I3,r3,k,e,q3⟩ => ?_)) hm
  subst e
  cases r3
  refine wpAny_truthy_bool ?_
  cases k with
  | false =>
    obtain ⟨k',e',q'⟩ := q3
    cases e'
    exact ite_ff ⟨H3,I3,q'⟩
  | true =>
    refine ite_tt (test_last (thn (hc pins s3 σ H3 _ I3 q3) fun w' s4 ⟨z',H4,I4,r4,q4⟩ => thn (ho' pins s4 σ H4 y z' u w' _ I4 r2 r4 q4) fun d' s5 ⟨z2,H5,I5,r5,k2,e2,q5⟩ => ?_))
    subst e2
    cases r5
    exact wpAny_truthy_bool ⟨H5,I5,q5⟩
theorem line63 : (sizeLine : Nat) < 2 ^ 63 := by rw [sizeLine_eq]; decide
theorem op_add_str : OpR X (binaryOp .Add) (fun x y H Q => ∃ i j,x = .str i ∧ y = .str j ∧ i.length + j.length ≤ sizeLine ∧ Q (.str (i ++ j)) H) := by
  intro pins s σ H x y v u Q I rx ry h
  obtain ⟨i,j,rfl,rfl,hz,q⟩ := h
  obtain ⟨t,rfl⟩ := rx
  obtain ⟨t',rfl⟩ := ry
  exact add_str (fun t' tk => ⟨.str (i ++ j),H,I.tok _,⟨_,rfl⟩,q⟩) hz
theorem vals1 {x : V} {us : List Value} (r : Vals [x] us) : ∃ u,us = [u] ∧ RelV x u := by
  cases r with
  | cons r1 r2 => cases r2; exact ⟨_,rfl,r1⟩
theorem vals2 {x y : V} {us : List Value} (r : Vals [x,y] us) : ∃ u w',us = [u,w'] ∧ RelV x u ∧ RelV y w' := by
  cases r with
  | cons r1 r2 =>
    cases r2 with
    | cons r3 r4 => cases r4; exact ⟨_,_,rfl,r1,r3⟩
theorem call_max2 (hc : X.calm = true) : CallR X (.builtin "max") (fun xs H Q => ∃ i j,xs = [.int i,.int j] ∧ Q (.int (if j > i then j else i)) H) := by
  intro pins s σ H xs us Q I r h
  obtain ⟨i,j,rfl,q⟩ := h
  obtain ⟨u,w',rfl,⟨t,rfl⟩,⟨t',rfl⟩⟩ := vals2 r
  refine max_two_ints (I.ok.hd hc) fun h' tk k => ⟨_,H,I.kept k,?_,q⟩
  by_cases hj : j > i
  · rw [if_pos hj,if_pos hj]; exact ⟨_,rfl⟩
  · rw [if_neg hj,if_neg hj]; exact ⟨_,rfl⟩
theorem call_min2 (hc : X.calm = true) : CallR X (.builtin "min") (fun xs H Q => ∃ i j,xs = [.int i,.int j] ∧ Q (.int (if j < i then j else i)) H) := by
  intro pins s σ H xs us Q I r h
  obtain ⟨i,j,rfl,q⟩ := h
  obtain ⟨u,w',rfl,⟨t,rfl⟩,⟨t',rfl⟩⟩ := vals2 r
  refine min_two_ints (I.ok.hd hc) fun h' tk k => ⟨_,H,I.kept k,?_,q⟩
  by_cases hj : j < i
  · rw [if_pos hj,if_pos hj]; exact ⟨_,rfl⟩
  · rw [if_neg hj,if_neg hj]; exact ⟨_,rfl⟩
theorem call_int1 : CallR X (.type "int") (fun xs H Q => (∃ i,xs = [.int i] ∧ Q (.int i) H) ∨ ∃ k,xs = [.bl k] ∧ Q (.int (if k then 1 else 0)) H) := by
  intro pins s σ H xs us Q I r h
  rcases h with ⟨i,rfl,q⟩ | ⟨k,rfl,q⟩
  · obtain ⟨u,rfl,t,rfl⟩ := vals1 r
    exact call_int_int ⟨.int i,H,I,⟨_,rfl⟩,q⟩
  · obtain ⟨u,rfl,r1⟩ := vals1 r
    cases r1
    exact call_int_bool ⟨.int (if k then 1 else 0),H,I.tok _,⟨_,rfl⟩,q⟩
end
end L2
namespace L2
open PySem PySem.Spec PyProof.Rows
structure ObjM (h : Heap) (x dx C : Addr) (mA : Str → Option Value) : Prop where
  obj : h.get? x = some (PySem.W.instObj C dx)
  ns : h.Ns1 dx mA
  ne : dx ≠ x
theorem lookIn_ns {h : Heap} {dx : Addr} {mA : Str → Option Value} (n : h.Ns1 dx mA) : ∃ od,h.get? dx = some od ∧ ∀ name,PySem.W.lookIn name od = some (mA name) := by
  obtain ⟨o,es,ep,ho,hd,hk,_,hm⟩ := n
  refine ⟨o,ho,fun name => ?_⟩
  have e := hm name
  unfold nsFind findBy at e
  rw [← Array.find?_toList] at e
  unfold PySem.W.lookIn
  rw [hd]
  dsimp only
  split
  · rename_i y q
    rw [q] at e
    exact congrArg some e
  · rename_i q
    rw [q] at e
    have a : es.toList.any (·.refKey) = false := by
      rw [List.any_eq_false]
      intro y hy
      obtain ⟨z,t,hkey⟩ := hk y (Array.mem_toList_iff.mp hy)
      simp [DictEntry.refKey,hkey]
    have a' : ¬ es.toList.any (·.refKey) = true := by rw [a]; exact Bool.false_ne_true
    rw [if_neg a']
    exact congrArg some e
theorem ObjM.look {h : Heap} {x dx C : Addr} {mA : Str → Option Value} (I : ObjM h x dx C mA) : ∃ od,PySem.W.InstAt h x (PySem.W.instObj C dx) C (some od) ∧ ∀ name,PySem.W.lookIn name od = some (mA name) :=
  let ⟨od,ho,hl⟩ := lookIn_ns I.ns
  ⟨od,⟨I.obj,rfl,rfl,ho⟩,hl⟩
section
variable {prog : Program} {w : World} {A : Around} {E : Value → Shared → Prop} {s : Shared} {K : PySem.W.Frag} {x dx C f : Addr} {mA : Str → Option Value} {name : Str} {v : Value}
end
theorem RelO.some_of {v : V} {o : Option Value} (r : RelO (some v) o) : ∃ u,o = some u ∧ RelV v u := by
  cases o with
  | none => exact (show False from r).elim
  | some u => exact ⟨u,rfl,r⟩
theorem handed_of {v : V} {u : Value} (r : RelV v u) : PySem.W.handedIn u = true := by
  cases v with
  | non => cases (show u = Value.none from r); rfl
  | bl b => cases (show u = Value.bool b from r); rfl
  | int i => obtain ⟨t,e⟩ := (show ∃ t,u = Value.int i t from r); cases e; rfl
  | str x => obtain ⟨t,e⟩ := (show ∃ t,u = Value.str x t from r); cases e; rfl
  | byt b => obtain ⟨t,e⟩ := (show ∃ t,u = Value.bytes b t from r); cases e; rfl
  | flt b => obtain ⟨t,e⟩ := (show ∃ t,u = Value.float b t from r); cases e; rfl
  | ref a => cases (show u = Value.ref a from r); rfl
  | ty n => cases (show u = Value.type n from r); rfl
section
variable {P : Program} {w : World} {H H' : Hp} {h h' : Heap} {a C dx : Addr} {fs fs' : List (Str × V)}
theorem ins_get (hok : HOk P w H h) (e : H a = some (.ins C dx fs)) : ∃ mA,ObjM h a dx C mA ∧ (∀ f,RelO (fs.lookup f) (mA f)) ∧ PySem.Within mA (fs.map (·.1)) ∧ fs.length ≤ 1000 ∧ H dx = some (.own a) := by
  obtain ⟨d,z,ne,ob,mA,n,r,q⟩ := (show ObjOk P w H h a (.ins C dx fs) from hok a _ e)
  exact ⟨mA,⟨ob,n,ne⟩,r,q,z,d⟩
end
structure Cls (K : PySem.W.Frag) (C : Addr) : Prop where
  pg : PySem.W.plainGet K C Str.empty = true
  hd : PySem.W.hasDictIn K C = true
  po : PySem.W.plainOver K C = true
  sa : PySem.W.findIn K (.ref C) "__setattr__" = some (some (.builtin "object.__setattr__"))
theorem Cls.get {K : PySem.W.Frag} {C : Addr} (c : Cls K C) (f : Str) : PySem.W.plainGet K C f = true := c.pg
structure Con (K : PySem.W.Frag) (C : Addr) (f : Str) (v : V) (u : Value) : Prop where
  at_ : PySem.W.findIn K (.ref C) f = some (some u)
  rel : RelV v u
  get : PySem.W.specialIn K u "__get__" = some none
  cp : PySem.W.copiedNames.contains f = false
structure Meth (K : PySem.W.Frag) (C : Addr) (m : Str) (f : Addr) : Prop where
  at_ : PySem.W.findIn K (.ref C) m = some (some (.ref f))
  fn : PySem.W.isFn K (.ref f) = true
  kp : PySem.W.keepIn K (.ref f) = true
section
variable {X : Cx} {pins : List (Addr × Obj)} {σ : St} {H : Hp} {s : Shared} {a C dx : Addr} {fs : List (Str × V)} {f : Str} {v : V} {A : Around} {E : Value → Shared → Prop}
theorem attr_of {prog : Program} {w : World} {env : Env} {e : Expr} {f : Str} {pos : Pos} {s : Shared} {Q : Value → Shared → Prop} (hb : attributeBase e f env (eval e env) = eval e env)
    (h : wpAny (model prog w) A (eval e env) (fun o s₁ => wpAny (model prog w) A (getAttr o f true) Q E s₁) E s) : wpAny (model prog w) A (eval (.Attribute e f pos) env) Q E s :=
  Attribute_any_ h (by rw [arm_eval_Attribute,hb])
end
section
variable {X : Cx} {o e value : Expr} {f : Str} {pos pos' tpos : Pos} {ta tv : TE}
end
section
variable {X : Cx} {pins : List (Addr × Obj)} {σ : St} {H : Hp} {s : Shared} {A : Around} {E : Value → Shared → Prop} {Q : Value → Shared → Prop} {c : Value} {b : Bool}
inductive TyOf (K : PySem.W.Frag) (H : Hp) : V → Value → Prop where
  | non : TyOf K H .non (.type "NoneType")
  | bl (x : Bool) : TyOf K H (.bl x) (.type "bool")
  | int (i : Int) : TyOf K H (.int i) (.type "int")
  | str (x : Str) : TyOf K H (.str x) (.type "str")
  | flt (x : UInt64) : TyOf K H (.flt x) (.type "float")
  | lst {a : Addr} {xs : List V} (e : H a = some (.lst xs)) : TyOf K H (.ref a) (.type "list")
  | frz {a : Addr} {o : Obj} {xs : List V} (e : H a = some (.frz o (.lst xs))) : TyOf K H (.ref a) (.type "list")
  | tup {a : Addr} {xs : List V} (e : H a = some (.tup xs)) : TyOf K H (.ref a) (.type "tuple")
  | dK {a : Addr} {kvs : List (Key × V)} (e : H a = some (.dK kvs)) : TyOf K H (.ref a) (.type "dict")
  | dT {a : Addr} {kvs : List (List Key × V)} (e : H a = some (.dT kvs)) : TyOf K H (.ref a) (.type "dict")
  | ins {a C dx : Addr} {fs : List (Str × V)} (e : H a = some (.ins C dx fs)) (cl : Cls K C) (ha : PySem.W.findIn K (.ref C) "__class__" = some (some (.builtin "object.__class__")))
      (hn : PySem.W.specialIn K (.builtin "object.__class__") "__get__" = some (some (.builtin "getset_descriptor.__get__"))) (htk : PySem.W.takesIn K (.builtin "object.__class__") = some true)
      (hm : PySem.W.mroIn K C (.type "object") = some true) : TyOf K H (.ref a) (.ref C)
theorem isinst_ok {x : V} {u t : Value} (I : Inv X pins σ H s) (rx : RelV x u) (ty : TyOf X.K H x t) (e : PySem.W.kitOne X.K t c = some b) (h : ∀ tk,Q (.bool b) { s with toks := tk }) :
    wpAny (model X.prog X.w) A (call (.builtin "isinstance") [u,c]) Q E s := by
  cases ty with
  | non => cases (show u = Value.none from rx); exact PySem.W.kia_one PySem.W.kitx_none I.kIn True.intro e (fun z => nomatch z) h
  | bl y => cases (show u = Value.bool y from rx); exact PySem.W.kia_one PySem.W.kitx_bool I.kIn True.intro e (fun z => nomatch z) h
  | int i => obtain ⟨t,q⟩ := (show ∃ t,u = Value.int i t from rx); cases q; exact PySem.W.kia_one PySem.W.kitx_int I.kIn True.intro e (fun z => nomatch z) h
  | str y => obtain ⟨t,q⟩ := (show ∃ t,u = Value.str y t from rx); cases q; exact PySem.W.kia_one PySem.W.kitx_str I.kIn True.intro e (fun z => nomatch z) h
  | flt y => obtain ⟨t,q⟩ := (show ∃ t,u = Value.float y t from rx); cases q; exact PySem.W.kia_one PySem.W.kitx_float I.kIn True.intro e (fun z => nomatch z) h
  | @lst a xs ea =>
    cases (show u = Value.ref a from rx)
    obtain ⟨_,_,n,_,h1⟩ := (show ObjOk X.prog X.w H s.heap a (.lst xs) from I.hok a _ ea)
    exact PySem.W.kia_one PySem.W.kitx_list I.kIn ⟨_,h1,rfl⟩ e (fun z => nomatch z) h
  | @frz a ob xs ea =>
    cases (show u = Value.ref a from rx)
    obtain ⟨_,_,_,n,_,h1⟩ := (show ObjOk X.prog X.w H s.heap a (.frz ob (.lst xs)) from I.hok a _ ea)
    exact PySem.W.kia_one PySem.W.kitx_list I.kIn ⟨_,h1,rfl⟩ e (fun z => nomatch z) h
  | @tup a xs ea =>
    cases (show u = Value.ref a from rx)
    obtain ⟨_,_,_,p⟩ := (show ObjOk X.prog X.w H s.heap a (.tup xs) from I.hok a _ ea)
    obtain ⟨o,h1,h2,_⟩ := p
    exact PySem.W.kia_one PySem.W.kitx_tuple I.kIn ⟨o,h1,h2⟩ e (fun z => nomatch z) h
  | @dK a kvs ea =>
    cases (show u = Value.ref a from rx)
    obtain ⟨_,_,vs,_,p⟩ := (show ObjOk X.prog X.w H s.heap a (.dK kvs) from I.hok a _ ea)
    obtain ⟨o,es,ep,h1,h2,_⟩ := p
    exact PySem.W.kia_one PySem.W.kitx_dict I.kIn ⟨o,h1,h2.1⟩ e (fun z => nomatch z) h
  | @dT a kvs ea =>
    cases (show u = Value.ref a from rx)
    obtain ⟨_,_,xs,_,o,es,ep,h1,h2,_⟩ := (show ObjOk X.prog X.w H s.heap a (.dT kvs) from I.hok a _ ea)
    exact PySem.W.kia_one PySem.W.kitx_dict I.kIn ⟨o,h1,h2.1⟩ e (fun z => nomatch z) h
  | @ins a C dx fs ea cl ha hn htk hm =>
    cases (show u = Value.ref a from rx)
    obtain ⟨mA,O,_⟩ := ins_get I.hok ea
    obtain ⟨od,J,_⟩ := O.look
    exact PySem.W.kia_one (PySem.W.kitx_own (cl.get _) cl.hd ha hn htk hm) I.kIn J e (fun z => nomatch z) h
end
end L2
namespace L2
open PySem PySem.Spec PyProof.Rows
structure Room (k : Nat) (A : Around) : Prop where
  hd : A.handled = none
  dp : A.depth + 3 * k + 5 < recursionLimit
  un : A.units + 16 * k + 200 < cLine
theorem Room.mono {j k : Nat} {A : Around} (r : Room k A) (h : j ≤ k) : Room j A := ⟨r.hd,by have := r.dp; omega,by have := r.un; omega⟩
theorem Room.deeper {k : Nat} {A : Around} (r : Room (k + 1) A) (env : Env) : Room k (A.deeper env) :=
  ⟨r.hd,by have := r.dp; show A.depth + 1 + 3 * k + 5 < _; omega,by have := r.un; show A.units + 3 + 16 * k + 200 < _; omega⟩
theorem Room.in1 {k : Nat} {A : Around} (r : Room (k + 1) A) : Room k A.in1 :=
  ⟨r.hd,by have := r.dp; show A.depth + 3 * k + 5 < _; omega,by have := r.un; show A.units + 1 + 16 * k + 200 < _; omega⟩
theorem make_depth {A : Around} {C : Addr} {us : List Value} {kw : List (Str × Value)} : (A.under (.builtin "type.__call__" ⟨.ref C :: us,kw⟩)).depth = A.depth + 1 := by
  first | rfl | simp [Around.under,Code.weight,Code.isCreation,Code.isGuard,Code.isCaller,Code.frames,Code.isFrame,guardIds]
theorem make_units {A : Around} {C : Addr} {us : List Value} {kw : List (Str × Value)} : (A.under (.builtin "type.__call__" ⟨.ref C :: us,kw⟩)).units = A.units + 1 := by
  first | rfl | simp [Around.under,Code.cUnits,Code.frames,Code.isFrame]
theorem Room.make {k : Nat} {A : Around} (r : Room (k + 1) A) (C : Addr) (us : List Value) (kw : List (Str × Value)) : Room k (A.under (.builtin "type.__call__" ⟨.ref C :: us,kw⟩)) :=
  ⟨r.hd,by have := r.dp; rw [make_depth]; omega,by have := r.un; rw [make_units]; omega⟩
theorem Room.depth {k : Nat} {A : Around} (r : Room k A) : A.depth < recursionLimit := by have := r.dp; omega
theorem Room.units {k : Nat} {A : Around} (r : Room k A) : A.units + 64 < cLine := by have := r.un; omega
theorem Room.units0 {k : Nat} {A : Around} (r : Room k A) : A.units < cLine := by have := r.un; omega
def tNil : TA := fun _ H Q => Q [] H
def tCons (ta : TE) (tr : TA) : TA := fun σ H Q => ta σ H fun x H1 => tr σ H1 fun xs H2 => Q (x :: xs) H2
section
variable {X : Cx} {e : Expr} {es : List Expr} {te : TE} {t : TA} {pos : Pos}
theorem pa_nil : PA X [] tNil := fun _ _ _ _ H Q I h => Calls.spliced_nil ⟨[],H,I,.nil,h⟩
theorem pa_cons (ha : PE X e te) (hr : PA X es t) (hs : starEach (e :: es) X.env = (false,eval e X.env) :: starEach es X.env := by rfl) : PA X (e :: es) (tCons te t) := by
  intro pos pins s σ H Q I h
  rw [hs]
  show wpAny _ _ (spliced ((false,eval e X.env) :: backTo pos (starEach es X.env))) _ _ s
  refine Calls.spliced_cons (thn (ha pins s σ H _ I h) fun u s1 ⟨x,H1,I1,r1,q1⟩ => ?_)
  exact thn (hr pos pins s1 σ H1 _ I1 q1) fun us s2 ⟨xs,H2,I2,r2,q2⟩ => ⟨x :: xs,H2,I2,.cons r1 r2,q2⟩
def tTup (t : TA) : TE := fun σ H Q => t σ H fun xs H1 => xs.length ≤ sizeLine ∧ ∀ p,H1 p = none → Q (.ref p) (upd H1 p (.tup xs))
def tLst (t : TA) : TE := fun σ H Q => t σ H fun xs H1 => xs.length ≤ sizeLine ∧ ∀ p,H1 p = none → Q (.ref p) (upd H1 p (.lst xs))
theorem pe_tup {x1} (h : PA X es t) : PE X (.Tuple es x1 pos) (tTup t) := by
  intro pins s σ H Q I hq
  refine wpAny_Tuple_spliced (thn (h pos pins s σ H _ I hq) fun us s1 ⟨xs,H1,I1,r,z,q⟩ => ⟨by rw [← r.length]; exact z,?_⟩)
  have hf : H1 s1.heap.objs.size = none := I1.hok.fresh (Nat.le_refl _)
  refine ⟨.ref s1.heap.objs.size,upd H1 s1.heap.objs.size (.tup xs),I1.laid (t' := s1.toks) (fun b u e => Heap.get?_push_of_some _ e) (Nat.le_refl _) ?_,rfl,q _ hf⟩
  exact ⟨z,us,r,⟨_,Heap.get?_push_size _ rfl,rfl,_,rfl⟩⟩
theorem pe_lst (h : PA X es t) : PE X (.List es pos) (tLst t) := by
  intro pins s σ H Q I hq
  refine wpAny_List_spliced (thn (h pos pins s σ H _ I hq) fun us s1 ⟨xs,H1,I1,r,z,q⟩ => ⟨by rw [← r.length]; exact z,?_⟩)
  have hf : H1 s1.heap.objs.size = none := I1.hok.fresh (Nat.le_refl _)
  refine ⟨.ref s1.heap.objs.size,upd H1 s1.heap.objs.size (.lst xs),I1.laid (t' := s1.toks) (fun b u e => Heap.get?_push_of_some _ e) (Nat.le_refl _) ?_,rfl,q _ hf⟩
  exact ⟨z,us,0,r,Heap.get?_push_size _ rfl⟩
end
abbrev Sp := List V → Hp → VK → XK → Prop
abbrev CXT := List Env → Hp → Shared → XK → Value → Shared → Prop
structure Env0 (P : Program) (w : World) (K : PySem.W.Frag) (mg : Str → Option Value) (base : Heap) (A : Around) (outer : List Env) (s : Shared) (H : Hp) : Prop where
  frames : A.frames = some outer
  mod : Mod K mg base
  bs : ∀ b o,base.get? b = some o → s.heap.get? b = some o ∧ H b = none
  bsz : base.objs.size ≤ s.heap.objs.size
  funs : s.heap.FunFrames base outer
  frf : ∀ b ∈ frs outer,H b = none
  hok : HOk P w H s.heap
  bare : AllBare s.gens
def CE (outer : List Env) (P : Program) (w : World) (H : Hp) (s : Shared) (Q : VK) (u : Value) (s' : Shared) : Prop :=
  ∃ v H',s'.os = s.os ∧ AllBare s'.gens ∧ Un (frs outer) [] H H' s.heap s'.heap ∧ HOk P w H' s'.heap ∧ RelV v u ∧ Q v H'
def CR (CX : CXT) (outer : List Env) (P : Program) (w : World) (H : Hp) (s : Shared) (Q : VK) (E : XK) (r : Result) (s' : Shared) : Prop :=
  match r with
  | .ok (.ret u) => CE outer P w H s Q u s'
  | .ok _ => False
  | .error e => CX outer H s E e s'
structure FnOk (P : Program) (w : World) (K : PySem.W.Frag) (mg : Str → Option Value) (base : Heap) (CX : CXT) (k : Nat) (f : Addr) (fd : FuncData) (ps : List Str) (sp : Sp) : Prop where
  len : ∀ vs H Q E,sp vs H Q E → vs.length = ps.length
  run : ∀ (A : Around) (outer : List Env) (s : Shared) (H : Hp) (args : Args) (us : List Value) (vs : List V) (Q : VK) (E : XK),Room k A → Env0 P w K mg base A outer s H → BindsTo s fd args (ps.zip us) → Vals vs us → sp vs H Q E →
    codeAny (model P w) A (.call (.ref f) args) (CR CX outer P w H s Q E) s
theorem FnOk.mono {P : Program} {w : World} {K : PySem.W.Frag} {mg : Str → Option Value} {base : Heap} {CX : CXT} {j k : Nat} {f : Addr} {fd : FuncData} {ps : List Str} {sp : Sp} (F : FnOk P w K mg base CX j f fd ps sp) (h : j ≤ k) :
    FnOk P w K mg base CX k f fd ps sp := ⟨F.len,fun A outer s H args us vs Q E hr => F.run A outer s H args us vs Q E (hr.mono h)⟩
theorem FnOk.imp {P : Program} {w : World} {K : PySem.W.Frag} {mg : Str → Option Value} {base : Heap} {CX : CXT} {k : Nat} {f : Addr} {fd : FuncData} {ps : List Str} {sp sp' : Sp} (F : FnOk P w K mg base CX k f fd ps sp)
    (h : ∀ vs H Q E,sp' vs H Q E → sp vs H Q E) : FnOk P w K mg base CX k f fd ps sp' :=
  ⟨fun vs H Q E q => F.len vs H Q E (h _ _ _ _ q),fun A outer s H args us vs Q E hr he hb hv hs => F.run A outer s H args us vs Q E hr he hb hv (h _ _ _ _ hs)⟩
theorem Env0.make {P : Program} {w : World} {K : PySem.W.Frag} {mg : Str → Option Value} {base : Heap} {A : Around} {outer : List Env} {s : Shared} {H : Hp} (e : Env0 P w K mg base A outer s H) (C : Addr) (us : List Value) (kw : List (Str × Value)) :
    Env0 P w K mg base (A.under (.builtin "type.__call__" ⟨.ref C :: us,kw⟩)) outer s H := ⟨by first | exact e.frames | (simpa [Around.under,Code.envs,Code.isFrame,pushEnvs] using e.frames),e.mod,e.bs,e.bsz,e.funs,e.frf,e.hok,e.bare⟩
theorem Env0.in1 {P : Program} {w : World} {K : PySem.W.Frag} {mg : Str → Option Value} {base : Heap} {A : Around} {outer : List Env} {s : Shared} {H : Hp} (e : Env0 P w K mg base A outer s H) :
    Env0 P w K mg base A.in1 outer s H := ⟨e.frames,e.mod,e.bs,e.bsz,e.funs,e.frf,e.hok,e.bare⟩
section
variable {X : Cx} {pins : List (Addr × Obj)} {σ : St} {H : Hp} {s s' : Shared}
theorem Inv.env0 (I : Inv X pins σ H s) : Env0 X.prog X.w X.K X.mg X.base X.A X.stack s H :=
  ⟨I.ok.frames,I.ok.mod,I.bs,Nat.le_trans I.ok.bsz I.sz,I.stack,I.stkFree,I.hok,I.bare⟩
theorem Inv.after {Q : VK} {u : Value} (I : Inv X pins σ H s) (h : CE X.stack X.prog X.w H s Q u s') : EP X pins σ Q u s' := by
  obtain ⟨v,H',os,bare,un,hok,r,q⟩ := h
  obtain ⟨hh,g,d,t,os'⟩ := s'
  obtain rfl : os' = s.os := os
  exact ⟨v,H',I.call (h' := hh) (g' := g) (d' := d) (t' := t) (ch := []) un hok bare (fun b z => absurd z (by simp)),r,q⟩
end
def tCall (sp : Sp) (dvs : List V) (E : XK) (t : TA) : TE := fun σ H Q => t σ H fun vs H1 => sp (vs ++ dvs) H1 Q E
def Binds (K : PySem.W.Frag) (fd : FuncData) (ps : List Str) (ds : List Value) : Prop :=
  ∀ (s : Shared) (us : List Value),K.In s.heap → (us ++ ds).length = ps.length → BindsTo s fd ⟨us,[]⟩ (ps.zip (us ++ ds))
theorem Binds.all {K : PySem.W.Frag} {fd : FuncData} {ps : List Str} (h : ∀ us : List Value,us.length = ps.length → bindArgs fd ⟨us,[]⟩ = pure (ps.zip us)) : Binds K fd ps [] := fun s us _ hl => by
  rw [List.append_nil] at hl ⊢
  exact .of_eq (h us hl)
def Passes (CX : CXT) (X : Cx) (E : XK) : Prop := ∀ (pins : List (Addr × Obj)) (σ : St) (H : Hp) (s : Shared) (e : Value) (s' : Shared),Inv X pins σ H s → CX X.stack H s E e s' → X.xe e s'
section
variable {X : Cx} {CX : CXT} {k : Nat} {f C : Addr} {fd : FuncData} {ps : List Str} {sp : Sp} {dvs : List V} {ds : List Value} {E : XK} {x m : Str} {p pos apos : Pos} {e o : Expr} {es : List Expr} {ta : TE} {t : TA}
theorem run_fn {pins : List (Addr × Obj)} {σ : St} {H : Hp} {s : Shared} {Q : VK} {us : List Value} {vs : List V} (F : FnOk X.prog X.w X.K X.mg X.base CX k f fd ps sp) (hr : Room k X.A) (hb : Binds X.K fd ps ds) (hd : Vals dvs ds) (hx : Passes CX X E)
    (I : Inv X pins σ H s) (r : Vals vs us) (h : sp (vs ++ dvs) H Q E) : wpAny (model X.prog X.w) X.A (call (.ref f) us) (EP X pins σ Q) X.xe s := by
  have r2 : Vals (vs ++ dvs) (us ++ ds) := r.append hd
  have hl : (us ++ ds).length = ps.length := by rw [← r2.length]; exact F.len _ _ _ _ h
  refine wpAny_call (codeAny_mono (F.run X.A X.stack s H ⟨us,[]⟩ (us ++ ds) (vs ++ dvs) Q E hr I.env0 (hb s us I.kIn hl) r2 h) fun r s' hq => ?_)
  cases r with
  | error e => exact hx pins σ H s e s' I hq
  | ok fl =>
    cases fl with
    | ret u => exact I.after hq
    | next => exact False.elim hq
    | brk => exact False.elim hq
    | cont => exact False.elim hq
theorem pe_call (F : FnOk X.prog X.w X.K X.mg X.base CX k f fd ps sp) (hr : Room k X.A) (hg : Gl X x) (hm : X.mg x = some (.ref f)) (hk : PySem.W.keepIn X.K (.ref f) = true) (hb : Binds X.K fd ps ds) (hd : Vals dvs ds) (hx : Passes CX X E)
    (ha : PA X (e :: es) t) (hdb : (x == ("__debug__" : Str)) = false := by decide) (he : starEach (e :: es) X.env = (false,eval e X.env) :: starEach es X.env := by rfl) (hpl : (backTo pos (starEach es X.env)).any (·.1) = false := by rfl) :
    PE X (.Call (.Name x p) (e :: es) [] pos) (tCall sp dvs E t) := by
  intro pins s σ H Q I h
  refine wpAny_Call_Name_kw (ld_glob I hg hm ?_ hdb)
  refine PySem.W.callWith_K (h₀ := X.base) I.ok.mod.kin hk (thn (ha pos pins s σ H _ I h) fun us s1 ⟨vs,H1,I1,r,q⟩ => ⟨I1.kIn,?_⟩) he hpl
  exact run_fn F hr hb hd hx I1 r q
structure Mk (K : PySem.W.Frag) (C f : Addr) : Prop where
  makes : PySem.W.makesIn K C = true
  init : PySem.W.findIn K (.ref C) "__init__" = some (some (.ref f))
  fn : PySem.W.isFn K (.ref f) = true
  kp : PySem.W.keepIn K (.ref C) = true
end
section
variable {X : Cx} {CX : CXT} {k : Nat} {f C : Addr} {fd : FuncData} {ps ks : List Str} {sp : Sp} {E : XK} {x m : Str} {p pos apos kpos : Pos} {e o : Expr} {es : List Expr} {kws : List Keyword} {te ta : TE} {t tk : TA} {nm : Option Str}
structure KBinds (K : PySem.W.Frag) (fd : FuncData) (ps ks : List Str) (g : List Value → List Value → List Value) (gV : List V → List V → List V) : Prop where
  to : ∀ (s : Shared) (us ws : List Value),K.In s.heap → (g us ws).length = ps.length → BindsTo s fd ⟨us,ks.zip ws⟩ (ps.zip (g us ws))
  rel : ∀ {vs : List V} {us : List Value} {zs : List V} {ws : List Value},Vals vs us → Vals zs ws → Vals (gV vs zs) (g us ws)
variable {g : List Value → List Value → List Value} {gV : List V → List V → List V}
end
structure FnScope (N P : List Str) (sc : Scope) : Prop where
  kind : sc.kind = .function
  co : sc.isCoroutine = false
  gen : sc.isGenerator = false
  nd : N.Nodup
  pre : N.take P.length = P
  par : ∀ x ∈ P,sc.names.lookup x = some .local ∨ sc.names.lookup x = some .cell
  nofree : ∀ y ∈ sc.names,y.2 ≠ .free
theorem bindL_out {kindOf : Str → Option NameKind} {x : Str} : ∀ {binds : List (Str × Value)} {m : Str → Option Value},(∀ v,(x,v) ∉ binds) → bindL kindOf binds m x = m x
  | [],_,_ => rfl
  | (n,v) :: r,m,h => by
    unfold bindL
    rw [bindL_out fun w hw => h w (List.mem_cons_of_mem _ hw)]
    split
    · have : x ≠ n := by rintro rfl; exact h v List.mem_cons_self
      simp [this]
    · rfl
theorem bindC_out {kindOf : Str → Option NameKind} {x : Str} : ∀ {binds : List (Str × Value)} {m : Str → Option Value},(∀ v,(x,v) ∉ binds) → bindC kindOf binds m x = m x
  | [],_,_ => rfl
  | (n,v) :: r,m,h => by
    unfold bindC
    rw [bindC_out fun w hw => h w (List.mem_cons_of_mem _ hw)]
    split
    · rfl
    · have : x ≠ n := by rintro rfl; exact h v List.mem_cons_self
      simp [this]
theorem bindL_get {kindOf : Str → Option NameKind} {x : Str} {v : Value} : ∀ {P : List Str} {vs : List Value} {i : Nat} {m : Str → Option Value},P.Nodup → P[i]? = some x → vs[i]? = some v → kindOf x = some .local →
    bindL kindOf (P.zip vs) m x = some v
  | [],_,_,_,_,h,_,_ => by simp at h
  | _ :: _,[],_,_,_,_,h,_ => by simp at h
  | p :: P,w :: vs,0,m,nd,h1,h2,hk => by
    simp at h1 h2; subst h1; subst h2
    show bindL kindOf ((p,w) :: P.zip vs) m p = _
    unfold bindL
    rw [bindL_out fun v hv => (List.nodup_cons.mp nd).1 (List.of_mem_zip hv).1,if_pos hk]
    simp
  | p :: P,w :: vs,i + 1,m,nd,h1,h2,hk => by
    show bindL kindOf ((p,w) :: P.zip vs) m x = _
    unfold bindL
    exact bindL_get (i := i) (List.nodup_cons.mp nd).2 (by simpa using h1) (by simpa using h2) hk
theorem bindC_get {kindOf : Str → Option NameKind} {x : Str} {v : Value} : ∀ {P : List Str} {vs : List Value} {i : Nat} {m : Str → Option Value},P.Nodup → P[i]? = some x → vs[i]? = some v → kindOf x ≠ some .local →
    bindC kindOf (P.zip vs) m x = some v
  | [],_,_,_,_,h,_,_ => by simp at h
  | _ :: _,[],_,_,_,_,h,_ => by simp at h
  | p :: P,w :: vs,0,m,nd,h1,h2,hk => by
    simp at h1 h2; subst h1; subst h2
    show bindC kindOf ((p,w) :: P.zip vs) m p = _
    unfold bindC
    rw [bindC_out fun v hv => (List.nodup_cons.mp nd).1 (List.of_mem_zip hv).1,if_neg hk]
    simp
  | p :: P,w :: vs,i + 1,m,nd,h1,h2,hk => by
    show bindC kindOf ((p,w) :: P.zip vs) m x = _
    unfold bindC
    exact bindC_get (i := i) (List.nodup_cons.mp nd).2 (by simpa using h1) (by simpa using h2) hk
def start (N : List Str) (vs : List V) : St := vs.map some ++ List.replicate (N.length - vs.length) none
def cxOf (CX : CXT) (P : Program) (w : World) (K : PySem.W.Frag) (mg : Str → Option Value) (base : Heap) (N : List Str) (qual : Str) (scope : Scope) (f : Addr) (cd : Value) (A : Around) (outer : List Env) (s : Shared) (H : Hp) (E : XK) : Cx where
  prog := P
  w := w
  K := K
  mg := mg
  base := base
  A := A.deeper (envOfC qual scope s.heap.objs.size f cd)
  N := N
  s₀ := s
  H₀ := H
  env := envOfC qual scope s.heap.objs.size f cd
  outer := outer
  stack := envOfC qual scope s.heap.objs.size f cd :: outer
  ex := []
  calm := true
  fn := fun _ => true
  pn := []
  xe := fun e s' => wpAny (model P w) (A.deeper (envOfC qual scope s.heap.objs.size f cd)) (leaving (envOfC qual scope s.heap.objs.size f cd) e) (fun _ s'' => CX outer H s E e s'') (fun e' s'' => CX outer H s E e' s'') s'
theorem cell_has {sc : Scope} {n : Nat} {x : Str} (h : sc.names.lookup x = some .cell) : ∃ c,(cellsFrom n sc.names []).lookup x = some c := by
  have q := PySem.W.cellsFrom_some sc.names n [] (.inl h)
  exact Option.isSome_iff_exists.mp q
theorem inv_start {CX : CXT} {P : Program} {w : World} {K : PySem.W.Frag} {mg : Str → Option Value} {base : Heap} {N ps : List Str} {qual : Str} {scope : Scope} {f : Addr} {cd : Value} {A : Around} {outer : List Env} {s s1 : Shared} {H : Hp} {E : XK} {us : List Value} {vs : List V}
    (S : FnScope N ps scope) (hd : A.handled = none) (e0 : Env0 P w K mg base A outer s H) (hl : vs.length = ps.length) (r : Vals vs us)
    (x : InCallC s s.heap.objs.size (bindL (envOfC qual scope s.heap.objs.size f cd).kindOf (ps.zip us) fun _ => none) (cellsFrom (s.heap.objs.size + 1) scope.names []) (bindC (envOfC qual scope s.heap.objs.size f cd).kindOf (ps.zip us) fun _ => none) s1) :
    Inv (cxOf CX P w K mg base N qual scope f cd A outer s H E) [] (start N vs) H s1 := by
  have hpl : ps.length ≤ N.length := by have := congrArg List.length S.pre; rw [List.length_take] at this; omega
  obtain ⟨h1,tk,rfl,hk⟩ := x.done
  have noA : ∀ b : Addr,b ∉ (cxOf CX P w K mg base N qual scope f cd A outer s H E).ex := fun b z => absurd (show b ∈ ([] : List Addr) from z) (by simp)
  refine ⟨⟨e0.mod,S.kind,rfl,rfl,Nat.le_refl _,fun y z c h1 h2 => ?_,fun y hy => ?_,fun y c _ h => ?_,fun _ => hd,Around.frames_deeper e0.frames,.inr ⟨rfl,rfl⟩,fun b z => absurd z (noA b),e0.bs,e0.bsz,fun b _ _ => noA b,fun b z => absurd z (noA b),e0.funs,e0.frf⟩,
    rfl,e0.bare,Un.kept hk,⟨_,x.toInCall.ns,fun i y v h1 h2 h3 => ?_⟩,fun y c h => ⟨_,x.cell y c h⟩,e0.hok.fresh (Nat.le_refl _),fun y c h => ?_,fun p hp => absurd (show p ∈ ([] : List (Addr × Obj)) from hp) (by simp),e0.hok.kept hk,?_⟩
  · exact name_of_addr x.apart (PySem.mem_of_lookup h1) (PySem.mem_of_lookup h2)
  · have hy : scope.names.lookup y = some .cell ∨ scope.names.lookup y = some .free := hy
    rcases hy with hy | hy
    · exact cell_has hy
    · exact absurd rfl (S.nofree _ (PySem.mem_of_lookup hy))
  · exact Nat.le_of_lt (x.above y c (PySem.mem_of_lookup h))
  · have hi : i < vs.length := by
      unfold start at h2
      by_cases hi : i < vs.length
      · exact hi
      · rw [List.getElem?_append_right (by simpa using hi)] at h2
        rw [List.getElem?_replicate] at h2
        split at h2 <;> cases h2
    have ha : vs[i]? = some v := by
      unfold start at h2
      rw [List.getElem?_append_left (by simpa using hi),List.getElem?_map] at h2
      cases e : vs[i]? with
      | none => rw [e] at h2; cases h2
      | some a => rw [e] at h2; cases h2; rfl
    obtain ⟨u,hu,rv⟩ := r.get ha
    have hp : ps[i]? = some y := by
      rw [← S.pre,List.getElem?_take_of_lt (by omega)]; exact h1
    have ndP : ps.Nodup := by rw [← S.pre]; exact S.nd.sublist (List.take_sublist _ _)
    refine ⟨u,rv,?_⟩
    rcases S.par y (List.mem_of_getElem? hp) with k | k
    · exact .inl ⟨k,bindL_get ndP hp hu k⟩
    · obtain ⟨c,e⟩ := cell_has (n := s.heap.objs.size + 1) k
      refine .inr ⟨.inl k,c,e,?_⟩
      have q := x.cell y c e
      rw [bindC_get ndP hp hu (by show scope.names.lookup y ≠ _; rw [k]; decide)] at q
      exact q
  · exact e0.hok.fresh (Nat.le_of_lt (x.above y c (PySem.mem_of_lookup h)))
  · unfold start
    show _ = N.length
    rw [List.length_append,List.length_map,List.length_replicate]
    omega
theorem fn_of {CX : CXT} {P : Program} {w : World} {K : PySem.W.Frag} {mg : Str → Option Value} {base : Heap} {k : Nat} {f : Addr} {name qual : Str} {params : Arguments} {body : List Stmt} {scope : Scope} {dV kV doc pm cdv ct oc : Value} {an od : Option Addr}
    {osl : Array (Option Value)} {N ps : List Str} {sp : Sp} (lk : K.lookup f = some ⟨oc,od,.func (PySem.W.fnOf name qual params body scope dV kV doc pm an cdv ct),osl⟩) (hcd : PySem.W.codeIn K cdv qual = true) (S : FnScope N ps scope)
    (len : ∀ vs H Q E,sp vs H Q E → vs.length = ps.length)
    (hbody : ∀ (A : Around) (outer : List Env) (s : Shared) (H : Hp) (vs : List V) (Q : VK) (E : XK),Room k (A.deeper (envOfC qual scope s.heap.objs.size f cdv)) → sp vs H Q E →
      ∃ t,PSs (cxOf CX P w K mg base N qual scope f cdv A outer s H E) body t ∧ t { nx := fun _ H' => Q .non H',rt := Q } (start N vs) H) :
    FnOk P w K mg base CX (k + 1) f (PySem.W.fnOf name qual params body scope dV kV doc pm an cdv ct) ps sp := by
  refine ⟨len,fun A outer s H args us vs Q E hr e0 hb r hsp => ?_⟩
  have hl := len _ _ _ _ hsp
  have KX : K.In s.heap := e0.mod.kin.keeps fun b o e => (e0.bs b o e).1
  have lim : s.heap.NoLimit := e0.mod.nolimit.keeps fun b o e => (e0.bs b o e).1
  have hkind : ∀ y ∈ ps.zip us,scope.names.lookup y.1 = some .local ∨ (scope.names.lookup y.1 = some .cell ∧ ((cellsFrom (s.heap.objs.size + 1) scope.names []).lookup y.1).isSome = true) := fun ⟨n,v⟩ hy => by
    rcases S.par n (List.of_mem_zip hy).1 with q | q
    · exact .inl q
    · exact .inr ⟨q,PySem.W.cellsFrom_some _ _ _ (.inl q)⟩
  refine codeAny_call_function hr.depth (KX _ _ lk) rfl S.co S.gen rfl (PySem.W.codeRec_of KX hcd) (hb _ _ _ _ ?_)
  refine wpAny_newFunctionEnv_cells S.kind hkind fun env he s1 x => ?_
  subst he
  refine ⟨lim.keeps x.toInCall.keep,codeAny_func ?_⟩
  obtain ⟨t,ht,hq⟩ := hbody A outer s H vs Q E (hr.deeper _) hsp
  have I : Inv (cxOf CX P w K mg base N qual scope f cdv A outer s H E) [] (start N vs) H s1 := inv_start S hr.hd e0 hl r x
  refine wpAny_mono (ht [] s1 (start N vs) H _ I hq) (fun fl s' hs => ?_) fun e s' hs => hs
  have fin : ∀ {σ' : St} {H' : Hp} {v : V} {u : Value},Inv (cxOf CX P w K mg base N qual scope f cdv A outer s H E) [] σ' H' s' → RelV v u → Q v H' → CE outer P w H s Q u s' :=
    fun {σ' H' v u} J rv q => ⟨v,H',J.os,J.bare,J.base,J.hok,rv,q⟩
  cases fl with
  | ret u =>
    obtain ⟨v,σ',H',J,rv,q⟩ := hs
    exact fin J rv q
  | next =>
    obtain ⟨σ',H',J,q⟩ := hs
    exact fin (v := V.non) (u := Value.none) J rfl q
  | brk =>
    obtain ⟨_,_,_,q⟩ := hs
    exact False.elim q
  | cont =>
    obtain ⟨_,_,_,q⟩ := hs
    exact False.elim q
end L2
namespace L2
open PySem PySem.Spec PyProof.Rows
section
variable {X : Cx} {x : Str} {p pos : Pos} {e : Expr} {es : List Expr} {t : TA} {id T : String} {r : List V → Hp → VK → Prop}
def tCB (r : List V → Hp → VK → Prop) (t : TA) : TE := fun σ H Q => t σ H fun vs H1 => r vs H1 Q
theorem pe_callB (hc : CallR X (.builtin id) r) (hg : Gl X x) (hm : X.mg x = none) (hv : bootBuiltins x = some (.builtin id)) (ha : PA X (e :: es) t) (hn : x ≠ "__name__" := by decide) (hdb : (x == ("__debug__" : Str)) = false := by decide)
    (he : starEach (e :: es) X.env = (false,eval e X.env) :: starEach es X.env := by rfl) (hpl : (backTo pos (starEach es X.env)).any (·.1) = false := by rfl) : PE X (.Call (.Name x p) (e :: es) [] pos) (tCB r t) := by
  intro pins s σ H Q I h
  refine wpAny_Call_Name_kw (ld_blt I hg hm hv ?_ hn hdb)
  exact PyProof.Rows.callWith_builtin1 (thn (ha pos pins s σ H _ I h) fun us s1 ⟨vs,H1,I1,r1,q1⟩ => hc pins s1 σ H1 vs us Q I1 r1 q1) he hpl
theorem pe_callTy (hc : CallR X (.type T) r) (hg : Gl X x) (hm : X.mg x = none) (hv : bootBuiltins x = some (.type T)) (ha : PA X (e :: es) t) (hn : x ≠ "__name__" := by decide) (hdb : (x == ("__debug__" : Str)) = false := by decide)
    (he : starEach (e :: es) X.env = (false,eval e X.env) :: starEach es X.env := by rfl) (hpl : (backTo pos (starEach es X.env)).any (·.1) = false := by rfl) : PE X (.Call (.Name x p) (e :: es) [] pos) (tCB r t) := by
  intro pins s σ H Q I h
  refine wpAny_Call_Name_kw (ld_blt I hg hm hv ?_ hn hdb)
  exact PyProof.Rows.callWith_type1 (thn (ha pos pins s σ H _ I h) fun us s1 ⟨vs,H1,I1,r1,q1⟩ => hc pins s1 σ H1 vs us Q I1 r1 q1) he hpl
end
end L2
namespace HT
open PySem PyProof.Rows
section
open PySem.SeqAt
open PySem.AutoSeq1 (wpAny_loadPart')
open PySem.MeetsSeq PySem.MeetsSeq2 PySem.MeetsSeq3
end
section
variable {prog : Program} {w : World} {A : Around} {E : Value → Shared → Prop} {s : Shared}
def sIx (n d : Nat) : Option Int → Nat
  | none => d
  | some v => if v < 0 then (v + (n : Int)).toNat else min v.toNat n
theorem sIx_le (n d : Nat) (hd : d ≤ n) (o : Option Int) : sIx n d o ≤ n := by
  cases o with
  | none => exact hd
  | some v =>
    show (if v < 0 then (v + (n : Int)).toNat else min v.toNat n) ≤ n
    by_cases hv : v < 0
    · rw [if_pos hv]; omega
    · rw [if_neg hv]; exact Nat.min_le_right _ _
theorem clip_eq (v : Int) (n d : Nat) : (if v < 0 then max (v + (n : Int)) 0 else min v (n : Int)) = ((sIx n d (some v) : Nat) : Int) := by
  show (if v < 0 then max (v + (n : Int)) 0 else min v (n : Int)) = (((if v < 0 then (v + (n : Int)).toNat else min v.toNat n) : Nat) : Int)
  by_cases hv : v < 0
  · simp only [if_pos hv]; omega
  · simp only [if_neg hv]; omega
theorem adjust_gen (lo hi : Option Int) (n : Nat) : Builtin.Slice.sliceAdjust lo hi 1 (n : Int) = (((sIx n 0 lo : Nat) : Int),((sIx n n hi : Nat) : Int)) := by
  have h1 : ¬ ((1 : Int) < 0) := by omega
  unfold Builtin.Slice.sliceAdjust
  simp only [h1,if_false]
  refine Prod.ext ?_ ?_
  · cases lo with
    | none => rfl
    | some v => exact clip_eq v n 0
  · cases hi with
    | none => rfl
    | some v => exact clip_eq v n n
theorem places_gen (i j : Nat) : Builtin.Slice.slicePlaces (i : Int) (j : Int) 1 = j - i := by
  unfold Builtin.Slice.slicePlaces
  have h1 : (1 : Int) > 0 := by omega
  simp only [h1,if_true,Int.ediv_one]
  split <;> omega
theorem slicePart_ {v : Value} {o : Option Int} {Q : Option Int → Shared → Prop} (p : IsPart v o) (h : Q o s) : wpAny (model prog w) A (Builtin.Slice.slicePartIndex v) Q E s := by
  cases p with
  | none => exact slicePart_none h
  | int i t => exact slicePart_int h
theorem sliceApplied_gen {sl : Addr} {vl vu : Value} {lo hi : Option Int} {n : Nat} {Q : Int × Int × Nat → Shared → Prop} (hs : s.heap.IsSliceOf sl vl vu .none) (pl : IsPart vl lo) (pu : IsPart vu hi)
    (h : Q (((sIx n 0 lo : Nat) : Int),1,sIx n n hi - sIx n 0 lo) s) : wpAny (model prog w) A (Builtin.Slice.sliceApplied (.ref sl) (pure (n : Int))) Q E s := by
  obtain ⟨os,hos,hcs,hds⟩ := id hs
  unfold Builtin.Slice.sliceApplied Builtin.Slice.sliceFields
  refine wpAny_bind (wpAny_bind (wpAny_field hos hds (x := vl) rfl (wpAny_bind (wpAny_field hos hds (x := vu) rfl (wpAny_bind (wpAny_field hos hds (x := .none) rfl (wpAny_pure ?_)))))))
  refine wpAny_bind (slicePart_none ?_)
  show wpAny _ _ (if ((1 : Int) == 0) = true then _ else _) _ _ s
  rw [if_neg (by decide)]
  refine wpAny_bind (slicePart_ pl (wpAny_bind (slicePart_ pu (wpAny_bind (wpAny_pure ?_)))))
  show wpAny _ _ (match Builtin.Slice.sliceAdjust lo hi 1 (n : Int) with | (lo,hi) => pure (lo,(1 : Int),Builtin.Slice.slicePlaces lo hi 1)) _ _ s
  rw [adjust_gen lo hi n]
  show wpAny _ _ (pure (((sIx n 0 lo : Nat) : Int),(1 : Int),Builtin.Slice.slicePlaces ((sIx n 0 lo : Nat) : Int) ((sIx n n hi : Nat) : Int) 1)) _ _ s
  rw [places_gen]
  exact wpAny_pure h
theorem pick_gen (xs : Array Value) (i k : Nat) : ((List.range k).filterMap fun (m : Nat) => xs[((i : Int) + (m : Int) * 1).toNat]?).toArray = ((xs.toList.drop i).take k).toArray := by
  have e : (fun (m : Nat) => xs[((i : Int) + (m : Int) * 1).toNat]?) = fun m => xs[i + m]? := by
    funext m
    have : ((i : Int) + (m : Int) * 1).toNat = i + m := by omega
    rw [this]
  rw [e]
  have := pick_run xs i k
  rw [List.filterMap_map] at this
  have e2 : ((fun x => xs[x]?) ∘ fun x => i + x) = fun m => xs[i + m]? := rfl
  rw [e2] at this
  rw [this]
theorem getItem_tuple_cut {t sl : Addr} {items : Array Value} {vl vu : Value} {lo hi : Option Int} {Q : Value → Shared → Prop} (ht : IsTup s.heap t items) (hs : s.heap.IsSliceOf sl vl vu .none) (pl : IsPart vl lo) (pu : IsPart vu hi)
    (hw : ¬ (sIx items.size 0 lo = 0 ∧ sIx items.size items.size hi = items.size))
    (h : Q (.ref s.heap.objs.size) { s with heap := s.heap.push { cls := .type "tuple", data := .seq ((items.toList.drop (sIx items.size 0 lo)).take (sIx items.size items.size hi - sIx items.size 0 lo)).toArray } })
    (hsz : items.size ≤ sizeLine) : wpAny (model prog w) A (getItem (.ref t) (.ref sl)) Q E s := by
  have htake : sizeOk (.seq ((items.toList.drop (sIx items.size 0 lo)).take (sIx items.size items.size hi - sIx items.size 0 lo)).toArray) := by
    show ((items.toList.drop (sIx items.size 0 lo)).take (sIx items.size items.size hi - sIx items.size 0 lo)).toArray.size ≤ sizeLine
    rw [List.size_toArray,List.length_take,List.length_drop,Array.length_toList]
    omega
  have hj : sIx items.size items.size hi ≤ items.size := sIx_le _ _ (Nat.le_refl _) hi
  obtain ⟨os,hos,hcs,hds⟩ := id hs
  have hTs : s.TypeIs (.ref sl) "slice" := ⟨os,hos,hcs⟩
  unfold getItem
  try with_reducible refine wpAny_holding ?_
  first | refine wpAny_bind (wpAny_pure ?_) | skip
  refine wpAny_bind (wpAny_sequenceKey ht.typeIs (by decide) ?_)
  refine wpAny_bind (wpAny_callSpecial?_slot (name := Str.ofString "__getitem__") ht.typeIs PyProof.Rows.slot_tuple_getitem
    (wpAny_call_entry PyProof.Rows.slot_tuple_getitem ht.typeIs entry_tuple_getitem ?_ (args_tuple_getitem _ _)))
  show wpAny _ _ (Builtin.Tuple.tupleItemsOf (.ref t) >>= _) _ _ s
  refine wpAny_bind (tupleItemsOf_ ht ?_)
  refine wpAny_bind (wpAny_typeOf hTs ?_)
  rw [if_pos (by decide)]
  refine wpAny_bind (sliceApplied_gen hs pl pu ?_)
  have hno : ¬ ((((sIx items.size 0 lo : Nat) : Int) == 0 && (1 : Int) == 1 && (sIx items.size items.size hi - sIx items.size 0 lo) == items.size) = true) := by
    intro q
    rw [Bool.and_eq_true,Bool.and_eq_true] at q
    have q1 : ((sIx items.size 0 lo : Nat) : Int) = 0 := eq_of_beq q.1.1
    have q2 : sIx items.size items.size hi - sIx items.size 0 lo = items.size := eq_of_beq q.2
    exact hw ⟨by omega,by omega⟩
  show wpAny _ _ (if (((sIx items.size 0 lo : Nat) : Int) == 0 && (1 : Int) == 1 && (sIx items.size items.size hi - sIx items.size 0 lo) == items.size) = true then _ else _) _ _ s
  rw [if_neg hno,pick_gen]
  first
    | exact wpAny_bind (m := Builtin.Tuple.tupleExact _) (wpAny_newObj_type (wpAny_pure ⟨_,rfl,wpAny_pure h⟩) htake)
    | exact wpAny_bind (m := Builtin.Tuple.tupleExact _) (wpAny_newObj_type (wpAny_bind (wpAny_pure (wpAny_pure ⟨_,rfl,wpAny_pure h⟩))) htake)
    | exact wpAny_bind (wpAny_bind (m := Builtin.Tuple.tupleExact _) (wpAny_newObj_type (wpAny_pure (wpAny_pure ⟨_,rfl,wpAny_pure h⟩)) htake))
    | exact wpAny_bind (wpAny_bind (m := Builtin.Tuple.tupleExact _) (wpAny_newObj_type (wpAny_pure ⟨_,rfl,wpAny_pure h⟩) htake))
end
end HT
namespace L2
open PySem PySem.Spec PyProof.Rows
abbrev TO := St → Hp → (Option Int → Hp → Prop) → Prop
def PO (X : Cx) (e : Option Expr) (t : TO) : Prop :=
  ∀ (pins : List (Addr × Obj)) (s : Shared) (σ : St) (H : Hp) (Q : Option Int → Hp → Prop),Inv X pins σ H s → t σ H Q →
    wpAny (model X.prog X.w) X.A (evalPart e X.env) (fun u s' => ∃ o H',Inv X pins σ H' s' ∧ IsPart u o ∧ Q o H') X.xe s
def tNoPart : TO := fun _ H Q => Q none H
def tPart (t : TE) : TO := fun σ H Q => t σ H fun x H1 => ∃ i,x = .int i ∧ Q (some i) H1
theorem intsAre_of {ns : List Int} : ∀ {us : List Value},Vals (ns.map V.int) us → IntsAre us ns := by
  induction ns with
  | nil => intro us r; rw [List.map_nil] at r; cases r; exact .nil
  | cons n ns ih =>
    intro us r
    rw [List.map_cons] at r
    cases r with
    | cons r1 r2 =>
      obtain ⟨t,e⟩ := r1
      subst e
      exact .cons n t (ih r2)
section
variable {X : Cx} {e : Expr} {te : TE} {lo hi : Option Expr} {tl th : TO} {pos p2 : Pos}
theorem po_none : PO X none tNoPart := by
  intro pins s σ H Q I h
  rw [evalPart_none]
  exact wpAny_pure ⟨none,H,I,.none,h⟩
theorem po_some (h : PE X e te) : PO X (some e) (tPart te) := by
  intro pins s σ H Q I hw
  rw [evalPart_some]
  refine thn (h pins s σ H _ I hw) fun u s1 ⟨x,H1,I1,r1,q1⟩ => ?_
  obtain ⟨i,rfl,q⟩ := q1
  obtain ⟨t,rfl⟩ := r1
  exact ⟨some i,H1,I1,.int i t,q⟩
def SlR (X : Cx) (r : V → Option Int → Option Int → Hp → VK → Prop) : Prop :=
  ∀ (pins : List (Addr × Obj)) (s : Shared) (σ : St) (H : Hp) (x : V) (v vl vu : Value) (lo hi : Option Int) (sl : Addr) (Q : VK),Inv X pins σ H s → RelV x v → s.heap.IsSliceOf sl vl vu .none → IsPart vl lo → IsPart vu hi → r x lo hi H Q →
    ∃ T id,typeLookup (.type T) "__getitem__" = pure (some (.builtin id)) ∧ s.TypeIs v T ∧ wpAny (model X.prog X.w) X.A (getItem v (.ref sl)) (EP X pins σ Q) X.xe s
theorem SlR.or {r r' : V → Option Int → Option Int → Hp → VK → Prop} (h : SlR X r) (h' : SlR X r') : SlR X (fun x lo hi H Q => r x lo hi H Q ∨ r' x lo hi H Q) := by
  intro pins s σ H x v vl vu lo hi sl Q I rx hs pl pu q
  rcases q with q | q
  · exact h pins s σ H x v vl vu lo hi sl Q I rx hs pl pu q
  · exact h' pins s σ H x v vl vu lo hi sl Q I rx hs pl pu q
def tSl (r : V → Option Int → Option Int → Hp → VK → Prop) (te : TE) (tl th : TO) : TE := fun σ H Q => te σ H fun x H1 => tl σ H1 fun l H2 => th σ H2 fun u H3 => r x l u H3 Q
theorem pe_slice {r : V → Option Int → Option Int → Hp → VK → Prop} (hr : SlR X r) (he : PE X e te) (hl : PO X lo tl) (hu : PO X hi th) : PE X (.Subscript e (.Slice lo hi none p2) pos) (tSl r te tl th) := by
  intro pins s σ H Q I h
  refine Subscript_ (thn (he pins s σ H _ I h) fun v s1 ⟨x,H1,I1,r1,q1⟩ => ?_)
  refine wpAny_Slice (thn (hl pins s1 σ H1 _ I1 q1) fun vl s2 ⟨l,H2,I2,pl,q2⟩ => thn (hu pins s2 σ H2 _ I2 q2) fun vu s3 ⟨u,H3,I3,pu,q3⟩ => ?_)
  rw [evalPart_none]
  refine wpAny_pure ?_
  have I4 : Inv X pins σ H3 { s3 with heap := s3.heap.push { cls := .type "slice", data := .fields #[vl,vu,.none] } } := I3.kept (t' := s3.toks) fun b ob q => Heap.get?_push_of_some _ q
  obtain ⟨T,id,hT,ht,hg⟩ := hr pins { s3 with heap := s3.heap.push { cls := .type "slice", data := .fields #[vl,vu,.none] } } σ H3 x v vl vu l u s3.heap.objs.size Q I4 r1 (Heap.IsSliceOf.new ..) pl pu q3
  show wpAny (model X.prog X.w) X.A (subscriptTail e (.Slice lo hi none p2) v (.ref s3.heap.objs.size)) (EP X pins σ Q) X.xe { s3 with heap := s3.heap.push { cls := .type "slice", data := .fields #[vl,vu,.none] } }
  exact tail_any (ops := [.ref s3.heap.objs.size,v]) ht hT hg (by with_unfolding_all rfl)
def cutV (xs : List V) (lo hi : Option Int) : List V := (xs.drop (HT.sIx xs.length 0 lo)).take (HT.sIx xs.length xs.length hi - HT.sIx xs.length 0 lo)
theorem cutV_length (xs : List V) (lo hi : Option Int) : (cutV xs lo hi).length ≤ xs.length := by
  unfold cutV
  rw [List.length_take,List.length_drop]
  omega
def rSlT (K : PySem.W.Frag) : V → Option Int → Option Int → Hp → VK → Prop := fun x lo hi H Q => ∃ a xs,x = .ref a ∧ SqT K H a xs ∧
  ¬ (HT.sIx xs.length 0 lo = 0 ∧ HT.sIx xs.length xs.length hi = xs.length) ∧ ∀ p,H p = none → Q (.ref p) (upd H p (.tup (cutV xs lo hi)))
theorem sl_tup : SlR X (rSlT X.K) := by
  intro pins s σ H x v vl vu lo hi sl Q I rx hs pl pu h
  obtain ⟨a,xs,rfl,hx,hw,q⟩ := h
  cases rx
  obtain ⟨its,r,ht,hz⟩ := I.tuple hx
  have hlen : its.toArray.size = xs.length := by rw [List.size_toArray]; exact r.length.symm
  refine ⟨"tuple", _,PyProof.Rows.slot_tuple_getitem.lookup,ht.typeIs,?_⟩
  refine HT.getItem_tuple_cut ht hs pl pu (by rw [hlen]; exact hw) ?_ (by rw [hlen]; exact hz)
  rw [hlen]
  refine ⟨.ref s.heap.objs.size,_,I.laid (t' := s.toks) (o := .tup (cutV xs lo hi)) (fun b ob q => Heap.get?_push_of_some _ q) (Nat.le_refl _) ?_,rfl,q _ (I.hok.fresh (Nat.le_refl _))⟩
  exact ⟨Nat.le_trans (cutV_length xs lo hi) hz,_,(r.drop (HT.sIx xs.length 0 lo)).take (HT.sIx xs.length xs.length hi - HT.sIx xs.length 0 lo),IsTup.new _ _⟩
end
end L2
namespace L2
open PySem PySem.Spec PyProof.Rows
def ixN (n : Nat) (i : Int) : Option Nat := if 0 ≤ i then (if i < n then some i.toNat else none) else if -(n : Int) ≤ i then some (i + n).toNat else none
def atI {α : Type} (xs : List α) (i : Int) : Option α := (ixN xs.length i).bind fun j => xs[j]?
theorem ixN_seq {n : Nat} {i : Int} {j : Nat} (h : ixN n i = some j) : seqIndex? i n = some j ∧ j < n ∧ -(n : Int) ≤ i ∧ i < n := by
  unfold ixN at h
  by_cases h0 : 0 ≤ i
  · rw [if_pos h0] at h
    by_cases h1 : i < n
    · rw [if_pos h1] at h
      have e : i.toNat = j := Option.some.inj h
      exact ⟨by rw [seqIndex_of h0 h1,e],by omega,by omega,h1⟩
    · rw [if_neg h1] at h; cases h
  · rw [if_neg h0] at h
    by_cases h1 : -(n : Int) ≤ i
    · rw [if_pos h1] at h
      have e : (i + n).toNat = j := Option.some.inj h
      exact ⟨by rw [seqIndex_neg (by omega) h1,e],by omega,h1,by omega⟩
    · rw [if_neg h1] at h; cases h
theorem atI_get {α : Type} {xs : List α} {i : Int} {v : α} (h : atI xs i = some v) : ∃ j,seqIndex? i xs.length = some j ∧ xs[j]? = some v ∧ j < xs.length ∧ -(xs.length : Int) ≤ i ∧ i < xs.length := by
  unfold atI at h
  cases e : ixN xs.length i with
  | none => rw [e] at h; cases h
  | some j =>
    rw [e] at h
    obtain ⟨h1,h2,h3,h4⟩ := ixN_seq e
    exact ⟨j,h1,h,h2,h3,h4⟩
theorem atI_nat {α : Type} {xs : List α} {j : Nat} {v : α} (h : xs[j]? = some v) : atI xs (j : Int) = some v := by
  have hj : j < xs.length := (List.getElem?_eq_some_iff.mp h).1
  have e : ixN xs.length (j : Int) = some j := by
    unfold ixN
    rw [if_pos (by omega),if_pos (by omega)]; simp
  unfold atI; rw [e]; exact h
def PlainIx (b : Expr) : Prop := ∀ o i,subscripted b false o i = operate [o,i] (getItem o i)
def IxR (X : Cx) (r : R2) : Prop :=
  ∀ (value slice : Expr) (pins : List (Addr × Obj)) (s : Shared) (σ : St) (H : Hp) (x y : V) (v u : Value) (Q : VK),Inv X pins σ H s → RelV x v → RelV y u → r x y H Q →
    subscripted slice false v u = operate [v,u] (getItem v u) → wpAny (model X.prog X.w) X.A (subscriptTail value slice v u) (EP X pins σ Q) X.xe s
def MtR (X : Cx) (id : String) (r : V → List V → Hp → VK → Prop) : Prop :=
  ∀ (pins : List (Addr × Obj)) (s : Shared) (σ : St) (H : Hp) (x : V) (xs : List V) (v : Value) (us : List Value) (Q : VK),Inv X pins σ H s → RelV x v → Vals xs us → r x xs H Q →
    wpAny (model X.prog X.w) X.A (call (.builtin id) (v :: us)) (EP X pins σ Q) X.xe s
section
variable {X : Cx} {a b : Expr} {ta tb : TE} {pos : Pos}
theorem IxR.or {r r' : R2} (h : IxR X r) (h' : IxR X r') : IxR X (fun x y H Q => r x y H Q ∨ r' x y H Q) := by
  intro value slice pins s σ H x y v u Q I rx ry q hs
  rcases q with q | q
  · exact h value slice pins s σ H x y v u Q I rx ry q hs
  · exact h' value slice pins s σ H x y v u Q I rx ry q hs
theorem MtR.or {id : String} {r r' : V → List V → Hp → VK → Prop} (h : MtR X id r) (h' : MtR X id r') : MtR X id (fun x xs H Q => r x xs H Q ∨ r' x xs H Q) := by
  intro pins s σ H x xs v us Q I rx rs q
  rcases q with q | q
  · exact h pins s σ H x xs v us Q I rx rs q
  · exact h' pins s σ H x xs v us Q I rx rs q
theorem pe_ix {r : R2} (hr : IxR X r) (ha : PE X a ta) (hb : PE X b tb) (hs : PlainIx b) : PE X (.Subscript a b pos) (tOp r ta tb) := by
  intro pins s σ H Q I h
  exact Subscript_ (binT ha hb I h fun v u s2 x y H2 I2 rx ry q => hr a b pins s2 σ H2 x y v u Q I2 rx ry q (hs _ _))
def rIxL (K : PySem.W.Frag) : R2 := fun x y H Q => ∃ p xs i v,x = .ref p ∧ y = .int i ∧ SqL K H p xs ∧ atI xs i = some v ∧ Q v H
def rIxT (K : PySem.W.Frag) : R2 := fun x y H Q => ∃ p xs i v,x = .ref p ∧ y = .int i ∧ SqT K H p xs ∧ atI xs i = some v ∧ Q v H
def rIxS : R2 := fun x y H Q => ∃ z i c,x = .str z ∧ y = .int i ∧ z.length ≤ sizeLine ∧ atI z.cps.toList i = some c ∧ Q (.str ⟨#[c]⟩) H
theorem ix_list : IxR X (rIxL X.K) := by
  intro value slice pins s σ H x y v u Q I rx ry h hs
  obtain ⟨p,xs,i,z,rfl,rfl,hq,he,q⟩ := h
  cases rx
  obtain ⟨t,rfl⟩ := ry
  obtain ⟨its,r,pl,hz⟩ := I.list hq
  obtain ⟨j,h1,h2,h3,h4,h5⟩ := atI_get he
  obtain ⟨w,ew,rw'⟩ := r.get h2
  have hl := r.length
  have hn := line63
  have fin : EP X pins σ Q w s := ⟨z,H,I,rw',q⟩
  by_cases h0 : 0 ≤ i
  · have hj : i.toNat = j := by
      rw [seqIndex_of h0 h5] at h1
      exact Option.some.inj h1
    exact item_listR pl.isList h0 (by omega) (by rw [hj]; simpa using ew) fin hs
  · have hj : (i + (its.toArray.size : Int)).toNat = j := by
      rw [seqIndex_neg (by omega) h4] at h1
      rw [List.size_toArray,← hl]
      exact Option.some.inj h1
    exact subscriptTail_builtinR (x := w) pl.isList.typeIs slot_list_getitem.lookup
      (wpAny_getItem_list_neg (Q := fun r s' => r = w ∧ EP X pins σ Q r s') pl.isList (by omega) (by rw [List.size_toArray] <;> omega) (by omega) (by rw [hj]; simpa using ew) ⟨rfl,fin⟩) hs
theorem ix_tup : IxR X (rIxT X.K) := by
  intro value slice pins s σ H x y v u Q I rx ry h hs
  obtain ⟨p,xs,i,z,rfl,rfl,hq,he,q⟩ := h
  cases rx
  obtain ⟨t,rfl⟩ := ry
  obtain ⟨its,r,pl,hz⟩ := I.tuple hq
  obtain ⟨j,h1,h2,h3,h4,h5⟩ := atI_get he
  obtain ⟨w,ew,rw'⟩ := r.get h2
  have hl := r.length
  have hn := line63
  have fin : EP X pins σ Q w s := ⟨z,H,I,rw',q⟩
  exact subscriptTail_builtinR (x := w) pl.typeIs slot_tuple_getitem.lookup
    (getItem_tuple (j := j) (Q := fun r s' => r = w ∧ EP X pins σ Q r s') pl (by omega) (by omega) (by rw [List.size_toArray,← hl]; exact h1) (by simpa using ew) ⟨rfl,fin⟩) hs
theorem ix_str : IxR X rIxS := by
  intro value slice pins s σ H x y v u Q I rx ry h hs
  obtain ⟨z,i,c,rfl,rfl,hz,he,q⟩ := h
  obtain ⟨t,rfl⟩ := rx
  obtain ⟨t',rfl⟩ := ry
  obtain ⟨j,h1,h2,h3,h4,h5⟩ := atI_get he
  have hl : z.cps.toList.length = z.length := by simp [Str.length]
  rw [hl] at h1 h4 h5
  have hn := line63
  exact tail_any (typeIs_str s z t) slot_str_getitem.lookup (getItem_str (c := c) (by
    have e1 : decide (i < -(2 ^ 63 : Int)) = false := decide_eq_false (by omega)
    have e2 : decide (i ≥ 2 ^ 63) = false := decide_eq_false (by omega)
    rw [e1,e2,Bool.or_false]) (by rw [h1]; simpa using h2) ⟨.str ⟨#[c]⟩,H,I.tok _,⟨_,rfl⟩,q⟩) hs
def rIx (K : PySem.W.Frag) : R2 := fun x y H Q => rIxL K x y H Q ∨ rIxT K x y H Q ∨ rIxS x y H Q
theorem ix_seq : IxR X (rIx X.K) := ix_list.or (ix_tup.or ix_str)
theorem Inv.lst {pins : List (Addr × Obj)} {σ : St} {H : Hp} {s : Shared} {p : Addr} {xs : List V} (I : Inv X pins σ H s) (h : H p = some (.lst xs)) :
    ∃ (its : List Value) (n : Nat),Vals xs its ∧ s.heap.get? p = some { cls := .type "list", data := .seq its.toArray n } ∧ xs.length ≤ sizeLine := by
  obtain ⟨z,its,n,r,e⟩ := I.hok p _ h
  exact ⟨its,n,r,e,z⟩
theorem slice_bounds (lo hi : Option Int) (n : Nat) : (sliceBounds lo hi none n).1 = ((HT.sIx n 0 lo : Nat) : Int) ∧ (sliceBounds lo hi none n).2.1 = ((HT.sIx n n hi : Nat) : Int) ∧ (sliceBounds lo hi none n).2.2 = 1 := by
  refine ⟨?_,?_,rfl⟩
  · cases lo with
    | none => simp [sliceBounds,HT.sIx]
    | some i =>
      simp only [sliceBounds,HT.sIx,Option.getD_none,show (1 : Int) > 0 by decide,if_true]
      by_cases h : i < 0
      · simp only [h,if_true] <;> omega
      · simp only [h,if_false] <;> omega
  · cases hi with
    | none => simp [sliceBounds,HT.sIx]
    | some i =>
      simp only [sliceBounds,HT.sIx,Option.getD_none,show (1 : Int) > 0 by decide,if_true]
      by_cases h : i < 0
      · simp only [h,if_true] <;> omega
      · simp only [h,if_false] <;> omega
theorem slicePick_cut (its : List Value) (lo hi : Option Int) : slicePick its.toArray lo hi none = ((its.drop (HT.sIx its.length 0 lo)).take (HT.sIx its.length its.length hi - HT.sIx its.length 0 lo)).toArray := by
  obtain ⟨h1,h2,h3⟩ := slice_bounds lo hi its.toArray.size
  unfold slicePick
  rw [h1,h2,h3]
  simp only [sliceRange_one,pick_run,List.size_toArray] <;> rfl
def rSlL (K : PySem.W.Frag) : V → Option Int → Option Int → Hp → VK → Prop := fun x lo hi H Q => ∃ a xs,x = .ref a ∧ SqL K H a xs ∧ ∀ p,H p = none → Q (.ref p) (upd H p (.lst (cutV xs lo hi)))
theorem sl_list : SlR X (rSlL X.K) := by
  intro pins s σ H x v vl vu lo hi sl Q I rx hs pl pu h
  obtain ⟨a,xs,rfl,hx,q⟩ := h
  cases rx
  obtain ⟨its,r,ht,hz⟩ := I.list hx
  have hlen := r.length
  refine ⟨"list", _,slot_list_getitem.lookup,ht.isList.typeIs,?_⟩
  refine wpAny_getItem_list_slice ht.isList hs pl pu .none (by simp) ?_ (by rw [List.size_toArray] <;> omega)
  rw [slicePick_cut,← hlen]
  refine ⟨.ref s.heap.objs.size,_,I.laid (t' := s.toks) (o := .lst (cutV xs lo hi)) (fun b ob q => Heap.get?_push_of_some _ q) (Nat.le_refl _) ?_,rfl,q _ (I.hok.fresh (Nat.le_refl _))⟩
  exact ⟨Nat.le_trans (cutV_length xs lo hi) hz,_,0,(r.drop (HT.sIx xs.length 0 lo)).take (HT.sIx xs.length xs.length hi - HT.sIx xs.length 0 lo),Heap.get?_push_size _ rfl⟩
def flatV : V → Bool
  | .non => true
  | .bl _ => true
  | .int _ => true
  | .str _ => true
  | _ => false
def eqV : V → V → Bool
  | .non,.non => true
  | .bl a,.bl b => a == b
  | .bl a,.int b => (if a then 1 else 0) == b
  | .int a,.bl b => a == (if b then 1 else 0)
  | .int a,.int b => a == b
  | .str a,.str b => a == b
  | _,_ => false
theorem eqAt_V {A : Around} {s : Shared} {y x : V} {u v : Value} (ry : RelV y u) (rx : RelV x v) (fy : flatV y = true) (fx : flatV x = true) : SeqAt.EqAt A s u v (eqV y x) := by
  cases y with
  | non =>
    cases ry
    cases x with
    | non => cases rx; exact SeqAt.EqAt.same _
    | bl b => cases rx; exact SeqAt.EqAt.none_bool b
    | int b => obtain ⟨t,rfl⟩ := rx; exact SeqAt.EqAt.none_int b t
    | str b => obtain ⟨t,rfl⟩ := rx; exact SeqAt.EqAt.none_str b t
    | _ => exact absurd (show false = true from fx) Bool.false_ne_true
  | bl a =>
    cases ry
    cases x with
    | non => cases rx; exact SeqAt.EqAt.bool_none a
    | bl b => cases rx; exact SeqAt.EqAt.bool_bool a b
    | int b => obtain ⟨t,rfl⟩ := rx; exact SeqAt.EqAt.bool_int a b t
    | str b => obtain ⟨t,rfl⟩ := rx; exact SeqAt.EqAt.bool_str a b t
    | _ => exact absurd (show false = true from fx) Bool.false_ne_true
  | int a =>
    obtain ⟨t',rfl⟩ := ry
    cases x with
    | non => cases rx; exact SeqAt.EqAt.int_none a t'
    | bl b => cases rx; exact SeqAt.EqAt.int_bool a t' b
    | int b => obtain ⟨t,rfl⟩ := rx; exact SeqAt.EqAt.int_int a t' b t
    | str b => obtain ⟨t,rfl⟩ := rx; exact SeqAt.EqAt.int_str a t' b t
    | _ => exact absurd (show false = true from fx) Bool.false_ne_true
  | str a =>
    obtain ⟨t',rfl⟩ := ry
    cases x with
    | non => cases rx; exact SeqAt.EqAt.str_none a t'
    | bl b => cases rx; exact SeqAt.EqAt.str_bool a t' b
    | int b => obtain ⟨t,rfl⟩ := rx; exact SeqAt.EqAt.str_int a t' b t
    | str b => obtain ⟨t,rfl⟩ := rx; exact SeqAt.EqAt.str_str a t' b t
    | _ => exact absurd (show false = true from fx) Bool.false_ne_true
  | _ => exact absurd (show false = true from fy) Bool.false_ne_true
def eqU (x : V) (u : Value) : Bool := match u with
  | .none => eqV .non x
  | .bool b => eqV (.bl b) x
  | .int i _ => eqV (.int i) x
  | .str z _ => eqV (.str z) x
  | _ => false
theorem eqU_of {x y : V} {u : Value} (r : RelV y u) (f : flatV y = true) : eqU x u = eqV y x := by
  cases y with
  | non => cases r; rfl
  | bl b => cases r; rfl
  | int i => obtain ⟨t,rfl⟩ := r; rfl
  | str z => obtain ⟨t,rfl⟩ := r; rfl
  | _ => exact absurd (show false = true from f) Bool.false_ne_true
theorem any_eqU {x : V} : ∀ {xs : List V} {us : List Value},Vals xs us → xs.all flatV = true → us.any (eqU x) = xs.any fun y => eqV y x
  | _,_,.nil,_ => rfl
  | y :: xs,u :: us,.cons r t,f => by
    rw [List.all_cons,Bool.and_eq_true] at f
    rw [List.any_cons,List.any_cons,eqU_of r f.1,any_eqU t f.2]
theorem mem_eqAt {A : Around} {s : Shared} {x : V} {v : Value} (rx : RelV x v) (fx : flatV x = true) : ∀ {xs : List V} {us : List Value},Vals xs us → xs.all flatV = true → ∀ u ∈ us,SeqAt.EqAt A s u v (eqU x u)
  | _,_,.nil,_ => fun u hu => by cases hu
  | y :: xs,u :: us,.cons r t,f => fun u' hu => by
    rw [List.all_cons,Bool.and_eq_true] at f
    rcases List.mem_cons.mp hu with rfl | hu
    · rw [eqU_of r f.1]; exact eqAt_V r rx f.1 fx
    · exact mem_eqAt rx fx t f.2 u' hu
def inV (x : V) (xs : List V) : Bool := xs.any fun y => eqV y x
def rIn (K : PySem.W.Frag) (neg : Bool) : R2 := fun x y H Q => ∃ p xs,y = .ref p ∧ (SqL K H p xs ∨ SqT K H p xs) ∧ flatV x = true ∧ xs.all flatV = true ∧ Q (.bl (if neg then !inV x xs else inV x xs)) H
theorem op_in_seq : OpR X (compareOp .In) (rIn X.K false) := by
  intro pins s σ H x y v u Q I rx ry h
  obtain ⟨p,xs,rfl,hq,fx,fs,q⟩ := h
  cases ry
  rcases hq with hq | hq
  · obtain ⟨its,r,pl,hz⟩ := I.list hq
    refine SeqAt.in_listAt (eqU x) pl.isList (fun w hw => mem_eqAt rx fx r fs w (by simpa using hw)) ⟨.bl _,H,I,rfl,?_⟩
    rw [show its.toArray.any (eqU x) = its.any (eqU x) by simp,any_eqU r fs]
    exact q
  · obtain ⟨its,r,pl,hz⟩ := I.tuple hq
    refine SeqAt.in_tupleAt (eqU x) pl (fun w hw => mem_eqAt rx fx r fs w (by simpa using hw)) ⟨.bl _,H,I,rfl,?_⟩
    rw [show its.toArray.any (eqU x) = its.any (eqU x) by simp,any_eqU r fs]
    exact q
theorem op_notIn_seq : OpR X (compareOp .NotIn) (rIn X.K true) := by
  intro pins s σ H x y v u Q I rx ry h
  obtain ⟨p,xs,rfl,hq,fx,fs,q⟩ := h
  cases ry
  rcases hq with hq | hq
  · obtain ⟨its,r,pl,hz⟩ := I.list hq
    refine SeqAt.notIn_listAt (eqU x) pl.isList (fun w hw => mem_eqAt rx fx r fs w (by simpa using hw)) ⟨.bl _,H,I,rfl,?_⟩
    rw [show its.toArray.any (eqU x) = its.any (eqU x) by simp,any_eqU r fs]
    exact q
  · obtain ⟨its,r,pl,hz⟩ := I.tuple hq
    refine SeqAt.notIn_tupleAt (eqU x) pl (fun w hw => mem_eqAt rx fx r fs w (by simpa using hw)) ⟨.bl _,H,I,rfl,?_⟩
    rw [show its.toArray.any (eqU x) = its.any (eqU x) by simp,any_eqU r fs]
    exact q
theorem call_len_seq : CallR X (.builtin "len") (fun xs H Q => ∃ p ys,xs = [.ref p] ∧ (SqL X.K H p ys ∨ SqT X.K H p ys) ∧ Q (.int ys.length) H) := by
  intro pins s σ H xs us Q I r h
  obtain ⟨p,ys,rfl,hq,q⟩ := h
  obtain ⟨u,rfl,rx⟩ := vals1 r
  cases rx
  have hn := line63
  rcases hq with hq | hq
  · obtain ⟨its,r',pl,hz⟩ := I.list hq
    have hlen := r'.length
    exact Calls.call_len_list pl.isList (by simp only [List.size_toArray] <;> omega) ⟨.int ys.length,H,I.tok _,⟨s.toks + 1,by rw [List.size_toArray,hlen]⟩,q⟩
  · obtain ⟨its,r',pl,hz⟩ := I.tuple hq
    have hlen := r'.length
    exact len_tuple pl (by simp only [List.size_toArray] <;> omega) ⟨.int ys.length,H,I.tok _,⟨s.toks + 1,by rw [List.size_toArray,hlen]⟩,q⟩
theorem call_len_str : CallR X (.builtin "len") (fun xs H Q => ∃ z,xs = [.str z] ∧ z.length ≤ sizeLine ∧ Q (.int z.length) H) := by
  intro pins s σ H xs us Q I r h
  obtain ⟨z,rfl,hz,q⟩ := h
  obtain ⟨u,rfl,t,rfl⟩ := vals1 r
  have hn := line63
  exact len_str (by omega) ⟨.int z.length,H,I.tok _,⟨_,rfl⟩,q⟩
theorem CallR.or {f : Value} {r r' : List V → Hp → VK → Prop} (h : CallR X f r) (h' : CallR X f r') : CallR X f (fun xs H Q => r xs H Q ∨ r' xs H Q) := by
  intro pins s σ H xs us Q I rs q
  rcases q with q | q
  · exact h pins s σ H xs us Q I rs q
  · exact h' pins s σ H xs us Q I rs q
theorem call_list_of : CallR X (.type "list") (fun xs H Q => ∃ p ys,xs = [.ref p] ∧ (SqL X.K H p ys ∨ SqT X.K H p ys) ∧ ∀ l,H l = none → Q (.ref l) (upd H l (.lst ys))) := by
  intro pins s σ H xs us Q I r h
  obtain ⟨p,ys,rfl,hq,q⟩ := h
  obtain ⟨u,rfl,rx⟩ := vals1 r
  cases rx
  have fin : ∀ (its : List Value),Vals ys its → ys.length ≤ sizeLine → ∀ (h' : Heap) (c' : Nat),(∀ b o',s.heap.get? b = some o' → h'.get? b = some o') →
      h'.get? s.heap.objs.size = some { cls := .type "list", dict := none,data := .seq its.toArray c',slots := #[] } → EP X pins σ Q (.ref s.heap.objs.size) { s with heap := h' } := fun its r' hz h' c' kp e =>
    ⟨.ref s.heap.objs.size,_,I.laid (t' := s.toks) kp (Nat.le_refl _) (show ObjOk X.prog X.w _ h' _ (.lst ys) from ⟨hz,its,c',r',e⟩),rfl,q _ (I.hok.fresh (Nat.le_refl _))⟩
  rcases hq with hq | hq
  · obtain ⟨its,r',pl,hz⟩ := I.list hq
    have hlen := r'.length
    obtain ⟨o,ho,hc,n,hd⟩ := pl.isList
    exact call_list_seq p (.inl rfl) ho hc hd (fun h' c' kp e => fin its r' hz h' c' kp e) (by simp only [List.size_toArray] <;> omega)
  · obtain ⟨its,r',pl,hz⟩ := I.tuple hq
    have hlen := r'.length
    obtain ⟨o,ho,hc,n,hd⟩ := pl
    exact call_list_seq p (.inr rfl) ho hc hd (fun h' c' kp e => fin its r' hz h' c' kp e) (by simp only [List.size_toArray] <;> omega)
theorem call_tuple_of : CallR X (.type "tuple") (fun xs H Q => ∃ p ys,xs = [.ref p] ∧ ((SqL X.K H p ys ∧ ∀ l,H l = none → Q (.ref l) (upd H l (.tup ys))) ∨ (SqT X.K H p ys ∧ Q (.ref p) H))) := by
  intro pins s σ H xs us Q I r h
  obtain ⟨p,ys,rfl,h⟩ := h
  obtain ⟨u,rfl,rx⟩ := vals1 r
  cases rx
  rcases h with ⟨hq,q⟩ | ⟨hq,q⟩
  · obtain ⟨its,r',pl,hz⟩ := I.list hq
    have hlen := r'.length
    refine call_tuple_list pl.isList (fun h' kp => ?_) (by simp only [List.size_toArray] <;> omega)
    have I1 : Inv X pins σ H { s with heap := h' } := I.kept (t' := s.toks) kp
    have I2 : Inv X pins σ (upd H h'.objs.size (.tup ys)) { s with heap := h'.push { cls := .type "tuple", data := .seq its.toArray } } :=
      I1.laid (t' := s.toks) (fun b o e => Heap.get?_push_of_some _ e) (Nat.le_refl _) (show ObjOk X.prog X.w _ _ _ (.tup ys) from ⟨hz,its,r',IsTup.new _ _⟩)
    exact ⟨.ref h'.objs.size,_,I2,rfl,q _ (I1.hok.fresh (Nat.le_refl _))⟩
  · obtain ⟨its,r',pl,hz⟩ := I.tuple hq
    exact call_tuple_same pl ⟨.ref p,H,I,rfl,q⟩
def tyV (K : PySem.W.Frag) (T : String) (x : V) (H : Hp) : Prop := match x with
  | .str _ => T = "str"
  | .int _ => T = "int"
  | .ref p => (T = "list" ∧ ∃ xs,SqL K H p xs) ∨ (T = "tuple" ∧ ∃ o,K.lookup p = some o ∧ o.cls = .type "tuple" ∧ o.dict = none) ∨
      (T = "dict" ∧ ((∃ kvs,H p = some (.dK kvs)) ∨ ∃ kvs,H p = some (.dT kvs))) ∨ (T = "set" ∧ ∃ S n,H p = some (.set S n))
  | _ => False
theorem tyV_is {pins : List (Addr × Obj)} {σ : St} {H : Hp} {s : Shared} {T : String} {x : V} {v : Value} (I : Inv X pins σ H s) (r : RelV x v) (ty : tyV X.K T x H) :
    s.TypeIs v T ∧ ∀ a,v = .ref a → ∃ ob,s.heap.get? a = some ob ∧ ob.dict = none := by
  cases x with
  | str z =>
    obtain ⟨t,rfl⟩ := r
    cases (show T = "str" from ty)
    exact ⟨typeIs_str s z t,fun _ e => nomatch e⟩
  | int i =>
    obtain ⟨t,rfl⟩ := r
    cases (show T = "int" from ty)
    exact ⟨typeIs_int s i t,fun _ e => nomatch e⟩
  | ref p =>
    cases r
    rcases ty with ⟨rfl,xs,hq⟩ | ⟨rfl,o,hk,hc,hd⟩ | ⟨rfl,hk⟩ | ⟨rfl,S,n,hk⟩
    · obtain ⟨its,_,pl,_⟩ := I.list hq
      refine ⟨pl.isList.typeIs,fun a e => ?_⟩
      cases e
      obtain ⟨o,n,e,c,hd,_⟩ := pl
      exact ⟨o,e,hd⟩
    · refine ⟨⟨o,I.kIn p o hk,hc⟩,fun a e => ?_⟩
      cases e
      exact ⟨o,I.kIn _ o hk,hd⟩
    · have z : ∃ o,s.heap.get? p = some o ∧ o.ExactDict := by
        rcases hk with ⟨kvs,hk⟩ | ⟨kvs,hk⟩
        · obtain ⟨_,_,_,_,o,_,_,e,ex,_⟩ := I.hok p _ hk
          exact ⟨o,e,ex⟩
        · obtain ⟨_,_,_,_,o,_,_,e,ex,_⟩ := I.hok p _ hk
          exact ⟨o,e,ex⟩
      obtain ⟨o,e,ex⟩ := z
      refine ⟨⟨o,e,ex.1⟩,fun a e2 => ?_⟩
      cases e2
      exact ⟨o,e,ex.2.1⟩
    · obtain ⟨o,_,_,_,e,ex,_⟩ := I.hok p _ hk
      refine ⟨⟨o,e,ex.1⟩,fun a e2 => ?_⟩
      cases e2
      exact ⟨o,e,ex.2.1⟩
  | _ => exact False.elim ty
def tBM (K : PySem.W.Frag) (T : String) (r : V → List V → Hp → VK → Prop) (to : TE) (t : TA) : TE := fun σ H Q => to σ H fun x H1 => tyV K T x H1 ∧ t σ H1 fun xs H2 => r x xs H2 Q
variable {o e : Expr} {es : List Expr} {to : TE} {t : TA} {name : Str} {apos cpos : Pos} {T id : String} {r : V → List V → Hp → VK → Prop}
theorem pe_bm (pa : PlainAttrs T) (slot : Slot T name id) (hty : typeOf (.builtin id) = pure (.type "method_descriptor")) (hm : MtR X id r) (ho : PE X o to) (ha : PA X (e :: es) t)
    (hbase : attributeBase o name X.env (eval o X.env) = eval o X.env := by rfl)
    (hfew : ((backTo cpos (starEach (e :: es) X.env)).all (fun x => !x.1) && (backToKw cpos (keywordEach [] X.env)).all (fun x => x.1.isSome)
      && decide ((e :: es).length + ([] : List Keyword).length + (if ([] : List Keyword).isEmpty then 0 else 1) < 30)) = true := by rfl)
    (hline : (apos.endLine == cpos.line) = true := by rfl) (hs : starEach (e :: es) X.env = (false,eval e X.env) :: starEach es X.env := by rfl) (hplain : (backTo cpos (starEach es X.env)).any (·.1) = false := by rfl) :
    PE X (.Call (.Attribute o name apos) (e :: es) [] cpos) (tBM X.K T r to t) := by
  intro pins s σ H Q I h
  refine wpAny_Call_method_late hbase hfew hline rfl (thn (ho pins s σ H _ I h) fun v s1 ⟨x,H1,I1,r1,ty,q1⟩ => ?_)
  obtain ⟨h1,h2⟩ := tyV_is I1 r1 ty
  refine ⟨T,id,pa,slot,hty,h1,h2,?_⟩
  have hA := ha cpos pins s1 σ H1 _ I1 q1
  rw [hs] at hA ⊢
  refine Calls.callWith_builtin (by show (false || (backTo cpos (starEach es X.env)).any (·.1)) = false; rw [hplain] <;> rfl) (Calls.evalArgs_plain ?_)
  exact thn hA fun us s2 ⟨vs,H2,I2,r2,q2⟩ => hm pins s2 σ H2 x vs v us Q I2 r1 r2 q2
end
end L2
namespace L2
open PySem PySem.Spec PyProof.Rows
def MtM (X : Cx) (id : String) (r : V → List V → Hp → VK → Prop) : Prop :=
  ∀ (pins : List (Addr × Obj)) (s : Shared) (σ : St) (H : Hp) (x : V) (xs : List V) (v : Value) (us : List Value) (Q : VK),Inv X pins σ H s → RelV x v → Vals xs us → r x xs H Q →
    wpAny (model X.prog X.w) X.A (call (.builtin id) (v :: us)) (EP X pins σ Q) X.xe s
theorem Vals.one : ∀ {x : V} {us : List Value},Vals [x] us → ∃ u,us = [u] ∧ RelV x u
  | _,_,.cons r .nil => ⟨_,rfl,r⟩
theorem Vals.two : ∀ {x y : V} {us : List Value},Vals [x,y] us → ∃ u v,us = [u,v] ∧ RelV x u ∧ RelV y v
  | _,_,_,.cons r (.cons q .nil) => ⟨_,_,rfl,r,q⟩
theorem Vals.zero : ∀ {us : List Value},Vals [] us → us = []
  | _,.nil => rfl
theorem Vals.dropLast {xs : List V} {us : List Value} (h : Vals xs us) : Vals xs.dropLast us.dropLast := by
  induction h with
  | nil => exact .nil
  | cons r t ih =>
    cases t with
    | nil => exact .nil
    | cons q t' => exact .cons r ih
section
variable {X : Cx} {pins : List (Addr × Obj)} {σ : St} {H : Hp} {s : Shared} {l b : Addr} {xs ys zs : List V}
theorem Inv.lset {its its' : List Value} {n : Nat} {f : Array Value → Array Value} {t' : Nat} (I : Inv X pins σ H s) (hH : H l = some (.lst xs))
    (e : s.heap.get? l = some { cls := .type "list", data := .seq its.toArray n }) (hf : f its.toArray = its'.toArray) (hv : Vals ys its') (hz : ys.length ≤ sizeLine) :
    Inv X pins σ (upd H l (.lst ys)) { s with heap := s.heap.update l (Obj.mapSeq f),toks := t' } := by
  have q := PySem.IsL.update e f
  rw [hf] at q
  refine I.write (x := l) (e := l) (by rw [hH]; exact trivial) (.inl rfl) (fun b' u hb hu => (Heap.get?_update_other s.heap (Obj.mapSeq f) (Ne.symm hb)).trans hu) ⟨_,q⟩ ?_
  exact ⟨hz,its',_,hv,q⟩
theorem Inv.lnew {its : List Value} {t' : Nat} (I : Inv X pins σ H s) (hv : Vals ys its) (hz : ys.length ≤ sizeLine) :
    Inv X pins σ (upd H s.heap.objs.size (.lst ys)) { s with heap := s.heap.push { cls := .type "list", data := .seq its.toArray },toks := t' } :=
  I.laid (fun _ _ q => Heap.get?_push_of_some _ q) (Nat.le_refl _) ⟨hz,its,0,hv,Heap.get?_push_size _ rfl⟩
theorem Inv.fresh (I : Inv X pins σ H s) : H s.heap.objs.size = none := I.hok.fresh (Nat.le_refl _)
theorem Inv.lstM (I : Inv X pins σ H s) (hH : H l = some (.lst xs)) : xs.length ≤ sizeLine ∧ ∃ (its : List Value) (n : Nat),Vals xs its ∧ xs.length = its.length ∧ s.heap.get? l = some { cls := .type "list", data := .seq its.toArray n } := by
  obtain ⟨z,its,n,r,e⟩ := I.hok l _ hH
  exact ⟨z,its,n,r,r.length,e⟩
theorem notLongL {n : Nat} (h : n ≤ sizeLine) : Builtin.List.listTooLong n = false := by
  unfold Builtin.List.listTooLong
  exact decide_eq_false (by omega)
end
section
variable {X : Cx}
def rAppend : V → List V → Hp → VK → Prop := fun x vs H Q => ∃ l xs y,x = .ref l ∧ vs = [y] ∧ H l = some (.lst xs) ∧ xs.length < sizeLine ∧ Q .non (upd H l (.lst (xs ++ [y])))
theorem mt_append : MtM X "list.append" rAppend := by
  intro pins s σ H x vs v us Q I rx rv h
  obtain ⟨l,xs,y,rfl,rfl,hH,hz,q⟩ := h
  cases rx
  obtain ⟨u,rfl,ru⟩ := rv.one
  obtain ⟨z,its,n,r,hl,e⟩ := I.lstM hH
  refine call_meets F.slot_list_append ⟨_,e,rfl⟩ F.entry_list_append (F.args_list_append_2 _ _) (PySem.list_append l its.toArray n u (by rw [List.size_toArray]; omega)) ⟨e,?_⟩
  refine ⟨.non,_,I.lset (its' := its ++ [u]) hH e (by simp) (r.append (.cons ru .nil)) ?_,rfl,q⟩
  rw [List.length_append,List.length_singleton]
  omega
def rCat : R2 := fun x y H Q => ∃ l b xs zs,x = .ref l ∧ y = .ref b ∧ H l = some (.lst xs) ∧ H b = some (.lst zs) ∧ xs.length + zs.length ≤ sizeLine ∧ ∀ p,H p = none → Q (.ref p) (upd H p (.lst (xs ++ zs)))
theorem op_cat : OpR X (binaryOp .Add) rCat := by
  intro pins s σ H x y v u Q I rx ry h
  obtain ⟨l,b,xs,zs,rfl,rfl,hH,hB,hz,q⟩ := h
  cases rx
  cases ry
  obtain ⟨z,its,n,r,hl,e⟩ := I.lstM hH
  obtain ⟨z2,its2,n2,r2,hl2,e2⟩ := I.lstM hB
  refine PySem.P.add_list e e2 ?_ (by rw [List.size_toArray,List.size_toArray]; omega)
  have ea : its.toArray ++ its2.toArray = (its ++ its2).toArray := by simp
  rw [ea]
  exact ⟨.ref _,_,I.lnew (t' := s.toks) (r.append r2) (by rw [List.length_append]; omega),rfl,q _ I.fresh⟩
end
section
variable {prog : Program} {w : World} {A : Around} {E : Value → Shared → Prop} {s : Shared}
theorem splice_eq (its its2 : List Value) (a c : Nat) : its.toArray.extract 0 a ++ its2.toArray ++ its.toArray.extract c its.toArray.size = (its.take a ++ its2 ++ its.drop c).toArray := by
  apply Array.toList_inj.mp
  first
    | (simp
       exact List.take_of_length_le (by simp))
    | simp [List.take_of_length_le]
    | simp
theorem bounds_run {a c n : Nat} (hac : a ≤ c) (hc : c ≤ n) : sliceBounds (some (a : Int)) (some (c : Int)) none n = ((a : Int),(c : Int),1) := by
  simp only [sliceBounds,Option.getD_none]
  have h1 : ¬ ((a : Int) < 0) := by omega
  have h2 : ¬ ((c : Int) < 0) := by omega
  simp only [h1,h2,if_false,show (1 : Int) > 0 by decide,if_true]
  congr 1
  · omega
  · congr 1; omega
set_option maxRecDepth 100000 in
theorem setItem_slice {l b sl : Addr} {items new : Array Value} {n n2 : Nat} {vl vu : Value} {a c : Nat} {Q : Unit → Shared → Prop}
    (e : s.heap.get? l = some { cls := .type "list", data := .seq items n }) (e2 : s.heap.get? b = some { cls := .type "list", data := .seq new n2 }) (hne : l ≠ b)
    (hs : s.heap.IsSliceOf sl vl vu .none) (pl : IsPart vl (some (a : Int))) (pu : IsPart vu (some (c : Int))) (hac : a ≤ c) (hc : c ≤ items.size)
    (hsz : items.size + new.size ≤ sizeLine) (h : Q () { s with heap := s.heap.update l (Obj.mapSeq fun xs => xs.extract 0 a ++ new ++ xs.extract c xs.size) }) :
    wpAny (model prog w) A (setItem (.ref l) (.ref sl) (.ref b)) Q E s := by
  have hl : s.heap.IsList l items := PySem.IsL.isList e
  have hb : s.heap.IsList b new := PySem.IsL.isList e2
  obtain ⟨os,hos,hcs,hds⟩ := id hs
  have hTs : s.TypeIs (.ref sl) "slice" := ⟨os,hos,hcs⟩
  have hstep : ¬ ((rawPart none == rawInt 0) = true) := Bool.false_ne_true
  have hsame : Builtin.List.listSameRef (.ref l) (.ref b) = false := by
    unfold Builtin.List.listSameRef
    exact beq_eq_false_iff_ne.mpr hne
  have hmax : (max (a : Int) (c : Int)).toNat = c := by omega
  have hz' : ((fun xs : Array Value => xs.extract 0 a ++ new ++ xs.extract c xs.size) items).size ≤ sizeLine + 1 := by
    simp only [Array.size_append,Array.size_extract]
    omega
  unfold setItem
  try with_reducible refine wpAny_holding ?_
  first | refine wpAny_bind (wpAny_pure ?_) | skip
  refine wpAny_bind (wpAny_sequenceKey hl.typeIs (by decide) ?_)
  refine wpAny_bind (wpAny_callSpecial?_slot (name := Str.ofString "__setitem__") hl.typeIs slot_list_setitem
    (wpAny_call_entry slot_list_setitem hl.typeIs entry_list_setitem ?_ (args_list_setitem _ _ _)))
  show wpAny _ _ (Builtin.List.listSubscript? (.ref sl) >>= _) _ _ s
  refine wpAny_bind ?_
  unfold Builtin.List.listSubscript?
  refine wpAny_bind (wpAny_specialOf hTs slice_no_index ?_)
  simp only [Option.isNone_none,if_true]
  refine wpAny_pure ?_
  show wpAny _ _ (typeOf (.ref sl) >>= _) _ _ s
  refine wpAny_bind (wpAny_typeOf hTs ?_)
  first
    | rw [if_neg (by decide)]
    | refine PySem.W.KFB.if_not (by decide) ?_
  rw [listSliceParts_eq]
  refine wpAny_bind (wpAny_bind (wpAny_field hos hds (x := .none) rfl (wpAny_bind (wpAny_listPart .none ?_))))
  rw [if_neg hstep]
  refine wpAny_bind (wpAny_field hos hds (x := vl) rfl (wpAny_bind (wpAny_listPart pl ?_)))
  refine wpAny_bind (wpAny_field hos hds (x := vu) rfl (wpAny_bind (wpAny_listPart pu (wpAny_pure ?_))))
  first
    | simp only [hsame,Bool.false_eq_true,if_false]
    | refine PySem.W.KFB.if_not hsame ?_
    | (dsimp only
       rw [if_neg (by rw [hsame]; exact Bool.false_ne_true)])
  refine wpAny_bind (m := Builtin.List.listAllItems (.ref b) "must assign iterable to extended slice") ?_
  unfold Builtin.List.listAllItems
  refine wpAny_bind (wpAny_typeOf hb.typeIs ?_)
  first
    | refine PySem.W.KFB.if_so (by decide) ?_
    | rw [if_pos (by decide)]
    | simp only [beq_self_eq_true,Bool.true_or,if_true]
  unfold Builtin.List.listItems
  refine wpAny_bind (wpAny_seqItems e2 rfl (wpAny_pure ?_))
  refine wpAny_bind (wpAny_bind (wpAny_seqItems e rfl (wpAny_pure ?_)))
  refine wpAny_bind (wpAny_of_eq ((sliceIndices_raw (some (a : Int)) (some (c : Int)) none items.size (by simp)).trans (congrArg (pure : Int × Int × Int → Sem (Int × Int × Int)) (bounds_run hac hc))) ?_)
  show wpAny _ _ (if ((1 : Int) == 1) = true then _ else _) _ _ s
  rw [if_pos (by decide)]
  refine wpAny_bind (wpAny_rule ?_)
  first
    | simp only [notLongL hsz,Bool.false_eq_true,if_false]
    | refine PySem.W.KFB.if_not (notLongL hsz) ?_
  first | refine wpAny_bind (wpAny_pure ?_) | skip
  show wpAny _ _ (updateSeq l (fun xs => xs.extract 0 ((a : Int)).toNat ++ new ++ xs.extract (max (a : Int) (c : Int)).toNat xs.size) >>= _) _ _ s
  rw [hmax,Int.toNat_natCast]
  refine wpAny_bind (wpAny_updateSeq (hz := Nat.le_trans (Nat.le_add_right _ _) hsz) (_hz' := hz') e rfl ?_)
  refine wpAny_bind (wpAny_letGo ?_)
  first
    | exact wpAny_bind (wpAny_pure (wpAny_pure ⟨.none,rfl,wpAny_pure h⟩))
    | exact wpAny_pure ⟨.none,rfl,wpAny_pure h⟩
end
section
variable {X : Cx}
end
end L2
namespace L2
open PySem PySem.Spec PyProof.Rows
section
variable {κ : Type} [DecidableEq κ]
def valV (kvs : List (κ × V)) (k : κ) : Option V := (kvs.find? fun kv => decide (kv.1 = k)).map (·.2)
def putK (kvs : List (κ × V)) (k : κ) (v : V) : List (κ × V) :=
  if (kvs.any fun kv => decide (kv.1 = k)) = true then kvs.map (fun kv => if kv.1 = k then (kv.1,v) else kv) else kvs ++ [(k,v)]
def dropK (kvs : List (κ × V)) (k : κ) : List (κ × V) := kvs.filter fun kv => decide (kv.1 ≠ k)
theorem valV_pos {p : κ × V} {r : List (κ × V)} {k : κ} (e : p.1 = k) : valV (p :: r) k = some p.2 := by simp [valV,List.find?_cons,e]
theorem valV_neg {p : κ × V} {r : List (κ × V)} {k : κ} (e : ¬ p.1 = k) : valV (p :: r) k = valV r k := by simp [valV,List.find?_cons,e]
theorem valV_any (k : κ) : ∀ kvs : List (κ × V),(kvs.any fun kv => decide (kv.1 = k)) = (valV kvs k).isSome
  | [] => rfl
  | p :: r => by
    rw [List.any_cons]
    by_cases e : p.1 = k
    · simp only [valV_pos e,decide_eq_true e,Bool.true_or,Option.isSome_some]
    · rw [valV_neg e,decide_eq_false e,Bool.false_or]; exact valV_any k r
theorem length_putK (kvs : List (κ × V)) (k : κ) (v : V) : (putK kvs k v).length ≤ kvs.length + 1 := by
  unfold putK
  split
  · rw [List.length_map]; omega
  · rw [List.length_append,List.length_cons,List.length_nil]; omega
theorem putK_new {kvs : List (κ × V)} {k : κ} (v : V) (h : valV kvs k = none) : putK kvs k v = kvs ++ [(k,v)] := by
  unfold putK
  rw [valV_any,h]
  exact if_neg (by decide)
theorem RelO.isSome_eq {o : Option V} {u : Option Value} (r : RelO o u) : o.isSome = u.isSome := by
  cases o with
  | none => cases u with
    | none => rfl
    | some _ => exact (show False from r).elim
  | some _ => cases u with
    | none => exact (show False from r).elim
    | some _ => rfl
theorem RelO.getD {o : Option V} {u : Option Value} {d : V} {d' : Value} (r : RelO o u) (rd : RelV d d') : RelV (o.getD d) (u.getD d') := by
  cases o with
  | none => cases u with
    | none => exact rd
    | some _ => exact (show False from r).elim
  | some _ => cases u with
    | none => exact (show False from r).elim
    | some _ => exact r
theorem KV.val {kvs : List (κ × V)} {vs : List (κ × Value)} (r : KV kvs vs) (k : κ) : RelO (valV kvs k) (valueAt vs k) := by
  unfold KV at r
  induction r with
  | nil => exact True.intro
  | @cons p q ps qs h t ih =>
    obtain ⟨h1,h2⟩ := h
    by_cases e : p.1 = k
    · have e' : q.1 = k := h1.symm.trans e
      have b : valueAt (q :: qs) k = some q.2 := by simp [valueAt,List.find?_cons,e']
      rw [valV_pos e,b]; exact h2
    · have e' : ¬ q.1 = k := fun z => e (h1.trans z)
      have b : valueAt (q :: qs) k = valueAt qs k := by simp [valueAt,List.find?_cons,e']
      rw [valV_neg e,b]; exact ih
theorem KV.any {kvs : List (κ × V)} {vs : List (κ × Value)} (r : KV kvs vs) (k : κ) : (kvs.any fun kv => decide (kv.1 = k)) = vs.any fun kv => decide (kv.1 = k) := by
  unfold KV at r
  induction r with
  | nil => rfl
  | cons h t ih => rw [List.any_cons,List.any_cons,ih,h.1]
theorem KV.repl {kvs : List (κ × V)} {vs : List (κ × Value)} (r : KV kvs vs) (k : κ) {y : V} {u : Value} (ry : RelV y u) :
    KV (kvs.map fun kv => if kv.1 = k then (kv.1,y) else kv) (vs.map fun kv => if kv.1 = k then (kv.1,u) else kv) := by
  unfold KV at r ⊢
  induction r with
  | nil => exact .nil
  | @cons p q ps qs h t ih =>
    rw [List.map_cons,List.map_cons]
    refine .cons ?_ ih
    obtain ⟨h1,h2⟩ := h
    by_cases e : p.1 = k
    · rw [if_pos e,if_pos (h1.symm.trans e)]; exact ⟨h1,ry⟩
    · rw [if_neg e,if_neg (fun z => e (h1.trans z))]; exact ⟨h1,h2⟩
theorem KV.put {kvs : List (κ × V)} {vs : List (κ × Value)} (r : KV kvs vs) (k : κ) {y : V} {u : Value} (ry : RelV y u) : KV (putK kvs k y) (stored vs k u) := by
  unfold putK stored
  rw [r.any k]
  by_cases e : (vs.any fun kv => decide (kv.1 = k)) = true
  · rw [if_pos e,if_pos e]; exact r.repl k ry
  · rw [if_neg e,if_neg e]; exact Paired.snoc r ⟨rfl,ry⟩
theorem KV.drop {kvs : List (κ × V)} {vs : List (κ × Value)} (r : KV kvs vs) (k : κ) : KV (dropK kvs k) (without vs k) := by
  unfold KV at r ⊢
  unfold dropK without
  induction r with
  | nil => exact .nil
  | @cons p q ps qs h t ih =>
    obtain ⟨h1,h2⟩ := h
    rw [List.filter_cons,List.filter_cons]
    by_cases e : p.1 = k
    · have a : ¬ decide (p.1 ≠ k) = true := by simp [e]
      have b : ¬ decide (q.1 ≠ k) = true := by simp [h1.symm.trans e]
      rw [if_neg a,if_neg b]; exact ih
    · have e' : ¬ q.1 = k := fun z => e (h1.trans z)
      have a : decide (p.1 ≠ k) = true := by simp [e]
      have b : decide (q.1 ≠ k) = true := by simp [e']
      rw [if_pos a,if_pos b]; exact .cons ⟨h1,h2⟩ ih
theorem KV.keys {kvs : List (κ × V)} {vs : List (κ × Value)} (r : KV kvs vs) : kvs.map (·.1) = vs.map (·.1) := by
  unfold KV at r
  induction r with
  | nil => rfl
  | cons h t ih => rw [List.map_cons,List.map_cons,ih,h.1]
theorem KV.length {kvs : List (κ × V)} {vs : List (κ × Value)} (r : KV kvs vs) : kvs.length = vs.length := Paired.length r
end
theorem kV_is {P : Program} {w : World} {k : Key} {u : Value} (r : RelV (kV k) u) : (mixKind P w).is k u = true := by
  cases k with
  | inl i => obtain ⟨t,e⟩ := (show ∃ t,u = Value.int i t from r); subst e; exact mixKind_int P w i t
  | inr x => obtain ⟨t,e⟩ := (show ∃ t,u = Value.str x t from r); subst e; exact mixKind_str P w x t
theorem items_are {P : Program} {w : World} : ∀ {ks : List Key} {us : List Value},Vals (ks.map kV) us → ItemsAre (mixKind P w) ks us
  | [],_,r => by rw [List.map_nil] at r; cases r; exact .nil
  | k :: ks,_,r => by
    rw [List.map_cons] at r
    cases r with
    | cons h t => exact .cons (kV_is h) (items_are t)
abbrev KT (H : Hp) : List (List Key × V) → List (List Key × Addr × Value) → Prop := Paired fun p q => p.1 = q.1 ∧ H q.2.1 = some (.tup (p.1.map kV)) ∧ RelV p.2 q.2.2
theorem KT.val {H : Hp} {kvs : List (List Key × V)} {xs : List (List Key × Addr × Value)} (r : KT H kvs xs) (k : List Key) : RelO (valV kvs k) ((atKey xs k).map (·.2)) := by
  induction r with
  | nil => exact True.intro
  | @cons p q ps qs h t ih =>
    obtain ⟨h1,_,h2⟩ := h
    by_cases e : p.1 = k
    · have e' : q.1 = k := h1.symm.trans e
      have b : atKey (q :: qs) k = some q.2 := by simp [atKey,List.find?_cons,e']
      rw [valV_pos e,b]; exact h2
    · have e' : ¬ q.1 = k := fun z => e (h1.trans z)
      have b : atKey (q :: qs) k = atKey qs k := by simp [atKey,List.find?_cons,e']
      rw [valV_neg e,b]; exact ih
theorem KT.repl {H : Hp} {kvs : List (List Key × V)} {xs : List (List Key × Addr × Value)} (r : KT H kvs xs) (k : List Key) {y : V} {u : Value} (ry : RelV y u) :
    KT H (kvs.map fun kv => if kv.1 = k then (kv.1,y) else kv) (xs.map (putAt k u)) := by
  induction r with
  | nil => exact .nil
  | @cons p q ps qs h t ih =>
    rw [List.map_cons,List.map_cons]
    refine .cons ?_ ih
    obtain ⟨h1,h2,h3⟩ := h
    unfold putAt
    by_cases e : p.1 = k
    · rw [if_pos e,if_pos (h1.symm.trans e)]; exact ⟨h1,h2,ry⟩
    · rw [if_neg e,if_neg (fun z => e (h1.trans z))]; exact ⟨h1,h2,h3⟩
theorem KT.put {H : Hp} {kvs : List (List Key × V)} {xs : List (List Key × Addr × Value)} (r : KT H kvs xs) (k : List Key) {b : Addr} {y : V} {u : Value} (hb : H b = some (.tup (k.map kV))) (ry : RelV y u) :
    KT H (putK kvs k y) (storedH xs k b u) := by
  have e : (kvs.any fun kv => decide (kv.1 = k)) = (atKey xs k).isSome := by
    rw [valV_any,(r.val k).isSome_eq,Option.isSome_map]
  unfold putK storedH
  rw [e]
  by_cases q : (atKey xs k).isSome = true
  · rw [if_pos q,if_pos q]; exact r.repl k ry
  · rw [if_neg q,if_neg q]; exact Paired.snoc r ⟨rfl,hb,ry⟩
theorem KT.keeps {H H' : Hp} {kvs : List (List Key × V)} {xs : List (List Key × Addr × Value)} (r : KT H kvs xs) (ht : ∀ b ys,H b = some (.tup ys) → H' b = some (.tup ys)) : KT H' kvs xs :=
  Paired.mapP r fun _ _ z => ⟨z.1,ht _ _ z.2.1,z.2.2⟩
section
variable {P : Program} {w : World} {H : Hp} {h : Heap} {a : Addr}
theorem rd_of {u : HO} (ok : HOk P w H h) (e : Rd H a u) : ObjOk P w H h a u := e.ok ok
theorem dk_rd {kvs : List (Key × V)} (ok : HOk P w H h) (e : Rd H a (.dK kvs)) : kvs.length ≤ sizeLine ∧ (a == sysModules) = false ∧ ∃ vs,KV kvs vs ∧ h.DictOf (mixKind P w) a vs :=
  show ObjOk P w H h a (.dK kvs) from rd_of ok e
theorem dk_of {kvs : List (Key × V)} (ok : HOk P w H h) (e : H a = some (.dK kvs)) : kvs.length ≤ sizeLine ∧ (a == sysModules) = false ∧ ∃ vs,KV kvs vs ∧ h.DictOf (mixKind P w) a vs := dk_rd ok (.inl e)
theorem key_of {ks : List Key} (ok : HOk P w H h) (e : H a = some (.tup (ks.map kV))) : (tupleKind (mixKind P w)).is h ks a := by
  obtain ⟨_,its,r,o,h1,h2,n,h3⟩ := (show ObjOk P w H h a (.tup (ks.map kV)) from ok a _ e)
  exact ⟨o,its.toArray,n,h1,h2,h3,by simpa using items_are r⟩
theorem dt_rd {kvs : List (List Key × V)} (ok : HOk P w H h) (e : Rd H a (.dT kvs)) : kvs.length ≤ sizeLine ∧ (a == sysModules) = false ∧
    ∃ xs,KT H kvs xs ∧ h.DictOfH (tupleKind (mixKind P w)) a xs := by
  obtain ⟨z,y,xs,r,o,es,ep,h1,h2,h3,h4,h5⟩ := (show ObjOk P w H h a (.dT kvs) from rd_of ok e)
  refine ⟨z,y,xs,r,o,es,ep,h1,h2,h3,h4,fun x hx => ?_,h5⟩
  have all : ∀ {l : List (List Key × V)} {m : List (List Key × Addr × Value)},KT H l m → ∀ x ∈ m,(tupleKind (mixKind P w)).is h x.1 x.2.1 := by
    intro l m q
    induction q with
    | nil => intro x hx; exact nomatch hx
    | @cons p q ps qs hq t ih =>
      intro x hx
      rcases List.mem_cons.mp hx with e | hx
      · subst e
        exact key_of ok (by rw [← hq.1]; exact hq.2.1)
      · exact ih x hx
  exact all r x hx
theorem dt_of {kvs : List (List Key × V)} (ok : HOk P w H h) (e : H a = some (.dT kvs)) : kvs.length ≤ sizeLine ∧ (a == sysModules) = false ∧
    ∃ xs,KT H kvs xs ∧ h.DictOfH (tupleKind (mixKind P w)) a xs := dt_rd ok (.inl e)
end
def DGet (H : Hp) (a : Addr) (y : V) (r : Option V) : Prop :=
  (∃ kvs k,Rd H a (.dK kvs) ∧ y = kV k ∧ r = valV kvs k) ∨ ∃ kvs k b,Rd H a (.dT kvs) ∧ y = .ref b ∧ H b = some (.tup (k.map kV)) ∧ r = valV kvs k
def DPut (H : Hp) (a : Addr) (y v : V) (H' : Hp) : Prop :=
  (∃ kvs k,H a = some (.dK kvs) ∧ y = kV k ∧ kvs.length < sizeLine ∧ H' = upd H a (.dK (putK kvs k v))) ∨
  ∃ kvs k b,H a = some (.dT kvs) ∧ y = .ref b ∧ H b = some (.tup (k.map kV)) ∧ kvs.length < sizeLine ∧ H' = upd H a (.dT (putK kvs k v))
theorem DGet.k {H : Hp} {a : Addr} {kvs : List (Key × V)} {k : Key} (e : H a = some (.dK kvs)) : DGet H a (kV k) (valV kvs k) := .inl ⟨kvs,k,.inl e,rfl,rfl⟩
theorem DGet.t {H : Hp} {a b : Addr} {kvs : List (List Key × V)} {k : List Key} (e : H a = some (.dT kvs)) (eb : H b = some (.tup (k.map kV))) : DGet H a (.ref b) (valV kvs k) := .inr ⟨kvs,k,b,.inl e,rfl,eb,rfl⟩
theorem DPut.k {H : Hp} {a : Addr} {kvs : List (Key × V)} {k : Key} {v : V} (e : H a = some (.dK kvs)) (hl : kvs.length < sizeLine) : DPut H a (kV k) v (upd H a (.dK (putK kvs k v))) := .inl ⟨kvs,k,e,rfl,hl,rfl⟩
theorem DPut.t {H : Hp} {a b : Addr} {kvs : List (List Key × V)} {k : List Key} {v : V} (e : H a = some (.dT kvs)) (eb : H b = some (.tup (k.map kV))) (hl : kvs.length < sizeLine) :
    DPut H a (.ref b) v (upd H a (.dT (putK kvs k v))) := .inr ⟨kvs,k,b,e,rfl,eb,hl,rfl⟩
section
variable {X : Cx} {pins : List (Addr × Obj)} {σ : St} {H : Hp} {s : Shared} {a : Addr} {y v : V} {u r : Value} {o : Option V} {A : Around} {E : Value → Shared → Prop}
theorem Inv.big (I : Inv X pins σ H s) : sysModules < s.heap.objs.size := by
  have h : mainGlobals < s.heap.objs.size := (I.mod.glob.keeps I.bk).lt
  exact Nat.lt_trans (by decide) h
theorem d_getItem {Q : Value → Shared → Prop} (hu : A.units + 1 < cLine) (I : Inv X pins σ H s) (g : DGet H a y (some v)) (ry : RelV y u) (h : ∀ w' s',Inv X pins σ H s' → RelV v w' → Q w' s') :
    wpAny (model X.prog X.w) A (getItem (.ref a) u) Q E s := by
  rcases g with ⟨kvs,k,e,ey,l⟩ | ⟨kvs,k,b,e,ey,eb,l⟩
  · subst ey
    obtain ⟨z,hd,vs,rel,dd⟩ := dk_rd I.hok e
    obtain ⟨w',hw,rw'⟩ := RelO.some_of (v := v) (o := valueAt vs k) (by rw [l]; exact rel.val k)
    exact wpAny_getItem_of (kV_is ry) dd.mapOf hw (h w' _ (I.tok _) rw')
  · subst ey
    cases (show u = Value.ref b from ry)
    obtain ⟨z,hd,xs,rel,dd⟩ := dt_rd I.hok e
    obtain ⟨w',hw,rw'⟩ := RelO.some_of (v := v) (o := (atKey xs k).map (·.2)) (by rw [l]; exact rel.val k)
    obtain ⟨p,hp,hp2⟩ := Option.map_eq_some_iff.mp hw
    refine wpAny_getItem_heap (tupleKind_room_in1 hu) (key_of I.hok eb) dd hp ?_
    rw [hp2]
    exact h w' _ (I.tok _) rw'
theorem d_in {Q : Value → Shared → Prop} (hu : A.units + 1 < cLine) (I : Inv X pins σ H s) (g : DGet H a y o) (ry : RelV y u) (h : ∀ s',Inv X pins σ H s' → Q (.bool o.isSome) s') :
    wpAny (model X.prog X.w) A (compareOp .In u (.ref a)) Q E s := by
  rcases g with ⟨kvs,k,e,ey,l⟩ | ⟨kvs,k,b,e,ey,eb,l⟩
  · subst ey
    obtain ⟨z,hd,vs,rel,dd⟩ := dk_rd I.hok e
    refine wpAny_in_of (kV_is ry) hd dd.mapOf ?_
    rw [← (rel.val k).isSome_eq,← l]
    exact h _ (I.tok _)
  · subst ey
    cases (show u = Value.ref b from ry)
    obtain ⟨z,hd,xs,rel,dd⟩ := dt_rd I.hok e
    refine wpAny_in_heap (tupleKind_room_in1 hu) (key_of I.hok eb) hd dd ?_
    have q := (rel.val k).isSome_eq
    rw [Option.isSome_map] at q
    rw [← q,← l]
    exact h _ (I.tok _)
theorem d_notIn {Q : Value → Shared → Prop} (hu : A.units + 1 < cLine) (I : Inv X pins σ H s) (g : DGet H a y o) (ry : RelV y u) (h : ∀ s',Inv X pins σ H s' → Q (.bool (!o.isSome)) s') :
    wpAny (model X.prog X.w) A (compareOp .NotIn u (.ref a)) Q E s := by
  rcases g with ⟨kvs,k,e,ey,l⟩ | ⟨kvs,k,b,e,ey,eb,l⟩
  · subst ey
    obtain ⟨z,hd,vs,rel,dd⟩ := dk_rd I.hok e
    refine wpAny_notIn_of (kV_is ry) hd dd.mapOf ?_
    rw [← (rel.val k).isSome_eq,← l]
    exact h _ (I.tok _)
  · subst ey
    cases (show u = Value.ref b from ry)
    obtain ⟨z,hd,xs,rel,dd⟩ := dt_rd I.hok e
    refine wpAny_notIn_heap (tupleKind_room_in1 hu) (key_of I.hok eb) hd dd ?_
    have q := (rel.val k).isSome_eq
    rw [Option.isSome_map] at q
    rw [← q,← l]
    exact h _ (I.tok _)
theorem d_write {h' : Heap} {t' : Nat} {ob : HO} (I : Inv X pins σ H s) (mu : Mut (H a)) (hs : Heap.SameBut a s.heap h') (he : ∃ q,h'.get? a = some q) (new : ObjOk X.prog X.w (upd H a ob) h' a ob) :
    Inv X pins σ (upd H a ob) { s with heap := h',toks := t' } :=
  I.write (x := a) (e := a) mu (.inl rfl) (fun b q hb z => (hs.2 b hb).trans z) he new
theorem dk_new {P : Program} {w : World} {H' : Hp} {h' : Heap} {kvs : List (Key × V)} {vs : List (Key × Value)} (z : kvs.length ≤ sizeLine) (hd : (a == sysModules) = false) (rel : KV kvs vs) (dd : h'.DictOf (mixKind P w) a vs) :
    ObjOk P w H' h' a (.dK kvs) := ⟨z,hd,vs,rel,dd⟩
theorem d_setItem {H' : Hp} {Q : Unit → Shared → Prop} (hu : A.units + 1 < cLine) (I : Inv X pins σ H s) (g : DPut H a y v H') (ry : RelV y u) (rv : RelV v r) (h : ∀ s',Inv X pins σ H' s' → Q () s') :
    wpAny (model X.prog X.w) A (setItem (.ref a) u r) Q E s := by
  rcases g with ⟨kvs,k,e,ey,l,eH⟩ | ⟨kvs,k,b,e,ey,eb,l,eH⟩
  · subst ey eH
    obtain ⟨z,hd,vs,rel,dd⟩ := dk_of I.hok e
    have hz : vs.length ≤ sizeLine := by rw [← rel.length]; exact z
    have hl : (putK kvs k v).length ≤ sizeLine := by have := length_putK kvs k v; omega
    refine wpAny_setItem_pairs (hsz := hz) (kV_is ry) dd fun h' dd' hs => h _ ?_
    have he : ∃ q,h'.get? a = some q := let ⟨q,_,_,hq,_⟩ := dd'; ⟨q,hq⟩
    exact d_write I (by rw [e]; exact True.intro) hs he (dk_new hl hd (rel.put k rv) dd')
  · subst ey eH
    cases (show u = Value.ref b from ry)
    obtain ⟨z,hd,xs,rel,dd⟩ := dt_of I.hok e
    have hz : xs.length ≤ sizeLine := by rw [← Paired.length rel]; exact z
    have hl : (putK kvs k v).length ≤ sizeLine := by have := length_putK kvs k v; omega
    refine wpAny_setItem_heap (hsz := hz) (tupleKind_room_in1 hu) (key_of I.hok eb) dd fun h' dd' hs => h _ ?_
    obtain ⟨q,es,ep,hq,h2,h3,h4,_,h5⟩ := dd'
    refine d_write I (by rw [e]; exact True.intro) hs ⟨q,hq⟩ ⟨hl,hd,_,(rel.put k eb rv).keeps fun c ys ec => ?_,q,es,ep,hq,h2,h3,h4,h5⟩
    rw [upd_ne (ne_of ec e (fun z => nomatch z))]
    exact ec
end
section
variable {X : Cx} {pins : List (Addr × Obj)} {σ : St} {H : Hp} {s : Shared} {a : Addr} {kvs : List (Key × V)} {k : Key} {u : Value} {A : Around} {E : Value → Shared → Prop}
end
def NoSl (i : Expr) : Prop := ∀ ov iv,subscripted i false ov iv = operate [ov,iv] (getItem ov iv)
theorem subD_of {prog : Program} {w : World} {A : Around} {E : Value → Shared → Prop} {s : Shared} {env : Env} {value slice : Expr} {pos : Pos} {T id : String} {Q : Value → Shared → Prop}
    (hl : typeLookup (.type T) "__getitem__" = pure (some (.builtin id))) (hs : NoSl slice)
    (h : wpAny (model prog w) A (eval value env) (fun o s₁ => wpAny (model prog w) A (eval slice env) (fun i s₂ => s₂.TypeIs o T ∧ wpAny (model prog w) A (getItem o i) Q E s₂) E s₁) E s) :
    wpAny (model prog w) A (eval (.Subscript value slice pos) env) Q E s := by
  refine Subscript_ (wpAny_mono h (fun o s₁ h₁ => wpAny_mono h₁ (fun i s₂ h₂ => ?_) fun _ _ x => x) fun _ _ x => x)
  obtain ⟨hT,h₂⟩ := h₂
  unfold subscriptTail
  refine wpAny_bind ?_
  rw [getitemInPython_of_ne hT.not_modules]
  refine wpAny_bind (wpAny_specialOf hT hl ?_)
  have fin : wpAny (model prog w) A (subscripted slice false o i) (fun r s₃ => wpAny (model prog w) A (letTemporaryGo value o r >>= fun _ => pure r) Q E s₃) E s₂ := by
    rw [hs o i]
    exact wpAny_operating (wpAny_mono h₂ (fun r s₃ h₃ => wpAny_bind (wpAny_letTemporaryGo (wpAny_pure h₃))) fun _ _ x => x)
  first
    | exact wpAny_pure (wpAny_bind fin)
    | exact wpAny_bind (wpAny_pure (wpAny_bind fin))
    | exact wpAny_bind fin
theorem dict_typeIs {X : Cx} {pins : List (Addr × Obj)} {σ : St} {H : Hp} {s : Shared} {a : Addr} {y : V} {o : Option V} (I : Inv X pins σ H s) (g : DGet H a y o) : s.TypeIs (.ref a) "dict" := by
  rcases g with ⟨kvs,k,e,_,_⟩ | ⟨kvs,k,b,e,_,_,_⟩
  · obtain ⟨_,_,vs,_,dd⟩ := dk_rd I.hok e
    exact dd.typeIs
  · obtain ⟨_,_,xs,_,dd⟩ := dt_rd I.hok e
    exact dd.typeIs
def tDGet (td ty : TE) : TE := fun σ H Q => td σ H fun x H1 => ty σ H1 fun y H2 => ∃ a v,x = .ref a ∧ DGet H2 a y (some v) ∧ Q v H2
def tDIn (ty td : TE) : TE := fun σ H Q => ty σ H fun y H1 => td σ H1 fun x H2 => ∃ a o,x = .ref a ∧ DGet H2 a y o ∧ Q (.bl o.isSome) H2
def tDNotIn (ty td : TE) : TE := fun σ H Q => ty σ H fun y H1 => td σ H1 fun x H2 => ∃ a o,x = .ref a ∧ DGet H2 a y o ∧ Q (.bl (!o.isSome)) H2
def sDPut (td ty tv : TE) : TS := fun D σ H => tv σ H fun v H1 => td σ H1 fun x H2 => ty σ H2 fun y H3 => ∃ a H4,x = .ref a ∧ DPut H3 a y v H4 ∧ D.nx σ H4
section
variable {X : Cx} {o i e value : Expr} {pos pos' tpos : Pos} {td ty tv : TE}
theorem pe_dget (hu : X.A.units + 1 < cLine) (ho : PE X o td) (hi : PE X i ty) (hs : NoSl i) : PE X (.Subscript o i pos) (tDGet td ty) := by
  intro pins s σ H Q I h
  refine subD_of PySem.F.slot_dict_getitem.lookup hs (thn (ho pins s σ H _ I h) fun u s1 ⟨x,H1,I1,rx,q1⟩ => thn (hi pins s1 σ H1 _ I1 q1) fun iv s2 ⟨y,H2,I2,ry,a,v,ex,g,q2⟩ => ?_)
  subst ex
  obtain rfl : u = Value.ref a := rx
  exact ⟨dict_typeIs I2 g,d_getItem hu I2 g ry fun w' s3 I3 rw' => ⟨v,H2,I3,rw',q2⟩⟩
theorem pc_din (hu : X.A.units + 1 < cLine) (hi : PE X i ty) (ho : PE X o td) : PC X .In i o (tDIn ty td) := by
  intro pins s σ H Q I h
  refine thn (hi pins s σ H _ I h) fun iv s1 ⟨y,H1,I1,ry,q1⟩ => thn (ho pins s1 σ H1 _ I1 q1) fun u s2 ⟨x,H2,I2,rx,a,ov,ex,g,q2⟩ => ?_
  subst ex
  obtain rfl : u = Value.ref a := rx
  exact d_in hu I2 g ry fun s3 I3 => ⟨.bl ov.isSome,H2,I3,rfl,q2⟩
theorem pc_dnotin (hu : X.A.units + 1 < cLine) (hi : PE X i ty) (ho : PE X o td) : PC X .NotIn i o (tDNotIn ty td) := by
  intro pins s σ H Q I h
  refine thn (hi pins s σ H _ I h) fun iv s1 ⟨y,H1,I1,ry,q1⟩ => thn (ho pins s1 σ H1 _ I1 q1) fun u s2 ⟨x,H2,I2,rx,a,ov,ex,g,q2⟩ => ?_
  subst ex
  obtain rfl : u = Value.ref a := rx
  exact d_notIn hu I2 g ry fun s3 I3 => ⟨.bl (!ov.isSome),H2,I3,rfl,q2⟩
theorem ps_dput (hu : X.A.units + 1 < cLine) (ho : PE X o td) (hi : PE X i ty) (hv : PE X value tv) (hs : swapsWith value (some (.Subscript o i pos')) pos.line X.env = pure false) :
    PS X (.Assign [.Subscript o i pos'] value pos) (sDPut td ty tv) := by
  intro pins s σ H D I h
  refine wpAny_Assign_Subscript (thn (hv pins s σ H _ I h) fun r s1 ⟨v,H1,I1,rv,q1⟩ => thn (ho pins s1 σ H1 _ I1 q1) fun u s2 ⟨x,H2,I2,rx,q2⟩ => thn (hi pins s2 σ H2 _ I2 q2) fun iv s3 ⟨y,H3,I3,ry,a,H4,ex,g,q3⟩ => ?_) hs
  subst ex
  obtain rfl : u = Value.ref a := rx
  exact d_setItem hu I3 g ry rv fun s4 I4 => ⟨σ,H4,I4,q3⟩
end
theorem dk_empty {P : Program} {w : World} {H : Hp} (h : Heap) (hb : sysModules < h.objs.size) : ObjOk P w H (h.push { cls := .type "dict", data := .dict #[] }) h.objs.size (.dK []) :=
  ⟨Nat.zero_le _,beq_eq_false_iff_ne.mpr (Ne.symm (Nat.ne_of_lt hb)),[],.nil,Heap.DictOf.new h⟩
def tDNewK : TE := fun _ H Q => ∀ p,H p = none → Q (.ref p) (upd H p (.dK []))
section
variable {X : Cx} {pos : Pos}
theorem pe_dnewK : PE X (.Dict [] [] pos) tDNewK := fun pins s σ H Q I h =>
  wpAny_Dict_empty ⟨.ref s.heap.objs.size,_,I.laid (a := s.heap.objs.size) (o := .dK []) (t' := s.toks) (fun _ _ q => Heap.get?_push_of_some _ q) (Nat.le_refl _) (dk_empty s.heap I.big),rfl,h _ (I.hok.fresh (Nat.le_refl _))⟩
end
def tPairs : List (TE × TE) → St → Hp → (List (V × V) → Hp → Prop) → Prop
  | [],_,H,Q => Q [] H
  | (tk,tv) :: r,σ,H,Q => tk σ H fun x H1 => tv σ H1 fun y H2 => tPairs r σ H2 fun ps H3 => Q ((x,y) :: ps) H3
abbrev VV : List (V × V) → List (Value × Value) → Prop := Paired fun p q => RelV p.1 q.1 ∧ RelV p.2 q.2
def PPs (X : Cx) (pos : Pos) (keys : List (Option Expr)) (values : List Expr) (trs : List (TE × TE)) : Prop :=
  ∀ (pins : List (Addr × Obj)) (s : Shared) (σ : St) (H : Hp) (Q : List (V × V) → Hp → Prop),Inv X pins σ H s → tPairs trs σ H Q →
    wpAny (model X.prog X.w) X.A (evalPairs (pairTrees keys values X.env pos)) (fun vs s' => ∃ ps H',Inv X pins σ H' s' ∧ VV ps vs ∧ Q ps H') X.xe s
theorem pps_nil {X : Cx} {pos : Pos} : PPs X pos [] [] [] := fun pins s σ H Q I h => pairTrees_nil_walk ⟨[],H,I,.nil,h⟩
theorem pps_cons {X : Cx} {pos : Pos} {k v : Expr} {ks : List (Option Expr)} {vs : List Expr} {tk tv : TE} {trs : List (TE × TE)} (hk : PE X k tk) (hv : PE X v tv) (hr : PPs X pos ks vs trs) :
    PPs X pos (some k :: ks) (v :: vs) ((tk,tv) :: trs) := fun pins s σ H Q I h =>
  pairTrees_cons_walk (thn (hk pins s σ H _ I h) fun u s1 ⟨x,H1,I1,rx,q1⟩ => thn (hv pins s1 σ H1 _ I1 q1) fun w2 s2 ⟨y,H2,I2,ry,q2⟩ =>
    thn (hr pins s2 σ H2 _ I2 q2) fun ws s3 ⟨ps,H3,I3,rel,q3⟩ => ⟨(x,y) :: ps,H3,I3,.cons ⟨rx,ry⟩ rel,q3⟩)
def mergeK (kvs more : List (Key × V)) : List (Key × V) := more.foldl (fun acc kv => putK acc kv.1 kv.2) kvs
theorem KV.merge : ∀ {more : List (Key × V)} {rs : List (Key × Value)} {kvs : List (Key × V)} {vs : List (Key × Value)},KV more rs → KV kvs vs → KV (mergeK kvs more) (merged vs rs) := by
  intro more rs kvs vs r
  unfold KV at r
  induction r generalizing kvs vs with
  | nil => intro q; exact q
  | @cons p q ps qs h t ih =>
    intro r0
    have e : KV (putK kvs p.1 p.2) (stored vs q.1 q.2) := by
      have := r0.put p.1 h.2
      rw [← h.1]; exact this
    exact ih e
theorem length_mergeK : ∀ (more kvs : List (Key × V)),(mergeK kvs more).length ≤ kvs.length + more.length
  | [],kvs => by show kvs.length ≤ kvs.length + 0; omega
  | p :: r,kvs => by
    have h1 := length_mergeK r (putK kvs p.1 p.2)
    have h2 := length_putK kvs p.1 p.2
    show (mergeK (putK kvs p.1 p.2) r).length ≤ _
    rw [List.length_cons]; omega
theorem carries_of {P : Program} {w : World} : ∀ {kvs : List (Key × V)} {ws : List (Value × Value)},VV (kvs.map fun kv => (kV kv.1,kv.2)) ws → ∃ rs,Carries (mixKind P w) ws rs ∧ KV kvs rs
  | [],_,r => by rw [List.map_nil] at r; cases r; exact ⟨[],True.intro,.nil⟩
  | p :: kvs,_,r => by
    rw [List.map_cons] at r
    cases r with
    | @cons a b as bs h t =>
      obtain ⟨rs,c,q⟩ := carries_of (P := P) (w := w) t
      obtain ⟨b1,b2⟩ := b
      exact ⟨(p.1,b2) :: rs,⟨kV_is h.1,rfl,c⟩,.cons ⟨rfl,h.2⟩ q⟩
def tDisp (trs : List (TE × TE)) : TE := fun σ H Q => ∀ p,H p = none → tPairs trs σ (upd H p (.dK [])) fun ps H2 => H2 p = some (.dK []) ∧ ∃ kvs : List (Key × V),ps = kvs.map (fun kv => (kV kv.1,kv.2)) ∧ kvs.length ≤ 15 ∧ Q (.ref p) (upd H2 p (.dK (mergeK [] kvs)))
theorem pe_disp {X : Cx} {pos : Pos} {keys : List (Option Expr)} {values : List Expr} {trs : List (TE × TE)} (h : PPs X pos keys values trs) (hall : keys.all (·.isSome) = true) (hl : keys.length = values.length) (h0 : keys ≠ [])
    (h15 : keys.length ≤ 15) : PE X (.Dict keys values pos) (tDisp trs) := by
  intro pins s σ H Q I q
  have hn := I.hok.fresh (Nat.le_refl s.heap.objs.size)
  have I1 := I.laid (a := s.heap.objs.size) (o := .dK []) (h' := s.heap.push { cls := .type "dict", data := .dict #[] }) (t' := s.toks) (fun _ _ q => Heap.get?_push_of_some _ q) (Nat.le_refl _) (dk_empty s.heap I.big)
  refine wpAny_Dict_walk (knd := mixKind X.prog X.w) hall hl h0 h15 (thn (h pins _ σ _ _ I1 (q _ hn)) fun ws s2 ⟨ps,H2,I2,rel,e,kvs,ep,lk,q2⟩ => ?_)
  subst ep
  obtain ⟨rs,c,rk⟩ := carries_of (P := X.prog) (w := X.w) rel
  obtain ⟨z,hd,vs0,r0,dd⟩ := dk_of I2.hok e
  cases r0
  refine ⟨rs,c,dd,fun h' dd' hs => ⟨.ref s.heap.objs.size,_,?_,rfl,q2⟩⟩
  have hz : (mergeK [] kvs).length ≤ sizeLine := by
    have h1 := length_mergeK kvs []
    rw [List.length_nil] at h1
    rw [sizeLine_eq]; omega
  have he : ∃ q,h'.get? s.heap.objs.size = some q := let ⟨q,_,_,hq,_⟩ := dd'; ⟨q,hq⟩
  exact d_write I2 (by rw [e]; exact True.intro) hs he (dk_new hz hd (rk.merge .nil) dd')
structure M1 (X : Cx) (o : Expr) (m : Str) (apos : Pos) (e : Expr) (cpos : Pos) : Prop where
  base : attributeBase o m X.env (eval o X.env) = eval o X.env
  few : ((backTo cpos (starEach [e] X.env)).all (fun x => !x.1) && (backToKw cpos (keywordEach [] X.env)).all (fun x => x.1.isSome)
    && decide (([e] : List Expr).length + ([] : List Keyword).length + (if ([] : List Keyword).isEmpty then 0 else 1) < 30)) = true
  line : (apos.endLine == cpos.line) = true
  trees : backTo cpos (starEach [e] X.env) = [(false,eval e X.env)]
structure M2 (X : Cx) (o : Expr) (m : Str) (apos : Pos) (e f : Expr) (cpos : Pos) : Prop where
  base : attributeBase o m X.env (eval o X.env) = eval o X.env
  few : ((backTo cpos (starEach [e,f] X.env)).all (fun x => !x.1) && (backToKw cpos (keywordEach [] X.env)).all (fun x => x.1.isSome)
    && decide (([e,f] : List Expr).length + ([] : List Keyword).length + (if ([] : List Keyword).isEmpty then 0 else 1) < 30)) = true
  line : (apos.endLine == cpos.line) = true
  trees : backTo cpos (starEach [e,f] X.env) = [(false,eval e X.env),(false,eval f X.env)]
def IsD (H : Hp) (a : Addr) : Prop := (∃ kvs,Rd H a (.dK kvs)) ∨ ∃ kvs,Rd H a (.dT kvs)
theorem isD_at {X : Cx} {pins : List (Addr × Obj)} {σ : St} {H : Hp} {s : Shared} {a : Addr} (I : Inv X pins σ H s) (d : IsD H a) :
    s.TypeIs (.ref a) "dict" ∧ (∀ b,Value.ref a = .ref b → ∃ ob,s.heap.get? b = some ob ∧ ob.dict = none) ∧ (a == sysModules) = false := by
  rcases d with ⟨kvs,e⟩ | ⟨kvs,e⟩
  · obtain ⟨_,hd,vs,_,dd⟩ := dk_rd I.hok e
    refine ⟨dd.typeIs,fun b q => ?_,hd⟩
    cases q
    obtain ⟨ob,_,_,h1,h2,_⟩ := dd
    exact ⟨ob,h1,h2.2.1⟩
  · obtain ⟨_,hd,xs,_,dd⟩ := dt_rd I.hok e
    refine ⟨dd.typeIs,fun b q => ?_,hd⟩
    cases q
    obtain ⟨ob,_,_,h1,h2,_⟩ := dd
    exact ⟨ob,h1,h2.2.1⟩
section
variable {X : Cx} {pins : List (Addr × Obj)} {σ : St} {H : Hp} {s : Shared} {a : Addr} {y d : V} {u r : Value} {o : Option V} {A : Around} {E : Value → Shared → Prop}
theorem d_get2 {Q : Value → Shared → Prop} (hu : A.units + 1 < cLine) (I : Inv X pins σ H s) (g : DGet H a y o) (ry : RelV y u) (rd : RelV d r) (h : ∀ w' s',Inv X pins σ H s' → RelV (o.getD d) w' → Q w' s') :
    wpAny (model X.prog X.w) A (call (.builtin "dict.get") [.ref a,u,r]) Q E s := by
  rcases g with ⟨kvs,k,e,ey,l⟩ | ⟨kvs,k,b,e,ey,eb,l⟩
  · subst ey
    obtain ⟨z,hd,vs,rel,dd⟩ := dk_rd I.hok e
    refine call_meetsIn PySem.F.slot_dict_get dd.typeIs PySem.F.entry_dict_get (PySem.F.args_dict_get_3 _ _ _) (meets_dict_get_default (mixKind X.prog X.w) a (kV_is ry) hd r) ⟨_,dd.mapOf,h _ _ (I.tok _) ?_⟩
    rw [l]
    exact (rel.val k).getD rd
  · subst ey
    cases (show u = Value.ref b from ry)
    obtain ⟨z,hd,xs,rel,dd⟩ := dt_rd I.hok e
    refine call_meetsIn PySem.F.slot_dict_get dd.typeIs PySem.F.entry_dict_get (PySem.F.args_dict_get_3 _ _ _) (meetsH_dict_get_default (tupleKind (mixKind X.prog X.w)) a b hd r) ⟨tupleKind_room_in1 hu,k,xs,key_of I.hok eb,dd,h _ _ (I.tok _) ?_⟩
    rw [l]
    exact (rel.val k).getD rd
end
def tDGet2 (td ty tx : TE) : TE := fun σ H Q => td σ H fun x H1 => ∃ a,x = .ref a ∧ IsD H1 a ∧ ty σ H1 fun y H2 => tx σ H2 fun z H3 => ∃ o,DGet H3 a y o ∧ Q (o.getD z) H3
section
variable {X : Cx} {o e f : Expr} {apos cpos : Pos} {td ty tx : TE}
theorem pe_dget2 (hu : X.A.units + 1 < cLine) (ho : PE X o td) (he : PE X e ty) (hf : PE X f tx) (m : M2 X o "get" apos e f cpos) : PE X (.Call (.Attribute o "get" apos) [e,f] [] cpos) (tDGet2 td ty tx) := by
  intro pins s σ H Q I h
  refine wpAny_Call_method m.base m.few m.line PySem.F.plainAttrs_dict PySem.F.slot_dict_get PySem.F.type_dict_get (thn (ho pins s σ H _ I h) fun u s1 ⟨x,H1,I1,rx,a,ex,d,q1⟩ => ?_)
  subst ex
  obtain rfl : u = Value.ref a := rx
  obtain ⟨t1,t2,_⟩ := isD_at I1 d
  refine ⟨t1,t2,?_⟩
  rw [m.trees]
  refine Calls.callWith_builtin rfl (Calls.evalArgs_plain (Calls.spliced_cons (thn (he pins s1 σ H1 _ I1 q1) fun iv s2 ⟨y,H2,I2,ry,q2⟩ =>
    Calls.spliced_cons (thn (hf pins s2 σ H2 _ I2 q2) fun fv s3 ⟨z,H3,I3,rz,ov,g,q3⟩ => Calls.spliced_nil ?_))))
  exact d_get2 hu I3 g ry rz fun w' s4 I4 rw' => ⟨_,H3,I4,rw',q3⟩
end
section
variable {X : Cx} {pins : List (Addr × Obj)} {σ : St} {H : Hp} {s : Shared} {a : Addr} {kvs : List (Key × V)} {A : Around} {E : Value → Shared → Prop}
end
section
variable {X : Cx} {pins : List (Addr × Obj)} {σ : St} {H : Hp} {s : Shared} {a : Addr} {y : V} {u : Value} {A : Around} {E : Value → Shared → Prop}
end
end L2
namespace Att
open PySem PySem.W PySem.Calls PyProof.Rows
theorem ints_of_wellAll {P : Params} {h : Heap} : ∀ (ns : List Int) (vs : List Value),WellAll P h vs (ns.map WData.int) → IntsAre vs ns := by
  intro ns
  induction ns with
  | nil =>
    intro vs w
    rw [List.map_nil] at w
    cases w
    exact .nil
  | cons n ns ih =>
    intro vs w
    rw [List.map_cons] at w
    cases w with
    | cons a b =>
      cases a
      exact .cons _ _ (ih _ b)
theorem script_of {l : OpenLaw} {n : Nat} (hn : l.most = some n) {P : Params} {h : Heap} {args : List WData} {vals : List Value}
    (hpre : l.row.toRowW.claim.pre args = true) (hwl : WellAll P h vals args) :
    ∃ a vs ns,vals = [Value.ref a] ∧ args = [WData.list (ns.map WData.int)] ∧ h.get? a = some { cls := .type "list", data := .seq vs.toArray } ∧ IntsAre vs ns ∧ ns.length ≤ n := by
  have hsh : WShape.hasAll [] args [.list .int] = true := (pre_splitW hpre).1
  have hc : l.pre.holds [] { args := args } = true := (pre_splitW hpre).2
  obtain ⟨d,r,rfl,h1,h2⟩ := hasAllW_cons hsh
  obtain rfl := hasAllW_nil h2
  obtain ⟨xs,rfl,h3⟩ := hasW_list h1
  obtain ⟨ns,rfl⟩ := items_int h3
  have hlen : ns.length ≤ n := by
    unfold OpenLaw.pre at hc
    have h4 : (WTm.not (.lt (.lit (.int (n : Int))) (.len (.arg 0)))).holds [] { args := [.list (ns.map .int)] } = true := by
      have h4 := (holds_andW hc).1
      rw [hn] at h4
      exact h4
    have h5 := condW_of h4 (w_not (w_lt w_lit (w_len_list (w_arg rfl))))
    rw [List.length_map] at h5
    refine Nat.le_of_not_lt fun q => ?_
    have q' : (n : Int) < ((ns.length : Nat) : Int) := by omega
    first
      | (rw [decide_eq_true q'] at h5; exact absurd h5 (by decide))
      | (simp at h5; omega)
  cases hwl with
  | cons w1 w2 =>
    cases w2
    cases w1 with
    | list ho hall => exact ⟨_,_,ns,rfl,rfl,ho,ints_of_wellAll ns _ hall,hlen⟩
theorem post_true (l : OpenLaw) (args : List WData) : l.row.toRowW.claim.post args (.bool true) args = true :=
  postW_of (r := l.row.toRowW) (X := (true == true))
    (show WShape.has [] (.bool true) .bool = true by first | rfl | decide | simp [WShape.has,WShape.arms,WShape.armsAll])
    (show (WTm.eq .res (.lit (.bool true))).value [] { args := args,res := some (.bool true),after := args } = some (.bool (true == true)) from w_eq_bool (w_res rfl) w_lit) rfl
theorem attach_call {l : OpenLaw} {n : Nat} {q : Program} {loose : List Str} {XP : (Str → Option Value) → Heap → Prop} {YP : World → Heap → Prop} {d : DefRec}
    (hn : l.most = some n) (hdf : d.params.defaults = [])
    (call : ∀ (w : World) (s₀ s₁ : Shared) (mg mb : Str → Option Value) (fa : Addr) (o : Obj) (pm cd doc : Value) (a : Addr) (vs : List Value) (ns : List Int),
      Ground q loose [] XP w s₀ mg mb s₁.heap → YP w s₁.heap →
      s₁.heap.get? fa = some o → o.data = .func (docDef d.name d.params d.body d.scope pm cd doc) → s₁.heap.CodeRec cd d.name → mg d.name = some (.ref fa) →
      s₁.heap.get? a = some { cls := .type "list", data := .seq vs.toArray } → IntsAre vs ns → ns.length ≤ n → s₁.gens = #[] →
      codeAny (model l.prog w) callerA (.call (.ref fa) ⟨[.ref a],[]⟩) (fun r s' => r = .ok (.ret (.bool true)) ∧ OldK s₁.heap s'.heap ∧ s'.os = s₁.os ∧ AllBare s'.gens) s₁) :
    WalkO q loose XP YP l.row.toRowW d [] (fun f vs => PySem.call f vs) := by
  intro w s₀ s₁ mg mb G Y fa o pm cd doc dV kV ho hd hcd hD hmg hg args vals as hpre hlay hrd hwl hlo
  obtain rfl : dV = .none := Dflts.none hD hdf
  obtain rfl : kV = .none := Dflts.noKw hD
  obtain ⟨a,vs,ns,rfl,rfl,hobj,hints,hlen⟩ := script_of hn hpre hwl
  refine enter_call (codeAny_mono (call w s₀ s₁ mg mb fa o pm cd doc a vs ns G Y ho (fd_plain hd) hcd hmg hobj hints hlen hg) fun r s' hq => ?_)
  obtain ⟨rfl,h2,h3,h4⟩ := hq
  exact ⟨.inl ⟨.bool true,.bool true,[],rfl,fun _ => rfl,.bool true,post_true l _,fun _ => ⟨List.Pairwise.nil,fun _ hm => (nomatch hm)⟩⟩,h2,h3,h4⟩
section
variable {prog : Program} {w : World} {A : Around} {E : Value → Shared → Prop} {s : Shared} {K : Frag}
end
end Att
namespace L2
open PySem PySem.Spec PyProof.Rows
theorem vals_ints : ∀ {vs : List Value} {ns : List Int},IntsAre vs ns → Vals (ns.map V.int) vs
  | _,_,.nil => .nil
  | _,_,.cons n t h => .cons ⟨t,rfl⟩ (vals_ints h)
def Only (H : Hp) : Prop := ∀ b,H b = none ∨ ∃ o xs,H b = some (.frz o (.lst xs))
theorem law_call {P : Program} {w : World} {K : PySem.W.Frag} {mg mb : Str → Option Value} {CX : CXT} {k : Nat} {fa a : Addr} {fd : FuncData} {x : Str} {sp : Sp} {s₁ : Shared} {vs : List Value} {ns : List Int}
    (KX : K.In s₁.heap) (hns : s₁.heap.Ns mainGlobals mg) (hb : s₁.heap.Ns builtinsNs mb) (hbb : ∀ x : Str,x ≠ "__name__" → mb x = bootBuiltins x) (hlim : s₁.heap.NoLimit) (hg : s₁.gens = #[])
    (ha : s₁.heap.get? a = some { cls := .type "list", data := .seq vs.toArray }) (hi : IntsAre vs ns) (hl : ns.length ≤ sizeLine) (hr : Room k callerA)
    (F : ∀ base : Heap,K.In base → base.Ns mainGlobals mg → FnOk P w K mg base CX k fa fd [x] sp) (hbind : ∀ (s : Shared) (u : Value),BindsTo s fd ⟨[u],[]⟩ [(x,u)])
    (hsp : ∀ H : Hp,Only H → SqL K H a (ns.map V.int) → sp [.ref a] H (fun v _ => v = .bl true) fun _ _ _ => False)
    (hCX : ∀ H e s',CX [] H s₁ (fun _ _ _ => False) e s' → False) :
    codeAny (model P w) callerA (.call (.ref fa) ⟨[.ref a],[]⟩) (fun r s' => r = .ok (.ret (.bool true)) ∧ OldK s₁.heap s'.heap ∧ s'.os = s₁.os ∧ AllBare s'.gens) s₁ := by
  have rv := vals_ints hi
  have lenV := hi.length
  have core : ∀ H : Hp,Only H → SqL K H a (ns.map V.int) → HOk P w H s₁.heap → (∀ b,H b ≠ none → b = a) → (H a ≠ none → K.lookup a = none) →
      codeAny (model P w) callerA (.call (.ref fa) ⟨[.ref a],[]⟩) (fun r s' => r = .ok (.ret (.bool true)) ∧ OldK s₁.heap s'.heap ∧ s'.os = s₁.os ∧ AllBare s'.gens) s₁ := by
    intro H hO hS hok hA hK
    have base_of : ∀ {b : Addr} {o : Obj},s₁.heap.get? b = some o → H b = none → (hidT s₁.heap H).get? b = some o := fun e n => hidT_get e n
    have noA : ∀ {b : Addr} {o : Obj} {es : Array DictEntry} {ep : Nat},s₁.heap.get? b = some o → o.data = .dict es ep → H b = none := fun {b o es ep} e d => by
      cases q : H b with
      | none => rfl
      | some u =>
        have e' : b = a := hA b (by rw [q]; simp)
        subst e'
        rw [ha] at e; cases e
        have d' : Data.seq vs.toArray _ = Data.dict es ep := d
        cases d'
    have nsK : ∀ {b : Addr} {m : Str → Option Value},s₁.heap.Ns b m → (hidT s₁.heap H).Ns b m := fun {b m} ⟨o,es,ep,e,d,r⟩ => ⟨o,es,ep,base_of e (noA e d),d,r⟩
    have hKb : K.In (hidT s₁.heap H) := fun b o e => base_of (KX b o e) (by
      cases q : H b with
      | none => rfl
      | some u =>
        have e' : b = a := hA b (by rw [q]; simp)
        subst e'
        rw [hK (by rw [q]; simp)] at e; cases e)
    have hM : Mod K mg (hidT s₁.heap H) := ⟨hKb,nsK hns,⟨mb,nsK hb,hbb⟩,let ⟨mc,h1,h2⟩ := hlim; ⟨mc,nsK h1,h2⟩⟩
    have e0 : Env0 P w K mg (hidT s₁.heap H) callerA [] s₁ H := ⟨rfl,hM,fun b o e => of_hidT e,Nat.le_of_eq (hidT_size _ _),trivial,fun b hb => absurd (show b ∈ ([] : List Addr) from hb) (by simp),hok,.of_eq hg⟩
    refine codeAny_mono ((F _ hKb (nsK hns)).run callerA [] s₁ H ⟨[.ref a],[]⟩ [.ref a] [.ref a] _ _ hr e0 (hbind s₁ (.ref a)) (.cons rfl .nil) (hsp H hO hS)) fun r s' h => ?_
    cases r with
    | error e => exact (hCX H e s' h).elim
    | ok fl =>
      cases fl with
      | next => exact False.elim h
      | brk => exact False.elim h
      | cont => exact False.elim h
      | ret u =>
        obtain ⟨v,H',os,bare,un,hok',r',q⟩ := h
        have q' : v = .bl true := q
        subst q'
        obtain rfl : u = Value.bool true := r'
        refine ⟨rfl,OldK.of_keep fun b o e => ?_,os,bare⟩
        cases q : H b with
        | none => exact un.keep b o e q (by intro z; exact absurd (show b ∈ ([] : List Addr) from z) (by simp)) (by simp)
        | some u =>
          rcases hO b with z | ⟨ob,xs,z⟩
          · rw [q] at z; cases z
          · have z2 := un.frzs b ob _ z
            obtain ⟨e1,_⟩ := hok b _ z
            obtain ⟨e2,_⟩ := hok' b _ z2
            rw [e] at e1; cases e1
            exact e2
  cases hk : K.lookup a with
  | some o =>
    have e := KX a o hk
    rw [ha] at e
    cases e
    refine core (fun _ => none) (fun _ => .inl rfl) (.inr ⟨_,vs.toArray,_,hk,rfl,rfl,rfl,by rw [List.size_toArray,lenV]; exact hl,by simpa using rv⟩) (fun b u z => by have z' : (none : Option HO) = some u := z; cases z') (fun b z => absurd rfl z) fun z => absurd rfl z
  | none =>
    refine core (fun b => if b = a then some (.frz { cls := .type "list", data := .seq vs.toArray } (.lst (ns.map V.int))) else none) (fun b => ?_) (.inl (.inr ⟨{ cls := .type "list", data := .seq vs.toArray },if_pos rfl⟩)) (fun b u z => ?_) (fun b z => ?_) fun _ => hk
    · by_cases hb : b = a
      · exact .inr ⟨_,_,if_pos hb⟩
      · exact .inl (if_neg hb)
    · by_cases hb : b = a
      · have z' := (if_pos hb).symm.trans z
        cases z'
        subst hb
        exact ⟨ha,by rw [List.length_map]; exact hl,vs,_,rv,ha⟩
      · have z' := (if_neg hb).symm.trans z
        cases z'
    · by_cases hb : b = a
      · exact hb
      · exact absurd (if_neg hb) z
end L2
namespace L2
open PySem PySem.Spec PyProof.Rows
theorem walk_of {l : PySem.W.OpenLaw} {n k : Nat} {q : Program} {loose : List Str} {XP : (Str → Option Value) → Heap → Prop} {YP : World → Heap → Prop} {d : DefRec} {K : Params → PySem.W.Frag} {CX : World → CXT} {sp : World → Sp} {x : Str}
    (hn : l.most = some n) (hn2 : n ≤ sizeLine) (hdf : d.params.defaults = []) (hr : Room k callerA)
    (hY : ∀ (w : World) (h : Heap),YP w h → (K w.params).In h)
    (F : ∀ (w : World) (mg : Str → Option Value) (fa : Addr) (h : Heap),(K w.params).In h → h.Ns mainGlobals mg → mg d.name = some (.ref fa) →
      ∃ fd : FuncData,(∀ (s : Shared) (u : Value),BindsTo s fd ⟨[u],[]⟩ [(x,u)]) ∧
        ∀ base : Heap,(K w.params).In base → base.Ns mainGlobals mg → FnOk l.prog w (K w.params) mg base (CX w) k fa fd [x] (sp w))
    (hsp : ∀ (w : World) (H : Hp) (a : Addr) (ns : List Int),ns.length ≤ n → Only H → SqL (K w.params) H a (ns.map V.int) → sp w [.ref a] H (fun v _ => v = .bl true) fun _ _ _ => False)
    (hCX : ∀ (w : World) (H : Hp) (s : Shared) (e : Value) (s' : Shared),CX w [] H s (fun _ _ _ => False) e s' → False) :
    PySem.W.WalkO q loose XP YP l.row.toRowW d [] (fun f vs => PySem.call f vs) := by
  refine Att.attach_call hn hdf fun w s₀ s₁ mg mb fa o pm cd doc a vs ns G Y ho hd hcd hmg hobj hints hlen hg => ?_
  have KX := hY w _ Y
  obtain ⟨fd,hb,hF⟩ := F w mg fa _ KX G.T.g hmg
  exact law_call KX G.T.g G.T.b G.T.builtins G.T.nolimit hg hobj hints (Nat.le_trans hlen hn2) hr hF hb (fun H hO hS => hsp w H a ns hlen hO hS) fun H e s' => hCX w H s₁ e s'
theorem walk_ofK {l : PySem.W.OpenLaw} {n k : Nat} {q : Program} {loose : List Str} {XP : (Str → Option Value) → Heap → Prop} {YP : World → Heap → Prop} {d : DefRec} {K : Params → PySem.W.Frag} {CX : CXT} {sp : PySem.W.Frag → Sp} {x : Str}
    (hn : l.most = some n) (hn2 : n ≤ sizeLine) (hdf : d.params.defaults = []) (hr : Room k callerA)
    (hY : ∀ (w : World) (h : Heap),YP w h → (K w.params).In h)
    (F : ∀ (w : World) (mg : Str → Option Value) (fa : Addr) (h : Heap),(K w.params).In h → h.Ns mainGlobals mg → mg d.name = some (.ref fa) →
      ∃ fd : FuncData,(∀ (s : Shared) (u : Value),BindsTo s fd ⟨[u],[]⟩ [(x,u)]) ∧
        ∀ base : Heap,(K w.params).In base → base.Ns mainGlobals mg → FnOk l.prog w (K w.params) mg base CX k fa fd [x] (sp (K w.params)))
    (hsp : ∀ (K : PySem.W.Frag) (H : Hp) (a : Addr) (ns : List Int),ns.length ≤ n → Only H → SqL K H a (ns.map V.int) → sp K [.ref a] H (fun v _ => v = .bl true) fun _ _ _ => False)
    (hCX : ∀ (H : Hp) (s : Shared) (e : Value) (s' : Shared),CX [] H s (fun _ _ _ => False) e s' → False) :
    PySem.W.WalkO q loose XP YP l.row.toRowW d [] (fun f vs => PySem.call f vs) :=
  walk_of (K := K) (CX := fun _ => CX) (sp := fun w => sp (K w.params)) hn hn2 hdf hr hY F (fun w H a ns h1 h2 h3 => hsp (K w.params) H a ns h1 h2 h3) fun _ H s e s' => hCX H s e s'
end L2
namespace L2
open PySem PySem.Spec PyProof.Rows
def inClass (s : Stmt) (j : Nat) : Stmt := match s with
  | .ClassDef _ _ _ body _ _ _ _ _ _ _ => body.getD j (.Pass ⟨0,0,0,0⟩)
  | _ => .Pass ⟨0,0,0,0⟩
def defArgs (s : Stmt) : Arguments := match s with
  | .FunctionDef _ a _ _ _ _ _ _ _ _ => a
  | _ => { posonlyargs := [],args := [],vararg := none,kwonlyargs := [],kw_defaults := [],kwarg := none,defaults := [] }
def defBody (s : Stmt) : List Stmt := match s with
  | .FunctionDef _ _ b _ _ _ _ _ _ _ => b
  | _ => []
def defScope (s : Stmt) : Scope := match s with
  | .FunctionDef _ _ _ _ _ _ sc _ _ _ => sc
  | _ => { kind := .function,names := [],isGenerator := false,isCoroutine := false }
abbrev CX0 : CXT := fun _ _ _ _ _ _ => False
abbrev E0 : XK := fun _ _ _ => False
theorem pass0 {X : Cx} : Passes CX0 X E0 := fun _ _ _ _ _ _ _ h => h.elim
structure Fun (K : PySem.W.Frag) (x qual : Str) (st : Stmt) (f : Addr) (fd : FuncData) : Prop where
  ex : ∃ (oc : Value) (od : Option Addr) (kV doc pm : Value) (an : Option Addr) (cdv ct : Value) (osl : Array (Option Value)),
    fd = PySem.W.fnOf x qual (defArgs st) (defBody st) (defScope st) .none kV doc pm an cdv ct ∧ K.lookup f = some ⟨oc,od,.func fd,osl⟩ ∧ PySem.W.codeIn K cdv qual = true
  kp : PySem.W.keepIn K (.ref f) = true
section
variable {P : Program} {w : World} {K : PySem.W.Frag} {mg : Str → Option Value} {base : Heap}
theorem Fun.ok {x qual : Str} {st : Stmt} {f : Addr} {fd : FuncData} {N ps : List Str} {k : Nat} {sp : Sp} (F : Fun K x qual st f fd) (S : FnScope N ps (defScope st)) (len : ∀ vs H Q E,sp vs H Q E → vs.length = ps.length)
    (hbody : ∀ (cdv : Value) (A : Around) (outer : List Env) (s : Shared) (H : Hp) (vs : List V) (Q : VK) (E : XK),Room k (A.deeper (envOfC qual (defScope st) s.heap.objs.size f cdv)) → sp vs H Q E →
      ∃ t,PSs (cxOf CX0 P w K mg base N qual (defScope st) f cdv A outer s H E).nox (defBody st) t ∧ t { nx := fun _ H' => Q .non H',rt := Q } (start N vs) H) : FnOk P w K mg base CX0 (k + 1) f fd ps sp := by
  obtain ⟨oc,od,kV,doc,pm,an,cdv,ct,osl,rfl,lk,hcd⟩ := F.ex
  refine fn_of lk hcd S len fun A outer s H vs Q E hr hsp => ?_
  obtain ⟨t,h,q⟩ := hbody cdv A outer s H vs Q E hr hsp
  exact ⟨t,h.nox,q⟩
theorem Fun.binds {x qual : Str} {st : Stmt} {f : Addr} {fd : FuncData} {ps : List Str} (F : Fun K x qual st f fd)
    (h : ∀ (kV doc pm : Value) (an : Option Addr) (cdv ct : Value) (us : List Value),us.length = ps.length → bindArgs (PySem.W.fnOf x qual (defArgs st) (defBody st) (defScope st) .none kV doc pm an cdv ct) ⟨us,[]⟩ = pure (ps.zip us)) : Binds K fd ps [] := by
  obtain ⟨oc,od,kV,doc,pm,an,cdv,ct,osl,rfl,lk,hcd⟩ := F.ex
  exact .all (h kV doc pm an cdv ct)
theorem fun_mk {x qual : Str} {st : Stmt} {f : Addr} {oc : Value} {od an : Option Addr} {osl : Array (Option Value)} {kV doc pm cdv ct : Value} (l : K.lookup f = some ⟨oc,od,.func (PySem.W.fnOf x qual (defArgs st) (defBody st) (defScope st) .none kV doc pm an cdv ct),osl⟩)
    (c : PySem.W.codeIn K cdv qual = true) (k : PySem.W.keepIn K (.ref f) = true) : Fun K x qual st f (PySem.W.fnOf x qual (defArgs st) (defBody st) (defScope st) .none kV doc pm an cdv ct) := ⟨⟨oc,od,kV,doc,pm,an,cdv,ct,osl,rfl,l,c⟩,k⟩
end
section
variable {X : Cx}
theorem pv (i : Nat) {x : Str} {pos : Pos} (hN : X.N[i]? = some x := by rfl) (hv : Vis X.env.scope x := by first | exact Or.inl rfl | exact Or.inr (Or.inl rfl) | exact Or.inr (Or.inr rfl)) (hd : (x == ("__debug__" : Str)) = false := by decide)
    (hcd : (x == ("__classdict__" : Str)) = false := by decide) : PE X (.Name x pos) (tVar i) := pe_var hN hv hd hcd
end
section
variable {X : Cx}
end
theorem iteF {A B : Prop} (h : B) : if false = true then A else B := by
  rw [if_neg Bool.false_ne_true]
  exact h
theorem iteT {A B : Prop} (h : A) : if true = true then A else B := by
  rw [if_pos rfl]
  exact h
theorem iteNS {c A B : Prop} [Decidable c] (hc : c) (h : B) : if (!decide c) = true then A else B := by
  rw [decide_eq_true hc]
  exact iteF h
def Same (H H' : Hp) : Prop := ∀ b o,H b = some o → H' b = some o
theorem Same.refl (H : Hp) : Same H H := fun _ _ h => h
theorem Same.trans {H H1 H2 : Hp} (a : Same H H1) (b : Same H1 H2) : Same H H2 := fun c o h => b c o (a c o h)
theorem Same.free {H H' : Hp} (e : Same H H') {l : Addr} (h : H' l = Option.none) : H l = Option.none := by
  cases q : H l with
  | none => rfl
  | some o =>
    rw [e l o q] at h
    cases h
theorem Same.seq {K : PySem.W.Frag} {H H' : Hp} {a : Addr} {xs : List V} (e : Same H H') (h : SqL K H a xs) : SqL K H' a xs := by
  rcases h with (h | ⟨o,h⟩) | h
  · exact .inl (.inl (e _ _ h))
  · exact .inl (.inr ⟨o,e _ _ h⟩)
  · exact .inr h
section
variable {κ : Type} [DecidableEq κ]
end
end L2
namespace L2
open PySem PySem.Spec PyProof.Rows
theorem HOk.track {P : Program} {w : World} {H : Hp} {h : Heap} {a : Addr} {o : HO} (x : HOk P w H h) (hn : H a = none) (new : ObjOk P w (upd H a o) h a o) : HOk P w (upd H a o) h := by
  intro b u e
  by_cases hb : b = a
  · subst hb
    rw [upd_same] at e
    cases e
    exact new
  · rw [upd_ne hb] at e
    refine (x b u e).stay (fun _ _ _ q => q) (fun c q => ?_) fun c xs q => ?_
    · rw [upd_ne (ne_of_none q hn)]; exact q
    · rw [upd_ne (ne_of_none q hn)]; exact q
theorem HOk.other {P : Program} {w : World} {H : Hp} {h h' : Heap} {a : Addr} (x : HOk P w H h) (hn : H a = none) (k : ∀ b u,b ≠ a → h.get? b = some u → h'.get? b = some u) : HOk P w H h' := by
  intro b u e
  refine (x b u e).stay (fun c v hc q => k c v ?_ q) (fun _ q => q) fun _ _ q => q
  rcases hc with z | z
  · rw [z]; exact ne_of_none e hn
  · exact ne_of_none z hn
def closStep (env : Env) (cs : List (Str × Addr)) (x : Str × NameKind) : List (Str × Addr) := if x.2 = .free then (x.1,(env.cells.lookup x.1).getD 0) :: cs else cs
def closOf (env : Env) (names : List (Str × NameKind)) : List (Str × Addr) := names.foldl (closStep env) []
theorem forIn_fold {α β : Type} {f : α → β → Sem (ForInStep β)} {g : β → α → β} : ∀ (l : List α) (acc : β),(∀ x ∈ l,∀ c,f x c = pure (.yield (g c x))) → forIn l acc f = pure (l.foldl g acc)
  | [],acc,_ => rfl
  | x :: l,acc,h => by
    rw [List.forIn_cons,h x List.mem_cons_self acc]
    show forIn l (g acc x) f = _
    rw [forIn_fold l (g acc x) fun y hy => h y (List.mem_cons_of_mem _ hy)]
    rfl
theorem closureFor_of {scope : Scope} {env : Env} (h : ∀ y ∈ scope.names,y.2 = .free → ∃ c,env.cells.lookup y.1 = some c) : closureFor scope env = pure (closOf env scope.names) := by
  simp only [closureFor]
  rw [forIn_fold (g := closStep env) scope.names [] fun x hx c => by
    obtain ⟨n,kind⟩ := x
    by_cases hk : kind = .free
    · subst hk
      obtain ⟨a,ha⟩ := h _ hx rfl
      have ha' : env.cells.lookup n = some a := ha
      simp only [beq_self_eq_true,if_true,closStep,cellOf,ha',Option.getD_some]
      rfl
    · have hb : (kind == NameKind.free) = false := by simpa using hk
      simp only [hb,Bool.false_eq_true,if_false,closStep,hk]]
  rfl
theorem clos_some {env : Env} {y : Str} {c : Addr} : ∀ (names : List (Str × NameKind)) (acc : List (Str × Addr)),(names.foldl (closStep env) acc).lookup y = some c →
    acc.lookup y = some c ∨ ((y,NameKind.free) ∈ names ∧ (env.cells.lookup y).getD 0 = c)
  | [],acc,h => .inl h
  | (n,k) :: r,acc,h => by
    rw [List.foldl_cons] at h
    rcases clos_some r _ h with q | ⟨q,z⟩
    · unfold closStep at q
      by_cases hk : k = .free
      · rw [if_pos hk,List.lookup_cons] at q
        cases hy : y == n with
        | true =>
          rw [hy] at q
          have e : y = n := eq_of_beq hy
          subst e hk
          exact .inr ⟨List.mem_cons_self,Option.some.inj q⟩
        | false =>
          rw [hy] at q
          exact .inl q
      · rw [if_neg hk] at q
        exact .inl q
    · exact .inr ⟨List.mem_cons_of_mem _ q,z⟩
theorem clos_has {env : Env} {y : Str} : ∀ (names : List (Str × NameKind)) (acc : List (Str × Addr)),((y,NameKind.free) ∈ names ∨ ∃ c,acc.lookup y = some c) → ∃ c,(names.foldl (closStep env) acc).lookup y = some c
  | [],acc,h => by
    rcases h with h | h
    · cases h
    · exact h
  | (n,k) :: r,acc,h => by
    rw [List.foldl_cons]
    refine clos_has r _ ?_
    by_cases hy : (y,NameKind.free) ∈ r
    · exact .inl hy
    · refine .inr ?_
      rcases h with h | ⟨c,h⟩
      · rcases List.mem_cons.mp h with e | e
        · cases e
          exact ⟨_,by unfold closStep; rw [if_pos rfl,List.lookup_cons_self]⟩
        · exact absurd e hy
      · unfold closStep
        by_cases hk : k = .free
        · rw [if_pos hk,List.lookup_cons]
          cases y == n with
          | true => exact ⟨_,rfl⟩
          | false => exact ⟨c,h⟩
        · rw [if_neg hk]
          exact ⟨c,h⟩
theorem compLoop_gen {prog : Program} {w : World} {A : Around} {R : Result → Shared → Prop} {s : Shared} {elt target iter : Expr} {ifs : List Expr} {scope : Scope} {pos : Pos} {it acc : Value} {env : Env} (I : Nat → Shared → Prop)
    (turn : ∀ n s,I n s → wpAny (model prog w) A (pyNext it) (fun r s₁ => match r with
      | none => R (.ok .next) s₁
      | some v => wpAny (model prog w) A (letOwnedTupleGo target it v) (fun _ s₁' => wpAny (model prog w) A (assign target env v) (fun _ s₂ =>
          wpAny (model prog w) A (forIn ifs true fun c r => if r = true then do let ok ← isTrue c env (eval c env); pure (ForInStep.yield ok) else pure (ForInStep.yield r)) (fun ok s₃ =>
            if ok = true then wpAny (model prog w) A (eval elt env) (fun x s₄ =>
              wpAny (model prog w) A (call (.builtin "list.append") [acc,x]) (fun _ s₅ => ∃ m,m < n ∧ I m s₅) (fun _ _ => False) s₄) (fun _ _ => False) s₃
            else ∃ m,m < n ∧ I m s₃) (fun _ _ => False) s₂) (fun _ _ => False) s₁') (fun _ _ => False) s₁) (fun _ _ => False) s)
    (n : Nat) (h : I n s) :
    codeAny (model prog w) A (.compLoop (.ListComp elt [⟨target,iter,ifs,0⟩] scope pos) 0 it acc env) R s := by
  refine codeAny_loop rfl I (fun n s hI => ?_) n h
  show wpAny _ A ((compTurn (.ListComp elt [⟨target,iter,ifs,0⟩] scope pos) 0 it acc env).onRaise (fun x => do noteFrame x env; theTreesLotGoes x)) _ _ s
  refine wpAny_noted ?_
  rw [compTurn_list]
  refine wpAny_bind (wpAny_standAt (wpAny_bind (wpAny_mono (turn n s hI) (fun r s₁ h₁ => ?_) fun _ _ h' => h'.elim)))
  cases r with
  | none => exact wpAny_pure h₁
  | some v =>
    refine wpAny_bind (wpAny_mono h₁ (fun _ s₁' h₁' => ?_) fun _ _ h' => h'.elim)
    refine wpAny_bind (wpAny_mono h₁' (fun _ s₂ h₂ => wpAny_bind (wpAny_mono h₂ (fun ok s₃ h₃ => ?_) fun _ _ h' => h'.elim)) fun _ _ h' => h'.elim)
    cases ok with
    | false => exact wpAny_pure ⟨rfl,h₃⟩
    | true =>
      exact wpAny_bind (wpAny_bind (wpAny_mono h₃ (fun x s₄ h₄ => wpAny_bind (wpAny_mono h₄ (fun _ s₅ h₅ => wpAny_pure (wpAny_pure ⟨rfl,h₅⟩)) fun _ _ h' => h'.elim)) fun _ _ h' => h'.elim))
def PTs (X : Cx) (ifs : List Expr) (t : TT) : Prop :=
  ∀ (pins : List (Addr × Obj)) (s : Shared) (σ : St) (H : Hp) (Q : Bool → Hp → Prop),Inv X pins σ H s → t σ H Q →
    wpAny (model X.prog X.w) X.A (forIn ifs true fun c r => if r = true then do let ok ← isTrue c X.env (eval c X.env); pure (ForInStep.yield ok) else pure (ForInStep.yield r)) (TP X pins σ Q) X.xe s
def tYes : TT := fun _ H Q => Q true H
theorem pts_nil {X : Cx} : PTs X [] tYes := fun pins s σ H Q I h => wpAny_tests_nil ⟨H,I,h⟩
theorem pts_one {X : Cx} {c : Expr} {t : TT} (h : PT X c t) : PTs X [c] t := fun pins s σ H Q I hw => wpAny_tests_one (h pins s σ H Q I hw)
def cxComp (X : Cx) (scope : Scope) (N : List Str) (C : Addr) (s : Shared) (H : Hp) (ex : List Addr) : Cx :=
  { X with N := N,s₀ := s,H₀ := H,env := compEnvC scope (closOf X.env scope.names) C X.env,outer := X.stack,stack := X.stack,ex := ex,fn := fun _ => false,pn := [],xe := fun _ _ => False }
def pick (σ : St) (j : Nat) : Option V := (σ[j]?).getD none
def CompG (n0 : Nat) (fr : List Nat) (g : TG) (tt : TT) (te : TE) (σ : St) (Q : VK) (J : It) (H1 : Hp) : Prop := ∃ W : Nat → Nat → St → List V → Hp → Prop,
  (∃ m,W 0 m (List.replicate n0 none ++ fr.map (pick σ)) [] H1) ∧ ∀ i m τ acc H,W i m τ acc H →
    (J.stop i H ∧ ∀ D,H D = none → Q (.ref D) (upd H D (.lst acc))) ∨
    (J.go i H ∧ acc.length < sizeLine ∧ ∀ x H',J.yld i H x H' → g x τ H' fun τ1 H1 => tt τ1 H1 fun b H2 =>
      if b = true then te τ1 H2 fun y H3 => ∃ m',m' < m ∧ W (i + 1) m' τ1 (acc ++ [y]) H3 else ∃ m',m' < m ∧ W (i + 1) m' τ1 acc H2)
def tComp (n0 : Nat) (fr : List Nat) (wi : TI) (g : TG) (tt : TT) (te : TE) : TE := fun σ H Q => wi σ H (CompG n0 fr g tt te σ Q)
theorem relabel_cell {env : Env} : ∀ {names : List (Str × NameKind)} {y : Str},(∀ z ∈ names,z.2 ≠ .cell) →
    ((names.map fun (n,k) => if (k == NameKind.free && env.scope.kind == .function && env.kindOf n == some .cell) then (n,NameKind.cell) else (n,k)).lookup y = some .cell ∨
     (names.map fun (n,k) => if (k == NameKind.free && env.scope.kind == .function && env.kindOf n == some .cell) then (n,NameKind.cell) else (n,k)).lookup y = some .free) → (y,NameKind.free) ∈ names
  | [],y,_,h => by simp at h
  | (n,k) :: r,y,hc,h => by
    have ih := @relabel_cell env r y fun z hz => hc z (List.mem_cons_of_mem _ hz)
    by_cases hy : y = n
    · subst hy
      by_cases hk : k = .free
      · subst hk; exact List.mem_cons_self
      · have hkb : (k == NameKind.free) = false := by simpa using hk
        simp only [List.map_cons,hkb,Bool.false_and,Bool.false_eq_true,if_false,List.lookup_cons_self,Option.some.injEq] at h
        rcases h with h | h
        · exact absurd h (hc _ List.mem_cons_self)
        · exact absurd h hk
    · have hyb : (y == n) = false := by simpa using hy
      refine List.mem_cons_of_mem _ (ih ?_)
      simp only [List.map_cons] at h
      by_cases hcnd : (k == NameKind.free && env.scope.kind == .function && env.kindOf n == some .cell) = true
      · rw [if_pos hcnd] at h
        simp only [List.lookup_cons,hyb] at h
        exact h
      · rw [if_neg hcnd] at h
        simp only [List.lookup_cons,hyb] at h
        exact h
theorem lookup_relabel_free {env : Env} : ∀ {names : List (Str × NameKind)} {y : Str},names.lookup y = some .free →
    (names.map fun (n,k) => if (k == NameKind.free && env.scope.kind == .function && env.kindOf n == some .cell) then (n,NameKind.cell) else (n,k)).lookup y = some .cell ∨
     (names.map fun (n,k) => if (k == NameKind.free && env.scope.kind == .function && env.kindOf n == some .cell) then (n,NameKind.cell) else (n,k)).lookup y = some .free
  | [],y,h => by simp at h
  | (n,k) :: r,y,h => by
    have ih := @lookup_relabel_free env r y
    simp only [List.map_cons]
    cases hy : y == n with
    | true =>
      simp only [List.lookup_cons,hy] at h
      cases h
      by_cases hcnd : (NameKind.free == NameKind.free && env.scope.kind == .function && env.kindOf n == some .cell) = true
      · rw [if_pos hcnd]; simp [List.lookup_cons,hy]
      · rw [if_neg hcnd]; simp [List.lookup_cons,hy]
    | false =>
      simp only [List.lookup_cons,hy] at h
      by_cases hcnd : (k == NameKind.free && env.scope.kind == .function && env.kindOf n == some .cell) = true
      · rw [if_pos hcnd]; simp only [List.lookup_cons,hy]; exact ih h
      · rw [if_neg hcnd]; simp only [List.lookup_cons,hy]; exact ih h
def FrOk (X : Cx) (scope : Scope) : List (Str × Nat) → Prop
  | [] => True
  | p :: r => X.N[p.2]? = some p.1 ∧ scope.names.lookup p.1 = some .free ∧ FrOk X scope r
theorem FrOk.all {X : Cx} {scope : Scope} : ∀ {fr : List (Str × Nat)},FrOk X scope fr → ∀ p ∈ fr,X.N[p.2]? = some p.1 ∧ scope.names.lookup p.1 = some .free
  | p :: r,h,q,hq => by
    rcases List.mem_cons.mp hq with e | e
    · subst e; exact ⟨h.1,h.2.1⟩
    · exact FrOk.all h.2.2 q e
section
variable {X : Cx}
theorem pe_comp {tg iter elt : Expr} {ifs : List Expr} {scope : Scope} {wi : TI} {g : TG} {tt : TT} {te : TE} {own : List Str} {fr : List (Str × Nat)} {pos : Pos}
    (hc : X.calm = true) (hi : PI X tg iter wi)
    (hk : scope.kind = .function) (hcell : ∀ y ∈ scope.names,y.2 ≠ .cell) (hnames : ∀ y ∈ scope.names,y.2 = .local → scope.names.lookup y.1 = some .local)
    (hfree : ∀ y ∈ scope.names,y.2 = .free → X.env.kindOf y.1 = some .cell ∨ X.env.kindOf y.1 = some .free) (hfr : FrOk X scope fr)
    (hg : ∀ C s H ex,PG (cxComp X scope (own ++ fr.map (·.1)) C s H ex) tg g)
    (ht : ∀ C s H ex,PTs (cxComp X scope (own ++ fr.map (·.1)) C s H ex) ifs tt)
    (he : ∀ C s H ex,PE (cxComp X scope (own ++ fr.map (·.1)) C s H ex) elt te)
    (hs : ∀ x,foldedSetIterable iter X.env x = pure x := by intro _; rfl) :
    PE X (.ListComp elt [⟨tg,iter,ifs,0⟩] scope pos) (tComp own.length (fr.map (·.2)) wi g tt te) := by
  intro pins s σ H Q I h
  rw [eval_ListComp]
  have hcl : ∀ y c,(closOf X.env scope.names).lookup y = some c → X.env.cells.lookup y = some c := fun y c e => by
    rcases clos_some scope.names [] e with q | ⟨q,z⟩
    · simp at q
    · obtain ⟨c',e'⟩ := I.ok.has y (hfree _ q rfl)
      rw [e'] at z
      rw [e',← z]
      rfl
  have hclos : closureFor scope X.env = pure (closOf X.env scope.names) := closureFor_of fun y hy e => I.ok.has y.1 (hfree y hy e)
  refine wpAny_comprehension_free (use := none) (cl := closOf X.env scope.names) rfl hs hclos hk hnames ?_
  refine thn (hi pins s σ H _ I h) fun v s1 h1 => thn h1 fun itv s2 h2 => ?_
  obtain ⟨it,fp,tn,J,H2,e,I2,T,st2,f2,W,⟨m0,w0⟩,turn⟩ := h2
  subst e
  refine wpAny_newObj_type (wpAny_newFunctionEnv hcell (by intro y hy; simp at hy) (fun h₁ hns₁ hsb₁ => ?_) hk)
  dsimp only at hns₁ hsb₁ ⊢
  generalize hH2 : s2.heap.push { cls := .type "list", dict := none,data := .seq ([] : List Value).toArray } = HL at hns₁ hsb₁ ⊢
  have hC : HL.objs.size = s2.heap.objs.size + 1 := by rw [← hH2,Heap.size_push]
  generalize hCC : HL.objs.size = C at hns₁ hsb₁ hC ⊢
  have hDC : s2.heap.objs.size ≠ C := by rw [hC]; exact Nat.ne_of_lt (Nat.lt_succ_self _)
  have below : ∀ b,b < s2.heap.objs.size → b ≠ C ∧ b ≠ s2.heap.objs.size := fun b hb => ⟨by rw [hC]; exact Nat.ne_of_lt (Nat.lt_succ_of_lt hb),Nat.ne_of_lt hb⟩
  have old : ∀ b o,s2.heap.get? b = some o → h₁.get? b = some o := fun b o e => hsb₁.extBut b o (below b (Heap.lt_size e)).1 (Heap.get?_push_of_some _ (hH2 ▸ Heap.get?_push_of_some _ e))
  have eD0 : h₁.get? s2.heap.objs.size = some { cls := .type "list", data := .seq ([] : List Value).toArray } := hsb₁.extBut _ _ hDC (Heap.get?_push_of_some _ (hH2 ▸ Heap.get?_push_size _ rfl))
  have fpLt : ∀ b ∈ fp,b < s2.heap.objs.size := fun b hb => by
    obtain ⟨o,e,_⟩ := T.obj _ _ st2 b hb
    exact Heap.lt_size e
  generalize hD : s2.heap.objs.size = D at hDC below eD0 fpLt hC
  have hDfp : D ∉ fp := fun z => Nat.lt_irrefl _ (fpLt D z)
  have okY : (cxComp X scope (own ++ fr.map (·.1)) C s2 H2 fp).Ok := by
    refine ⟨I2.ok.mod,hk,I2.ok.glob,I2.ok.blt,by show s2.heap.objs.size ≤ C; omega,fun x y c e1 e2 => I2.ok.inj x y c (hcl x c e1) (hcl y c e2),fun y hy => ?_,fun x c z _ => (by cases z),I2.ok.hd,I2.ok.frames,.inl rfl,fun b hb => ⟨(below b (fpLt b hb)).1,fun y c e => ?_⟩,I2.bs,
      Nat.le_trans I2.ok.bsz I2.sz,fun b o e hb => ?_,fun b hb z => ?_,I2.stack,I2.stkFree⟩
    · exact clos_has scope.names [] (.inl (relabel_cell (env := X.env) hcell hy))
    · exact (f2 b hb).2.2.2.2.1 y c (hcl y c e)
    · rcases (f2 b hb).2.2.2.1 with z | z
      · exact I2.ok.noex b o e z
      · exact absurd (Nat.lt_of_lt_of_le (Heap.lt_size e) (Nat.le_trans I2.ok.bsz z)) (Nat.lt_irrefl _)
    · rcases List.mem_cons.mp (I2.stkSub b z) with q | q
      · exact (f2 b hb).2.1 q
      · exact (f2 b hb).2.2.1 q
  have cellLt : ∀ y c,X.env.cells.lookup y = some c → c < D := fun y c e => by
    obtain ⟨v,z⟩ := I2.cell y c e
    exact Nat.lt_of_lt_of_le z.lt (Nat.le_of_eq hD)
  have stkLt : ∀ b ∈ frs X.stack,b < D := fun b hb => by
    rcases List.mem_cons.mp (I2.stkSub b hb) with q | q
    · rw [q]; exact Nat.lt_of_lt_of_le I2.lt (Nat.le_of_eq hD)
    · obtain ⟨_,o,ho,_⟩ := I2.ok.funs.mem q
      exact Nat.lt_of_lt_of_le (Heap.lt_size ho) (Nat.le_trans I2.sz (Nat.le_of_eq hD))
  have fresh : ∀ a,D ≤ a → H2 a = none := fun a ha => I2.hok.fresh (Nat.le_trans (Nat.le_of_eq hD) ha)
  have IY : Inv (cxComp X scope (own ++ fr.map (·.1)) C s2 H2 fp) [] (List.replicate own.length none ++ (fr.map (·.2)).map (pick σ)) H2 { s2 with heap := h₁,toks := s2.toks + ([] : List (Str × Value)).length } := by
    refine ⟨okY,rfl,I2.bare,Un.kept old,⟨_,hns₁,fun i y v e1 e2 e3 => ?_⟩,fun y c e => ?_,fresh C (by omega),fun y c e => I2.freeC y c (hcl y c e),fun p hp => absurd (show p ∈ ([] : List (Addr × Obj)) from hp) (by simp),I2.hok.kept old,?_⟩
    · have e1 : (own ++ fr.map (·.1))[i]? = some y := e1
      have hi' : own.length ≤ i := by
        by_cases hlt : i < own.length
        · rw [List.getElem?_append_left (by simpa using hlt),List.getElem?_replicate,if_pos hlt] at e2
          cases e2
        · omega
      rw [List.getElem?_append_right hi',List.getElem?_map] at e1
      rw [List.getElem?_append_right (by simpa using hi'),List.getElem?_map,List.getElem?_map,List.length_replicate] at e2
      cases hp : fr[i - own.length]? with
      | none => rw [hp] at e1; cases e1
      | some p =>
        rw [hp] at e1 e2
        have ey : p.1 = y := Option.some.inj e1
        have ev : pick σ p.2 = some v := Option.some.inj e2
        obtain ⟨a1,a3⟩ := hfr.all p (List.mem_of_getElem? hp)
        have es : σ[p.2]? = some (some v) := by
          unfold pick at ev
          cases q : σ[p.2]? with
          | none => rw [q] at ev; cases ev
          | some z => rw [q] at ev; exact congrArg some ev
        have hfk : X.env.kindOf p.1 = some .cell ∨ X.env.kindOf p.1 = some .free := hfree (p.1,.free) (PySem.mem_of_lookup a3) rfl
        obtain ⟨m,hn,hl⟩ := I2.loc
        obtain ⟨u,r,l⟩ := hl p.2 p.1 v a1 es (hfk.elim (fun z => .inr (.inl z)) fun z => .inr (.inr z))
        refine ⟨u,r,.inr ?_⟩
        rcases l with ⟨z,_⟩ | ⟨_,c,ec,zc⟩
        · rcases hfk with q | q <;> rw [z] at q <;> cases q
        · obtain ⟨c',ec'⟩ := clos_has (env := X.env) (y := p.1) scope.names [] (.inl (PySem.mem_of_lookup a3))
          have : c' = c := Option.some.inj ((hcl _ _ ec').symm.trans ec)
          subst this
          rw [← ey]
          obtain ⟨o,ho,hdd⟩ := zc
          exact ⟨lookup_relabel_free (env := X.env) a3,c',ec',o,old _ o ho,hdd⟩
    · obtain ⟨v,z⟩ := I2.cell y c (hcl y c e)
      obtain ⟨o,ho,hdd⟩ := z
      exact ⟨v,o,old _ o ho,hdd⟩
    · show (List.replicate own.length (none : Option V) ++ (fr.map (fun p => p.2)).map (pick σ)).length = (own ++ fr.map (fun p => p.1)).length
      simp
  have fpY : ∀ {H3 : Hp} {ob : Obj},(∀ b ∈ fp,H3 b = none) → ∀ b ∈ fp,FpOk (cxComp X scope (own ++ fr.map (·.1)) C s2 H2 fp) [(D,ob)] H3 b := fun {H3 ob} hn b hb =>
    ⟨hn b hb,(below b (fpLt b hb)).1,fun z => okY.exfs b hb z,.inl hb,fun y c e => (okY.exf b hb).2 y c e,fun p hp => by
      have e : p = (D,ob) := by simpa [cxComp] using hp
      rw [e]
      show D ≠ b
      exact fun z => hDfp (z ▸ hb)⟩
  have noC : ∀ (xs : Array Value) (k : Nat) (v : Option Value),({ cls := .type "list", data := .seq xs k } : Obj).data ≠ .cell v := fun xs k v z => by cases z
  have loop : ∀ s₃ : Shared,s₃ = { s2 with heap := h₁,toks := s2.toks + ([] : List (Str × Value)).length } →
      codeAny (model X.prog X.w) X.A (.compLoop (.ListComp elt [⟨tg,iter,ifs,0⟩] scope pos) 0 (.ref it) (.ref D) (compEnvC scope (closOf X.env scope.names) C X.env))
        (compPost (model X.prog X.w) X.A X.xe none (EP X pins σ Q) (.ref D) C) s₃ := by
    rintro s₃ rfl
    refine compLoop_gen (fun n s' => ∃ (i : Nat) (τ : St) (acc : List V) (H' : Hp) (its : List Value) (k : Nat),Inv (cxComp X scope (own ++ fr.map (·.1)) C s2 H2 fp) [] τ H' s' ∧ tn i s'.heap ∧ (∀ b ∈ fp,H' b = none) ∧ H' D = none ∧ Vals acc its ∧
      s'.heap.get? D = some { cls := .type "list", data := .seq its.toArray k } ∧ acc.length ≤ sizeLine ∧ W i n τ acc H') ?_ m0
      ⟨0,_,[],H2,[],0,IY,T.keep _ _ _ st2 fun b _ o e => old b o e,fun b hb => (f2 b hb).1,fresh D (Nat.le_refl _),.nil,eD0,Nat.zero_le _,w0⟩
    rintro n s3 ⟨i,τ,acc,H3,its,k,I3,st3,fr3,fD,rv,eD,hz,w3⟩
    have I3' : Inv (cxComp X scope (own ++ fr.map (·.1)) C s2 H2 fp) [(D,{ cls := .type "list", data := .seq its.toArray k })] τ H3 s3 := I3.pins_of fun p hp => by
      have e : p = (D,{ cls := .type "list", data := .seq its.toArray k }) := by simpa using hp
      subst e
      exact ⟨eD,fD,hDC,fun z => Nat.lt_irrefl _ (stkLt D z),noC _ _⟩
    rcases turn i n τ acc H3 w3 with ⟨stop,qn⟩ | ⟨go,hlt,step⟩
    · refine thn (T.done (cxComp X scope (own ++ fr.map (·.1)) C s2 H2 fp) rfl rfl rfl hc i _ s3 τ H3 (fun _ _ => False) I3' (fpY fr3) st3 stop) fun r s4 ⟨hr,I4⟩ => ?_
      subst hr
      obtain ⟨m,hn4,_⟩ := I4.loc
      obtain ⟨eD4,fD4,_⟩ := I4.pin (D,{ cls := .type "list", data := .seq its.toArray k }) (List.mem_append_right _ (List.mem_singleton.mpr rfl))
      refine ⟨m,hn4,fun h' sb => ?_⟩
      have b4 : Un (frs X.stack) fp H2 H3 s2.heap s4.heap := I4.base
      have lt2 : ∀ b o,s2.heap.get? b = some o → b ≠ C ∧ b ≠ D := fun b o e => below b (Nat.lt_of_lt_of_le (Heap.lt_size e) (Nat.le_of_eq hD))
      have tr2 : ∀ b o,H2 b = some o → b ≠ D := fun b o e z => by
        have := fresh D (Nat.le_refl _)
        rw [z,this] at e
        cases e
      have un : Un (frs X.stack) fp H2 (upd H3 D (.lst acc)) s2.heap h' := by
        refine ⟨fun b o e n hb hx => (sb.2 b (lt2 b o e).1).trans (b4.keep b o e n hb hx),fun b o e n hb hx => ?_,fun b o e n hx => ?_,fun b o e hx => ?_,fun b xs e => ?_,fun b o u e => ?_,fun b ps e => ?_⟩
        · obtain ⟨sl,q⟩ := b4.slot b o e n hb hx
          exact ⟨sl,(sb.2 b (lt2 b o e).1).trans q⟩
        · rw [upd_ne (lt2 b o e).2]; exact b4.free b o e n hx
        · obtain ⟨o',q⟩ := b4.there b o e hx
          exact ⟨o',(sb.2 b (lt2 b o e).1).trans q⟩
        · rw [upd_ne (tr2 _ _ e)]; exact b4.tups b xs e
        · rw [upd_ne (tr2 _ _ e)]; exact b4.frzs b o u e
        · rw [upd_ne (tr2 _ _ e)]; exact b4.tbls b ps e
      have hok' : HOk X.prog X.w (upd H3 D (.lst acc)) h' := by
        have q : HOk X.prog X.w H3 h' := HOk.other (a := C) I4.hok I4.free fun b u hb e => (sb.2 b hb).trans e
        exact q.track fD4 ⟨hz,its,k,rv,(sb.2 D hDC).trans eD4⟩
      refine ⟨.ref D,upd H3 D (.lst acc),I2.call' (s' := { s4 with heap := h' }) (ch := fp) I4.os un hok' I4.bare fun b hb => ⟨(f2 b hb).2.2.2.1,(f2 b hb).2.1,(f2 b hb).2.2.2.2.1,(f2 b hb).2.2.2.2.2⟩,rfl,qn D fD4⟩
    · refine thn (T.item (cxComp X scope (own ++ fr.map (·.1)) C s2 H2 fp) rfl rfl rfl hc i _ s3 τ H3 (fun _ _ => False) I3' (fpY fr3) st3 go) fun r s4 ⟨u,hr,h4⟩ => ?_
      subst hr
      refine thn h4 fun _ s5 ⟨x,H5,I5,r5,y5,st5,fr5⟩ => ?_
      have I5' := I5.pinned (fpY fr5) (T.obj _ _ st5)
      refine thn (hg _ _ _ _ _ s5 τ H5 x u _ I5' r5 (step x H5 y5)) fun _ s6 ⟨τ6,H6,I6,q6⟩ => ?_
      refine thn (ht _ _ _ _ _ s6 τ6 H6 _ I6 q6) fun b s7 ⟨H7,I7,q7⟩ => ?_
      have facts : ∀ {s8 : Shared} {H8 : Hp} {τ8 : St},Inv (cxComp X scope (own ++ fr.map (·.1)) C s2 H2 fp) ([(D,{ cls := .type "list", data := .seq its.toArray k })] ++ pinsAt fp s5.heap) τ8 H8 s8 →
          tn (i + 1) s8.heap ∧ (∀ b ∈ fp,H8 b = none) ∧ H8 D = none ∧ s8.heap.get? D = some { cls := .type "list", data := .seq its.toArray k } := fun {s8 H8 τ8} I8 => by
        have hp : ∀ b ∈ fp,∀ o,s5.heap.get? b = some o → s8.heap.get? b = some o ∧ H8 b = none := fun b hb o e => by
          have q := I8.pin (b,o) (List.mem_append_right _ (List.mem_append_right _ (mem_pinsAt hb e)))
          exact ⟨q.1,q.2.1⟩
        have qD := I8.pin (D,{ cls := .type "list", data := .seq its.toArray k }) (List.mem_append_right _ (List.mem_append_left _ (List.mem_singleton.mpr rfl)))
        refine ⟨T.keep _ _ _ st5 fun b hb o e => (hp b hb o e).1,fun b hb => ?_,qD.2.1,qD.1⟩
        obtain ⟨o,e,_⟩ := T.obj _ _ st5 b hb
        exact (hp b hb o e).2
      cases b with
      | false =>
        have q7 : ∃ m',m' < n ∧ W (i + 1) m' τ6 acc H7 := q7
        obtain ⟨m',hm,w7⟩ := q7
        obtain ⟨z1,z2,z3,z4⟩ := facts I7
        exact ⟨m',hm,i + 1,τ6,acc,H7,its,k,I7.pins_of fun p hp => absurd hp (by simp),z1,z2,z3,rv,z4,hz,w7⟩
      | true =>
        refine thn (he _ _ _ _ _ s7 τ6 H7 _ I7 q7) fun u8 s8 ⟨y,H8,I8,r8,m',hm,w8⟩ => ?_
        obtain ⟨z1,z2,z3,z4⟩ := facts I8
        have hl := rv.length
        refine call_meets F.slot_list_append ⟨_,z4,rfl⟩ F.entry_list_append (F.args_list_append_2 _ _) (PySem.list_append D its.toArray k u8 (by rw [List.size_toArray]; omega)) ⟨z4,?_⟩
        have z5 := PySem.IsL.update z4 (·.push u8)
        have z6 : its.toArray.push u8 = (its ++ [u8]).toArray := by simp
        rw [z6] at z5
        have kk : ∀ b o,b ≠ D → s8.heap.get? b = some o → (s8.heap.update D (Obj.mapSeq (·.push u8))).get? b = some o := fun b o hb e => (Heap.get?_update_other s8.heap (Obj.mapSeq (·.push u8)) (Ne.symm hb)).trans e
        have I8' : Inv (cxComp X scope (own ++ fr.map (·.1)) C s2 H2 fp) [] τ6 H8 s8 := I8.pins_of fun p hp => absurd hp (by simp)
        refine ⟨m',hm,i + 1,τ6,acc ++ [y],H8,its ++ [u8],_,I8'.turned (it := D) kk z3 hDC (.inr (by show s2.heap.objs.size ≤ D; omega)) (fun y c e => Nat.ne_of_lt (cellLt y c (hcl y c e))) (fun p hp => absurd (show p ∈ ([] : List (Addr × Obj)) from hp) (by simp)),?_,z2,z3,
          rv.append (.cons r8 .nil),z5,?_,w8⟩
        · exact T.keep _ _ _ z1 fun b hb o e => kk b o (fun z => hDfp (z ▸ hb)) e
        · rw [List.length_append,List.length_singleton]; omega
  exact codeAny_compStart_list (loop _ rfl) (T.self X.A 0 _ _ _ (T.keep _ _ _ st2 fun b _ o e => old b o e) (loop _ rfl))
end
section
variable {X : Cx}
theorem pe_comp1 {iter elt : Expr} {ifs : List Expr} {scope osc : Scope} {wi : TI} {tt : TT} {te : TE} {x : Str} {px : Pos} {pos : Pos} (fr : List (Str × Nat))
    (hc : X.calm = true) (hi : PI X (.Name x px) iter wi) (ho : X.env.scope = osc)
    (hk : scope.kind = .function) (hcell : ∀ y ∈ scope.names,y.2 ≠ .cell) (hnames : ∀ y ∈ scope.names,y.2 = .local → scope.names.lookup y.1 = some .local)
    (hfree : ∀ y ∈ scope.names,y.2 = .free → osc.names.lookup y.1 = some .cell ∨ osc.names.lookup y.1 = some .free) (hfr : FrOk X scope fr)
    (hx : scope.names.lookup x = some .local) (hnd : (x :: fr.map (·.1)).Nodup)
    (ht : ∀ C s H ex,PTs (cxComp X scope (x :: fr.map (·.1)) C s H ex) ifs tt)
    (he : ∀ C s H ex,PE (cxComp X scope (x :: fr.map (·.1)) C s H ex) elt te)
    (hs : ∀ x,foldedSetIterable iter X.env x = pure x := by intro _; rfl) :
    PE X (.ListComp elt [⟨.Name x px,iter,ifs,0⟩] scope pos) (tComp 1 (fr.map (·.2)) wi (gName 0) tt te) :=
  pe_comp (own := [x]) hc hi hk hcell hnames (fun y hy e => by show X.env.scope.names.lookup y.1 = _ ∨ X.env.scope.names.lookup y.1 = _; rw [ho]; exact hfree y hy e) hfr
    (fun C s H ex => pg_name (i := 0) hnd rfl (.inl (lookup_relabel_local hx)) (.inr (lookup_relabel_local hx))) ht he hs
end
def Its (z : Str) : It := ⟨fun i _ => i < z.cps.size,fun i H x H' => H' = H ∧ ∃ c,z.cps[i]? = some c ∧ x = .str ⟨#[c]⟩,fun i _ => z.cps.size ≤ i⟩
def iStr (tl : TE) : TI := fun σ H R => tl σ H fun x H1 => ∃ z,x = .str z ∧ R (Its z) H1
theorem turn_str {P : Program} {w : World} {K : PySem.W.Frag} {tg : Expr} (it : Addr) (z : Str) (t : Tok) (ty : String) (hty : ty = "str_ascii_iterator" ∨ ty = "str_iterator") : Turn P w K tg (Its z) [it] it (fun i h => i ≤ z.cps.size ∧ h.IsStrIter it ty z t i) where
  mem := by simp
  obj := fun i h st b hb => by
    have e : b = it := by simpa using hb
    subst e
    obtain ⟨_,o,e,c,d⟩ := st
    exact ⟨o,e,fun v z => by rw [d] at z; cases z⟩
  keep := fun i h h' st k => by
    obtain ⟨hi,o,e,r⟩ := st
    exact ⟨hi,o,k it (by simp) o e,r⟩
  item := by
    intro X hP hw hK hc i pins s σ H E I hf st hg
    subst hP hw hK
    obtain ⟨f0,f1,f2,f3,f4,f5⟩ := hf it (by simp)
    have hg : i < z.cps.size := hg
    rcases hty with e | e <;> subst e
    · have W := Walks.strAscii (prog := X.prog) (w := X.w) (I.ok.hd hc) it z t
      refine W.item i s _ _ hg st.2 fun v h' tk hv st' kk => ?_
      obtain ⟨c,u,hc',rfl⟩ := hv
      have I1 : Inv X pins σ H { s with heap := h',toks := tk } := I.turned (fun b o hb e => kk b o (by simpa using hb) e) f0 f1 f3 f4 f5
      obtain ⟨o,e,c1,d⟩ := id st'
      exact ⟨_,rfl,go_of (s := { s with heap := h',toks := tk }) e c1 d (by decide) ⟨.str ⟨#[c]⟩,H,I1,⟨_,rfl⟩,⟨rfl,c,hc',rfl⟩,⟨hg,st'⟩,fun b hb => (hf b hb).1⟩⟩
    · have W := Walks.strWide (prog := X.prog) (w := X.w) (I.ok.hd hc) it z t
      refine W.item i s _ _ hg st.2 fun v h' tk hv st' kk => ?_
      obtain ⟨c,u,hc',rfl⟩ := hv
      have I1 : Inv X pins σ H { s with heap := h',toks := tk } := I.turned (fun b o hb e => kk b o (by simpa using hb) e) f0 f1 f3 f4 f5
      obtain ⟨o,e,c1,d⟩ := id st'
      exact ⟨_,rfl,go_of (s := { s with heap := h',toks := tk }) e c1 d (by decide) ⟨.str ⟨#[c]⟩,H,I1,⟨_,rfl⟩,⟨rfl,c,hc',rfl⟩,⟨hg,st'⟩,fun b hb => (hf b hb).1⟩⟩
  done := by
    intro X hP hw hK hc i pins s σ H E I hf st hg
    subst hP hw hK
    obtain ⟨f0,f1,f2,f3,f4,f5⟩ := hf it (by simp)
    have hg : z.cps.size ≤ i := hg
    have hi : i = z.cps.size := Nat.le_antisymm st.1 hg
    subst hi
    rcases hty with e | e <;> subst e
    · have W := Walks.strAscii (prog := X.prog) (w := X.w) (I.ok.hd hc) it z t
      exact W.done s _ _ st.2 fun h' tk kk => ⟨rfl,I.turned (fun b o hb e => kk b o (by simpa using hb) e) f0 f1 f3 f4 f5⟩
    · have W := Walks.strWide (prog := X.prog) (w := X.w) (I.ok.hd hc) it z t
      exact W.done s _ _ st.2 fun h' tk kk => ⟨rfl,I.turned (fun b o hb e => kk b o (by simpa using hb) e) f0 f1 f3 f4 f5⟩
  self := fun _ _ _ _ _ st h => by
    rcases hty with e | e <;> subst e
    · exact wpAny_pyIter_striter_ascii st.2 h
    · exact wpAny_pyIter_striter_wide st.2 h
section
variable {X : Cx} {tg : Expr}
theorem pi_str {l : Expr} {tl : TE} (hl : PE X l tl) : PI X tg l (iStr tl) := by
  intro pins s σ H R I h
  refine thn (hl pins s σ H _ I h) fun v s1 ⟨x,H1,I1,r1,q1⟩ => ?_
  obtain ⟨z,e,q⟩ := q1
  subst e
  obtain ⟨t,rfl⟩ := r1
  cases ha : z.cps.all (· < 128)
  · refine wpAny_pyIter_wide ha ?_
    refine ⟨s1.heap.objs.size,[s1.heap.objs.size],_,_,H1,rfl,I1.kept (t' := s1.toks) fun b o e => Heap.get?_push_of_some _ e,turn_str _ z t "str_iterator" (.inr rfl),⟨Nat.zero_le _,_,Heap.get?_push_size _ rfl,rfl,rfl⟩,fun b hb => ?_,q⟩
    have e : b = s1.heap.objs.size := by simpa using hb
    subst e
    exact I1.fpOk (Nat.le_refl _) (I1.hok.fresh (Nat.le_refl _))
  · refine wpAny_pyIter_ascii ha ?_
    refine ⟨s1.heap.objs.size,[s1.heap.objs.size],_,_,H1,rfl,I1.kept (t' := s1.toks) fun b o e => Heap.get?_push_of_some _ e,turn_str _ z t "str_ascii_iterator" (.inl rfl),⟨Nat.zero_le _,_,Heap.get?_push_size _ rfl,rfl,rfl⟩,fun b hb => ?_,q⟩
    have e : b = s1.heap.objs.size := by simpa using hb
    subst e
    exact I1.fpOk (Nat.le_refl _) (I1.hok.fresh (Nat.le_refl _))
end
theorem comp_pure {J : It} {fr : List Nat} {tt : TT} {te : TE} {σ : St} {H : Hp} {Q : VK} (xs : List V) (p : V → Bool) (f : V → V) (hn : xs.length ≤ sizeLine)
    (hgo : ∀ i,i < xs.length → J.go i H) (hst : J.stop xs.length H) (hy : ∀ i x H',i < xs.length → J.yld i H x H' → H' = H ∧ xs[i]? = some x)
    (htt : ∀ x (R : Bool → Hp → Prop),x ∈ xs → R (p x) H → tt (some x :: fr.map (pick σ)) H R)
    (hte : ∀ x (R : VK),x ∈ xs → p x = true → R (f x) H → te (some x :: fr.map (pick σ)) H R)
    (hd : ∀ D,H D = none → Q (.ref D) (upd H D (.lst ((xs.filter p).map f)))) :
    CompG 1 fr (gName 0) tt te σ Q J H := by
  refine ⟨fun i m τ acc H' => m = xs.length - i ∧ i ≤ xs.length ∧ H' = H ∧ (∃ o,τ = o :: fr.map (pick σ)) ∧ acc = (((xs.take i).filter p).map f),⟨xs.length,by simp,Nat.zero_le _,rfl,⟨none,rfl⟩,rfl⟩,?_⟩
  rintro i m τ acc H' ⟨rfl,hi,rfl,⟨o,rfl⟩,rfl⟩
  by_cases hlt : i < xs.length
  · refine .inr ⟨hgo i hlt,?_,fun x H1 y => ?_⟩
    · rw [List.length_map]
      have h1 : ((xs.take i).filter p).length ≤ (xs.take i).length := List.length_filter_le _ _
      rw [List.length_take] at h1
      omega
    · obtain ⟨e1,e2⟩ := hy i x H1 hlt y
      subst e1
      have hx : x ∈ xs := List.mem_of_getElem? e2
      show tt ((o :: fr.map (pick σ)).set 0 (some x)) _ _
      refine htt x _ hx ?_
      have ht := take_succ_filter p xs i x e2
      cases hp : p x with
      | true =>
        show te (some x :: fr.map (pick σ)) _ _
        refine hte x _ hx hp ⟨xs.length - (i + 1),by omega,rfl,hlt,rfl,⟨some x,rfl⟩,?_⟩
        rw [ht,hp]
        simp
      | false =>
        show ∃ m',m' < xs.length - i ∧ _
        refine ⟨xs.length - (i + 1),by omega,rfl,hlt,rfl,⟨some x,rfl⟩,?_⟩
        rw [ht,hp]
        simp
  · have e : i = xs.length := by omega
    subst e
    rw [List.take_length]
    exact .inl ⟨hst,hd⟩
theorem comp_pure_list {K : PySem.W.Frag} {a : Addr} {fr : List Nat} {tt : TT} {te : TE} {σ : St} {H : Hp} {Q : VK} {xs : List V} (p : V → Bool) (f : V → V) (hq : SqL K H a xs) (hn : xs.length ≤ sizeLine)
    (htt : ∀ x (R : Bool → Hp → Prop),x ∈ xs → R (p x) H → tt (some x :: fr.map (pick σ)) H R)
    (hte : ∀ x (R : VK),x ∈ xs → p x = true → R (f x) H → te (some x :: fr.map (pick σ)) H R)
    (hd : ∀ D,H D = none → Q (.ref D) (upd H D (.lst ((xs.filter p).map f)))) :
    CompG 1 fr (gName 0) tt te σ Q (Itl K a) H :=
  comp_pure xs p f hn (fun i hi => ⟨xs,xs[i],hq,by simp [hi]⟩) ⟨xs,hq,Nat.le_refl _⟩ (fun i x H' _ y => ⟨y.1,y.2 xs hq⟩) htt hte hd
def signsV (z : Str) : List V := z.cps.toList.map fun c => V.str ⟨#[c]⟩
theorem comp_pure_str {z : Str} {fr : List Nat} {tt : TT} {te : TE} {σ : St} {H : Hp} {Q : VK} (p : V → Bool) (f : V → V) (hn : z.length ≤ sizeLine)
    (htt : ∀ x (R : Bool → Hp → Prop),x ∈ signsV z → R (p x) H → tt (some x :: fr.map (pick σ)) H R)
    (hte : ∀ x (R : VK),x ∈ signsV z → p x = true → R (f x) H → te (some x :: fr.map (pick σ)) H R)
    (hd : ∀ D,H D = none → Q (.ref D) (upd H D (.lst (((signsV z).filter p).map f)))) :
    CompG 1 fr (gName 0) tt te σ Q (Its z) H := by
  have hl : (signsV z).length = z.cps.size := by simp [signsV]
  have hl2 : z.length = z.cps.size := rfl
  refine comp_pure (signsV z) p f (by omega) (fun i hi => by show i < z.cps.size; omega) (by show z.cps.size ≤ _; omega) (fun i x H' hi y => ?_) htt hte hd
  obtain ⟨e,c,hc,rfl⟩ := y
  refine ⟨e,?_⟩
  unfold signsV
  rw [List.getElem?_map]
  have : z.cps.toList[i]? = some c := by simpa using hc
  rw [this]
  rfl
def intsV (lo : Int) (n : Nat) : List V := (List.range n).map fun (i : Nat) => V.int (lo + (i : Int))
theorem comp_pure_range {lo : Int} {n : Nat} {fr : List Nat} {tt : TT} {te : TE} {σ : St} {H : Hp} {Q : VK} (p : V → Bool) (f : V → V) (hn : n ≤ sizeLine)
    (htt : ∀ x (R : Bool → Hp → Prop),x ∈ intsV lo n → R (p x) H → tt (some x :: fr.map (pick σ)) H R)
    (hte : ∀ x (R : VK),x ∈ intsV lo n → p x = true → R (f x) H → te (some x :: fr.map (pick σ)) H R)
    (hd : ∀ D,H D = none → Q (.ref D) (upd H D (.lst (((intsV lo n).filter p).map f)))) :
    CompG 1 fr (gName 0) tt te σ Q (Itr lo n) H := by
  have hl : (intsV lo n).length = n := by simp [intsV]
  refine comp_pure (intsV lo n) p f (by omega) (fun i hi => by show i < n; omega) (by show n ≤ _; omega) (fun i x H' hi y => ?_) htt hte hd
  obtain ⟨e,rfl⟩ := y
  refine ⟨e,?_⟩
  unfold intsV
  rw [List.getElem?_map,List.getElem?_range (by omega)]
  rfl
theorem all_at (ys : List Bool) : (List.range ys.length).all (fun i => ys.getD i false) = ys.all id := by
  induction ys with
  | nil => rfl
  | cons y r ih =>
    rw [List.length_cons,List.range_succ_eq_map,List.all_cons,List.all_map,List.all_cons]
    show (y && _) = (y && _)
    rw [← ih]
    rfl
section
variable {X : Cx}
theorem bools_at {ys : List Bool} {its : List Value} (r : Vals (ys.map V.bl) its) {i : Nat} {v : Value} (h : its.toArray[i]? = some v) : v = .bool (ys.getD i false) := by
  have h : its[i]? = some v := by simpa using h
  have hl := r.length
  rw [List.length_map] at hl
  have hi : i < ys.length := by rw [hl]; exact (List.getElem?_eq_some_iff.mp h).1
  obtain ⟨u,e,q⟩ := r.get (i := i) (x := V.bl (ys.getD i false)) (by simp [hi,List.getD_eq_getElem?_getD])
  rw [h] at e
  cases e
  exact q
theorem call_all_bools {K : PySem.W.Frag} (hc : X.calm = true) (hK : X.K = K := by rfl) : CallR X (.builtin "all") (fun xs H Q => ∃ (p : Addr) (ys : List Bool),xs = [.ref p] ∧ SqL K H p (ys.map V.bl) ∧ Q (.bl (ys.all id)) H) := by
  subst hK
  intro pins s σ H xs us Q I r h
  obtain ⟨p,ys,rfl,hq,q⟩ := h
  obtain ⟨u,rfl,ru⟩ := vals1 r
  cases ru
  obtain ⟨its,rv,pl,hz⟩ := I.list hq
  have hl := rv.length
  rw [List.length_map] at hl
  have hp : p < s.heap.objs.size := by obtain ⟨o,e,_⟩ := pl.isList; exact Heap.lt_size e
  refine call_all_walk (wpAny_pyIter_list pl.isList ?_)
  refine ⟨s.heap.objs.size,_,_,_,_,_,fun i => ys.getD i false,rfl,Walks.list (show X.A.in1.handled = none from I.ok.hd hc) _ p (Nat.ne_of_lt hp) its.toArray,⟨⟨_,Heap.get?_push_size _ rfl,rfl,rfl⟩,pl.isList.push _⟩,fun i v s' Q' E' hP hQ => ?_,fun h' tk hk => ?_⟩
  · rw [bools_at rv hP]
    exact wpAny_truthy_bool hQ
  · rw [List.size_toArray,← hl,all_at]
    refine ⟨.bl _,H,I.kept (t' := tk) fun b o e => hk b o (by simp; exact Nat.ne_of_lt (Heap.lt_size e)) (Heap.get?_push_of_some _ e),rfl,q⟩
def rSlS : V → Option Int → Option Int → Hp → VK → Prop := fun x lo hi H Q => ∃ z,x = .str z ∧ z.length ≤ sizeLine ∧ Q (.str (Txt.slice z lo hi)) H
theorem part_of {v : Value} {o : Option Int} (p : IsPart v o) : ∃ l : Option (Int × Tok),v = partValue l ∧ l.map (·.1) = o := by
  cases p with
  | none => exact ⟨none,rfl,rfl⟩
  | int i t => exact ⟨some (i,t),rfl,rfl⟩
theorem sl_str : SlR X rSlS := by
  intro pins s σ H x v vl vu lo hi sl Q I rx hs pl pu h
  obtain ⟨z,rfl,hz,q⟩ := h
  obtain ⟨t,rfl⟩ := rx
  obtain ⟨l,rfl,rfl⟩ := part_of pl
  obtain ⟨u,rfl,rfl⟩ := part_of pu
  exact ⟨"str", _,F.slot_str_getitem.lookup,typeIs_str _ _ _,wpAny_getItem_str_slice (l := l) (u := u) (st := none) hs rfl
    (post_val_or_str ⟨Nat.le_trans (Txt.slice_le z _ _) hz,fun t' k => ⟨.str _,H,I.tok _,⟨_,rfl⟩,q⟩⟩)⟩
theorem strsAre_of {zs : List Str} : ∀ {us : List Value},Vals (zs.map V.str) us → StrsAre us zs := by
  induction zs with
  | nil => intro us r; rw [List.map_nil] at r; cases r; exact .nil
  | cons n ns ih =>
    intro us r
    rw [List.map_cons] at r
    cases r with
    | cons r1 r2 =>
      obtain ⟨t,e⟩ := r1
      subst e
      exact .cons n t (ih r2)
theorem mt_join {K : PySem.W.Frag} (hK : X.K = K := by rfl) : MtR X "str.join" (fun x xs H Q => ∃ (sep : Str) (p : Addr) (zs : List Str),x = .str sep ∧ xs = [.ref p] ∧ SqL K H p (zs.map V.str) ∧ (zs.map (·.length)).sum + zs.length * sep.length ≤ 16777216 ∧ Q (.str (Txt.join sep zs)) H) := by
  subst hK
  intro pins s σ H x xs v us Q I rx rs h
  obtain ⟨sep,p,zs,rfl,rfl,hq,hz,q⟩ := h
  obtain ⟨t,rfl⟩ := rx
  obtain ⟨u,rfl,ru⟩ := vals1 rs
  cases ru
  obtain ⟨its,rv,pl,_⟩ := I.list hq
  exact join_list pl.isList (by simpa using strsAre_of rv) hz fun t' k => ⟨.str _,H,I.tok _,⟨_,rfl⟩,q⟩
theorem call_isinst {K : PySem.W.Frag} (hK : X.K = K := by rfl) : CallR X (.builtin "isinstance") (fun xs H Q => ∃ x n t b,xs = [x,.ty n] ∧ TyOf K H x t ∧ PySem.W.kitOne K t (.type n) = some b ∧ Q (.bl b) H) := by
  subst hK
  intro pins s σ H xs us Q I r h
  obtain ⟨x,n,t,b,rfl,ty,e,q⟩ := h
  obtain ⟨u,w',rfl,rx,rn⟩ := vals2 r
  cases (show w' = Value.type n from rn)
  exact isinst_ok I rx ty e fun tk => ⟨.bl b,H,I.tok _,rfl,q⟩
end
mutual
inductive Dv (K : PySem.W.Frag) (H : Hp) : V → PyData → Prop where
  | non : Dv K H .non .none
  | bl (b : Bool) : Dv K H (.bl b) (.bool b)
  | int (i : Int) : Dv K H (.int i) (.int i)
  | str (x : Str) : Dv K H (.str x) (.str x)
  | lst {a : Addr} {xs : List V} {ds : List PyData} : SqL K H a xs → Dvs K H xs ds → Dv K H (.ref a) (.list ds)
  | tup {a : Addr} {xs : List V} {ds : List PyData} : SqT K H a xs → Dvs K H xs ds → Dv K H (.ref a) (.tuple ds)
inductive Dvs (K : PySem.W.Frag) (H : Hp) : List V → List PyData → Prop where
  | nil : Dvs K H [] []
  | cons {x : V} {d : PyData} {xs : List V} {ds : List PyData} : Dv K H x d → Dvs K H xs ds → Dvs K H (x :: xs) (d :: ds)
end
section
variable {X : Cx} {pins : List (Addr × Obj)} {σ : St} {H : Hp} {s : Shared}
mutual
theorem Dv.reads (I : Inv X pins σ H s) : ∀ {x : V} {d : PyData} {u : Value},Dv X.K H x d → RelV x u → ∃ as,Reads s.heap u d as
  | _,_,_,.non,r => by cases (show _ = Value.none from r); exact ⟨_,.none⟩
  | _,_,_,.bl b,r => by cases (show _ = Value.bool b from r); exact ⟨_,.bool b⟩
  | _,_,_,.int i,r => by obtain ⟨t,rfl⟩ := r; exact ⟨_,.int i t⟩
  | _,_,_,.str x,r => by obtain ⟨t,rfl⟩ := r; exact ⟨_,.str x t⟩
  | _,_,_,.lst hq ds,r => by
    cases r
    obtain ⟨its,rv,pl,_⟩ := I.list hq
    obtain ⟨as,q⟩ := Dvs.reads I ds rv
    obtain ⟨o,e,c,n,d⟩ := pl.isList
    exact ⟨_,.list e c d (by simpa using q)⟩
  | _,_,_,.tup hq ds,r => by
    cases r
    obtain ⟨its,rv,pl,_⟩ := I.tuple hq
    obtain ⟨as,q⟩ := Dvs.reads I ds rv
    obtain ⟨o,e,c,n,d⟩ := pl
    exact ⟨_,.tuple e c d (by simpa using q)⟩
theorem Dvs.reads (I : Inv X pins σ H s) : ∀ {xs : List V} {ds : List PyData} {us : List Value},Dvs X.K H xs ds → Vals xs us → ∃ as,ReadsAll s.heap us ds as
  | _,_,_,.nil,r => by cases r; exact ⟨_,.nil⟩
  | _,_,_,.cons d ds,r => by
    cases r with
    | cons r1 r2 =>
      obtain ⟨as,q⟩ := Dv.reads I d r1
      obtain ⟨bs,p⟩ := Dvs.reads I ds r2
      exact ⟨_,.cons q p⟩
end
end
section
variable {X : Cx}
def rNeD (K : PySem.W.Frag) : R2 := fun x y H Q => ∃ d e,Dv K H x d ∧ Dv K H y e ∧ SeqAt.shaped d = true ∧ SeqAt.shaped e = true ∧ Q (.bl (!PyData.eqv d e)) H
theorem op_neD {K : PySem.W.Frag} (hu : X.A.units + 64 < cLine) (hK : X.K = K := by rfl) : OpR X (compareOp .NotEq) (rNeD K) := by
  subst hK
  intro pins s σ H x y v u Q I rx ry h
  obtain ⟨d,e,hd,he,sd,se,q⟩ := h
  obtain ⟨as,r1⟩ := hd.reads I rx
  obtain ⟨bs,r2⟩ := he.reads I ry
  exact ne_dataH r1 r2 sd se hu ⟨.bl _,H,I,rfl,q⟩
end
section
variable {X : Cx}
def rEqNil (K : PySem.W.Frag) : R2 := fun x y H Q => ∃ a b xs,x = .ref a ∧ y = .ref b ∧ SqL K H a xs ∧ SqL K H b [] ∧ Q (.bl xs.isEmpty) H
theorem op_eqNil {K : PySem.W.Frag} (hu : X.A.units < cLine) (hK : X.K = K := by rfl) : OpR X (compareOp .Eq) (rEqNil K) := by
  subst hK
  intro pins s σ H x y v u Q I rx ry h
  obtain ⟨a,b,xs,rfl,rfl,ha,hb,q⟩ := h
  cases rx
  cases ry
  obtain ⟨its,r1,p1,_⟩ := I.list ha
  obtain ⟨its2,r2,p2,_⟩ := I.list hb
  cases r2
  have hl := r1.length
  cases xs with
  | nil =>
    cases r1
    exact SeqAt.eq_listAt (e := fun _ => true) p1.isList p2.isList rfl hu (fun j h1 _ => absurd h1 (by simp)) ⟨.bl true,H,I,rfl,q⟩
  | cons x r =>
    refine SeqAt.eq_list_lengthsAt p1.isList p2.isList ?_ hu ⟨.bl false,H,I,rfl,q⟩
    rw [List.size_toArray,← hl]
    rfl
end
theorem atI_mod {α : Type} (xs : List α) (n : Int) (hn : (xs.length : Int) = n) (h0 : 0 < n) (c : Int) : ∃ v,atI xs (c % n) = some v ∧ v ∈ xs := by
  have h1 : 0 ≤ c % n := Int.emod_nonneg _ (by omega)
  have h2 : c % n < n := Int.emod_lt_of_pos _ h0
  obtain ⟨j,hj⟩ := Int.eq_ofNat_of_zero_le h1
  have hlt : j < xs.length := by omega
  refine ⟨xs[j],?_,List.getElem_mem hlt⟩
  rw [hj]
  exact atI_nat (List.getElem?_eq_getElem hlt)
theorem iteB {c : Bool} {A B : Prop} (h1 : c = true → A) (h2 : c = false → B) : if c = true then A else B := by
  cases c with
  | true => exact iteT (h1 rfl)
  | false => exact iteF (h2 rfl)
theorem Same.upd {H H' : Hp} {a : Addr} {o : HO} (e : Same H H') (h : H' a = none) : Same H (upd H' a o) := fun b u q => by
  rw [upd_ne (ne_of_none (e b u q) h)]
  exact e b u q
section
variable {X : Cx} {K : PySem.W.Frag}
theorem ix_listK (hK : X.K = K := by rfl) : IxR X (rIxL K) := by subst hK; exact ix_list
theorem ix_tupK (hK : X.K = K := by rfl) : IxR X (rIxT K) := by subst hK; exact ix_tup
theorem ix_seqK (hK : X.K = K := by rfl) : IxR X (rIx K) := by subst hK; exact ix_seq
theorem sl_listK (hK : X.K = K := by rfl) : SlR X (rSlL K) := by subst hK; exact sl_list
theorem sl_tupK (hK : X.K = K := by rfl) : SlR X (rSlT K) := by subst hK; exact sl_tup
theorem op_in_seqK (hK : X.K = K := by rfl) : OpR X (compareOp .In) (rIn K false) := by subst hK; exact op_in_seq
theorem op_notIn_seqK (hK : X.K = K := by rfl) : OpR X (compareOp .NotIn) (rIn K true) := by subst hK; exact op_notIn_seq
theorem call_len_seqK (hK : X.K = K := by rfl) : CallR X (.builtin "len") (fun xs H Q => ∃ p ys,xs = [.ref p] ∧ (SqL K H p ys ∨ SqT K H p ys) ∧ Q (.int ys.length) H) := by subst hK; exact call_len_seq
theorem call_list_ofK (hK : X.K = K := by rfl) : CallR X (.type "list") (fun xs H Q => ∃ p ys,xs = [.ref p] ∧ (SqL K H p ys ∨ SqT K H p ys) ∧ ∀ l,H l = none → Q (.ref l) (upd H l (.lst ys))) := by subst hK; exact call_list_of
theorem pi_listK {tg l : Expr} {tl : TE} (hl : PE X l tl) (hK : X.K = K := by rfl) : PI X tg l (iList K tl) := by subst hK; exact pi_list hl
theorem pi_tupK {tg l : Expr} {tl : TE} (hl : PE X l tl) (hK : X.K = K := by rfl) : PI X tg l (iTup K tl) := by subst hK; exact pi_tup hl
theorem pe_bmK {o e : Expr} {es : List Expr} {to : TE} {t : TA} {name : Str} {apos cpos : Pos} {T id : String} {r : V → List V → Hp → VK → Prop} (pa : PlainAttrs T) (slot : Slot T name id) (hty : typeOf (.builtin id) = pure (.type "method_descriptor")) (hm : MtR X id r) (ho : PE X o to) (ha : PA X (e :: es) t)
    (hK : X.K = K := by rfl) (hbase : attributeBase o name X.env (eval o X.env) = eval o X.env := by rfl)
    (hfew : ((backTo cpos (starEach (e :: es) X.env)).all (fun x => !x.1) && (backToKw cpos (keywordEach [] X.env)).all (fun x => x.1.isSome)
      && decide ((e :: es).length + ([] : List Keyword).length + (if ([] : List Keyword).isEmpty then 0 else 1) < 30)) = true := by rfl)
    (hline : (apos.endLine == cpos.line) = true := by rfl) (hs : starEach (e :: es) X.env = (false,eval e X.env) :: starEach es X.env := by rfl) (hplain : (backTo cpos (starEach es X.env)).any (·.1) = false := by rfl) :
    PE X (.Call (.Attribute o name apos) (e :: es) [] cpos) (tBM K T r to t) := by
  subst hK; exact pe_bm pa slot hty hm ho ha hbase hfew hline hs hplain
end
section
variable {X : Cx} {K : PySem.W.Frag}
end
end L2
namespace Rev
open PySem PySem.Builtin PySem.Builtin.Str PySem.Builtin.Int
section
variable {prog : Program} {w : World} {A : Around} {R : Result → Shared → Prop} {I : Addr} {fp wr : List Addr} {G : Array GenState → Array GenState → Prop} {n : Nat} {P : Nat → Value → Prop} {St : Nat → Shared → Prop} {Live : Shared → Prop}
end
section
variable {prog : Program} {w : World} {A : Around} {E : Value → Shared → Prop} {s : Shared}
end
section
variable {prog : Program} {w : World} {A : Around} {E : Value → Shared → Prop} {s : Shared} {I : Addr} {fp wr : List Addr} {G : Array GenState → Array GenState → Prop} {n : Nat} {P : Nat → Value → Prop} {St : Nat → Shared → Prop} {Live : Shared → Prop}
end
end Rev
namespace Rev
open PySem PySem.Builtin PySem.Builtin.Str PySem.Builtin.Int
section
variable {prog : Program} {w : World} {A : Around} {E : Value → Shared → Prop} {s : Shared} {x : Str} {t : Tok} {Q : Value → Shared → Prop} {I : Addr} {fp wr : List Addr} {G : Array GenState → Array GenState → Prop} {n : Nat} {P : Nat → Value → Prop} {St : Nat → Shared → Prop} {Live : Shared → Prop}
end
end Rev
namespace L2
open PySem PySem.Spec PyProof.Rows
section
variable {X : Cx} {K : PySem.W.Frag}
end
end L2
namespace Att
open PySem PySem.W PySem.Calls PyProof.Rows
end Att
namespace L2
open PySem PySem.Spec PyProof.Rows
end L2
namespace L2
open PySem PySem.Spec PyProof.Rows
section
variable {X : Cx} {K : PySem.W.Frag}
def rNeNil (K : PySem.W.Frag) : R2 := fun x y H Q => ∃ a b xs,x = .ref a ∧ y = .ref b ∧ SqL K H a xs ∧ SqL K H b [] ∧ Q (.bl (!xs.isEmpty)) H
theorem op_neNil (hu : X.A.units < cLine) (hK : X.K = K := by rfl) : OpR X (compareOp .NotEq) (rNeNil K) := by
  subst hK
  intro pins s σ H x y v u Q I rx ry h
  obtain ⟨a,b,xs,rfl,rfl,ha,hb,q⟩ := h
  cases rx
  cases ry
  obtain ⟨its,r1,p1,_⟩ := I.list ha
  obtain ⟨its2,r2,p2,_⟩ := I.list hb
  cases r2
  have hl := r1.length
  cases xs with
  | nil =>
    cases r1
    exact SeqAt.RcNeAt.lists (e := fun _ => true) p1.isList p2.isList rfl hu (fun j h1 _ => absurd h1 (by simp)) _ _ _ _ ⟨.bl false,H,I,rfl,q⟩
  | cons x r =>
    refine SeqAt.RcNeAt.lists_lengths p1.isList p2.isList ?_ hu _ _ _ _ ⟨.bl true,H,I,rfl,q⟩
    rw [List.size_toArray,← hl]
    rfl
end
end L2
namespace Fig
open PySem
end Fig
namespace L2
theorem ps_weak {X : Cx} {st : PySem.Stmt} {t t' : TS} (h : PS X st t) (hw : ∀ D σ H,t' D σ H → t D σ H) : PS X st t' := fun pins s σ H D I q => h pins s σ H D I (hw D σ H q)
end L2
namespace L2
open PySem PySem.Spec PyProof.Rows
def FzD (w : World) (K : PySem.W.Frag) (a : Addr) (kvs : List (Key × V)) : Prop :=
  (a == sysModules) = false ∧ ∃ (o : Obj) (es : Array DictEntry) (ep : Nat),K.lookup a = some o ∧ o.ExactDict ∧ o.data = .dict es ep ∧
    Paired (fun (p : Key × V) (e : DictEntry) => keyIs p.1 e.key = true ∧ e.hash = keyH w p.1 ∧ RelV p.2 e.val) kvs es.toList ∧ (kvs.map (·.1)).Nodup
theorem fz_pairs {P : Program} {w : World} : ∀ {kvs : List (Key × V)} {es : List DictEntry},Paired (fun (p : Key × V) (e : DictEntry) => keyIs p.1 e.key = true ∧ e.hash = keyH w p.1 ∧ RelV p.2 e.val) kvs es →
    ∃ vs : List (Key × Value),KV kvs vs ∧ Pairs (mixKind P w) es vs ∧ vs.map (·.1) = kvs.map (·.1) ∧ ∀ e ∈ es,∃ k,(mixKind P w).is k e.key = true ∧ e.hash = (mixKind P w).hash k
  | [],_,r => by cases r; exact ⟨[],.nil,.nil,rfl,fun e h => nomatch h⟩
  | p :: kvs,_,r => by
    cases r with
    | @cons a b as bs h t =>
      obtain ⟨vs,q1,q2,q3,q4⟩ := fz_pairs (P := P) t
      refine ⟨(p.1,b.val) :: vs,.cons ⟨rfl,h.2.2⟩ q1,.cons h.1 rfl q2,by rw [List.map_cons,List.map_cons,q3],fun e he => ?_⟩
      rcases List.mem_cons.mp he with rfl | he
      · exact ⟨p.1,h.1,h.2.1⟩
      · exact q4 e he
theorem Inv.fz {X : Cx} {pins : List (Addr × Obj)} {σ : St} {H : Hp} {s : Shared} {a : Addr} {kvs : List (Key × V)} (I : Inv X pins σ H s) (d : FzD X.w X.K a kvs) :
    (a == sysModules) = false ∧ ∃ vs,KV kvs vs ∧ s.heap.DictOf (mixKind X.prog X.w) a vs := by
  obtain ⟨hd,o,es,ep,hk,hx,he,hp,hn⟩ := d
  obtain ⟨vs,q1,q2,q3,q4⟩ := fz_pairs (P := X.prog) hp
  exact ⟨hd,vs,q1,o,es,ep,I.kIn a o hk,hx,he,fun e hm => q4 e (Array.mem_toList_iff.mpr hm),q2,by rw [q3]; exact hn⟩
section
variable {X : Cx} {K : PySem.W.Frag} {w : World} {o i : Expr} {pos : Pos} {td ty : TE}
def tFGet (w : World) (K : PySem.W.Frag) (td ty : TE) : TE := fun σ H Q => td σ H fun x H1 => ty σ H1 fun y H2 => ∃ a kvs k v,x = .ref a ∧ FzD w K a kvs ∧ y = kV k ∧ valV kvs k = some v ∧ Q v H2
def tFIn (w : World) (K : PySem.W.Frag) (ty td : TE) : TE := fun σ H Q => ty σ H fun y H1 => td σ H1 fun x H2 => ∃ a kvs k,x = .ref a ∧ FzD w K a kvs ∧ y = kV k ∧ Q (.bl (valV kvs k).isSome) H2
theorem pe_fget (ho : PE X o td) (hi : PE X i ty) (hs : NoSl i) (hK : X.K = K := by rfl) (hw : X.w = w := by rfl) : PE X (.Subscript o i pos) (tFGet w K td ty) := by
  subst hK hw
  intro pins s σ H Q I h
  refine subD_of PySem.F.slot_dict_getitem.lookup hs (thn (ho pins s σ H _ I h) fun u s1 ⟨x,H1,I1,rx,q1⟩ => thn (hi pins s1 σ H1 _ I1 q1) fun iv s2 ⟨y,H2,I2,ry,a,kvs,k,v,ex,g,ey,l,q2⟩ => ?_)
  subst ex ey
  obtain rfl : u = Value.ref a := rx
  obtain ⟨hd,vs,rel,dd⟩ := I2.fz g
  obtain ⟨w',hw,rw'⟩ := RelO.some_of (v := v) (o := valueAt vs k) (by rw [← l]; exact rel.val k)
  exact ⟨dd.typeIs,wpAny_getItem_of (kV_is ry) dd.mapOf hw ⟨v,H2,I2.tok _,rw',q2⟩⟩
theorem pc_fin (hi : PE X i ty) (ho : PE X o td) (hK : X.K = K := by rfl) (hw : X.w = w := by rfl) : PC X .In i o (tFIn w K ty td) := by
  subst hK hw
  intro pins s σ H Q I h
  refine thn (hi pins s σ H _ I h) fun iv s1 ⟨y,H1,I1,ry,q1⟩ => thn (ho pins s1 σ H1 _ I1 q1) fun u s2 ⟨x,H2,I2,rx,a,kvs,k,ex,g,ey,q2⟩ => ?_
  subst ex ey
  obtain rfl : u = Value.ref a := rx
  obtain ⟨hd,vs,rel,dd⟩ := I2.fz g
  refine wpAny_in_of (kV_is ry) hd dd.mapOf ?_
  rw [← (rel.val k).isSome_eq]
  exact ⟨.bl _,H2,I2.tok _,rfl,q2⟩
end
end L2
namespace L2
open PySem PySem.Spec PyProof.Rows
inductive F2 (Pr : V → V → Prop) : List V → List V → Prop where
  | nil : F2 Pr [] []
  | cons {x y : V} {xs ys : List V} (h : Pr x y) (t : F2 Pr xs ys) : F2 Pr (x :: xs) (y :: ys)
theorem F2.snoc {Pr : V → V → Prop} : ∀ {xs ys : List V} {x y : V},F2 Pr xs ys → Pr x y → F2 Pr (xs ++ [x]) (ys ++ [y])
  | [],_,_,_,h,p => by cases h; exact .cons p .nil
  | a :: xs,_,_,_,h,p => by
    cases h with
    | cons q t => exact .cons q (t.snoc p)
theorem F2.len {Pr : V → V → Prop} : ∀ {xs ys : List V},F2 Pr xs ys → xs.length = ys.length
  | [],_,h => by cases h; rfl
  | a :: xs,_,h => by
    cases h with
    | cons q t => simp [t.len]
theorem F2.map {f : V → V} : ∀ {xs ys : List V},F2 (fun x y => y = f x) xs ys → ys = xs.map f
  | [],_,h => by cases h; rfl
  | a :: xs,_,h => by
    cases h with
    | cons q t => rw [q,t.map]; rfl
theorem comp_same {J : It} {fr : List Nat} {te : TE} {σ : St} {H : Hp} {Q : VK} (xs : List V) (Pr : V → V → Prop) (hn : xs.length ≤ sizeLine)
    (hgo : ∀ i H1,Same H H1 → i < xs.length → J.go i H1) (hst : ∀ H1,Same H H1 → J.stop xs.length H1) (hy : ∀ i x H1 H',Same H H1 → i < xs.length → J.yld i H1 x H' → H' = H1 ∧ xs[i]? = some x)
    (hte : ∀ x H1 (R : VK),x ∈ xs → Same H H1 → (∀ y H2,Same H1 H2 → Pr x y → R y H2) → te (some x :: fr.map (pick σ)) H1 R)
    (hd : ∀ acc H1,Same H H1 → F2 Pr xs acc → ∀ D,H1 D = none → Q (.ref D) (upd H1 D (.lst acc))) :
    CompG 1 fr (gName 0) tYes te σ Q J H := by
  refine ⟨fun i m τ acc H' => m = xs.length - i ∧ i ≤ xs.length ∧ Same H H' ∧ (∃ o,τ = o :: fr.map (pick σ)) ∧ F2 Pr (xs.take i) acc,⟨xs.length,by simp,Nat.zero_le _,Same.refl H,⟨none,rfl⟩,.nil⟩,?_⟩
  rintro i m τ acc H' ⟨rfl,hi,s1,⟨o,rfl⟩,f⟩
  by_cases hlt : i < xs.length
  · refine .inr ⟨hgo i H' s1 hlt,?_,fun x H1 y => ?_⟩
    · have := f.len
      rw [List.length_take] at this
      omega
    · obtain ⟨e1,e2⟩ := hy i x H' H1 s1 hlt y
      subst e1
      have hx : x ∈ xs := List.mem_of_getElem? e2
      show te (some x :: fr.map (pick σ)) H1 _
      refine hte x H1 _ hx s1 fun y H2 s2 p => ⟨xs.length - (i + 1),by omega,rfl,hlt,s1.trans s2,⟨some x,rfl⟩,?_⟩
      have ht : xs.take (i + 1) = xs.take i ++ [x] := by rw [List.take_add_one,e2]; rfl
      rw [ht]
      exact f.snoc p
  · have e : i = xs.length := by omega
    subst e
    rw [List.take_length] at f
    exact .inl ⟨hst H' s1,hd acc H' s1 f⟩
theorem comp_same_tup {K : PySem.W.Frag} {a : Addr} {fr : List Nat} {te : TE} {σ : St} {H : Hp} {Q : VK} {xs : List V} (Pr : V → V → Prop) (e : H a = some (.tup xs)) (hn : xs.length ≤ sizeLine)
    (hte : ∀ x H1 (R : VK),x ∈ xs → Same H H1 → (∀ y H2,Same H1 H2 → Pr x y → R y H2) → te (some x :: fr.map (pick σ)) H1 R)
    (hd : ∀ acc H1,Same H H1 → F2 Pr xs acc → ∀ D,H1 D = none → Q (.ref D) (upd H1 D (.lst acc))) :
    CompG 1 fr (gName 0) tYes te σ Q (Itt K a) H :=
  comp_same xs Pr hn (fun i H1 s hi => ⟨xs,xs[i],SqT.of (s _ _ e),by simp [hi]⟩) (fun H1 s => ⟨xs,SqT.of (s _ _ e),Nat.le_refl _⟩) (fun i x H1 H' s _ y => ⟨y.1,y.2 xs (SqT.of (s _ _ e))⟩) hte hd
theorem Room.u1 {k : Nat} {A : Around} (r : Room k A) : A.units + 1 < cLine := by have := r.un; omega
section
variable {X : Cx} {tg : Expr}
end
section
variable {X : Cx}
theorem op_isB : OpR X (compareOp .Is) (fun x y H Q => ∃ a b,x = .bl a ∧ y = .bl b ∧ Q (.bl (a == b)) H) := by
  intro pins s σ H x y v u Q I rx ry h
  obtain ⟨a,b,rfl,rfl,q⟩ := h
  cases rx
  cases ry
  exact is_bool ⟨.bl _,H,I,rfl,q⟩
end
end L2
namespace L2
open PySem PySem.Spec PyProof.Rows
section
variable {X : Cx}
theorem ps_compU {tg iter elt : Expr} {ifs : List Expr} {scope : Scope} {wi : TI} {g : TG} {tt : TT} {te : TE} {own : List Str} {fr : List (Str × Nat)} {pos spos py : Pos} {iy : Nat} {y : Str}
    (hN : X.N.Nodup) (hiy : X.N[iy]? = some y) (hxy : Loc X.env.scope y) (hfy : X.fn y = true ∨ X.env.scope.names.lookup y = some .local)
    (hc : X.calm = true) (hi : PI X tg iter wi)
    (hk : scope.kind = .function) (hcell : ∀ y ∈ scope.names,y.2 ≠ .cell) (hnames : ∀ y ∈ scope.names,y.2 = .local → scope.names.lookup y.1 = some .local)
    (hfree : ∀ y ∈ scope.names,y.2 = .free → X.env.kindOf y.1 = some .cell ∨ X.env.kindOf y.1 = some .free) (hfr : FrOk X scope fr)
    (hg : ∀ C s H ex,PG (cxComp X scope (own ++ fr.map (·.1)) C s H ex) tg g)
    (ht : ∀ C s H ex,PTs (cxComp X scope (own ++ fr.map (·.1)) C s H ex) ifs tt)
    (he : ∀ C s H ex,PE (cxComp X scope (own ++ fr.map (·.1)) C s H ex) elt te)
    (hsw : swapsWith (.ListComp elt [⟨tg,iter,ifs,0⟩] scope pos) (some (.Name y py)) spos.line X.env = pure true)
    (hs : ∀ x,foldedSetIterable iter X.env x = pure x := by intro _; rfl) :
    PS X (.Assign [.Name y py] (.ListComp elt [⟨tg,iter,ifs,0⟩] scope pos) spos) (tAsg (tComp own.length (fr.map (·.2)) wi g tt te) (gName iy)) := by
  intro pins s σ H D0 I h
  let Q : VK := fun v H1 => D0.nx (σ.set iy (some v)) H1
  have h : tComp own.length (fr.map (·.2)) wi g tt te σ H Q := h
  rw [exec_Assign_Name_used _ _ _ _ hsw]
  refine wpAny_bind (wpAny_standAt (wpAny_bind ?_))
  show wpAny _ X.A (do let _ ← comprehension (.ListComp elt [⟨tg,iter,ifs,0⟩] scope pos) scope X.env _ (newList []) false (eval iter X.env) (some (assign (.Name y py) X.env))) _ _ s
  have hcl : ∀ y c,(closOf X.env scope.names).lookup y = some c → X.env.cells.lookup y = some c := fun y c e => by
    rcases clos_some scope.names [] e with q | ⟨q,z⟩
    · simp at q
    · obtain ⟨c',e'⟩ := I.ok.has y (hfree _ q rfl)
      rw [e'] at z
      rw [e',← z]
      rfl
  have hclos : closureFor scope X.env = pure (closOf X.env scope.names) := closureFor_of fun y hy e => I.ok.has y.1 (hfree y hy e)
  refine wpAny_bind (wpAny_mono (wpAny_comprehension_free (use := some (assign (.Name y py) X.env)) (cl := closOf X.env scope.names) (Q := fun _ s' => SP X pins D0 .next s') rfl hs hclos hk hnames ?_) (fun _ s' hq => wpAny_pure (wpAny_pure hq)) fun _ _ e => e)
  refine thn (hi pins s σ H _ I h) fun v s1 h1 => thn h1 fun itv s2 h2 => ?_
  obtain ⟨it,fp,tn,J,H2,e,I2,T,st2,f2,W,⟨m0,w0⟩,turn⟩ := h2
  subst e
  refine wpAny_newObj_type (wpAny_newFunctionEnv hcell (by intro y hy; simp at hy) (fun h₁ hns₁ hsb₁ => ?_) hk)
  dsimp only at hns₁ hsb₁ ⊢
  generalize hH2 : s2.heap.push { cls := .type "list", dict := none,data := .seq ([] : List Value).toArray } = HL at hns₁ hsb₁ ⊢
  have hC : HL.objs.size = s2.heap.objs.size + 1 := by rw [← hH2,Heap.size_push]
  generalize hCC : HL.objs.size = C at hns₁ hsb₁ hC ⊢
  have hDC : s2.heap.objs.size ≠ C := by rw [hC]; exact Nat.ne_of_lt (Nat.lt_succ_self _)
  have below : ∀ b,b < s2.heap.objs.size → b ≠ C ∧ b ≠ s2.heap.objs.size := fun b hb => ⟨by rw [hC]; exact Nat.ne_of_lt (Nat.lt_succ_of_lt hb),Nat.ne_of_lt hb⟩
  have old : ∀ b o,s2.heap.get? b = some o → h₁.get? b = some o := fun b o e => hsb₁.extBut b o (below b (Heap.lt_size e)).1 (Heap.get?_push_of_some _ (hH2 ▸ Heap.get?_push_of_some _ e))
  have eD0 : h₁.get? s2.heap.objs.size = some { cls := .type "list", data := .seq ([] : List Value).toArray } := hsb₁.extBut _ _ hDC (Heap.get?_push_of_some _ (hH2 ▸ Heap.get?_push_size _ rfl))
  have fpLt : ∀ b ∈ fp,b < s2.heap.objs.size := fun b hb => by
    obtain ⟨o,e,_⟩ := T.obj _ _ st2 b hb
    exact Heap.lt_size e
  generalize hD : s2.heap.objs.size = D at hDC below eD0 fpLt hC
  have hDfp : D ∉ fp := fun z => Nat.lt_irrefl _ (fpLt D z)
  have okY : (cxComp X scope (own ++ fr.map (·.1)) C s2 H2 fp).Ok := by
    refine ⟨I2.ok.mod,hk,I2.ok.glob,I2.ok.blt,by show s2.heap.objs.size ≤ C; omega,fun x y c e1 e2 => I2.ok.inj x y c (hcl x c e1) (hcl y c e2),fun y hy => ?_,fun x c z _ => (by cases z),I2.ok.hd,I2.ok.frames,.inl rfl,fun b hb => ⟨(below b (fpLt b hb)).1,fun y c e => ?_⟩,I2.bs,
      Nat.le_trans I2.ok.bsz I2.sz,fun b o e hb => ?_,fun b hb z => ?_,I2.stack,I2.stkFree⟩
    · exact clos_has scope.names [] (.inl (relabel_cell (env := X.env) hcell hy))
    · exact (f2 b hb).2.2.2.2.1 y c (hcl y c e)
    · rcases (f2 b hb).2.2.2.1 with z | z
      · exact I2.ok.noex b o e z
      · exact absurd (Nat.lt_of_lt_of_le (Heap.lt_size e) (Nat.le_trans I2.ok.bsz z)) (Nat.lt_irrefl _)
    · rcases List.mem_cons.mp (I2.stkSub b z) with q | q
      · exact (f2 b hb).2.1 q
      · exact (f2 b hb).2.2.1 q
  have cellLt : ∀ y c,X.env.cells.lookup y = some c → c < D := fun y c e => by
    obtain ⟨v,z⟩ := I2.cell y c e
    exact Nat.lt_of_lt_of_le z.lt (Nat.le_of_eq hD)
  have stkLt : ∀ b ∈ frs X.stack,b < D := fun b hb => by
    rcases List.mem_cons.mp (I2.stkSub b hb) with q | q
    · rw [q]; exact Nat.lt_of_lt_of_le I2.lt (Nat.le_of_eq hD)
    · obtain ⟨_,o,ho,_⟩ := I2.ok.funs.mem q
      exact Nat.lt_of_lt_of_le (Heap.lt_size ho) (Nat.le_trans I2.sz (Nat.le_of_eq hD))
  have fresh : ∀ a,D ≤ a → H2 a = none := fun a ha => I2.hok.fresh (Nat.le_trans (Nat.le_of_eq hD) ha)
  have IY : Inv (cxComp X scope (own ++ fr.map (·.1)) C s2 H2 fp) [] (List.replicate own.length none ++ (fr.map (·.2)).map (pick σ)) H2 { s2 with heap := h₁,toks := s2.toks + ([] : List (Str × Value)).length } := by
    refine ⟨okY,rfl,I2.bare,Un.kept old,⟨_,hns₁,fun i y v e1 e2 e3 => ?_⟩,fun y c e => ?_,fresh C (by omega),fun y c e => I2.freeC y c (hcl y c e),fun p hp => absurd (show p ∈ ([] : List (Addr × Obj)) from hp) (by simp),I2.hok.kept old,?_⟩
    · have e1 : (own ++ fr.map (·.1))[i]? = some y := e1
      have hi' : own.length ≤ i := by
        by_cases hlt : i < own.length
        · rw [List.getElem?_append_left (by simpa using hlt),List.getElem?_replicate,if_pos hlt] at e2
          cases e2
        · omega
      rw [List.getElem?_append_right hi',List.getElem?_map] at e1
      rw [List.getElem?_append_right (by simpa using hi'),List.getElem?_map,List.getElem?_map,List.length_replicate] at e2
      cases hp : fr[i - own.length]? with
      | none => rw [hp] at e1; cases e1
      | some p =>
        rw [hp] at e1 e2
        have ey : p.1 = y := Option.some.inj e1
        have ev : pick σ p.2 = some v := Option.some.inj e2
        obtain ⟨a1,a3⟩ := hfr.all p (List.mem_of_getElem? hp)
        have es : σ[p.2]? = some (some v) := by
          unfold pick at ev
          cases q : σ[p.2]? with
          | none => rw [q] at ev; cases ev
          | some z => rw [q] at ev; exact congrArg some ev
        have hfk : X.env.kindOf p.1 = some .cell ∨ X.env.kindOf p.1 = some .free := hfree (p.1,.free) (PySem.mem_of_lookup a3) rfl
        obtain ⟨m,hn,hl⟩ := I2.loc
        obtain ⟨u,r,l⟩ := hl p.2 p.1 v a1 es (hfk.elim (fun z => .inr (.inl z)) fun z => .inr (.inr z))
        refine ⟨u,r,.inr ?_⟩
        rcases l with ⟨z,_⟩ | ⟨_,c,ec,zc⟩
        · rcases hfk with q | q <;> rw [z] at q <;> cases q
        · obtain ⟨c',ec'⟩ := clos_has (env := X.env) (y := p.1) scope.names [] (.inl (PySem.mem_of_lookup a3))
          have : c' = c := Option.some.inj ((hcl _ _ ec').symm.trans ec)
          subst this
          rw [← ey]
          obtain ⟨o,ho,hdd⟩ := zc
          exact ⟨lookup_relabel_free (env := X.env) a3,c',ec',o,old _ o ho,hdd⟩
    · obtain ⟨v,z⟩ := I2.cell y c (hcl y c e)
      obtain ⟨o,ho,hdd⟩ := z
      exact ⟨v,o,old _ o ho,hdd⟩
    · show (List.replicate own.length (none : Option V) ++ (fr.map (fun p => p.2)).map (pick σ)).length = (own ++ fr.map (fun p => p.1)).length
      simp
  have fpY : ∀ {H3 : Hp} {ob : Obj},(∀ b ∈ fp,H3 b = none) → ∀ b ∈ fp,FpOk (cxComp X scope (own ++ fr.map (·.1)) C s2 H2 fp) [(D,ob)] H3 b := fun {H3 ob} hn b hb =>
    ⟨hn b hb,(below b (fpLt b hb)).1,fun z => okY.exfs b hb z,.inl hb,fun y c e => (okY.exf b hb).2 y c e,fun p hp => by
      have e : p = (D,ob) := by simpa [cxComp] using hp
      rw [e]
      show D ≠ b
      exact fun z => hDfp (z ▸ hb)⟩
  have noC : ∀ (xs : Array Value) (k : Nat) (v : Option Value),({ cls := .type "list", data := .seq xs k } : Obj).data ≠ .cell v := fun xs k v z => by cases z
  have loop : ∀ s₃ : Shared,s₃ = { s2 with heap := h₁,toks := s2.toks + ([] : List (Str × Value)).length } →
      codeAny (model X.prog X.w) X.A (.compLoop (.ListComp elt [⟨tg,iter,ifs,0⟩] scope pos) 0 (.ref it) (.ref D) (compEnvC scope (closOf X.env scope.names) C X.env))
        (compPost (model X.prog X.w) X.A X.xe (some (assign (.Name y py) X.env)) (fun _ s' => SP X pins D0 .next s') (.ref D) C) s₃ := by
    rintro s₃ rfl
    refine compLoop_gen (fun n s' => ∃ (i : Nat) (τ : St) (acc : List V) (H' : Hp) (its : List Value) (k : Nat),Inv (cxComp X scope (own ++ fr.map (·.1)) C s2 H2 fp) [] τ H' s' ∧ tn i s'.heap ∧ (∀ b ∈ fp,H' b = none) ∧ H' D = none ∧ Vals acc its ∧
      s'.heap.get? D = some { cls := .type "list", data := .seq its.toArray k } ∧ acc.length ≤ sizeLine ∧ W i n τ acc H') ?_ m0
      ⟨0,_,[],H2,[],0,IY,T.keep _ _ _ st2 fun b _ o e => old b o e,fun b hb => (f2 b hb).1,fresh D (Nat.le_refl _),.nil,eD0,Nat.zero_le _,w0⟩
    rintro n s3 ⟨i,τ,acc,H3,its,k,I3,st3,fr3,fD,rv,eD,hz,w3⟩
    have I3' : Inv (cxComp X scope (own ++ fr.map (·.1)) C s2 H2 fp) [(D,{ cls := .type "list", data := .seq its.toArray k })] τ H3 s3 := I3.pins_of fun p hp => by
      have e : p = (D,{ cls := .type "list", data := .seq its.toArray k }) := by simpa using hp
      subst e
      exact ⟨eD,fD,hDC,fun z => Nat.lt_irrefl _ (stkLt D z),noC _ _⟩
    rcases turn i n τ acc H3 w3 with ⟨stop,qn⟩ | ⟨go,hlt,step⟩
    · refine thn (T.done (cxComp X scope (own ++ fr.map (·.1)) C s2 H2 fp) rfl rfl rfl hc i _ s3 τ H3 (fun _ _ => False) I3' (fpY fr3) st3 stop) fun r s4 ⟨hr,I4⟩ => ?_
      subst hr
      obtain ⟨m,hn4,_⟩ := I4.loc
      obtain ⟨eD4,fD4,_⟩ := I4.pin (D,{ cls := .type "list", data := .seq its.toArray k }) (List.mem_append_right _ (List.mem_singleton.mpr rfl))
      have b4 : Un (frs X.stack) fp H2 H3 s2.heap s4.heap := I4.base
      have lt2 : ∀ b o,s2.heap.get? b = some o → b ≠ C ∧ b ≠ D := fun b o e => below b (Nat.lt_of_lt_of_le (Heap.lt_size e) (Nat.le_of_eq hD))
      have tr2 : ∀ b o,H2 b = some o → b ≠ D := fun b o e z => by
        have := fresh D (Nat.le_refl _)
        rw [z,this] at e
        cases e
      have un : Un (frs X.stack) fp H2 (upd H3 D (.lst acc)) s2.heap s4.heap := by
        refine ⟨fun b o e n hb hx => b4.keep b o e n hb hx,fun b o e n hb hx => ?_,fun b o e n hx => ?_,fun b o e hx => ?_,fun b xs e => ?_,fun b o u e => ?_,fun b ps e => ?_⟩
        · obtain ⟨sl,q⟩ := b4.slot b o e n hb hx
          exact ⟨sl,q⟩
        · rw [upd_ne (lt2 b o e).2]; exact b4.free b o e n hx
        · obtain ⟨o',q⟩ := b4.there b o e hx
          exact ⟨o',q⟩
        · rw [upd_ne (tr2 _ _ e)]; exact b4.tups b xs e
        · rw [upd_ne (tr2 _ _ e)]; exact b4.frzs b o u e
        · rw [upd_ne (tr2 _ _ e)]; exact b4.tbls b ps e
      have hok' : HOk X.prog X.w (upd H3 D (.lst acc)) s4.heap := I4.hok.track fD4 ⟨hz,its,k,rv,eD4⟩
      have IX : Inv X pins σ (upd H3 D (.lst acc)) s4 := I2.call' (s' := s4) (ch := fp) I4.os un hok' I4.bare fun b hb => ⟨(f2 b hb).2.2.2.1,(f2 b hb).2.1,(f2 b hb).2.2.2.2.1,(f2 b hb).2.2.2.2.2⟩
      have hHC : H3 C = none := I4.free
      have noCD : ∀ b : Addr,b < D → C ≠ b := fun b hb z => by
        rw [← z,hC] at hb
        exact Nat.lt_irrefl D (Nat.lt_of_succ_lt hb)
      have hCL : C ≠ X.env.locals := noCD _ (Nat.lt_of_lt_of_le I2.lt (Nat.le_of_eq hD))
      show wpAny (model X.prog X.w) X.A (assign (.Name y py) X.env (.ref D)) _ X.xe s4
      refine wpAny_assign_Name (store_ok2 IX hN hiy hxy (v := .ref D) rfl (fun s5 I5 ⟨a,sb5,ha⟩ => ?_) hfy)
      have hCa : C ≠ a := by
        rcases ha with z | z
        · rw [z]; exact hCL
        · exact noCD _ (cellLt _ _ z)
      refine ⟨m,Heap.Ns.sameBut hn4 sb5 hCa,fun h' sb => ⟨_,_,I5.turned (it := C) (t' := s5.toks) (fun b o hb e => (sb.2 b hb).trans e) (by rw [upd_ne hDC.symm]; exact hHC) hCL (.inr ?_) (fun z c e q => ?_) (fun p hp q => ?_),qn D fD4⟩⟩
      · exact Nat.le_trans I2.sz (by omega)
      · exact noCD _ (cellLt z c e) q.symm
      · exact noCD _ (Nat.lt_of_lt_of_le (Heap.lt_size (I2.pin p hp).1) (Nat.le_of_eq hD)) q.symm
    · refine thn (T.item (cxComp X scope (own ++ fr.map (·.1)) C s2 H2 fp) rfl rfl rfl hc i _ s3 τ H3 (fun _ _ => False) I3' (fpY fr3) st3 go) fun r s4 ⟨u,hr,h4⟩ => ?_
      subst hr
      refine thn h4 fun _ s5 ⟨x,H5,I5,r5,y5,st5,fr5⟩ => ?_
      have I5' := I5.pinned (fpY fr5) (T.obj _ _ st5)
      refine thn (hg _ _ _ _ _ s5 τ H5 x u _ I5' r5 (step x H5 y5)) fun _ s6 ⟨τ6,H6,I6,q6⟩ => ?_
      refine thn (ht _ _ _ _ _ s6 τ6 H6 _ I6 q6) fun b s7 ⟨H7,I7,q7⟩ => ?_
      have facts : ∀ {s8 : Shared} {H8 : Hp} {τ8 : St},Inv (cxComp X scope (own ++ fr.map (·.1)) C s2 H2 fp) ([(D,{ cls := .type "list", data := .seq its.toArray k })] ++ pinsAt fp s5.heap) τ8 H8 s8 →
          tn (i + 1) s8.heap ∧ (∀ b ∈ fp,H8 b = none) ∧ H8 D = none ∧ s8.heap.get? D = some { cls := .type "list", data := .seq its.toArray k } := fun {s8 H8 τ8} I8 => by
        have hp : ∀ b ∈ fp,∀ o,s5.heap.get? b = some o → s8.heap.get? b = some o ∧ H8 b = none := fun b hb o e => by
          have q := I8.pin (b,o) (List.mem_append_right _ (List.mem_append_right _ (mem_pinsAt hb e)))
          exact ⟨q.1,q.2.1⟩
        have qD := I8.pin (D,{ cls := .type "list", data := .seq its.toArray k }) (List.mem_append_right _ (List.mem_append_left _ (List.mem_singleton.mpr rfl)))
        refine ⟨T.keep _ _ _ st5 fun b hb o e => (hp b hb o e).1,fun b hb => ?_,qD.2.1,qD.1⟩
        obtain ⟨o,e,_⟩ := T.obj _ _ st5 b hb
        exact (hp b hb o e).2
      cases b with
      | false =>
        have q7 : ∃ m',m' < n ∧ W (i + 1) m' τ6 acc H7 := q7
        obtain ⟨m',hm,w7⟩ := q7
        obtain ⟨z1,z2,z3,z4⟩ := facts I7
        exact ⟨m',hm,i + 1,τ6,acc,H7,its,k,I7.pins_of fun p hp => absurd hp (by simp),z1,z2,z3,rv,z4,hz,w7⟩
      | true =>
        refine thn (he _ _ _ _ _ s7 τ6 H7 _ I7 q7) fun u8 s8 ⟨y,H8,I8,r8,m',hm,w8⟩ => ?_
        obtain ⟨z1,z2,z3,z4⟩ := facts I8
        have hl := rv.length
        refine call_meets F.slot_list_append ⟨_,z4,rfl⟩ F.entry_list_append (F.args_list_append_2 _ _) (PySem.list_append D its.toArray k u8 (by rw [List.size_toArray]; omega)) ⟨z4,?_⟩
        have z5 := PySem.IsL.update z4 (·.push u8)
        have z6 : its.toArray.push u8 = (its ++ [u8]).toArray := by simp
        rw [z6] at z5
        have kk : ∀ b o,b ≠ D → s8.heap.get? b = some o → (s8.heap.update D (Obj.mapSeq (·.push u8))).get? b = some o := fun b o hb e => (Heap.get?_update_other s8.heap (Obj.mapSeq (·.push u8)) (Ne.symm hb)).trans e
        have I8' : Inv (cxComp X scope (own ++ fr.map (·.1)) C s2 H2 fp) [] τ6 H8 s8 := I8.pins_of fun p hp => absurd hp (by simp)
        refine ⟨m',hm,i + 1,τ6,acc ++ [y],H8,its ++ [u8],_,I8'.turned (it := D) kk z3 hDC (.inr (by show s2.heap.objs.size ≤ D; omega)) (fun y c e => Nat.ne_of_lt (cellLt y c (hcl y c e))) (fun p hp => absurd (show p ∈ ([] : List (Addr × Obj)) from hp) (by simp)),?_,z2,z3,
          rv.append (.cons r8 .nil),z5,?_,w8⟩
        · exact T.keep _ _ _ z1 fun b hb o e => kk b o (fun z => hDfp (z ▸ hb)) e
        · rw [List.length_append,List.length_singleton]; omega
  exact codeAny_compStart_list (loop _ rfl) (T.self X.A 0 _ _ _ (T.keep _ _ _ st2 fun b _ o e => old b o e) (loop _ rfl))
theorem ps_setC {i : Nat} {y : Str} {iter elt : Expr} {ifs : List Expr} {scope osc : Scope} {wi : TI} {tt : TT} {te : TE} {x : Str} {px py pos spos : Pos} (fr : List (Str × Nat))
    (hN : X.N.Nodup) (hiy : X.N[i]? = some y) (hxy : Loc X.env.scope y)
    (hc : X.calm = true) (hi : PI X (.Name x px) iter wi) (ho : X.env.scope = osc)
    (hk : scope.kind = .function) (hcell : ∀ y ∈ scope.names,y.2 ≠ .cell) (hnames : ∀ y ∈ scope.names,y.2 = .local → scope.names.lookup y.1 = some .local)
    (hfree : ∀ y ∈ scope.names,y.2 = .free → osc.names.lookup y.1 = some .cell ∨ osc.names.lookup y.1 = some .free) (hfr : FrOk X scope fr)
    (hx : scope.names.lookup x = some .local) (hnd : (x :: fr.map (·.1)).Nodup)
    (ht : ∀ C s H ex,PTs (cxComp X scope (x :: fr.map (·.1)) C s H ex) ifs tt)
    (he : ∀ C s H ex,PE (cxComp X scope (x :: fr.map (·.1)) C s H ex) elt te)
    (hsw : swapsWith (.ListComp elt [⟨.Name x px,iter,ifs,0⟩] scope pos) (some (.Name y py)) spos.line X.env = pure true := by rfl)
    (hf : X.fn y = true ∨ X.env.scope.names.lookup y = some .local := by first | exact .inl rfl | exact .inr rfl | assumption)
    (hs : ∀ x,foldedSetIterable iter X.env x = pure x := by intro _; rfl) :
    PS X (.Assign [.Name y py] (.ListComp elt [⟨.Name x px,iter,ifs,0⟩] scope pos) spos) (tAsg (tComp 1 (fr.map (·.2)) wi (gName 0) tt te) (gName i)) :=
  ps_compU (own := [x]) hN hiy hxy hf hc hi hk hcell hnames (fun y hy e => by show X.env.scope.names.lookup y.1 = _ ∨ X.env.scope.names.lookup y.1 = _; rw [ho]; exact hfree y hy e) hfr
    (fun C s H ex => pg_name (i := 0) hnd rfl (.inl (lookup_relabel_local hx)) (.inr (lookup_relabel_local hx))) ht he hsw hs
end
end L2
namespace L2
open PySem PySem.Spec PyProof.Rows
open Sem (wp)
def Kd {α : Type} : Sem α → Prop
  | .pure _ => True
  | .raise _ => True
  | .unsupported _ => True
  | .finish _ => True
  | .rule _ k => Kd (k ())
  | .at _ k => Kd (k ())
  | .load _ _ k => ∀ o,Kd (k o)
  | .update _ _ f k => (∀ o,(f o).dict = o.dict) ∧ Kd (k ())
  | .loadIfAlive _ k => ∀ o,Kd (k o)
  | .point _ k => Kd (k ())
  | .alloc _ k => ∀ a,Kd (k a)
  | .fresh k => ∀ t,Kd (k t)
  | .ask k => ∀ t,Kd (k t)
  | .stack k => ∀ l,Kd (k l)
  | _ => False
theorem Kd.bind {α β : Type} {t : Sem α} {f : α → Sem β} (h : Kd t) (g : ∀ a,Kd (f a)) : Kd (t >>= f) := by
  show Kd (Sem.bind t f)
  induction t with
  | pure a => exact g a
  | raise e => trivial
  | unsupported w => trivial
  | finish e => trivial
  | rule t k ih => exact ih () h
  | «at» p k ih => exact ih () h
  | load a p k ih => exact fun o => ih o (h o)
  | update a p f k ih => exact ⟨h.1,ih () h.2⟩
  | alloc o k ih => exact fun a => ih a (h a)
  | loadIfAlive a k ih => exact fun o => ih o (h o)
  | point l k ih => exact ih () h
  | fresh k ih => exact fun o => ih o (h o)
  | ask k ih => exact fun o => ih o (h o)
  | stack k ih => exact fun o => ih o (h o)
  | _ => exact h.elim
def DictAt (e : Addr) (d : Option Addr) (h : Heap) : Prop := ∃ o,h.objs[e]? = some o ∧ o.dict = d
theorem DictAt.push {e : Addr} {d : Option Addr} {h : Heap} (x : DictAt e d h) (o : Obj) : DictAt e d (h.push o) := by
  obtain ⟨u,hu,hd⟩ := x
  refine ⟨u,?_,hd⟩
  have hl : e < h.objs.size := (Array.getElem?_eq_some_iff.mp hu).1
  cases h with
  | mk objs l =>
    show (objs.push o)[e]? = some u
    rw [Array.getElem?_push_lt hl]
    exact (Array.getElem?_eq_getElem hl).symm.trans hu
theorem DictAt.update {e : Addr} {d : Option Addr} {h : Heap} (x : DictAt e d h) (a : Addr) {f : Obj → Obj} (hf : ∀ o,(f o).dict = o.dict) : DictAt e d (h.update a f) := by
  obtain ⟨u,hu,hd⟩ := x
  cases h with
  | mk objs l =>
    have hu : objs[e]? = some u := hu
    unfold DictAt
    show ∃ o,(objs.modify a f)[e]? = some o ∧ o.dict = d
    rw [Array.getElem?_modify]
    by_cases q : a = e
    · rw [if_pos q,hu]
      exact ⟨f u,rfl,(hf u).trans hd⟩
    · rw [if_neg q]
      exact ⟨u,hu,hd⟩
theorem DictAt.get {e : Addr} {d : Option Addr} {h : Heap} {o : Obj} (x : DictAt e d h) (g : h.get? e = some o) : o.dict = d := by
  obtain ⟨u,hu,hd⟩ := x
  have := (Heap.get?_some_iff.mp g).1
  rw [hu] at this
  cases this
  exact hd
theorem DictAt.of {e : Addr} {h : Heap} {o : Obj} (g : h.get? e = some o) : DictAt e o.dict h := ⟨o,(Heap.get?_some_iff.mp g).1,rfl⟩
theorem Kd.wp {α : Type} {M : Model} {Γ : PySem.Ctx} {e : Addr} {d : Option Addr} {t : Sem α} : ∀ {Q : α → Pos → Shared → Prop} {E : Value → Pos → Shared → Prop} {p : Pos} {s : Shared},Kd t → DictAt e d s.heap → Sem.wp M Γ t Q E p s →
    Sem.wp M Γ t (fun a p s => Q a p s ∧ DictAt e d s.heap) (fun a p s => E a p s ∧ DictAt e d s.heap) p s := by
  induction t with
  | pure a => intro Q E p s h x q; rw [Sem.wp] at q ⊢; exact ⟨q,x⟩
  | raise v => intro Q E p s h x q; rw [Sem.wp] at q ⊢; exact ⟨q,x⟩
  | unsupported w => intro Q E p s h x q; rw [Sem.wp] at q; exact q.elim
  | finish v => intro Q E p s h x q; rw [Sem.wp] at q; exact q.elim
  | rule t k ih => intro Q E p s h x q; rw [Sem.wp] at q ⊢; exact ih () h x q
  | «at» p' k ih => intro Q E p s h x q; rw [Sem.wp] at q ⊢; exact ih () h x q
  | load a pt k ih => intro Q E p s h x q; rw [Sem.wp] at q ⊢; obtain ⟨o,e1,q⟩ := q; exact ⟨o,e1,ih o (h o) x q⟩
  | update a pt f k ih => intro Q E p s h x q; rw [Sem.wp] at q ⊢; exact ⟨q.1,ih () h.2 (x.update a h.1) q.2⟩
  | alloc o k ih => intro Q E p s h x q; rw [Sem.wp] at q ⊢; exact ih _ (h _) (x.push o) q
  | loadIfAlive a k ih => intro Q E p s h x q; rw [Sem.wp] at q ⊢; exact ih _ (h _) x q
  | point l k ih => intro Q E p s h x q; rw [Sem.wp] at q ⊢; exact ih () h x q
  | fresh k ih => intro Q E p s h x q; rw [Sem.wp] at q ⊢; exact ih _ (h _) x q
  | ask k ih => intro Q E p s h x q; rw [Sem.wp] at q ⊢; exact ih _ (h _) x q
  | stack k ih => intro Q E p s h x q; rw [Sem.wp] at q ⊢; exact ih _ (h _) x q
  | _ => intro Q E p s h; exact h.elim
theorem Kd.any {α : Type} {M : Model} {A : Around} {e : Addr} {d : Option Addr} {t : Sem α} {Q : α → Shared → Prop} {E : Value → Shared → Prop} {s : Shared} (h : Kd t) (x : DictAt e d s.heap) (q : wpAny M A t Q E s) :
    wpAny M A t (fun a s' => Q a s' ∧ DictAt e d s'.heap) (fun v s' => E v s' ∧ DictAt e d s'.heap) s := fun Γ p hΓ => h.wp x (q Γ p hΓ)
theorem kd_load (a : Addr) : Kd (load a) := fun _ => trivial
theorem kd_stack : Kd stack := fun _ => trivial
theorem kd_fieldsOf (v : Value) : Kd (fieldsOf v) := by
  unfold fieldsOf
  split
  · refine Kd.bind (kd_load _) fun o => ?_
    split <;> trivial
  · trivial
theorem kd_field (v : Value) (i : Nat) : Kd (field v i) := by
  unfold field
  refine Kd.bind (kd_fieldsOf v) fun o => ?_
  split <;> trivial
theorem dict_mapFields (f : Array Value → Array Value) (o : Obj) : (Obj.mapFields f o).dict = o.dict := by
  unfold Obj.mapFields
  split <;> rfl
theorem kd_setField (v : Value) (i : Nat) (x : Value) : Kd (setField v i x) := by
  unfold setField
  split
  · unfold updateField
    refine Kd.bind (kd_load _) fun o => ?_
    split
    · split
      · exact ⟨dict_mapFields _,trivial⟩
      · trivial
    · trivial
  · trivial
theorem kd_entryPlace (f : Addr) (b : Bool) : Kd (entryPlaceOf f b) := by
  unfold entryPlaceOf
  refine Kd.bind kd_stack fun o => ?_
  split <;> trivial
theorem kd_ready : ∀ l : List Env,Kd (readyFrames l)
  | [] => trivial
  | env :: outer => by
    unfold readyFrames
    split
    · refine Kd.bind (kd_load _) fun o => ?_
      split
      · trivial
      · refine Kd.bind ?_ fun b => Kd.bind ?_ fun v => ?_
        · unfold behindIsImport
          split
          · trivial
          · split
            · trivial
            · exact Kd.bind (kd_field _ _) fun _ => trivial
        · unfold keptBack
          split
          · split
            · trivial
            · unfold underTheClaimsCaller
              exact Kd.bind (Kd.bind kd_stack fun _ => trivial) fun _ => trivial
          · trivial
        · exact ⟨fun _ => rfl,kd_ready outer⟩
    · trivial
theorem kd_frameOf (env : Env) : Kd (PySem.frameOf env) := by
  unfold PySem.frameOf
  refine Kd.bind (Kd.bind kd_stack fun _ => trivial) fun l => Kd.bind ?_ fun o => ?_
  · unfold frameObject
    split
    · trivial
    · exact Kd.bind (kd_ready _) fun _ => trivial
  · split <;> trivial
theorem kd_entry (a b c d e : Value) (l : List Value) : Kd (EntryCells.newEntry a b c d e l) := by
  unfold EntryCells.newEntry newFields newObj
  have k : ∀ vs : Array Value,Kd (newObjAsIs (.type "traceback") (.fields vs)) := fun vs => by
    unfold newObjAsIs
    exact Kd.bind (fun _ => trivial) fun _ => trivial
  dsimp only
  split <;> split <;> first | trivial | exact k _
theorem kd_note (e : Value) (env : Env) : Kd (noteFrame e env) := by
  unfold noteFrame
  split
  · rename_i f _
    refine Kd.bind (kd_field _ _) fun hd => ?_
    have k : ∀ x : Value,Kd (do let a ← PySem.frameOf env; let pl ← entryPlaceOf f (x != .none); let b ← EntryCells.newEntry x a .none (rawInt f) .none pl; setField e 1 b) := fun x =>
      Kd.bind (kd_frameOf _) fun _ => Kd.bind (kd_entryPlace _ _) fun _ => Kd.bind (kd_entry _ _ _ _ _ _) fun _ => kd_setField _ _ _
    split
    · refine Kd.bind (kd_field _ _) fun y => ?_
      split
      · trivial
      · exact Kd.bind (kd_setField _ _ _) fun _ => k hd
    · exact k hd
  · trivial
theorem kd_flight (e : Value) (fr : Option Addr) : Kd (setFlight e fr) := by
  unfold setFlight
  refine Kd.bind (kd_field _ _) fun _ => ?_
  split
  · exact kd_setField _ _ _
  · trivial
theorem kd_leaving (env : Env) (e : Value) : Kd (leaving env e) := Kd.bind (kd_note _ _) fun _ => kd_flight _ _
section
variable {M : Model} {A : Around} {E : Value → Shared → Prop} {s : Shared} {base : Heap} {env : Env} {outer l : List Env} {L e : Addr} {cls a0 : Value} {dd : Option Addr} {Q : Unit → Shared → Prop}
theorem leaves_firstD {oe : Obj} {vs : Array Value} (hfr : A.frames = some (env :: outer)) (hl : s.heap.FunFrames base (env :: outer)) (hf : env.frame = some L) (he : s.heap.get? e = some oe) (hkb : base.StaysIn s.heap)
    (hen : base.get? e = none) (hd : oe.data = .fields vs) (h1 : vs[1]? = some .none) (h0 : vs[0]? = some a0)
    (k : ∀ h',Heap.FlyingW base outer e oe.cls a0 h' → s.heap.UpToSlots h' → DictAt e oe.dict h' → Q () { s with heap := h' }) : wpAny M A (leaving env (.ref e)) Q E s := by
  refine wpAny_mono (Kd.any (kd_leaving _ _) (DictAt.of he) (wpAny_leaving_firstW (Q := fun _ s3 => ∃ h',s3 = { s with heap := h' } ∧ Heap.LeftW base (env :: outer) e oe.cls a0 s.heap h') (E := fun _ _ => False) hfr hl hf he hkb hen hd h1 h0 fun h' x => ⟨h',rfl,x⟩)) (fun _ s3 q => ?_) fun _ _ z => z.1.elim
  obtain ⟨⟨h',rfl,k1,⟨_,_,k2⟩,k3,k4⟩,z⟩ := q
  exact k h' ⟨k1,hen,k2,k3⟩ k4 z
theorem looks_onD (hfr : A.frames = some (env :: outer)) (hf : env.frame = some L) (fly : Heap.FlyingW base (env :: outer) e cls a0 s.heap) (hd : DictAt e dd s.heap)
    (k : ∀ h',Heap.HeldW base (env :: outer) e cls a0 L h' → s.heap.UpToSlots h' → DictAt e dd h' → Q () { s with heap := h' }) : wpAny M A (noteFrame (.ref e) env) Q E s := by
  refine wpAny_mono (Kd.any (kd_note _ _) hd (wpAny_looks_onW (Q := fun _ s3 => ∃ h',s3 = { s with heap := h' } ∧ Heap.HeldW base (env :: outer) e cls a0 L h' ∧ s.heap.UpToSlots h') (E := fun _ _ => False) hfr hf fly fun h' x y => ⟨h',rfl,x,y⟩)) (fun _ s3 q => ?_) fun _ _ z => z.1.elim
  obtain ⟨⟨h',rfl,x,y⟩,z⟩ := q
  exact k h' x y z
theorem landsD (hh : Heap.HeldW base l e cls a0 L s.heap) (hd : DictAt e dd s.heap)
    (k : ∀ h',Heap.FlyingW base l e cls a0 h' → s.heap.UpToSlots h' → DictAt e dd h' → Q () { s with heap := h' }) : wpAny M A (setFlight (.ref e) none) Q E s := by
  refine wpAny_mono (Kd.any (kd_flight _ _) hd (wpAny_landsW (Q := fun _ s3 => ∃ h',s3 = { s with heap := h' } ∧ Heap.FlyingW base l e cls a0 h' ∧ s.heap.UpToSlots h') (E := fun _ _ => False) hh fun h' x y => ⟨h',rfl,x,y⟩)) (fun _ s3 q => ?_) fun _ _ z => z.1.elim
  obtain ⟨⟨h',rfl,x,y⟩,z⟩ := q
  exact k h' x y z
theorem lands_againD (hh : Heap.FlyingW base l e cls a0 s.heap) (hd : DictAt e dd s.heap)
    (k : ∀ h',Heap.FlyingW base l e cls a0 h' → s.heap.UpToSlots h' → DictAt e dd h' → Q () { s with heap := h' }) : wpAny M A (setFlight (.ref e) none) Q E s := by
  refine wpAny_mono (Kd.any (kd_flight _ _) hd (lands_againW (Q := fun _ s3 => ∃ h',s3 = { s with heap := h' } ∧ Heap.FlyingW base l e cls a0 h' ∧ s.heap.UpToSlots h') (E := fun _ _ => False) hh fun h' x y => ⟨h',rfl,x,y⟩)) (fun _ s3 q => ?_) fun _ _ z => z.1.elim
  obtain ⟨⟨h',rfl,x,y⟩,z⟩ := q
  exact k h' x y z
end
end L2
namespace L2
open PySem PySem.Spec PyProof.Rows
def CXF (P : Program) (w : World) : CXT := fun outer H s E e' s' => ∃ (e : Addr) (C a0 : Value) (H' : Hp) (B : Heap) (dd : Option Addr),
  e' = .ref e ∧ s'.os = s.os ∧ AllBare s'.gens ∧ HOk P w H' B ∧ Heap.FlyingW B outer e C a0 s'.heap ∧ Un (frs outer) [] H H' s.heap s'.heap ∧
  (∀ b o,s.heap.get? b = some o → b ∉ frs outer → ∃ o',B.get? b = some o' ∧ (H b = none → o' = o)) ∧ DictAt e dd s'.heap ∧ E C dd H'
theorem Un.upto {fs ex : List Addr} {H H' : Hp} {h h1 h2 : Heap} (u : Un fs ex H H' h h1) (up : h1.UpToSlots h2) (frm : ∀ b o,h1.get? b = some o → b ∈ fs → ∀ vs,o.data ≠ .fields vs)
    (cov : ∀ b o,h.get? b = some o → b ∉ fs → ∃ o',h2.get? b = some o' ∧ (H b = none → o' = o)) : Un fs ex H H' h h2 where
  keep := fun b o e n hb hx => by
    obtain ⟨o',e',q⟩ := cov b o e hb
    rw [e',q n]
  slot := fun b o e n hb hx => by
    obtain ⟨sl,e1⟩ := u.slot b o e n hb hx
    obtain ⟨sl2,e2⟩ := up b _ e1 (frm b _ e1 hb)
    exact ⟨sl2,e2⟩
  free := u.free
  there := fun b o e hx => by
    by_cases hb : b ∈ fs
    · obtain ⟨o1,e1⟩ := u.there b o e hx
      obtain ⟨sl2,e2⟩ := up b _ e1 (frm b _ e1 hb)
      exact ⟨_,e2⟩
    · obtain ⟨o',e',_⟩ := cov b o e hb
      exact ⟨o',e'⟩
  tups := u.tups
  frzs := u.frzs
  tbls := u.tbls
section
variable {P : Program} {w : World} {K : PySem.W.Frag} {mg : Str → Option Value} {base : Heap} {N : List Str} {qual : Str} {scope : Scope} {f : Addr} {cd : Value} {A : Around} {outer : List Env} {s₀ : Shared} {H₀ : Hp} {E E' : XK}
structure ExC (K : PySem.W.Frag) (C : Addr) (bm : List Value) : Prop where
  obj : ∃ (nm q : Str) (NS : Addr) (bs : List Value) (hdct : Bool) (sn : List Str) (sub : List Value) (ab : Bool) (col : Option Bool) (dd : Option Addr) (k0 k1 k2 k3 k5 : Option Value) (mN : Str → Option Value),
    K.lookup C = some (excClassObj nm q C NS bs bm hdct sn sub ab col dd k0 k1 k2 k3 k5 "ValueError.__new__") ∧ mN "__init__" = none ∧ ∀ h : Heap,K.In h → h.Ns NS mN ∧ OwnTail h [.type "ValueError", .type "Exception", .type "BaseException", .type "object"] bm
  base : bm.contains (.type "BaseException") = true
end
end L2
namespace L2
open PySem PySem.Spec PyProof.Rows
section
variable {X : Cx} {pins : List (Addr × Obj)} {σ : St} {H H' : Hp} {s s' : Shared} {B h' : Heap}
theorem Inv.upto (I : Inv X pins σ H s) (I' : Inv X pins σ H' s') (hnc : X.env.cells = []) (hex : X.ex = []) (hst : X.stack = X.env :: X.outer) (hfl : X.env.frame = some X.env.locals)
    (cov : ∀ b o,s.heap.get? b = some o → b ∉ frs X.stack → ∃ o',B.get? b = some o' ∧ (H b = none → o' = o)) (hokB : HOk X.prog X.w H' B) (stay : B.StaysIn h') (up : s'.heap.UpToSlots h')
    (FF : s'.heap.FunFrames B X.stack) : Inv X pins σ H' { s' with heap := h' } := by
  have inS : ∀ b,b ∈ frs X.stack ↔ b = X.env.locals ∨ b ∈ X.fs := fun b => by
    rw [hst]
    unfold frs
    rw [List.filterMap_cons,hfl]
    exact List.mem_cons
  have nofl : ∀ b o,s'.heap.get? b = some o → b ∈ frs X.stack → ∀ vs,o.data ≠ .fields vs := fun b o e hb => by
    obtain ⟨_,o1,e1,q⟩ := FF.mem (b := b) hb
    rw [e] at e1; cases e1
    exact q
  refine ⟨I'.ok,I'.os,I'.bare,?_,?_,fun x c z => ?_,I'.free,I'.freeC,fun p hp => ?_,hokB.kept stay,I'.len⟩
  · refine Un.upto I'.base up (fun b o e hb => nofl b o e ((inS b).mpr (.inr hb))) fun b o e hb => ?_
    have hb2 : b ∉ frs X.stack := fun z => by
      rcases (inS b).mp z with q | q
      · rw [q] at e
        exact absurd (Nat.lt_of_lt_of_le (Heap.lt_size e) I.ok.above) (Nat.lt_irrefl _)
      · exact hb q
    by_cases n : X.H₀ b = none
    · by_cases hx : b ∈ X.ex
      · rw [hex] at hx; cases hx
      · have e2 := I.base.keep b o e n hb hx
        have n2 := I.base.free b o e n hx
        obtain ⟨o',e3,q3⟩ := cov b o e2 hb2
        exact ⟨o',stay _ _ e3,fun _ => q3 n2⟩
    · by_cases hx : b ∈ X.ex
      · rw [hex] at hx; cases hx
      · obtain ⟨o2,e2⟩ := I.base.there b o e hx
        obtain ⟨o',e3,_⟩ := cov b o2 e2 hb2
        exact ⟨o',stay _ _ e3,fun z => absurd z n⟩
  · obtain ⟨m,hn,hl⟩ := I'.loc
    refine ⟨m,up.ns hn,fun i x v e1 e2 e3 => ?_⟩
    obtain ⟨u,r,l⟩ := hl i x v e1 e2 e3
    refine ⟨u,r,?_⟩
    rcases l with l | ⟨_,c,ec,_⟩
    · exact .inl l
    · rw [hnc] at ec; cases ec
  · rw [hnc] at z; cases z
  · obtain ⟨a1,a2,a3,a4,a5⟩ := I'.pin p hp
    obtain ⟨b1,b2,b3,b4,b5⟩ := I.pin p hp
    obtain ⟨o',e3,q3⟩ := cov p.1 p.2 b1 fun z => ((inS p.1).mp z).elim a3 a4
    have := stay _ _ e3
    rw [q3 b2] at this
    exact ⟨this,a2,a3,a4,a5⟩
end
end L2
namespace L2
open PySem PySem.Spec PyProof.Rows
section
variable {X : Cx} {pins : List (Addr × Obj)} {σ : St} {H : Hp} {s : Shared}
theorem name_goes {M : Model} {A : Around} {E : Value → Shared → Prop} {i : Nat} {x : Str} {pos : Pos} {Q : Unit → Shared → Prop} (I : Inv X pins σ H s) (hN : X.N.Nodup) (hi : X.N[i]? = some x) (hk : X.env.kindOf x = some .local)
    (h : ∀ s',Inv X pins (σ.set i none) H s' → Q () s') : wpAny M A (do bindName X.env x .none; unbindBehindTheSuite X.env x pos) Q E s := by
  obtain ⟨m,hn,hl⟩ := id I.loc
  have hcls : (X.env.scope.kind == .class || (X.env.scope.kind == .module && X.env.locals != X.env.globals)) = false := by rw [I.ok.kind]; rfl
  have hiσ : i < σ.length := by rw [I.len]; exact (List.getElem?_eq_some_iff.mp hi).1
  have cne := I.cne
  refine wpAny_nameGoes_keeps hk hn hcls fun h' v hn' hs => h _ ?_
  obtain ⟨oL,_,_,hoL,_⟩ := id hn
  have hok' : HOk X.prog X.w H h' := fun b ob e => by
    refine (I.hok b ob e).stay (fun c w' hc q => (hs.2 c ?_).trans q) (fun _ q => q) fun _ _ q => q
    rintro rfl
    rcases hc with rfl | hc
    · rw [I.free] at e; cases e
    · rw [I.free] at hc; cases hc
  refine ⟨I.ok,I.os,I.bare,⟨fun b o e n hb hx => ?_,fun b o e n hb hx => ?_,I.base.free,fun b o e hx => ?_,I.base.tups,I.base.frzs,I.base.tbls⟩,⟨_,hn',fun j y v' e1 e2 e3 => ?_⟩,fun y c e => ?_,I.free,I.freeC,fun p hp => ?_,hok',by simpa using I.len⟩
  · exact (hs.2 b (Nat.ne_of_lt (Nat.lt_of_lt_of_le (Heap.lt_size e) I.ok.above))).trans (I.base.keep b o e n hb hx)
  · obtain ⟨sl,e1⟩ := I.base.slot b o e n hb hx
    exact ⟨sl,(hs.2 b (Nat.ne_of_lt (Nat.lt_of_lt_of_le (Heap.lt_size e) I.ok.above))).trans e1⟩
  · obtain ⟨o',e1⟩ := I.base.there b o e hx
    exact ⟨o',(hs.2 b (Nat.ne_of_lt (Nat.lt_of_lt_of_le (Heap.lt_size e) I.ok.above))).trans e1⟩
  · by_cases hj : j = i
    · subst hj
      rw [List.getElem?_set_self hiσ] at e2
      cases e2
    · rw [List.getElem?_set_ne (Ne.symm hj)] at e2
      obtain ⟨u',r',q⟩ := hl j y v' e1 e2 e3
      refine ⟨u',r',?_⟩
      rcases q with ⟨k,e⟩ | ⟨k,c,e,z⟩
      · refine .inl ⟨k,?_⟩
        have : y ≠ x := fun e => hj (nodup_ix hN e1 (e ▸ hi))
        simp [this,e]
      · exact .inr ⟨k,c,e,z.sameBut hs (cne y c e)⟩
  · obtain ⟨w',z⟩ := I.cell y c e
    exact ⟨w',z.sameBut hs (cne y c e)⟩
  · obtain ⟨e,n,ne,nf,d⟩ := I.pin p hp
    exact ⟨(hs.2 p.1 ne).trans e,n,ne,nf,d⟩
def Cx.caught (X : Cx) (e : Addr) : Cx := { X with A := X.A.mark (some (.ref e)),calm := false,xe := fun _ _ => False }
theorem Inv.caught (I : Inv X pins σ H s) (e : Addr) : Inv (X.caught e) pins σ H s :=
  ⟨⟨I.ok.mod,I.ok.kind,I.ok.glob,I.ok.blt,I.ok.above,I.ok.inj,I.ok.has,I.ok.cab,(fun z => by cases z),I.ok.frames,I.ok.stk,I.ok.exf,I.ok.bs,I.ok.bsz,I.ok.noex,I.ok.exfs,I.ok.funs,I.ok.frf⟩,I.os,I.bare,I.base,I.loc,I.cell,I.free,I.freeC,I.pin,I.hok,I.len⟩
theorem Inv.uncaught {e : Addr} (I : Inv (X.caught e) pins σ H s) (hc : X.calm = true → X.A.handled = none) : Inv X pins σ H s :=
  ⟨⟨I.ok.mod,I.ok.kind,I.ok.glob,I.ok.blt,I.ok.above,I.ok.inj,I.ok.has,I.ok.cab,hc,I.ok.frames,I.ok.stk,I.ok.exf,I.ok.bs,I.ok.bsz,I.ok.noex,I.ok.exfs,I.ok.funs,I.ok.frf⟩,I.os,I.bare,I.base,I.loc,I.cell,I.free,I.freeC,I.pin,I.hok,I.len⟩
def ExcO (e : Addr) (C : Value) (dd : Option Addr) : HO := .ext fun h => ∃ o,h.get? e = some o ∧ o.cls = C ∧ o.dict = dd ∧ ∃ vs,o.data = .fields vs
theorem Inv.excTrack {e : Addr} {C : Value} {dd : Option Addr} (I : Inv X pins σ H s) (he : ∃ o,s.heap.get? e = some o ∧ o.cls = C ∧ o.dict = dd ∧ ∃ vs,o.data = .fields vs) (hn : H e = none) (h0 : ∀ o,X.s₀.heap.get? e ≠ some o) (hL : e ≠ X.env.locals) (hc : ∀ x c,X.env.cells.lookup x = some c → c ≠ e) (hp : ∀ p ∈ X.pn ++ pins,p.1 ≠ e) :
    Inv X pins σ (upd H e (ExcO e C dd)) s := by
  have ne : ∀ b o,H b = some o → b ≠ e := fun b o z q => by rw [q,hn] at z; cases z
  refine ⟨I.ok,I.os,I.bare,⟨I.base.keep,I.base.slot,fun b o e1 n hx => ?_,I.base.there,fun b xs z => ?_,fun b o u z => ?_,fun b ps z => ?_⟩,I.loc,I.cell,?_,fun x c z => ?_,fun p q => ?_,?_,I.len⟩
  · have q : b ≠ e := fun q => h0 o (by rw [← q]; exact e1)
    rw [upd_ne q]; exact I.base.free b o e1 n hx
  · have := I.base.tups b xs z; rw [upd_ne (ne _ _ this)]; exact this
  · have := I.base.frzs b o u z; rw [upd_ne (ne _ _ this)]; exact this
  · obtain ⟨more,q⟩ := I.base.tbls b ps z; exact ⟨more,by rw [upd_ne (ne _ _ q)]; exact q⟩
  · rw [upd_ne hL.symm]; exact I.free
  · rw [upd_ne (hc x c z)]; exact I.freeC x c z
  · obtain ⟨a1,a2,a3,a4,a5⟩ := I.pin p q
    exact ⟨a1,by rw [upd_ne (hp p q)]; exact a2,a3,a4,a5⟩
  · obtain ⟨o,ho,hcls⟩ := he
    exact I.hok.track hn ⟨⟨o,ho,hcls⟩,⟨o,ho⟩,fun h1 h2 ⟨o,e1,r1⟩ k => ⟨o,k o e1,r1⟩⟩
end
end L2
namespace L2
open PySem PySem.Spec PyProof.Rows
theorem ObjOk.got {P : Program} {w : World} {H : Hp} {h : Heap} {a : Addr} {o : HO} (x : ObjOk P w H h a o) : ∃ ob,h.get? a = some ob := by
  cases o with
  | lst xs => obtain ⟨_,_,_,_,e⟩ := x; exact ⟨_,e⟩
  | tup xs => obtain ⟨_,_,_,ob,e,_⟩ := x; exact ⟨_,e⟩
  | dK kvs => obtain ⟨_,_,_,_,o,_,_,e,_⟩ := x; exact ⟨_,e⟩
  | dT kvs => obtain ⟨_,_,_,_,o,_,_,e,_⟩ := x; exact ⟨_,e⟩
  | set S n => obtain ⟨o,_,_,_,e,_⟩ := x; exact ⟨_,e⟩
  | ins C dx fs => obtain ⟨_,_,_,e,_⟩ := x; exact ⟨_,e⟩
  | own y => obtain ⟨_,e⟩ := x; exact ⟨_,e⟩
  | xd fs => obtain ⟨_,⟨_,_,_,e,_⟩,_⟩ := x; exact ⟨_,e⟩
  | rng lo hi => obtain ⟨_,_,_,e⟩ := x; exact ⟨_,e⟩
  | frz ob u => obtain ⟨e,_⟩ := x; exact ⟨_,e⟩
  | tbl ps => exact ⟨_,(show h.get? a = some _ from x)⟩
  | met f y => exact ⟨_,(show h.get? a = some _ from x)⟩
  | ext φ => obtain ⟨_,⟨_,e⟩,_⟩ := x; exact ⟨_,e⟩
end L2
namespace L2
open PySem PySem.Spec PyProof.Rows
theorem Fun.okX {P : Program} {w : World} {K : PySem.W.Frag} {mg : Str → Option Value} {base : Heap} {x qual : Str} {st : Stmt} {f : Addr} {fd : FuncData} {N ps : List Str} {k : Nat} {sp : Sp} (F : Fun K x qual st f fd) (S : FnScope N ps (defScope st)) (len : ∀ vs H Q E,sp vs H Q E → vs.length = ps.length)
    (hbody : ∀ (cdv : Value) (A : Around) (outer : List Env) (s : Shared) (H : Hp) (vs : List V) (Q : VK) (E : XK),Room k (A.deeper (envOfC qual (defScope st) s.heap.objs.size f cdv)) → sp vs H Q E →
      ∃ t,PSs (cxOf (CXF P w) P w K mg base N qual (defScope st) f cdv A outer s H E) (defBody st) t ∧ t { nx := fun _ H' => Q .non H',rt := Q } (start N vs) H) : FnOk P w K mg base (CXF P w) (k + 1) f fd ps sp := by
  obtain ⟨oc,od,kV,doc,pm,an,cdv,ct,osl,rfl,lk,hcd⟩ := F.ex
  refine fn_of lk hcd S len fun A outer s H vs Q E hr hsp => ?_
  obtain ⟨t,h,q⟩ := hbody cdv A outer s H vs Q E hr hsp
  exact ⟨t,h,q⟩
end L2
namespace L2
open PySem PySem.Spec PyProof.Rows
theorem paired_of_get {α β : Type} {F : α → β → Prop} : ∀ {l₁ : List α} {l₂ : List β},l₁.length = l₂.length → (∀ (i : Nat) a b,l₁[i]? = some a → l₂[i]? = some b → F a b) → Paired F l₁ l₂
  | [],[],_,_ => .nil
  | a :: l₁,b :: l₂,hl,h => .cons (h 0 a b rfl rfl) (paired_of_get (by simpa using hl) fun i x y hx hy => h (i + 1) x y (by simpa using hx) (by simpa using hy))
section
variable {X : Cx}
theorem call_sumL {K : PySem.W.Frag} (hc : X.calm = true) (hK : X.K = K := by rfl) : CallR X (.builtin "sum") (fun xs H Q => ∃ (p : Addr) (ns : List Int),xs = [.ref p] ∧ SqL K H p (ns.map V.int) ∧ Q (.int ns.sum) H) := by
  subst hK
  intro pins s σ H xs us Q I r h
  obtain ⟨p,ns,rfl,hq,q⟩ := h
  obtain ⟨u,rfl,ru⟩ := vals1 r
  cases ru
  obtain ⟨its,rv,pl,hz⟩ := I.list hq
  have hi := intsAre_of rv
  obtain ⟨zs,hx⟩ := hi.allInts.items
  have hl' : s.heap.IsList p (intItems zs) := hx ▸ pl.isList
  refine sum_intListG (I.ok.hd hc) hl' fun h' tk t' hk => ?_
  have e1 : ns = zs.toList.map (·.1) := by
    rw [← nums_intItems,← hx]
    exact (show numsOf its.toArray.toList = ns from hi.numsOf).symm
  have e2 : preSum (numAt zs) zs.size = ns.sum := by
    rw [preSum_eq,List.take_of_length_le (by simp),e1]
  rw [e2]
  exact ⟨.int _,H,I.kept (t' := tk) hk,⟨_,rfl⟩,q⟩
end
theorem neD_same {K : PySem.W.Frag} {H : Hp} {x y : V} {d : PyData} {Q : VK} (h1 : Dv K H x d) (h2 : Dv K H y d) (hs : SeqAt.shaped d = true) (q : Q (.bl false) H) : rNeD K x y H Q :=
  ⟨d,d,h1,h2,hs,hs,by rw [PySem.SeqAt.eqv_refl d (SeqAt.canLay_of_shaped hs)]; exact q⟩
end L2
namespace L2
open PySem PySem.Spec PyProof.Rows
theorem HOk.others {P : Program} {w : World} {H : Hp} {h h' : Heap} (l : List Addr) (x : HOk P w H h) (hn : ∀ a ∈ l,H a = none) (k : ∀ b u,b ∉ l → h.get? b = some u → h'.get? b = some u) : HOk P w H h' := by
  intro b u e
  refine (x b u e).stay (fun c v hc q => k c v ?_ q) (fun _ q => q) fun _ _ q => q
  intro hm
  rcases hc with z | z
  · rw [z] at hm; rw [hn _ hm] at e; cases e
  · rw [hn _ hm] at z; cases z
def Ite (K : PySem.W.Frag) (a : Addr) : It :=
  ⟨fun i H => ∃ xs x,SqL K H a xs ∧ xs[i]? = some x,fun i H x H' => ∃ p y,x = .ref p ∧ H p = none ∧ H' = upd H p (.tup [.int (i : Int),y]) ∧ ∀ xs,SqL K H a xs → xs[i]? = some y,fun i H => ∃ xs,SqL K H a xs ∧ xs.length ≤ i⟩
theorem turn_enum {P : Program} {w : World} {K : PySem.W.Frag} {elts : List Expr} {x1} {tpos : Pos} (a e it : Addr) (hne : e ≠ it) :
    Turn P w K (.Tuple elts x1 tpos) (Ite K a) [e,it] e (fun i h => (∃ old,IsEnum h e it i old) ∧ h.IsListIter it a i) where
  mem := by simp
  obj := fun i h st b hb => by
    obtain ⟨⟨old,he⟩,o,e2,c,d⟩ := st
    rcases List.mem_cons.mp hb with z | z
    · subst z
      exact ⟨_,he,fun v z => by
        have z' : Data.fields _ = Data.cell v := z
        cases z'⟩
    · have z : b = it := by simpa using z
      subst z
      exact ⟨o,e2,fun v z => by rw [d] at z; cases z⟩
  keep := fun i h h' st k => by
    obtain ⟨⟨old,he⟩,st⟩ := st
    exact ⟨⟨old,k e (by simp) _ he⟩,st.at fun o q => k it (by simp) o q⟩
  item := by
    intro X hP hw hK hc i pins s σ H E I hf st hg
    subst hP hw hK
    obtain ⟨xs,x,hq,hx⟩ := hg
    obtain ⟨its,rv,p,hz⟩ := I.list hq
    obtain ⟨u,hu,ru⟩ := rv.get hx
    obtain ⟨⟨old,he⟩,hit⟩ := st
    obtain ⟨f0,f1,f2,f3,f4,f5⟩ := hf e (by simp)
    obtain ⟨g0,g1,g2,g3,g4,g5⟩ := hf it (by simp)
    have elt : e < s.heap.objs.size := Heap.lt_size he
    have ilt : it < s.heap.objs.size := by obtain ⟨o,q,_⟩ := id hit; exact Heap.lt_size q
    refine wpAny_pyNext_enum_item he hit p.isList (x := u) (by simpa using hu) hne fun h' eo hit' ht hsz kk => ⟨_,rfl,wpAny_letOwnedTupleGo_enum eo fun h2 he2 sb => ?_⟩
    have hp : H s.heap.objs.size = none := I.hok.fresh (Nat.le_refl _)
    have pe : s.heap.objs.size ≠ e := Nat.ne_of_gt elt
    have pit : s.heap.objs.size ≠ it := Nat.ne_of_gt ilt
    have kk2 : ∀ b o,b ∉ [e,it] → s.heap.get? b = some o → h2.get? b = some o := fun b o hb q => by
      have b1 : b ≠ e := fun z => hb (by simp [z])
      have b2 : b ≠ it := fun z => hb (by simp [z])
      exact (sb.2 b b1).trans (kk b o b1 b2 q)
    have hit2 : h2.IsListIter it a (i + 1) := by
      obtain ⟨o,q,c,d⟩ := id hit'
      exact ⟨o,(sb.2 it (fun z => hne z.symm)).trans q,c,d⟩
    have ht2 : h2.get? s.heap.objs.size = some { cls := .type "tuple", data := .seq #[.int i s.toks,u] } := (sb.2 _ pe).trans ht
    have hok : HOk X.prog X.w (upd H s.heap.objs.size (.tup [.int (i : Int),x])) h2 := by
      refine (I.hok.others [e,it] (fun b hb => (hf b hb).1) kk2).track hp ?_
      exact ⟨show 2 ≤ sizeLine by decide,[.int i s.toks,u],.cons ⟨_,rfl⟩ (.cons ru .nil),⟨_,ht2,rfl,_,rfl⟩⟩
    have un : Un (frs X.stack) [e,it] H (upd H s.heap.objs.size (.tup [.int (i : Int),x])) s.heap h2 := by
      refine ⟨fun b o q n hb hx => kk2 b o hx q,fun b o q n hb hx => ⟨o.slots,kk2 b o hx q⟩,fun b o q n hx => ?_,fun b o q hx => ⟨o,kk2 b o hx q⟩,fun b ys q => ?_,fun b o u q => ?_,fun b ps q => ?_⟩
      · rw [upd_ne (Nat.ne_of_lt (Heap.lt_size q))]; exact n
      · rw [upd_ne (ne_of_none q hp)]; exact q
      · rw [upd_ne (ne_of_none q hp)]; exact q
      · exact ⟨#[],by rw [upd_ne (ne_of_none q hp),Array.append_empty]; exact q⟩
    have I2 : Inv X pins σ (upd H s.heap.objs.size (.tup [.int (i : Int),x])) { s with heap := h2,toks := s.toks + 1 } :=
      I.call' (s' := { s with heap := h2,toks := s.toks + 1 }) (ch := [e,it]) rfl un hok I.bare fun b hb => by
        obtain ⟨q0,q1,q2,q3,q4,q5⟩ := hf b hb
        exact ⟨q3,q1,q4,q5⟩
    refine ⟨.ref s.heap.objs.size,_,I2,rfl,⟨_,x,rfl,hp,rfl,fun ys hy => by rw [I.list_inj hy hq]; exact hx⟩,⟨⟨u,?_⟩,hit2⟩,fun b hb => ?_⟩
    · have : ((i + 1 : Nat) : Int) = (i : Int) + 1 := by omega
      rw [this]
      exact he2
    · have hb' : b ≠ s.heap.objs.size := fun z => by
        rcases List.mem_cons.mp hb with q | q
        · exact pe (z.symm.trans q)
        · exact pit (z.symm.trans (by simpa using q))
      rw [upd_ne hb']
      exact (hf b hb).1
  done := by
    intro X hP hw hK hc i pins s σ H E I hf st hg
    subst hP hw hK
    obtain ⟨xs,hq,hx⟩ := hg
    obtain ⟨its,rv,p,hz⟩ := I.list hq
    obtain ⟨⟨old,he⟩,hit⟩ := st
    obtain ⟨f0,f1,f2,f3,f4,f5⟩ := hf it (by simp)
    have hl := rv.length
    exact wpAny_pyNext_enum_end (I.ok.hd hc) he hit p.isList (by simp; omega) fun h' eb => ⟨rfl,I.turned (t' := s.toks) (fun b o hb e => eb b o hb e) f0 f1 f3 f4 f5⟩
  self := fun _ _ _ _ _ st h => by
    obtain ⟨⟨old,he⟩,_⟩ := st
    exact wpAny_pyIter_enum he h
section
variable {X : Cx}
def iEnum (K : PySem.W.Frag) (tl : TE) : TI := fun σ H R => tl σ H fun x H1 => ∃ a,x = .ref a ∧ (∃ xs,SqL K H1 a xs) ∧ R (Ite K a) H1
theorem pi_enum {K : PySem.W.Frag} {l : Expr} {tl : TE} {elts : List Expr} {x1} {tpos p pos : Pos} (hg : Gl X "enumerate") (hm : X.mg "enumerate" = none) (hl : PE X l tl) (hK : X.K = K := by rfl)
    (hs : starEach [l] X.env = [(false,eval l X.env)] := by rfl) : PI X (.Tuple elts x1 tpos) (.Call (.Name "enumerate" p) [l] [] pos) (iEnum K tl) := by
  subst hK
  intro pins s σ H R I h
  refine Call_ (ld_blt I hg hm boot_enumerate (PyProof.Rows.callWith_type1 ?_ hs rfl))
  rw [hs]
  refine Calls.spliced_cons (thn (hl pins s σ H _ I h) fun v s1 ⟨x,H1,I1,r1,q1⟩ => ?_)
  refine Calls.spliced_nil ?_
  obtain ⟨a,e,⟨xs,hq⟩,q⟩ := q1
  subst e
  cases r1
  obtain ⟨its,rv,p,hz⟩ := I1.list hq
  refine call_enumerate_list p.isList fun h' he hit hsz kk => ?_
  have I2 : Inv X pins σ H1 { s1 with heap := h' } := I1.kept (t' := s1.toks) kk
  refine wpAny_pyIter_enum he ?_
  refine ⟨s1.heap.objs.size + 1,[s1.heap.objs.size + 1,s1.heap.objs.size],_,_,H1,rfl,I2,turn_enum a _ _ (Nat.succ_ne_self _),⟨⟨_,he⟩,hit⟩,fun b hb => ?_,q⟩
  rcases List.mem_cons.mp hb with z | z
  · subst z
    exact I1.fpOk (Nat.le_succ _) (I1.hok.fresh (Nat.le_succ _))
  · have z : b = s1.heap.objs.size := by simpa using z
    subst z
    exact I1.fpOk (Nat.le_refl _) (I1.hok.fresh (Nat.le_refl _))
end
section
variable {X : Cx}
end
theorem for_enum {K : PySem.W.Frag} {a : Addr} {xs : List V} {g : TG} {tb : TS} {D : Ends} {σ : St} {H : Hp} (Pv : Nat → St → Hp → Prop) (h0 : Pv 0 σ H) (hl : ∀ i σ H,i ≤ xs.length → Pv i σ H → SqL K H a xs)
    (hs : ∀ (i : Nat) x σ H p,xs[i]? = some x → Pv i σ H → H p = none → g (.ref p) σ (upd H p (.tup [.int (i : Int),x])) fun σ2 H2 => tb { D with nx := Pv (i + 1),ct := Pv (i + 1),bk := D.nx } σ2 H2) (hd : ∀ σ H,Pv xs.length σ H → D.nx σ H) :
    ∃ W : Nat → Nat → St → Hp → Prop,(∃ m,W 0 m σ H) ∧ ∀ i m σ H,W i m σ H →
      ((Ite K a).stop i H ∧ D.nx σ H) ∨ ((Ite K a).go i H ∧ ∃ N : St → Hp → Prop,(∀ σ' H',N σ' H' → ∃ m',m' < m ∧ W (i + 1) m' σ' H') ∧ ∀ x H',(Ite K a).yld i H x H' → g x σ H' fun σ2 H2 => tb { D with nx := N,ct := N,bk := D.nx } σ2 H2) := by
  refine ⟨fun i m σ H => m = xs.length - i ∧ i ≤ xs.length ∧ Pv i σ H,⟨xs.length,by simp,Nat.zero_le _,h0⟩,?_⟩
  rintro i m σ H ⟨rfl,hi,p⟩
  have q := hl i σ H hi p
  by_cases hlt : i < xs.length
  · refine .inr ⟨⟨xs,xs[i],q,by simp [hlt]⟩,Pv (i + 1),fun σ' H' p' => ⟨xs.length - (i + 1),by omega,rfl,hlt,p'⟩,fun x H' y => ?_⟩
    obtain ⟨r,z,rfl,hr,rfl,hy⟩ := y
    exact hs i z σ H r (hy xs q) p hr
  · have e : i = xs.length := by omega
    subst e
    exact .inl ⟨⟨xs,q,Nat.le_refl _⟩,hd σ H p⟩
end L2
namespace L2
open PySem PySem.Spec PyProof.Rows
abbrev TX := St → Hp → VK → XK → Prop
def PEX (X : Cx) (e : Expr) (t : TX) : Prop :=
  ∀ (pins : List (Addr × Obj)) (s : Shared) (σ : St) (H : Hp) (Q : VK) (E : XK),Inv X pins σ H s → t σ H Q E →
    wpAny (model X.prog X.w) X.A (eval e X.env) (EP X pins σ Q) (fun e' s' => ∃ H1 s1,Inv X pins σ H1 s1 ∧ CXF X.prog X.w X.stack H1 s1 E e' s') s
section
variable {X : Cx} {k : Nat} {f C : Addr} {fd : FuncData} {ps : List Str} {sp : Sp} {x : Str} {p pos : Pos} {e : Expr} {es : List Expr} {t : TA} {te : TE}
theorem pex_of (h : PE X.nox e te) : PEX X e (fun σ H Q _ => te σ H Q) := by
  intro pins s σ H Q E I hq
  exact wpAny_mono (h pins s σ H Q (I.wish _) hq) (fun v s1 ⟨y,H1,I1,r1,q1⟩ => ⟨y,H1,I1.unwish,r1,q1⟩) fun _ _ z => False.elim z
def tXCall (sp : Sp) (t : TA) : TX := fun σ H Q E => t σ H fun vs H1 => sp vs H1 Q E
theorem pex_call (F : FnOk X.prog X.w X.K X.mg X.base (CXF X.prog X.w) k f fd ps sp) (hr : Room k X.A) (hg : Gl X x) (hm : X.mg x = some (.ref f)) (hk : PySem.W.keepIn X.K (.ref f) = true) (hb : Binds X.K fd ps [])
    (ha : PA X.nox (e :: es) t) (hdb : (x == ("__debug__" : Str)) = false := by decide) (he : starEach (e :: es) X.env = (false,eval e X.env) :: starEach es X.env := by rfl) (hpl : (backTo pos (starEach es X.env)).any (·.1) = false := by rfl) :
    PEX X (.Call (.Name x p) (e :: es) [] pos) (tXCall sp t) := by
  intro pins s σ H Q E I h
  refine wpAny_Call_Name_kw (ld_glob I hg hm ?_ hdb)
  refine PySem.W.callWith_K (h₀ := X.base) I.ok.mod.kin hk (wpAny_mono (ha pos pins s σ H _ (I.wish _) h) (fun us s1 ⟨vs,H1,I1w,r,q⟩ => ⟨I1w.kIn,?_⟩) fun _ _ z => False.elim z) he hpl
  have I1 := I1w.unwish
  have hl : us.length = ps.length := by rw [← r.length]; exact F.len _ _ _ _ q
  refine wpAny_call (codeAny_mono (F.run X.A X.stack s1 H1 ⟨us,[]⟩ us vs Q _ hr I1.env0 (by have := hb s1 us I1.kIn (by simpa using hl); simpa using this) r q) fun rr s' hq => ?_)
  cases rr with
  | ok fl =>
    cases fl with
    | ret u =>
      obtain ⟨v,H',I',rv,qv⟩ := I1.after hq
      exact ⟨v,H',I',rv,qv⟩
    | next => exact False.elim hq
    | brk => exact False.elim hq
    | cont => exact False.elim hq
  | error ev => exact ⟨H1,s1,I1,hq⟩
end
section
variable {X : Cx} {cn n : Str} {rpos np hpos pos : Pos} {e0 : Expr} {tx : TX} {CF : Addr} {b₀ : Stmt} {suite : List Stmt} {th : Addr → TS} {i : Nat}
def xHand (K : PySem.W.Frag) (CF : Addr) (i : Nat) (th : Addr → TS) (D : Ends) (σ : St) : XK := fun C dd H' => PySem.W.exmOne K C (.ref CF) = some true ∧
  ∀ e,H' e = none → th e { nx := fun σ' H'' => D.nx (σ'.set i none) H'',rt := D.rt } (σ.set i (some (.ref e))) (upd H' e (ExcO e C dd))
theorem lands_at {pins : List (Addr × Obj)} {σ : St} {H1 : Hp} {s1 s' : Shared} {D : Ends} {ev : Value} (hnc : X.env.cells = []) (hex : X.ex = []) (hst : X.stack = X.env :: X.outer) (hfl : X.env.frame = some X.env.locals)
    (hgc : Gl X cn) (hmc : X.mg cn = some (.ref CF)) (hN : X.N.Nodup) (hi : X.N[i]? = some n) (hln : X.env.kindOf n = some .local) (hfn : X.fn n = true ∨ X.env.scope.names.lookup n = some .local)
    (hs : ∀ e,PSs (X.caught e) (b₀ :: suite) (th e)) (hdc : (cn == ("__debug__" : Str)) = false) (I1 : Inv X pins σ H1 s1) (hq : CXF X.prog X.w X.stack H1 s1 (xHand X.K CF i th D σ) ev s') :
    wpAny (model X.prog X.w) X.A (noteFrame ev X.env) (fun _ s₂ => wpAny (model X.prog X.w) X.A (setFlight ev none) (fun _ s₃ => wpAny (model X.prog X.w) X.A (handleBy ev X.env [.ExceptHandler (some (.Name cn np)) (some n) (b₀ :: suite) hpos]) (SP X pins D) X.xe s₃) X.xe s₂) X.xe s' := by
  obtain ⟨e,C,a0,H',B,dd,rfl,os,bare,hokB,fly,un,cov,hdd,hmat,hh⟩ := hq
  have I2 := I1.call' (s' := s') (ch := []) os un (hokB.kept fly.1) bare fun b hb => absurd hb (by simp)
  have hfr : X.A.frames = some (X.env :: X.outer) := by rw [← hst]; exact I1.ok.frames
  have fly' : Heap.FlyingW B (X.env :: X.outer) e C a0 s'.heap := by rw [← hst]; exact fly
  refine looks_onD hfr hfl fly' hdd fun h3 held up3 hd3 => ?_
  refine landsD held hd3 fun h4 fly4 up4 hd4 => ?_
  have I4 : Inv X pins σ H' { s' with heap := h4 } := Inv.upto I1 I2 hnc hex hst hfl cov hokB fly4.1 (up3.trans up4) fly.2.2.1
  obtain ⟨oe,hoe,hoec⟩ := fly.there
  have eB : B.get? e = none := fly.2.1
  have efl : ∃ vs,oe.data = .fields vs := by
    obtain ⟨_,_,_,oe',vs,T,oT,ts,a1,a2,a3,_⟩ := fly
    rw [hoe] at a1; cases a1
    exact ⟨_,a3⟩
  have nfr : e ∉ frs X.stack := fun z => by
    obtain ⟨_,o1,e1,q1⟩ := fly.2.2.1.mem (b := e) z
    rw [hoe] at e1; cases e1
    obtain ⟨vs,q2⟩ := efl
    exact q1 vs q2
  have inS : X.env.locals ∈ frs X.stack := by
    rw [hst]; unfold frs; rw [List.filterMap_cons,hfl]; exact List.mem_cons_self
  have ns1 : ∀ o,s1.heap.get? e ≠ some o := fun o z => by
    obtain ⟨o',q1,_⟩ := cov e o z nfr
    rw [eB] at q1; cases q1
  have hn0 : H' e = none := by
    cases z : H' e with
    | none => rfl
    | some u =>
      obtain ⟨o',q1⟩ := (hokB e u z).got
      rw [eB] at q1; cases q1
  refine wpAny_handleBy_cons (codeAny_handlers_test (ld_glob (X := X.caught e) (I4.caught e) hgc hmc ?_ hdc)) (by intro q; cases q)
  obtain ⟨o4,ho4,hc4⟩ := fly4.there
  have LT : PySem.W.Looks (model X.prog X.w) h4 (typeOf (.ref e)) C := by
    rw [← hc4]
    exact (PySem.W.Looks.ld ho4).andThen .now
  refine PySem.W.exm_one (M := model X.prog X.w) I4.kIn LT hmat _ _ _ _ (fun b o z => z) ?_
  show codeAny _ _ _ _ _
  refine codeAny_handlers_suite_as (lands_againD fly4 hd4 fun h5 fly5 up5 hd5 => ?_)
  have I5 : Inv X pins σ H' { s' with heap := h5 } := Inv.upto I1 I2 hnc hex hst hfl cov hokB fly5.1 ((up3.trans up4).trans up5) fly.2.2.1
  have there5 : ∃ o,h5.get? e = some o ∧ o.cls = C ∧ o.dict = dd ∧ ∃ vs,o.data = .fields vs := by
    obtain ⟨oe5,vs5,g1,g2,g3,_⟩ := fly5.first
    exact ⟨oe5,g1,g2,hd5.get g1,vs5,g3⟩
  have I6 := I5.excTrack (e := e) (C := C) (dd := dd) there5 hn0 (fun o z => ?_) (fun z => nfr (z ▸ inS)) (fun x c z => by rw [hnc] at z; cases z) (fun p hp z => ?_)
  · refine store_ok (X := X.caught e) (I6.caught e) hN hi (.inl hln) (v := .ref e) rfl (fun s7 I7 => ?_) hfn
    refine wpAny_mono (hs e pins s7 _ _ _ I7 (hh e hn0)) (fun fl s8 q8 => ?_) fun _ _ z => False.elim z
    cases fl with
    | next =>
      obtain ⟨σ8,H8,I8,q8⟩ := q8
      exact name_goes (I8.uncaught fun z => I1.ok.hd z) hN hi hln fun s9 I9 => ⟨_,_,I9,q8⟩
    | ret u =>
      obtain ⟨v,σ8,H8,I8,rv,q8⟩ := q8
      exact name_goes (I8.uncaught fun z => I1.ok.hd z) hN hi hln fun s9 I9 => ⟨v,_,_,I9,rv,q8⟩
    | brk => obtain ⟨_,_,_,z⟩ := q8; exact False.elim z
    | cont => obtain ⟨_,_,_,z⟩ := q8; exact False.elim z
  · obtain ⟨o',q1⟩ := I1.base.there e o z (by rw [hex]; simp)
    exact ns1 o' q1
  · have b1 := (I1.pin p hp).1
    rw [z] at b1
    exact ns1 _ b1
theorem ps_tryR (hnc : X.env.cells = []) (hex : X.ex = []) (hst : X.stack = X.env :: X.outer) (hfl : X.env.frame = some X.env.locals) (hx : PEX X e0 tx)
    (hgc : Gl X cn) (hmc : X.mg cn = some (.ref CF)) (hN : X.N.Nodup) (hi : X.N[i]? = some n) (hln : X.env.kindOf n = some .local) (hfn : X.fn n = true ∨ X.env.scope.names.lookup n = some .local)
    (hs : ∀ e,PSs (X.caught e) (b₀ :: suite) (th e)) (hdc : (cn == ("__debug__" : Str)) = false := by decide) :
    PS X (.Try [.Return (some e0) rpos] [.ExceptHandler (some (.Name cn np)) (some n) (b₀ :: suite) hpos] [] [] pos) (fun D σ H => tx σ H D.rt (xHand X.K CF i th D σ)) := by
  intro pins s σ H D I h
  refine wpAny_Try_except (wpAny_execs_cons (wpAny_Return_some ?_))
  exact wpAny_mono (hx pins s σ H _ _ I h) (fun v s1 ⟨y,H1,I1,r1,q1⟩ => ⟨y,σ,H1,I1,r1,q1⟩) fun ev s' ⟨H1,s1,I1,hq⟩ => lands_at hnc hex hst hfl hgc hmc hN hi hln hfn hs hdc I1 hq
end
structure ExD (K : PySem.W.Frag) (C : Addr) (bm : List Value) : Prop where
  obj : ∃ (nm q : Str) (NS : Addr) (bs : List Value) (hdct : Bool) (sn : List Str) (sub : List Value) (ab : Bool) (col : Option Bool) (dd : Option Addr) (k0 k1 k2 k3 k5 : Option Value),
    K.lookup C = some (excClassObj nm q C NS bs bm hdct sn sub ab col dd k0 k1 k2 k3 k5 "ValueError.__new__") ∧
      ∀ h : Heap,K.In h → (∃ mN,h.Ns NS mN ∧ mN "__init__" = none) ∧ OwnTail h [.type "ValueError", .type "Exception", .type "BaseException", .type "object"] bm
theorem exc_of {K : PySem.W.Frag} {C : Addr} (q : PySem.W.excIn K C [.type "ValueError", .type "Exception", .type "BaseException", .type "object"] "ValueError.__new__" = true) : ∃ bm,ExD K C bm := by
  unfold PySem.W.excIn at q
  split at q
  · rename_i dd cd sl ho
    split at q
    · rename_i C2 bm k0 k1 k2 k3 nn k5 hm hs
      simp only [Bool.and_eq_true,beq_iff_eq,Bool.not_eq_true'] at q
      obtain ⟨⟨⟨⟨⟨e1,e2⟩,e3⟩,e4⟩,e5⟩,e6⟩ := q
      have hsl : sl = #[k0,k1,k2,k3,some (.builtin nn),k5] := by rw [← Array.toArray_toList (xs := sl),hs]
      cases cd with
      | mk a1 a2 a3 a4 a5 a6 a7 a8 a9 a10 a11 =>
        have hm : a3 = .ref C2 :: bm := hm
        have e3 : a11 = false := e3
        subst hsl e1 e2 e3 hm
        exact ⟨bm,⟨a1,a5,a4,a2,a6,a7,a8,a9,a10,dd,k0,k1,k2,k3,k5,ho,fun h X => ⟨⟨_,.of_isNs (PySem.W.isNs_of_in X e5),PySem.W.nsMap_none_of_in X e5 e6⟩,PySem.W.tail_of_in X e4⟩⟩⟩
    · cases q
  · cases q
section
variable {P : Program} {w : World} {K : PySem.W.Frag} {mg : Str → Option Value} {base : Heap} {N : List Str} {qual : Str} {scope : Scope} {f : Addr} {cd : Value} {A : Around} {outer : List Env} {s₀ : Shared} {H₀ : Hp} {E' : XK}
end
end L2
namespace L2
open PySem PySem.Spec PyProof.Rows
open AutoSeq1 (wpAny_loadPart')
open MeetsSeq
section
variable {X : Cx}
end
theorem iteD {c A B : Prop} [Decidable c] (hc : c) (h : A) : if decide c = true then A else B := by rw [decide_eq_true hc]; exact iteT h
theorem iteNSn {c A B : Prop} [Decidable c] (hc : ¬ c) (h : A) : if (!decide c) = true then A else B := by rw [decide_eq_false hc]; exact iteT h
end L2
namespace L2
open PySem PySem.Spec PyProof.Rows
structure ExI (K : PySem.W.Frag) (C : Addr) : Prop where
  ga : PySem.W.findIn K (.ref C) "__getattribute__" = some (some (.builtin "BaseException.__getattribute__"))
  gt : PySem.W.findIn K (.ref C) "__getattr__" = some none
  ck : PySem.W.findIn K (.ref C) "__class__" = some (some (.builtin "object.__class__"))
  sb : PySem.W.subIn K (.ref C) (.type "BaseException") = some true
  so : PySem.W.subIn K (.ref C) (.type "object") = some true
  cl : (PySem.W.clsIn K C).isSome = true
section
variable {prog : Program} {w : World} {A : Around} {E : Value → Shared → Prop} {K : PySem.W.Frag} {h : Heap} {g : Array GenState} {d : Drawn} {t : Nat} {os : OsState} {a C : Addr} {o : Obj}
theorem exc_looks (hx : h.get? a = some o) (hc : o.cls = .ref C) : PySem.W.Looks (model prog w) h (typeOf (.ref a)) (.ref C) := by
  rw [← hc]
  exact (PySem.W.Looks.ld hx).andThen .now
theorem exc_class_get {R : Result → Shared → Prop} (X : ExI K C) (kin : K.In h) (hx : h.get? a = some o) (hc : o.cls = .ref C) (hq : R (.ok (.ret (.ref C))) ⟨h,g,d,t,os⟩) :
    codeAny (model prog w) A (.call (.builtin "getset_descriptor.__get__") ⟨[.builtin "object.__class__", .ref a,.ref C],[]⟩) R ⟨h,g,d,t,os⟩ := by
  have gsT : (⟨h,g,d,t,os⟩ : Shared).TypeIs (.builtin "object.__class__") "getset_descriptor" := F.typeOf_object_class
  have LS : PySem.W.Looks (model prog w) h (isSubtype (.ref C) (.type (".".intercalate ("object.__class__".cutAt '.').dropLast))) true := by
    rw [F.owner_object_class]
    exact PySem.W.looks_subIn kin X.so
  refine codeAny_call_builtin F.slot_gs_get.plain F.entry_gs_get ?_
  refine F.slot_gs_get.check _ _ _ _ _ _ _ _ gsT (F.args_gs_get _ _ _) ?_
  repeat (any_goals (first | assumption | (with_reducible refine wpAny_loadPart_at hx ?_; rw [hc]) | with_reducible refine LS.at ?_ | wp_step))
  refine ⟨Code.quiet_builtin _ (by decide +kernel),codeAny_builtin F.entry_object_class ?_⟩
  repeat (any_goals (first | assumption | (with_reducible refine wpAny_loadPart_at hx ?_; rw [hc]) | wp_step))
theorem exc_class_entry {tk : Tok} {Q : Fin → Shared → Prop} (X : ExI K C) (kin : K.In h) (hx : h.get? a = some o) (hc : o.cls = .ref C) (hq : Q (.done (.ret (.ref C))) ⟨h,g,d,t,os⟩) :
    wpAny (model prog w) A (Builtin.«object.__getattribute__» ⟨[.ref a,.str "__class__" tk],[]⟩) Q E ⟨h,g,d,t,os⟩ := by
  have gsT : (⟨h,g,d,t,os⟩ : Shared).TypeIs (.builtin "object.__class__") "getset_descriptor" := F.typeOf_object_class
  have y5 := F.typeOf_object_class
  have y6 := F.slot_gs_get.lookup
  have y7 := F.slot_gs_set.lookup
  have LC := PySem.W.looks_findIn (M := model prog w) kin X.ck
  repeat (any_goals (first | assumption | (with_reducible refine wpAny_loadPart_at hx ?_; rw [hc]) | with_reducible refine LC.at ?_ | wp_step))
  refine exc_class_get X kin hx hc ?_
  repeat (any_goals (first | assumption | wp_step))
theorem exc_check {M : Model} {nameV : Value} {Q : Unit → Shared → Prop} (X : ExI K C) (kin : K.In h) (hx : h.get? a = some o) (hc : o.cls = .ref C) (hq : Q () ⟨h,g,d,t,os⟩) :
    wpAny M A (checkBuiltinCall "BaseException.__getattribute__" ⟨[.ref a,nameV],[]⟩) Q E ⟨h,g,d,t,os⟩ := by
  have k1 : builtinKind "BaseException.__getattribute__" = some .slot := by decide +kernel
  have k2 : splitId "BaseException.__getattribute__" = some ("BaseException", "__getattribute__") := by decide +kernel
  have LB : PySem.W.Looks M h (isSubtype (.ref C) (.type "BaseException")) true := PySem.W.looks_subIn kin X.sb
  have k3 := F.args_bexc_ga (.ref a) nameV
  simp only [checkBuiltinCall,k1,k2]
  refine wpAny_bind ?_
  unfold isInstance
  repeat (first | (with_reducible refine wpAny_loadPart_at hx ?_; rw [hc]) | with_reducible refine LB.at ?_ | wp_step)
  exact hq
theorem exc_class_by {tk : Tok} {Q : Value → Shared → Prop} (X : ExI K C) (kin : K.In h) (hx : h.get? a = some o) (hc : o.cls = .ref C) (hq : Q (.ref C) ⟨h,g,d,t,os⟩) :
    wpAny (model prog w) A (getAttrBy (.ref a) (.str "__class__" tk) false) Q E ⟨h,g,d,t,os⟩ := by
  have L0 : PySem.W.Looks (model prog w) h (typeOf (.ref a)) (.ref C) := exc_looks hx hc
  have L1 := PySem.W.looks_findIn (M := model prog w) kin X.ga
  have LH : PySem.W.Looks (model prog w) h (hookBefore (.ref C)) none := PySem.W.looks_hook kin (by rw [if_pos (show onTheHeap (Value.ref C) = true from rfl)]; exact X.gt)
  have f3 := F.attrBase_ValueError.ga.bind (.ref a)
  unfold getAttrBy
  refine wpAny_holding (wpAny_bind (L0.at (wpAny_bind (L1.at ?_))))
  show wpAny _ _ (getAttrByItsOwn (.ref a) (.str "__class__" tk) (.ref C) (.builtin "BaseException.__getattribute__") false false) _ _ _
  unfold getAttrByItsOwn
  refine wpAny_bind (LH.at (wpAny_bind (wpAny_attempt (wpAny_holding ?_))))
  show wpAny _ _ (boundAndCalled (.builtin "BaseException.__getattribute__") (.ref a) (.str "__class__" tk)) _ _ _
  unfold boundAndCalled
  rw [f3]
  refine wpAny_bind (wpAny_pure (wpAny_call ?_))
  refine codeAny_call_builtin F.attrBase_ValueError.ga.plain F.entry_bexc_ga (exc_check X kin hx hc (exc_class_entry X kin hx hc ?_))
  exact wpAny_pure hq
theorem kitx_exc (X : ExI K C) : PySem.W.KitX K (.ref a) (.ref C) (fun h => ∃ o,h.get? a = some o ∧ o.cls = .ref C) where
  ty := fun _ _ _ ⟨o,hx,hc⟩ => by
    rw [← hc]
    exact (PySem.W.Looks.ld hx).andThen .now
  it := fun M h kin _ => by
    obtain ⟨cd,hcd⟩ := Option.isSome_iff_exists.mp X.cl
    unfold PySem.W.clsIn at hcd
    split at hcd
    · rename_i ho
      intro A' Q' E' s' k q
      unfold isType loadHead
      exact wpAny_bind (wpAny_loadPart (k _ _ (kin _ _ ho)) (wpAny_pure q))
    · cases hcd
  ne := fun h tp dd its n sl kin htp => by
    obtain ⟨cd,hcd⟩ := Option.isSome_iff_exists.mp X.cl
    refine Bool.eq_false_iff.mpr fun q => ?_
    have e : C = tp := Value.ref.inj (beq_iff_eq.mp q)
    subst e
    unfold PySem.W.clsIn at hcd
    split at hcd
    · rename_i ho
      have z := (kin _ _ ho).symm.trans htp
      cases z
    · cases hcd
  ca := fun {prog w A E Q s} kin ⟨o,hx,hc⟩ k => by
    obtain ⟨h,g,d,t,os⟩ := s
    unfold getAttr? getAttrBy?
    repeat (any_goals (first | assumption | with_reducible apply exc_class_by X kin hx hc | wp_step))
end
section
variable {X : Cx}
def clsOf : V → Option Value
  | .ref p => some (.ref p)
  | .ty n => some (.type n)
  | _ => none
theorem call_isExc {K : PySem.W.Frag} (hK : X.K = K := by rfl) : CallR X (.builtin "isinstance") (fun xs H Q => ∃ (e Ca : Addr) (dd : Option Addr) (c : V) (cv : Value) (b : Bool),xs = [.ref e,c] ∧ clsOf c = some cv ∧ H e = some (ExcO e (.ref Ca) dd) ∧ ExI K Ca ∧ PySem.W.kitOne K (.ref Ca) cv = some b ∧ Q (.bl b) H) := by
  subst hK
  intro pins s σ H xs us Q I r h
  obtain ⟨e,Ca,dd,c,cv,b,rfl,rc,he,ex,hk,q⟩ := h
  obtain ⟨u,u2,rfl,ru,ru2⟩ := vals2 r
  cases ru
  have hcv : u2 = cv := by
    cases c with
    | ref p => exact (show u2 = Value.ref p from ru2).trans (Option.some.inj rc)
    | ty n => exact (show u2 = Value.type n from ru2).trans (Option.some.inj rc)
    | _ => cases rc
  subst hcv
  have hobj : ∃ o,s.heap.get? e = some o ∧ o.cls = .ref Ca := (I.hok e _ he).1.imp fun o z => ⟨z.1,z.2.1⟩
  exact PySem.W.kia_one (kitx_exc ex) I.kIn hobj hk (by intro z; cases z) fun tk => ⟨.bl b,H,I.tok tk,rfl,q⟩
end
theorem Same.updN {H H' : Hp} {b : Addr} {o : HO} (e : Same H H') (h : H b = none) : Same H (L2.upd H' b o) := fun c u q => by
  rw [upd_ne (ne_of_none q h)]
  exact e c u q
end L2
namespace L2
open PySem PySem.Spec PyProof.Rows
section
variable {X : Cx} {k : Nat} {f C : Addr} {fd : FuncData} {ps : List Str} {sp : Sp} {m : Str} {apos pos : Pos} {e o : Expr} {es : List Expr} {t : TA} {ta te : TE}
abbrev TSX := Ends → (St → XK) → St → Hp → Prop
variable {st : Stmt} {sts a b : List Stmt} {c0 : Expr} {tx : TX} {u v : TSX} {tc : TT} {x : Str} {px : Pos} {i : Nat}
variable {cn n : Str} {np hpos : Pos} {CF : Addr} {b₀ : Stmt} {suite : List Stmt} {th : Addr → TS}
end
section
variable {X : Cx}
theorem call_isExcT {K : PySem.W.Frag} (hK : X.K = K := by rfl) : CallR X (.builtin "isinstance") (fun xs H Q => ∃ (e Ca p : Addr) (dd : Option Addr) (cs : List V) (cvs : List Value) (b : Bool),xs = [.ref e,.ref p] ∧ H p = some (.tup cs) ∧ cs.mapM clsOf = some cvs ∧ H e = some (ExcO e (.ref Ca) dd) ∧ ExI K Ca ∧ PySem.W.kitAny K (.ref Ca) cvs = some b ∧ Q (.bl b) H) := by
  subst hK
  intro pins s σ H xs us Q I r h
  obtain ⟨e,Ca,p,dd,cs,cvs,b,rfl,ep,hcs,he,ex,hk,q⟩ := h
  obtain ⟨u,u2,rfl,ru,ru2⟩ := vals2 r
  cases ru
  cases ru2
  have hobj : ∃ o,s.heap.get? e = some o ∧ o.cls = .ref Ca := (I.hok e _ he).1.imp fun o z => ⟨z.1,z.2.1⟩
  obtain ⟨its,rv,ht,hz⟩ := I.tuple (SqT.of ep)
  obtain ⟨⟨c,dd,dt,sl⟩,ho,hc,n,hd⟩ := ht
  have hc : c = .type "tuple" := hc
  have hd : dt = .seq its.toArray n := hd
  subst hc hd
  have hall : ∀ {cs : List V} {cvs its : List Value},cs.mapM clsOf = some cvs → Vals cs its → its = cvs := by
    intro cs
    induction cs with
    | nil => intro cvs its h1 h2; cases h2; simpa using h1.symm
    | cons c r ih =>
      intro cvs its h1 h2
      cases h2 with
      | cons ha hb =>
        rename_i y ys
        rw [List.mapM_cons] at h1
        cases hcl : clsOf c with
        | none => rw [hcl] at h1; cases h1
        | some z =>
          rw [hcl] at h1
          cases hr : r.mapM clsOf with
          | none => rw [hr] at h1; cases h1
          | some zs =>
            rw [hr] at h1
            have h1 : z :: zs = cvs := Option.some.inj h1
            rw [← h1,ih hr hb]
            congr 1
            cases c with
            | ref p => exact (show y = Value.ref p from ha).trans (Option.some.inj hcl)
            | ty n => exact (show y = Value.type n from ha).trans (Option.some.inj hcl)
            | _ => cases hcl
  have e2 := hall hcs rv
  subst e2
  exact PySem.W.kia_tup (kitx_exc ex) I.kIn hobj ho hk (by intro z; cases z) fun tk => ⟨.bl b,H,I.tok tk,rfl,q⟩
end
end L2
namespace L2
open PySem Builtin Builtin.Str
section
variable {X : Cx}
end
end L2
namespace L2
open PySem PySem.Spec PyProof.Rows
open MeetsSeq
section
variable {X : Cx}
theorem pair_get {α β : Type} {F : α → β → Prop} : ∀ {l₁ : List α} {l₂ : List β},Paired F l₁ l₂ → ∀ {i : Nat} {a : α} {b : β},l₁[i]? = some a → l₂[i]? = some b → F a b
  | _,_,.nil,i,a,b,h,_ => by simp at h
  | _,_,.cons h _,0,a,b,h1,h2 => by
    have e1 := Option.some.inj h1
    have e2 := Option.some.inj h2
    subst e1 e2
    exact h
  | _,_,.cons _ r,i + 1,a,b,h1,h2 => pair_get r (i := i) (by simpa using h1) (by simpa using h2)
theorem key_val {k : Key} {v : Value} (h : keyIs k v = true) : RelV (kV k) v := by
  rcases keyIs_shape h with ⟨i,t,rfl,rfl⟩ | ⟨x,t,rfl,rfl⟩
  · exact ⟨t,rfl⟩
  · exact ⟨t,rfl⟩
theorem keys_vals {kvs : List (Key × V)} {vs : List (Key × Value)} {acc : List Value} (rel : KV kvs vs) (hl : acc.length = vs.length) (h : ∀ (j : Nat) (v : Value),acc[j]? = some v → ∃ (k : Key) (x : Value),vs[j]? = some (k,x) ∧ keyIs k v = true) : Vals (kvs.map fun p => kV p.1) acc := by
  refine paired_of_get ?_ ?_
  · rw [List.length_map,hl]; exact Paired.length rel
  · intro i a b ha hb
    obtain ⟨k,x,hv,hk⟩ := h i b hb
    rw [List.getElem?_map] at ha
    obtain ⟨p,hp,rfl⟩ := Option.map_eq_some_iff.mp ha
    have q := pair_get rel hp hv
    rw [q.1]
    exact key_val hk
theorem call_listD {K : PySem.W.Frag} (hc : X.calm = true) : CallR X (.type "list") (fun xs H Q => ∃ (a : Addr) (kvs : List (Key × V)),xs = [.ref a] ∧ H a = some (.dK kvs) ∧ ∀ l,H l = none → Q (.ref l) (upd H l (.lst (kvs.map fun p => kV p.1)))) := by
  intro pins s σ H xs us Q I r h
  obtain ⟨a,kvs,rfl,e,q⟩ := h
  obtain ⟨u,rfl,rx⟩ := vals1 r
  cases rx
  obtain ⟨z,lo,vs,rel,dd⟩ := dk_of I.hok e
  obtain ⟨ep,hat⟩ := dd.dictAt
  have hlen : kvs.length = vs.length := Paired.length rel
  refine PySem.W.kdl_call (PySem.W.kdl_dict (knd := mixKind X.prog X.w) (kvs := vs) (ep := ep) lo) (I.ok.hd hc) hat (by omega) fun h' tk acc c' kp e' it => ?_
  refine ⟨.ref s.heap.objs.size,_,I.laid (t' := tk) kp (Nat.le_refl _) (show ObjOk X.prog X.w _ h' _ (.lst (kvs.map fun p => kV p.1)) from ⟨by rw [List.length_map]; exact z,acc.toList,c',?_,by simpa using e'⟩),rfl,q _ (I.hok.fresh (Nat.le_refl _))⟩
  exact keys_vals rel (by rw [Array.length_toList]; exact it.1) fun j v hv => it.2 j v (by rw [← Array.getElem?_toList]; exact hv)
end
end L2
namespace L2
open PySem
section
variable {prog : Program} {w : World} {A : Around} {E : Value → Shared → Prop} {s : Shared}
end
end L2
set_option maxRecDepth 100000
namespace L2
open PySem PySem.Spec PyProof.Rows
open MeetsSeq
section
variable {X : Cx} {o i value : Expr} {pos pos' : Pos} {td ty tv : TE}
end
end L2
namespace L2
open PySem PySem.Spec PyProof.Rows
structure ExF (K : PySem.W.Frag) (C : Addr) (f : Str) : Prop where
  ex : ExI K C
  hd : PySem.W.hasDictIn K C = true
  na : PySem.W.findIn K (.ref C) f = some none
  sa : PySem.W.findIn K (.ref C) "__setattr__" = some (some (.builtin "object.__setattr__"))
section
variable {prog : Program} {w : World} {A : Around} {E : Value → Shared → Prop} {K : PySem.W.Frag} {h : Heap} {g : Array GenState} {d : Drawn} {t : Nat} {os : OsState} {a C dx : Addr} {o : Obj} {f : Str} {v : Value}
theorem exc_inst {mA : Str → Option Value} {vs : Array Value} (hx : h.get? a = some o) (hc : o.cls = .ref C) (hd : o.dict = some dx) (hf : o.data = .fields vs) (n : h.Ns1 dx mA) :
    ∃ od,PySem.W.InstAt h a o C (some od) ∧ ∀ name,PySem.W.lookIn name od = some (mA name) := by
  obtain ⟨od,ho,hl⟩ := lookIn_ns n
  refine ⟨od,⟨hx,hc,?_,?_⟩,hl⟩
  · unfold PySem.W.notCls
    rw [hf]
  · rw [hd]
    exact ho
theorem exc_fld_get {expr : Bool} {Q : Value → Shared → Prop} {mA : Str → Option Value} {vs : Array Value} (X : ExF K C f) (kin : K.In h) (hx : h.get? a = some o) (hc : o.cls = .ref C) (hd : o.dict = some dx) (hf : o.data = .fields vs) (n : h.Ns1 dx mA)
    (hv : mA f = some v) (hv' : PySem.W.handedIn v = true) (hq : ∀ t',Q v ⟨h,g,d,t',os⟩) : wpAny (model prog w) A (getAttr (.ref a) f expr) Q E ⟨h,g,d,t,os⟩ := by
  obtain ⟨od,J,hl⟩ := exc_inst hx hc hd hf n
  have L0 : PySem.W.Looks (model prog w) h (typeOf (.ref a)) (.ref C) := exc_looks hx hc
  have L1 := PySem.W.looks_findIn (M := model prog w) kin X.ex.ga
  have LH : PySem.W.Looks (model prog w) h (hookBefore (.ref C)) none := PySem.W.looks_hook kin (by rw [if_pos (show onTheHeap (Value.ref C) = true from rfl)]; exact X.ex.gt)
  have L2 := PySem.W.looks_find (M := model prog w) (name := f) kin J (PySem.W.findObj_own X.hd X.na rfl (by rw [hl,hv]))
  have f3 := F.attrBase_ValueError.ga.bind (.ref a)
  unfold getAttr getAttrBy
  refine wpAny_bind (wpAny_mkText (wpAny_holding (wpAny_bind (L0.at (wpAny_bind (L1.at ?_))))))
  show wpAny _ _ (getAttrByItsOwn (.ref a) (.str f _) (.ref C) (.builtin "BaseException.__getattribute__") true expr) _ _ _
  unfold getAttrByItsOwn
  refine wpAny_bind (LH.at (wpAny_bind (wpAny_attempt (wpAny_holding ?_))))
  have hb : callGetattribute (.ref a) (.str f t) (.builtin "BaseException.__getattribute__") expr = boundAndCalled (.builtin "BaseException.__getattribute__") (.ref a) (.str f t) := by
    unfold callGetattribute
    cases expr <;> rfl
  rw [hb]
  unfold boundAndCalled
  rw [f3]
  refine wpAny_bind (wpAny_pure (wpAny_call ?_))
  refine codeAny_call_builtin F.attrBase_ValueError.ga.plain F.entry_bexc_ga (exc_check X.ex kin hx hc ?_)
  unfold Builtin.«object.__getattribute__»
  repeat (any_goals (first | assumption | with_reducible refine L0.at ?_ | with_reducible refine L2.at ?_ | wp_step))
  show wpAny _ _ (handedOut v) _ _ _
  rw [PySem.W.handedOut_of hv']
  exact wpAny_pure (hq _)
theorem exc_store {Q : Unit → Shared → Prop} {vs : Array Value} (X : ExF K C f) (kin : K.In h) (hm : ∃ cd own,PySem.W.clsIn K C = some cd ∧ cd.mro = own ++ [.type "ValueError", .type "Exception", .type "BaseException", .type "object"] ∧ ∀ c ∈ own,∃ b,c = .ref b)
    (hx : h.get? a = some o) (hc : o.cls = .ref C) (hd : o.dict = none) (hf : o.data = .fields vs) (hne : a ≠ C)
    (hq : ∀ h' t',h'.Ns1 h.objs.size (fun y => if y = f then some v else none) → h'.get? a = some { o with dict := some h.objs.size } → (∀ b u,b ≠ a → h.get? b = some u → h'.get? b = some u) → Q () ⟨h',g,d,t',os⟩) :
    wpAny (model prog w) A (setAttr (.ref a) f v) Q E ⟨h,g,d,t,os⟩ := by
  obtain ⟨oc,od,odt,osl⟩ := o
  have hc : oc = .ref C := hc
  have hd : od = none := hd
  have hf : odt = .fields vs := hf
  subst hc hd hf
  have L0 : PySem.W.Looks (model prog w) h (typeOf (.ref a)) (.ref C) := exc_looks hx rfl
  have L1 := PySem.W.looks_findIn (M := model prog w) kin X.sa
  have L2 := PySem.W.looks_findIn (M := model prog w) kin X.na
  have SF := F.store_ValueError
  have f3 := SF.slot.bind (.ref a)
  obtain ⟨cd,own,hcd,hmro,hown⟩ := hm
  have L3 : PySem.W.Looks (model prog w) h (mroOf (.ref C)) cd.mro := (PySem.W.looks_clsIn kin hcd).andThen .now
  have hpass : refuseLoop (.ref a) "__setattr__" cd.mro = pure () := by
    rw [hmro]
    clear hmro
    induction own with
    | nil => exact SF.passes (.ref a)
    | cons c r ih =>
      obtain ⟨b,rfl⟩ := hown c List.mem_cons_self
      exact (refuseLoop_ref _ _ _ _).trans (ih fun c hc => hown c (List.mem_cons_of_mem _ hc))
  unfold setAttr callSpecial? specialOf
  repeat (any_goals (first | assumption | with_reducible refine L0.at ?_ | with_reducible refine L1.at ?_ | wp_step))
  have LS : PySem.W.Looks (model prog w) h (isInstance (.ref a) (.type "object")) true := L0.andThen (PySem.W.looks_subIn kin X.ex.so)
  refine codeAny_call_builtin SF.slot.plain SF.entry (@PySem.W.check_slot (model prog w) _ _ _ "object.__setattr__" "object" "__setattr__" (.ref a) [.str f _,v] [] _ SF.kind SF.split LS (SF.args (.ref a) (.str f _) v) ?_)
  have L4 := PySem.W.looks_clsIn (M := model prog w) kin hcd
  have hhd : cd.hasDict = true := by
    obtain ⟨cd',e1,e2⟩ := PySem.W.any_some X.hd
    rw [hcd] at e1
    cases e1
    exact e2
  have LD : ∀ {Q' : Option Addr → Shared → Prop} {E' : Value → Shared → Prop} {A' : Around} {t' : Nat},Q' (some h.objs.size) ⟨(h.push { cls := .type "dict", data := .dict #[] }).update a fun o => { o with dict := some h.objs.size },g,d,t',os⟩ → wpAny (model prog w) A' (instanceDict a true) Q' E' ⟨h,g,d,t',os⟩ := by
    intro Q' E' A' t' q
    have hx₁ : (h.push { cls := .type "dict", data := .dict #[] }).get? a = some ⟨.ref C,none,.fields vs,osl⟩ := Heap.get?_push_of_some _ hx
    unfold instanceDict
    refine wpAny_bind (wpAny_loadPart_at hx (wpAny_bind (L4.at ?_)))
    rw [hhd]
    exact wpAny_bind (wpAny_alloc' (wpAny_bind (wpAny_update' hx₁ (wpAny_pure q))))
  have LT : ∀ {Q' : Fin → Shared → Prop} {E' : Value → Shared → Prop} {A' : Around} {t' tk : Nat},(∀ h' t',h'.Ns1 h.objs.size (fun y => if y = f then some v else none) → h'.get? a = some ⟨.ref C,some h.objs.size,.fields vs,osl⟩ → (∀ b u,b ≠ a → h.get? b = some u → h'.get? b = some u) → Q' (.done (.ret .none)) ⟨h',g,d,t',os⟩) →
      wpAny (model prog w) A' (Builtin.ObjectAttr.storeInDict h.objs.size (.str f tk) f v) Q' E' ⟨(h.push { cls := .type "dict", data := .dict #[] }).update a fun o => { o with dict := some h.objs.size },g,d,t',os⟩ := by
    intro Q' E' A' t' tk q
    have hx₁ : (h.push { cls := .type "dict", data := .dict #[] }).get? a = some ⟨.ref C,none,.fields vs,osl⟩ := Heap.get?_push_of_some _ hx
    have hxs : a ≠ h.objs.size := Nat.ne_of_lt (Heap.lt_size hx)
    have hgd : ((h.push { cls := .type "dict", data := .dict #[] }).update a fun o => { o with dict := some h.objs.size }).get? h.objs.size = some { cls := .type "dict", data := .dict #[] } :=
      (Heap.get?_update_ne _ _ _ _ hxs.symm).trans (Heap.get?_push_at rfl rfl)
    have hnd : ((h.push { cls := .type "dict", data := .dict #[] }).update a fun o => { o with dict := some h.objs.size }).Ns h.objs.size (fun _ => none) :=
      ⟨_,#[],_,hgd,rfl,fun e he => absurd he (by simp),fun _ => rfl⟩
    unfold Builtin.ObjectAttr.storeInDict Builtin.ObjectAttr.newKeyGuard
    refine wpAny_bind (wpAny_pure (wpAny_bind (wpAny_nsSet1 (Heap.Ns1.of_empty hnd) fun h' hn' hs => ?_)))
    obtain ⟨oD,esD,epD,hoD,hdD,hcD⟩ := hn'.count (Within.cons f v Within.nil)
    refine wpAny_bind (wpAny_lookBehind hoD (by rw [hdD]; exact pastItsLine_dict (Nat.le_trans hcD (by rw [List.length_cons,List.length_nil,sizeLine_eq]; omega))) ?_)
    refine wpAny_pure (q h' _ hn' ?_ fun b u hb e => ?_)
    · exact (hs.2 a hxs).trans (Heap.get?_update_self _ hx₁ rfl)
    · exact (hs.2 b (Nat.ne_of_lt (Heap.lt_size e))).trans ((Heap.get?_update_ne _ _ _ _ hb).trans (Heap.get?_push_of_some _ e))
  unfold Builtin.«object.__setattr__»
  repeat (first | rw [refuse_eq] | rw [hpass] | with_reducible refine L0.at ?_ | with_reducible refine L3.at ?_ | with_reducible refine L2.at ?_ | with_reducible refine LD ?_ | (with_reducible refine LT fun h' t' n1 n2 n3 => ?_; exact wpAny_pure (wpAny_pure (hq h' t' n1 n2 n3))) | wp_step)
end
abbrev VB : List Value := [.type "ValueError", .type "Exception", .type "BaseException", .type "object"]
structure ExP (K : PySem.W.Frag) (C cF fI : Addr) (f : Str) : Prop where
  lk : ∃ (nm q : Str) (NS : Addr) (bs : List Value) (hdct : Bool) (sn : List Str) (sub : List Value) (ab : Bool) (col : Option Bool) (dd : Option Addr) (k0 k1 k2 k3 k5 : Option Value),
    K.lookup C = some (excClassObj nm q C NS bs (.ref cF :: VB) hdct sn sub ab col dd k0 k1 k2 k3 k5 "ValueError.__new__")
  tl : PySem.W.excIn K cF VB "ValueError.__new__" = true
  init : PySem.W.findIn K (.ref C) "__init__" = some (some (.ref fI))
  fn : PySem.W.isFn K (.ref fI) = true
  fl : ExF K C f
theorem ExP.mro {K : PySem.W.Frag} {C cF fI : Addr} {f : Str} (X : ExP K C cF fI f) : ∃ cd own,PySem.W.clsIn K C = some cd ∧ cd.mro = own ++ [.type "ValueError", .type "Exception", .type "BaseException", .type "object"] ∧ ∀ c ∈ own,∃ b,c = .ref b := by
  obtain ⟨nm,q,NS,bs,hdct,sn,sub,ab,col,dd,k0,k1,k2,k3,k5,lk⟩ := X.lk
  refine ⟨_,[.ref C,.ref cF],by unfold PySem.W.clsIn; rw [lk],rfl,fun c hc => ?_⟩
  simp only [List.mem_cons,List.not_mem_nil,or_false] at hc
  rcases hc with rfl | rfl <;> exact ⟨_,rfl⟩
theorem ExP.tail {K : PySem.W.Frag} {C cF fI : Addr} {f : Str} (X : ExP K C cF fI f) {h : Heap} (kin : K.In h) : OwnTail h VB (.ref cF :: VB) := by
  obtain ⟨bm,⟨nm,q,NS,bs,hdct,sn,sub,ab,col,dd,k0,k1,k2,k3,k5,lk,more⟩⟩ := exc_of X.tl
  obtain ⟨⟨mN,hN,hni⟩,_⟩ := more h kin
  exact .own (kin _ _ lk) hN hni .base
def ExMk (e C t : Addr) (dd : Option Addr) : HO := .ext fun h => h.get? e = some ⟨.ref C,dd,.fields #[.ref t,.none,.none,.none,.bool false,.none],#[]⟩
section
variable {X : Cx} {o e value : Expr} {f : Str} {pos pos' : Pos} {ta tv : TE}
def tXfld (K : PySem.W.Frag) (ta : TE) (f : Str) : TE := fun σ H Q => ta σ H fun x H1 => ∃ a C dx fs v,x = .ref a ∧ H1 a = some (ExcO a (.ref C) (some dx)) ∧ H1 dx = some (.xd fs) ∧ ExF K C f ∧ fs.lookup f = some v ∧ Q v H1
theorem pe_xfld (he : PE X e ta) (hb : attributeBase e f X.env (eval e X.env) = eval e X.env) : PE X (.Attribute e f pos) (tXfld X.K ta f) := by
  intro pins s σ H Q I h
  refine attr_of hb (thn (he pins s σ H _ I h) fun u s1 ⟨x,H1,I1,rx,a,C,dx,fs,v,ex,ea,ed,c,l,q⟩ => ?_)
  subst ex
  obtain rfl : u = Value.ref a := rx
  obtain ⟨o,ho,hc,hd,vs,hf⟩ := (I1.hok a _ ea).1
  obtain ⟨mA,hn,r⟩ := I1.hok dx _ ed
  obtain ⟨u,hu,ru⟩ := RelO.some_of (v := v) (o := mA f) (by rw [← l]; exact r f)
  obtain ⟨hp,g,d,t,os⟩ := s1
  exact exc_fld_get c I1.kIn ho hc hd hf hn hu (handed_of ru) fun t' => ⟨v,H1,I1.tok t',ru,q⟩
def sXfld (K : PySem.W.Frag) (ta tv : TE) (f : Str) : TS := fun D σ H => tv σ H fun y H1 => ta σ H1 fun x H2 => ∃ a C cF fI t,x = .ref a ∧ H2 a = some (ExMk a C t none) ∧ ExP K C cF fI f ∧
  ∀ dx,H2 dx = none → D.nx σ (upd (upd H2 dx (.xd [(f,y)])) a (ExMk a C t (some dx)))
theorem ps_xfld (ha : PE X o ta) (hv : PE X value tv) (hs : swapsWith value (some (.Attribute o f pos')) pos.line X.env = pure false) : PS X (.Assign [.Attribute o f pos'] value pos) (sXfld X.K ta tv f) := by
  intro pins s σ H D I h
  refine plainObj_wpAny_Assign_Attribute (thn (hv pins s σ H _ I h) fun u s1 ⟨y,H1,I1,ry,q⟩ => thn (ha pins s1 σ H1 _ I1 q) fun ov s2 ⟨x,H2,I2,rx,a,C,cF,fI,t,ex,ea,c,q2⟩ => ?_) hs
  subst ex
  obtain rfl : ov = Value.ref a := rx
  have ho : s2.heap.get? a = some ⟨.ref C,none,.fields #[.ref t,.none,.none,.none,.bool false,.none],#[]⟩ := (I2.hok a _ ea).1
  obtain ⟨hp,g,d,tk,os⟩ := s2
  have ho : hp.get? a = some ⟨.ref C,none,.fields #[.ref t,.none,.none,.none,.bool false,.none],#[]⟩ := ho
  have hal := Heap.lt_size ho
  refine exc_store c.fl I2.kIn c.mro ho rfl rfl rfl (fun z => ?_) fun h' t' n1 n2 n3 => ?_
  · obtain ⟨nm,q,NS,bs,hdct,sn,sub,ab,col,dd,k0,k1,k2,k3,k5,lk⟩ := c.lk
    have := I2.kIn _ _ lk
    rw [← z] at this
    have this : hp.get? a = _ := this
    rw [ho] at this
    cases this
  obtain ⟨oD,esD,epD,hoD,rD⟩ := id n1
  have hfr : H2 hp.objs.size = none := I2.hok.fresh (Nat.le_refl _)
  have nfree : oD.isFreed = false := (Heap.get?_some_iff.mp hoD).2
  have e1 : (hp.push oD).get? hp.objs.size = some oD := Heap.get?_push_size hp nfree
  have N1 : (hp.push oD).Ns1 hp.objs.size (fun y => if y = f then some u else none) := n1.at fun o z => by
    rw [hoD] at z
    cases z
    exact e1
  have J1 : Inv X pins σ (upd H2 hp.objs.size (.xd [(f,y)])) ⟨hp.push oD,g,d,tk,os⟩ := I2.laid (a := hp.objs.size) (o := .xd [(f,y)]) (h' := hp.push oD) (t' := tk) (fun b u q => Heap.get?_push_of_some _ q) (Nat.le_refl _) ⟨_,N1,fun n => by
    show RelO (List.lookup n [(f,y)]) (if n = f then some u else none)
    by_cases z : n = f
    · have hb : (n == f) = true := beq_iff_eq.mpr z
      simp only [List.lookup,hb,if_pos z]
      exact ry
    · have hb : (n == f) = false := beq_eq_false_iff_ne.mpr z
      simp only [List.lookup,hb,if_neg z]
      trivial⟩
  have hna : a ≠ hp.objs.size := Nat.ne_of_lt hal
  have ea' : upd H2 hp.objs.size (.xd [(f,y)]) a = some (ExMk a C t none) := by rw [upd_ne hna]; exact ea
  have J2 := J1.write (x := a) (e := a) (o := ExMk a C t (some hp.objs.size)) (h' := h') (t' := t') (by rw [ea']; exact True.intro) (.inl rfl) (fun b v hb z => ?_) ⟨_,n2⟩ ⟨n2,⟨_,n2⟩,fun h1 h2 e k => k _ e⟩
  · exact ⟨σ,_,J2,q2 hp.objs.size hfr⟩
  · rcases Heap.get?_push_cases (show (hp.push oD).get? b = some v from z) with ⟨rfl,rfl⟩ | z
    · exact hoD
    · exact n3 b v hb z
end
section
variable {prog : Program} {w : World} {A : Around} {E : Value → Shared → Prop} {K : PySem.W.Frag} {h : Heap} {g : Array GenState} {d : Drawn} {t : Nat} {os : OsState} {C cF fI : Addr} {f : Str}
def excHeap (h : Heap) (C : Addr) (us : List Value) : Heap := (h.push { cls := .type "tuple", data := .seq us.toArray }).push { cls := .ref C,data := .fields #[.ref h.objs.size,.none,.none,.none,.bool false,.none] }
theorem exc_call {us : List Value} {Q : Value → Shared → Prop} (X : ExP K C cF fI f) (kin : K.In h) (hl : us.length ≤ sizeLine)
    (hq : wpAny (model prog w) (A.under (.builtin "type.__call__" ⟨.ref C :: us,[]⟩)) (call (.ref fI) (.ref (h.objs.size + 1) :: us)) (fun r s' => r = .none ∧ Q (.ref (h.objs.size + 1)) s') E ⟨excHeap h C us,g,d,t,os⟩) :
    wpAny (model prog w) A (call (.ref C) us) Q E ⟨h,g,d,t,os⟩ := by
  obtain ⟨nm,q,NS,bs,hdct,sn,sub,ab,col,dd,k0,k1,k2,k3,k5,lk⟩ := X.lk
  have hC : h.get? C = _ := kin _ _ lk
  have T := X.tail kin
  have f1 := tc_lookup
  have f2 := tc_bind (.ref C)
  have hT : (⟨h,g,d,t,os⟩ : Shared).TypeIs (.ref C) "type" := ⟨_,hC,rfl⟩
  refine wpAny_call (codeAny_of_tree ?_)
  show wpAny _ _ (callAny (.ref C) _) _ _ _
  repeat (any_goals (first | assumption | with_reducible refine wpAny_loadPart_at hC ?_ | wp_step))
  refine ⟨rfl,?_⟩
  refine codeAny_call_builtin_at (Code.quiet_builtin _ (by decide +kernel)) entry_typeCall (wpAny_check_type_call_sub hC ?_)
  have FB := PySem.F.excBase_ValueError
  repeat (first | with_reducible refine wpAny_loadPart_at hC ?_ | with_reducible refine wpAny_madeBy_exc hC ?_ | wp_step)
  refine codeAny_call_builtin_code (Code.quiet_builtin _ FB.quiet) (wpAny_check_new_subU FB (by decide) T hC ?_)
  refine codeAny_exc_new_subU FB (by decide) FB T hC ?_ hl
  show wpAny _ _ _ _ _ ⟨excHeap h C us,g,d,t,os⟩
  have kp : ∀ b o,h.get? b = some o → (excHeap h C us).get? b = some o := fun b o e => Heap.get?_push_of_some _ (Heap.get?_push_of_some _ e)
  have kin' : K.In (excHeap h C us) := fun b o e => kp b o (kin b o e)
  have hC₁ := kp _ _ hC
  have hget : (excHeap h C us).get? (h.objs.size + 1) = some { cls := .ref C,data := .fields #[.ref h.objs.size,.none,.none,.none,.bool false,.none] } := by unfold excHeap; heap_get
  have LI := PySem.W.looks_findIn (M := model prog w) kin' X.init
  have LB := PySem.W.bind_fn (M := model prog w) kin' (.ref (h.objs.size + 1)) (beq_iff_eq.mp X.fn)
  have hcC : (Value.ref C :: .ref cF :: VB).contains (.ref C) = true := by simp
  unfold isInstance
  repeat (first | with_reducible refine wpAny_loadPart_at hget ?_ | (with_reducible refine wpAny_isSubtype_exc hC₁ ?_; rw [hcC]) | wp_step)
  show wpAny _ _ (typeLookup (.ref C) _) _ _ _
  refine LI.at (wpAny_holding (wpAny_bind (LB.at (wpAny_bind (wpAny_mono hq (fun r s' hr => ?_) fun _ _ z => z)))))
  obtain ⟨rfl,hQ⟩ := hr
  wp_walk
  exact hQ
end
def spKeep (K : PySem.W.Frag) (f : Str) : Sp := fun vs H Q _ => ∃ e C cF fI t v,vs = [.ref e,v] ∧ H e = some (ExMk e C t none) ∧ ExP K C cF fI f ∧ ∀ dx,H dx = none → Q .non (upd (upd H dx (.xd [(f,v)])) e (ExMk e C t (some dx)))
section
variable {P : Program} {w : World} {K : PySem.W.Frag} {mg : Str → Option Value} {base : Heap} {N : List Str} {qual : Str} {scope : Scope} {f : Addr} {cd : Value} {A : Around} {outer : List Env} {s₀ : Shared} {H₀ : Hp} {E' : XK} {fl : Str}
theorem leaveG {pins : List (Addr × Obj)} {σ : St} {H1 : Hp} {s2 s3 : Shared} {e C t dx : Addr} {v : V}
    (I2 : Inv (cxOf (CXF P w) P w K mg base N qual scope f cd A outer s₀ H₀ E') pins σ H1 s2) (he2 : s2.heap.get? e = none) (hd1 : H1 dx = none) (hde : dx ≠ e)
    (I3 : Inv (cxOf (CXF P w) P w K mg base N qual scope f cd A outer s₀ H₀ E') pins σ (upd (upd (upd H1 e (ExMk e C t none)) dx (.xd [(fl,v)])) e (ExMk e C t (some dx))) s3)
    (q : E' (.ref C) (some dx) (upd H1 dx (.xd [(fl,v)]))) : (cxOf (CXF P w) P w K mg base N qual scope f cd A outer s₀ H₀ E').xe (.ref e) s3 := by
  have hfr := I3.ok.frames
  have FF := I3.stack
  have he1 : H1 e = none := by
    cases z : H1 e with
    | none => rfl
    | some u =>
      obtain ⟨o',q1⟩ := (I2.hok e u z).got
      rw [he2] at q1; cases q1
  generalize hH3 : upd (upd (upd H1 e (ExMk e C t none)) dx (.xd [(fl,v)])) e (ExMk e C t (some dx)) = H3 at I3
  have h3e : H3 e = some (ExMk e C t (some dx)) := by rw [← hH3,upd_same]
  have h3 : ∀ b,b ≠ e → H3 b = upd H1 dx (.xd [(fl,v)]) b := fun b hb => by
    rw [← hH3,upd_ne hb]
    unfold upd
    rw [if_neg hb]
  have hHe : upd H1 dx (.xd [(fl,v)]) e = none := by rw [upd_ne hde.symm]; exact he1
  have h3' : ∀ b u,upd H1 dx (.xd [(fl,v)]) b = some u → b ≠ e ∧ H3 b = some u := fun b u z => by
    have hb : b ≠ e := fun z2 => by rw [z2,hHe] at z; cases z
    exact ⟨hb,by rw [h3 b hb]; exact z⟩
  have hoe : s3.heap.get? e = some ⟨.ref C,some dx,.fields #[.ref t,.none,.none,.none,.bool false,.none],#[]⟩ := (I3.hok e _ h3e).1
  let hid := e :: frs (envOfC qual scope s₀.heap.objs.size f cd :: outer)
  let B := PySem.W.hideAll s3.heap hid
  have hB : B.StaysIn s3.heap := fun b o z => PySem.W.of_hideAll _ z
  have inB : ∀ b o,s3.heap.get? b = some o → b ≠ e → b ∉ frs (envOfC qual scope s₀.heap.objs.size f cd :: outer) → B.get? b = some o := fun b o z n1 n2 => PySem.W.hideAll_get _ z fun hm => (List.mem_cons.mp hm).elim n1 n2
  have FB : s3.heap.FunFrames B (envOfC qual scope s₀.heap.objs.size f cd :: outer) := PySem.W.funFrames_hide FF fun env he a ha => List.mem_cons_of_mem _ (List.mem_filterMap.mpr ⟨env,he,ha⟩)
  have eB : B.get? e = none := PySem.W.hideAll_none _ List.mem_cons_self
  have nst : ∀ b o,s₀.heap.get? b = some o → b ≠ e := fun b o e1 z => by
    obtain ⟨o2,e2⟩ := I2.base.there b o e1 (by simp [cxOf])
    rw [z,he2] at e2
    cases e2
  have cov : ∀ b o,s₀.heap.get? b = some o → b ∉ frs outer → ∃ o',B.get? b = some o' ∧ (H₀ b = none → o' = o) := fun b o e1 hb => by
    have hb2 : b ∉ frs (envOfC qual scope s₀.heap.objs.size f cd :: outer) := fun hm => by
      unfold frs at hm
      rw [List.filterMap_cons] at hm
      rcases List.mem_cons.mp hm with z | z
      · rw [z] at e1
        exact Nat.lt_irrefl _ (Heap.lt_size e1)
      · exact hb z
    by_cases n : H₀ b = none
    · have e2 := I3.base.keep b o e1 n hb (by simp [cxOf])
      exact ⟨o,inB b o e2 (nst b o e1) hb2,fun _ => rfl⟩
    · obtain ⟨o2,e2⟩ := I3.base.there b o e1 (by simp [cxOf])
      exact ⟨o2,inB b o2 e2 (nst b o e1) hb2,fun z => absurd z n⟩
  have free3 : ∀ b u,H3 b = some u → b ∉ frs (envOfC qual scope s₀.heap.objs.size f cd :: outer) := fun b u z hm => by
    have n := I3.stkFree b hm
    rw [n] at z; cases z
  have hokB : HOk P w (upd H1 dx (.xd [(fl,v)])) B := fun a o z => by
    obtain ⟨hae,z3⟩ := h3' a o z
    refine (I3.hok a o z3).stay (fun b u hb z2 => ?_) (fun b zb => ?_) fun b xs zb => ?_
    · rcases hb with rfl | hb
      · exact inB b u z2 hae (free3 b _ z3)
      · refine inB b u z2 (fun zz => ?_) (free3 b _ hb)
        rw [zz,h3e] at hb
        cases hb
    · have hb : b ≠ e := fun zz => by rw [zz,h3e] at zb; cases zb
      rw [← h3 b hb]; exact zb
    · have hb : b ≠ e := fun zz => by rw [zz,h3e] at zb; cases zb
      rw [← h3 b hb]; exact zb
  have un : Un (frs outer) [] H₀ (upd H1 dx (.xd [(fl,v)])) s₀.heap s3.heap := ⟨I3.base.keep,I3.base.slot,fun b o e1 n hx => by
      have := I3.base.free b o e1 n hx
      rw [← h3 b (nst b o e1)]; exact this,
    I3.base.there,fun b xs zb => by
      have zb := I3.base.tups b xs zb
      have hb : b ≠ e := fun zz => by rw [zz,h3e] at zb; cases zb
      rw [← h3 b hb]; exact zb,
    fun b o u zb => by
      have zb := I3.base.frzs b o u zb
      have hb : b ≠ e := fun zz => by rw [zz,h3e] at zb; cases zb
      rw [← h3 b hb]; exact zb,
    fun b ps zb => by
      obtain ⟨more,zb⟩ := I3.base.tbls b ps zb
      have hb : b ≠ e := fun zz => by rw [zz,h3e] at zb; cases zb
      exact ⟨more,by rw [← h3 b hb]; exact zb⟩⟩
  show wpAny (model P w) _ (leaving _ (.ref e)) _ _ _
  refine leaves_firstD (base := B) (a0 := .ref t) hfr FB rfl hoe hB eB rfl rfl rfl fun h2 fly up hdd => ⟨e,.ref C,_,_,B,some dx,rfl,I3.os,I3.bare,hokB,fly,?_,cov,hdd,q⟩
  refine Un.upto un up (fun b o e1 hb => ?_) fun b o e1 hb => ?_
  · obtain ⟨_,o1,e2,h2'⟩ := FF.mem (b := b) (show b ∈ s₀.heap.objs.size :: frs outer from List.mem_cons_of_mem _ hb)
    rw [e1] at e2
    cases e2
    exact h2'
  · obtain ⟨o',e2,q2⟩ := cov b o e1 hb
    exact ⟨o',fly.1 _ _ e2,q2⟩
theorem ps_raiseP {x : Str} {np cpos pos : Pos} {e : Expr} {te : TE} {C cF fI : Addr} {fd : FuncData} {k : Nat} {ps : List Str} (XP : ExP K C cF fI fl) (F : FnOk P w K mg base CX0 k fI fd ps (spKeep K fl)) (hb : Binds K fd ps [])
    (hr : Room (k + 1) (cxOf (CXF P w) P w K mg base N qual scope f cd A outer s₀ H₀ E').A)
    (hm : PE (cxOf (CXF P w) P w K mg base N qual scope f cd A outer s₀ H₀ E') (.Name x np) (tC (.ref C))) (he : PE (cxOf (CXF P w) P w K mg base N qual scope f cd A outer s₀ H₀ E') e te)
    (hts : backTo cpos (starEach [e] (envOfC qual scope s₀.heap.objs.size f cd)) = [(false,eval e (envOfC qual scope s₀.heap.objs.size f cd))] := by rfl) :
    PS (cxOf (CXF P w) P w K mg base N qual scope f cd A outer s₀ H₀ E') (.Raise (some (.Call (.Name x np) [e] [] cpos)) none pos) (fun D σ H => te σ H fun v H1 => ∀ dx,H1 dx = none → E' (.ref C) (some dx) (upd H1 dx (.xd [(fl,v)]))) := by
  intro pins s σ H D I h
  obtain ⟨nm,q,NS,bs,hdct,sn,sub,ab,col,dd,k0,k1,k2,k3,k5,lk⟩ := XP.lk
  have ev : ∀ (Q : VK),Q (.ref C) H → wpAny (model P w) _ (eval (.Name x np) _) (EP (cxOf (CXF P w) P w K mg base N qual scope f cd A outer s₀ H₀ E') pins σ Q) _ s := fun Q hq => hm pins s σ H Q I hq
  have hd : (cxOf (CXF P w) P w K mg base N qual scope f cd A outer s₀ H₀ E').A.handled = none := I.ok.hd rfl
  have hcB : (Value.ref C :: .ref cF :: VB).contains (.type "BaseException") = true := by simp
  rw [arm_exec_Raise]
  simp only [evalOpt,Option.map]
  refine wpAny_bind (wpAny_standAt ?_)
  unfold raiseStmt
  refine wpAny_bind (wpAny_bind (wpAny_mono (wpAny_Call_ofName (wpAny_mono (ev (fun v H1 => v = .ref C ∧ H1 = H) ⟨rfl,rfl⟩) (fun fv s1 z1 => ?_) fun _ _ z => z)) (fun v s3 h3 => wpAny_bind (wpAny_standAt (wpAny_pure h3))) fun _ _ z => z))
  obtain ⟨v0,H1,I1,r1,e1,e2⟩ := z1
  subst e1 e2
  obtain rfl : fv = Value.ref C := r1
  have hts2 : backTo cpos (starEach [e] (cxOf (CXF P w) P w K mg base N qual scope f cd A outer s₀ H₀ E').env) = [(false,eval e (envOfC qual scope s₀.heap.objs.size f cd))] := hts
  unfold callWith
  rw [hts2]
  refine wpAny_bind (wpAny_holding ?_)
  refine Calls.evalArgs_plain (Calls.spliced_cons (thn (he pins s1 σ _ _ I1 h) fun u2 s2 ⟨y,H2,I2,ry,q2⟩ => Calls.spliced_nil ?_))
  refine wpAny_bind (wpAny_standAt ?_)
  have hC2 := I2.kIn C _ lk
  obtain ⟨hp,g,d,tk,os⟩ := s2
  refine wpAny_bind (wpAny_keeperOf_exc hC2 ?_)
  show wpAny _ _ (call (.ref C) [u2] >>= fun r => _) _ _ _
  refine wpAny_bind (exc_call XP I2.kIn (by show 1 ≤ sizeLine; decide) ?_)
  have hfr1 : H2 (hp.objs.size + 1) = none := I2.hok.fresh (Nat.le_succ _)
  have hget : (excHeap hp C [u2]).get? (hp.objs.size + 1) = some ⟨.ref C,none,.fields #[.ref hp.objs.size,.none,.none,.none,.bool false,.none],#[]⟩ := by unfold excHeap; heap_get
  have J : Inv (cxOf (CXF P w) P w K mg base N qual scope f cd A outer s₀ H₀ E') pins σ (upd H2 (hp.objs.size + 1) (ExMk (hp.objs.size + 1) C hp.objs.size none)) ⟨excHeap hp C [u2],g,d,tk,os⟩ :=
    I2.laid (t' := tk) (fun b o e => Heap.get?_push_of_some _ (Heap.get?_push_of_some _ e)) (Nat.le_succ _) ⟨hget,⟨_,hget⟩,fun h1 h2 e k => k _ e⟩
  have r2 : Vals [V.ref (hp.objs.size + 1),y] [Value.ref (hp.objs.size + 1),u2] := .cons rfl (.cons ry .nil)
  have sp2 : spKeep K fl [.ref (hp.objs.size + 1),y] (upd H2 (hp.objs.size + 1) (ExMk (hp.objs.size + 1) C hp.objs.size none)) (fun v H3 => v = .non ∧ ∃ dx,H2 dx = none ∧ dx ≠ hp.objs.size + 1 ∧ H3 = upd (upd (upd H2 (hp.objs.size + 1) (ExMk (hp.objs.size + 1) C hp.objs.size none)) dx (.xd [(fl,y)])) (hp.objs.size + 1) (ExMk (hp.objs.size + 1) C hp.objs.size (some dx))) E0 := by
    refine ⟨_,C,cF,fI,_,y,rfl,upd_same,XP,fun dx hdx => ⟨rfl,dx,?_,?_,rfl⟩⟩
    · have hne : dx ≠ hp.objs.size + 1 := fun z => by rw [z,upd_same] at hdx; cases hdx
      rw [upd_ne hne] at hdx
      exact hdx
    · exact fun z => by rw [z,upd_same] at hdx; cases hdx
  have hl : ([Value.ref (hp.objs.size + 1),u2] : List Value).length = ps.length := by rw [← r2.length]; exact F.len _ _ _ _ sp2
  refine wpAny_call (codeAny_mono (F.run _ (cxOf (CXF P w) P w K mg base N qual scope f cd A outer s₀ H₀ E').stack _ _ ⟨[Value.ref (hp.objs.size + 1),u2],[]⟩ [Value.ref (hp.objs.size + 1),u2] _ _ E0 (hr.make C [u2] [])
    (J.env0.make C [u2] []) (by have := hb _ [Value.ref (hp.objs.size + 1),u2] J.kIn (by simpa using hl); simpa using this) r2 sp2) fun rr s' hq' => ?_)
  cases rr with
  | error ev => exact hq'.elim
  | ok fl2 =>
    cases fl2 with
    | ret u =>
      obtain ⟨v,H',I3,rv,ev,dx,hd1,hde,rfl⟩ := J.after hq'
      subst ev
      refine ⟨rv,wpAny_bind (wpAny_holding (wpAny_point (wpAny_pure ?_)))⟩
      have hoe : s'.heap.get? (hp.objs.size + 1) = some ⟨.ref C,some dx,.fields #[.ref hp.objs.size,.none,.none,.none,.bool false,.none],#[]⟩ := (I3.hok _ _ upd_same).1
      have hC3 := I3.kIn C _ lk
      have fin := leaveG I2 (Heap.get?_none_of_le (Nat.le_succ _)) hd1 hde I3 (q2 dx hd1)
      obtain ⟨hp3,g3,d3,tk3,os3⟩ := s'
      repeat (first | with_reducible refine wpAny_loadPart_at hoe ?_ | with_reducible refine wpAny_loadPart_at hC3 ?_ | (with_reducible refine wpAny_isSubtype_exc hC3 ?_; rw [hcB]) | wp_step)
      exact wpAny_raiseNew_none hd fin
    | next => exact False.elim hq'
    | brk => exact False.elim hq'
    | cont => exact False.elim hq'
end
end L2
namespace L2
open PySem PySem.Spec PyProof.Rows
def tCut (t : TS) : TS := fun D σ H => ∃ N : St → Hp → Prop,t { D with nx := N } σ H ∧ ∀ σ' H',N σ' H' → D.nx σ' H'
theorem ps_cut {X : Cx} {st : PySem.Stmt} {t : TS} (h : PS X st t) : PS X st (tCut t) := fun pins s σ H D I ⟨N,q,k⟩ => by
  refine thn (h pins s σ H { D with nx := N } I q) fun f s' z => ?_
  cases f with
  | next => obtain ⟨σ',H',I',n⟩ := z; exact ⟨σ',H',I',k _ _ n⟩
  | brk => exact z
  | cont => exact z
  | ret u => exact z
theorem cutBy {t : TS} {D : Ends} {σ : St} {H : Hp} (N : St → Hp → Prop) (h : t { D with nx := N } σ H) (k : ∀ σ' H',N σ' H' → D.nx σ' H') : tCut t D σ H := ⟨N,h,k⟩
theorem Same.upd' {H : Hp} {a : Addr} {o : HO} (h : H a = none) : Same H (L2.upd H a o) := (Same.refl H).upd h
end L2
namespace Srt
open PySem PyProof.Rows
structure Cmp (prog : Program) (w : World) (A : Around) (s : Shared) (κ : SortKind) (O : KeyOrd) (kf : Value → O.α) (a₀ : Array Keyed) : Prop where
  ask : ∀ p ∈ a₀.toList,∀ q ∈ a₀.toList,∀ (Q : Bool → Shared → Prop) (E : Value → Shared → Prop),Q (O.blt (kf p.1) (kf q.1)) s → wpAny (model prog w) A (keyLt' κ p.1 q.1) Q E s
structure SB (κ : SortKind) (a₀ : Array Keyed) (st : SortSt) : Prop where
  perm : (arrOf st).Perm a₀
  kind : kindOf st = κ
  failed : failedOf st = none
def KX {O : KeyOrd} (kf : Value → O.α) (xs : Array Keyed) (i : Nat) : O.α := kf ((xs[i]?.map (·.1)).getD .none)
def Up {O : KeyOrd} (kf : Value → O.α) (xs : Array Keyed) (lo hi : Nat) : Prop := ∀ i j,lo ≤ i → i ≤ j → j < hi → O.kle (KX kf xs i) (KX kf xs j)
section
variable {prog : Program} {w : World} {A : Around} {E : Value → Shared → Prop} {s : Shared} {κ : SortKind} {O : KeyOrd} {kf : Value → O.α} {a₀ : Array Keyed} {st : SortSt}
theorem SB.size (B : SB κ a₀ st) : (arrOf st).size = a₀.size := B.perm.size_eq
theorem SB.put (B : SB κ a₀ st) {xs : Array Keyed} (h : xs.Perm (arrOf st)) : SB κ a₀ (setArr st xs) := ⟨h.trans B.perm,B.kind,B.failed⟩
theorem SB.at (B : SB κ a₀ st) {i : Nat} (hi : i < a₀.size) : ∃ p,(arrOf st)[i]? = some p ∧ p ∈ a₀.toList ∧ KX kf (arrOf st) i = kf p.1 := by
  have hi' : i < (arrOf st).size := by rw [B.size]; exact hi
  refine ⟨(arrOf st)[i],getElem?_pos _ i hi',(Array.perm_iff_toList_perm.mp B.perm).mem_iff.mp (by simp),?_⟩
  unfold KX
  rw [getElem?_pos _ i hi']
  rfl
structure Keep (lo : Nat) (st st' : SortSt) : Prop where
  pend : pendingOf st' = pendingOf st
  low : ∀ k,k < lo → (arrOf st')[k]? = (arrOf st)[k]?
theorem Keep.refl (lo : Nat) (st : SortSt) : Keep lo st st := ⟨rfl,fun _ _ => rfl⟩
theorem Keep.trans {lo : Nat} {a b c : SortSt} (x : Keep lo a b) (y : Keep lo b c) : Keep lo a c := ⟨y.pend.trans x.pend,fun k h => (y.low k h).trans (x.low k h)⟩
end
end Srt
namespace Srt
open PySem PyProof.Rows
section
variable {prog : Program} {w : World} {A : Around} {E : Value → Shared → Prop} {s : Shared} {κ : SortKind} {O : KeyOrd} {kf : Value → O.α} {a₀ : Array Keyed} {st : SortSt}
end
section
variable {prog : Program} {w : World} {A : Around} {E : Value → Shared → Prop} {s : Shared} {κ : SortKind} {O : KeyOrd} {kf : Value → O.α} {a₀ : Array Keyed} {st : SortSt}
end
end Srt
namespace Srt
open PySem PyProof.Rows
section
variable {prog : Program} {w : World} {A : Around} {E : Value → Shared → Prop} {s : Shared} {κ : SortKind} {O : KeyOrd} {kf : Value → O.α} {a₀ : Array Keyed} {st : SortSt}
end
structure J (R : Keyed → Keyed → Prop) (la lb lo : List Keyed) (i j : Nat) : Prop where
  perm : lo.Perm (la.take i ++ lb.take j)
  srt : lo.Pairwise R
  a : ∀ x ∈ lo,∀ y ∈ la.drop i,R x y
  b : ∀ x ∈ lo,∀ y ∈ lb.drop j,R x y
section
variable {R : Keyed → Keyed → Prop} {la lb lo : List Keyed} {i j k : Nat}
def Fin (R : Keyed → Keyed → Prop) (la lb l : List Keyed) : Prop := l.Perm (la ++ lb) ∧ l.Pairwise R
end
section
variable {prog : Program} {w : World} {A : Around} {E : Value → Shared → Prop} {s : Shared} {κ : SortKind} {O : KeyOrd} {kf : Value → O.α} {a₀ : Array Keyed} {st : SortSt}
structure Still (κ : SortKind) (a₀ : Array Keyed) (st st' : SortSt) : Prop where
  sb : SB κ a₀ st'
  arr : arrOf st' = arrOf st
  pend : pendingOf st' = pendingOf st
end
section
variable {prog : Program} {w : World} {A : Around} {E : Value → Shared → Prop} {s : Shared} {κ : SortKind} {O : KeyOrd} {kf : Value → O.α} {a₀ : Array Keyed} {st : SortSt}
end
section
variable {prog : Program} {w : World} {A : Around} {E : Value → Shared → Prop} {s : Shared} {κ : SortKind} {O : KeyOrd} {kf : Value → O.α} {a₀ : Array Keyed} {st : SortSt}
def Chain (kf : Value → O.α) (xs : Array Keyed) : Nat → List (Nat × Nat × Nat) → Nat → Prop
  | x,[],y => x = y
  | x,(s,n,_) :: r,y => s = x ∧ 1 ≤ n ∧ Up kf xs s (s + n) ∧ Chain kf xs (x + n) r y
theorem Chain.le {xs : Array Keyed} : ∀ {l : List (Nat × Nat × Nat)} {x y : Nat},Chain kf xs x l y → x + l.length ≤ y
  | [],x,y,h => by have h : x = y := h; simp; omega
  | (s,n,p) :: r,x,y,h => by
    obtain ⟨_,h1,_,h2⟩ := h
    have := Chain.le h2
    rw [List.length_cons]
    omega
theorem Chain.app {xs : Array Keyed} : ∀ {l m : List (Nat × Nat × Nat)} {x z : Nat},Chain kf xs x (l ++ m) z ↔ ∃ y,Chain kf xs x l y ∧ Chain kf xs y m z
  | [],m,x,z => ⟨fun h => ⟨x,rfl,h⟩,fun ⟨y,h1,h2⟩ => by have h1 : x = y := h1; rw [h1]; exact h2⟩
  | (s,n,p) :: r,m,x,z => by
    constructor
    · rintro ⟨h1,h2,h3,h4⟩
      obtain ⟨y,h5,h6⟩ := Chain.app.mp h4
      exact ⟨y,⟨h1,h2,h3,h5⟩,h6⟩
    · rintro ⟨y,⟨h1,h2,h3,h5⟩,h6⟩
      exact ⟨h1,h2,h3,Chain.app.mpr ⟨y,h5,h6⟩⟩
theorem Chain.keep {xs ys : Array Keyed} : ∀ {l : List (Nat × Nat × Nat)} {x y : Nat},Chain kf xs x l y → (∀ k,x ≤ k → k < y → KX kf ys k = KX kf xs k) → Chain kf ys x l y
  | [],x,y,h,_ => h
  | (s,n,p) :: r,x,y,⟨h1,h2,h3,h4⟩,k => by
    have := Chain.le h4
    subst h1
    exact ⟨rfl,h2,fun i j q1 q2 q3 => by rw [k i q1 (by omega),k j (by omega) (by omega)]; exact h3 i j q1 q2 q3,Chain.keep h4 fun z z1 z2 => k z (by omega) z2⟩
theorem Chain.same {xs : Array Keyed} : ∀ {l m : List (Nat × Nat × Nat)} {x y : Nat},l.map (fun v => (v.1,v.2.1)) = m.map (fun v => (v.1,v.2.1)) → Chain kf xs x l y → Chain kf xs x m y
  | [],[],_,_,_,h => h
  | [],_ :: _,_,_,e,_ => by cases e
  | _ :: _,[],_,_,e,_ => by cases e
  | (a,n,p) :: l,(b,k,q) :: m,x,y,e,⟨h1,h2,h3,h4⟩ => by
    have e := List.cons.inj e
    have e1 : (a,n) = (b,k) := e.1
    cases e1
    exact ⟨h1,h2,h3,Chain.same e.2 h4⟩
end
end Srt
namespace L2
open PySem PySem.Spec PyProof.Rows
def kLt : Key → Key → Bool
  | .inl a,.inl b => decide (a < b)
  | .inl _,.inr _ => true
  | .inr _,.inl _ => false
  | .inr x,.inr y => decide (x.cps.toList < y.cps.toList)
def lexK : List Key → List Key → Bool
  | [],[] => false
  | [],_ :: _ => true
  | _ :: _,[] => false
  | a :: x,b :: y => if a = b then lexK x y else kLt a b
def keyV : Value → Key
  | .int i _ => .inl i
  | .str x _ => .inr x
  | _ => .inl 0
def kfH (h : Heap) : Value → List Key
  | .int i _ => [.inl i]
  | .str x _ => [.inr x]
  | .ref a => match h.get? a with
    | some o => match o.data with
      | .seq xs _ => xs.toList.map keyV
      | _ => []
    | none => []
  | _ => []
end L2
namespace Srt
open PySem PyProof.Rows
section
variable {prog : Program} {w : World} {A : Around} {E : Value → Shared → Prop} {s : Shared} {O : KeyOrd}
end
end Srt
namespace L2
open PySem PySem.Spec PyProof.Rows
def isI : Key → Bool
  | .inl _ => true
  | .inr _ => false
def flatKV : Value → Prop
  | .int _ _ => True
  | .str _ _ => True
  | _ => False
section
variable {prog : Program} {w : World} {A : Around} {E : Value → Shared → Prop} {s : Shared} {b : Bool} {Q : Bool → Shared → Prop}
end
def TupKey (h : Heap) (u : Value) (ks : List Key) : Prop := ∃ a o items m,u = .ref a ∧ h.get? a = some o ∧ o.cls = .type "tuple" ∧ o.data = .seq items m ∧ items.toList.map keyV = ks ∧ ∀ v ∈ items.toList,flatKV v
theorem TupKey.kf {h : Heap} {u : Value} {ks : List Key} (t : TupKey h u ks) : kfH h u = ks := by
  obtain ⟨a,o,items,m,rfl,e,_,d,k,_⟩ := t
  simp only [kfH,e,d]
  exact k
inductive SortsV (h : Heap) : List Value → List (List Key) → Prop
  | cI {vs kss} : vs.length = kss.length → (∀ (i : Nat) u ks,vs[i]? = some u → kss[i]? = some ks → ∃ n t,u = .int n t ∧ ks = [.inl n]) → SortsV h vs kss
  | cS {vs kss} : vs.length = kss.length → (∀ (i : Nat) u ks,vs[i]? = some u → kss[i]? = some ks → ∃ n t,u = .str n t ∧ ks = [.inr n]) → SortsV h vs kss
  | cT {vs kss} (sh : List Bool) : vs.length = kss.length → sh ≠ [] → (∀ (i : Nat) u ks,vs[i]? = some u → kss[i]? = some ks → TupKey h u ks ∧ ks.map isI = sh) → SortsV h vs kss
theorem SortsV.len {h : Heap} {vs : List Value} {kss : List (List Key)} (x : SortsV h vs kss) : vs.length = kss.length := by cases x <;> assumption
theorem SortsV.kf {h : Heap} {vs : List Value} {kss : List (List Key)} (x : SortsV h vs kss) : ∀ (i : Nat) u ks,vs[i]? = some u → kss[i]? = some ks → kfH h u = ks := by
  intro i u ks e1 e2
  cases x with
  | cI _ f => obtain ⟨n,t,rfl,rfl⟩ := f i u ks e1 e2; rfl
  | cS _ f => obtain ⟨n,t,rfl,rfl⟩ := f i u ks e1 e2; rfl
  | cT _ _ _ f => exact (f i u ks e1 e2).1.kf
inductive SortsAs (K : PySem.W.Frag) (H : Hp) : List V → List (List Key) → Prop
  | cI (ns : List Int) : SortsAs K H (ns.map V.int) (ns.map fun n => [.inl n])
  | cS (zs : List Str) : SortsAs K H (zs.map V.str) (zs.map fun z => [.inr z])
  | cT {xs : List V} {kss : List (List Key)} (sh : List Bool) : sh ≠ [] → Paired (fun x ks => (∃ a,x = .ref a ∧ SqT K H a (ks.map kV)) ∧ ks.map isI = sh) xs kss → SortsAs K H xs kss
theorem paired_at {α β : Type} {F : α → β → Prop} : ∀ {l : List α} {m : List β},Paired F l m → l.length = m.length ∧ ∀ (i : Nat) a b,l[i]? = some a → m[i]? = some b → F a b
  | _,_,.nil => ⟨rfl,fun i a b h => by simp at h⟩
  | _,_,.cons h r => by
    obtain ⟨h1,h2⟩ := paired_at r
    refine ⟨by rw [List.length_cons,List.length_cons,h1],fun i a b e1 e2 => ?_⟩
    cases i with
    | zero => simp at e1 e2; subst e1 e2; exact h
    | succ i => exact h2 i a b (by simpa using e1) (by simpa using e2)
theorem keyV_rel : ∀ {ks : List Key} {us : List Value},Vals (ks.map kV) us → us.map keyV = ks ∧ ∀ v ∈ us,flatKV v
  | [],_,h => by cases h; exact ⟨rfl,fun v hv => by cases hv⟩
  | k :: ks,_,h => by
    cases h with
    | cons h1 h2 =>
      obtain ⟨e,f⟩ := keyV_rel h2
      cases k with
      | inl i =>
        obtain ⟨t,rfl⟩ := h1
        exact ⟨by rw [List.map_cons,e]; rfl,fun v hv => by rcases List.mem_cons.mp hv with rfl | hv; exact True.intro; exact f v hv⟩
      | inr x =>
        obtain ⟨t,rfl⟩ := h1
        exact ⟨by rw [List.map_cons,e]; rfl,fun v hv => by rcases List.mem_cons.mp hv with rfl | hv; exact True.intro; exact f v hv⟩
section
variable {X : Cx} {pins : List (Addr × Obj)} {σ : St} {H : Hp} {s : Shared}
theorem SortsAs.vals (I : Inv X pins σ H s) {xs : List V} {kss : List (List Key)} {its : List Value} (h : SortsAs X.K H xs kss) (r : Vals xs its) : SortsV s.heap its kss := by
  have hl := r.length
  cases h with
  | cI ns =>
    rw [List.length_map] at hl
    refine .cI (by rw [List.length_map,hl]) fun i u ks e1 e2 => ?_
    rw [List.getElem?_map] at e2
    obtain ⟨n,e3,rfl⟩ := Option.map_eq_some_iff.mp e2
    obtain ⟨u',e4,t,e5⟩ := r.get (i := i) (x := .int n) (by rw [List.getElem?_map,e3]; rfl)
    rw [e1] at e4
    cases e4
    exact ⟨n,t,e5,rfl⟩
  | cS zs =>
    rw [List.length_map] at hl
    refine .cS (by rw [List.length_map,hl]) fun i u ks e1 e2 => ?_
    rw [List.getElem?_map] at e2
    obtain ⟨n,e3,rfl⟩ := Option.map_eq_some_iff.mp e2
    obtain ⟨u',e4,t,e5⟩ := r.get (i := i) (x := .str n) (by rw [List.getElem?_map,e3]; rfl)
    rw [e1] at e4
    cases e4
    exact ⟨n,t,e5,rfl⟩
  | cT sh hn p =>
    obtain ⟨h1,h2⟩ := paired_at p
    refine .cT sh (by omega) hn fun i u ks e1 e2 => ?_
    have hi := (List.getElem?_eq_some_iff.mp e2).1
    have e3 : xs[i]? = some xs[i] := List.getElem?_eq_getElem (by omega)
    obtain ⟨⟨a,ea,hq⟩,z⟩ := h2 i _ _ e3 e2
    obtain ⟨u',e4,e5⟩ := r.get e3
    rw [e1] at e4
    cases e4
    rw [ea] at e5
    obtain rfl : u = Value.ref a := e5
    obtain ⟨its2,rv,⟨o,ho,hc,n,hd⟩,_⟩ := I.tuple hq
    obtain ⟨k1,k2⟩ := keyV_rel rv
    exact ⟨⟨a,o,its2.toArray,n,rfl,ho,hc,hd,by simpa using k1,by simpa using k2⟩,z⟩
end
section
variable {X : Cx} {K : PySem.W.Frag}
end
end L2
namespace L2
open PySem PySem.Spec PyProof.Rows
section
open PySem.SeqAt
open PySem.AutoSeq1 (wpAny_loadPart')
open PySem.MeetsSeq PySem.MeetsSeq2 PySem.MeetsSeq3
structure LexTo (vs ws : List Value) (n m : Nat) (r : Bool) : Prop where
  ex : ∃ (us zs : List Value),vs = us ++ zs ∧ (zs = [] ∨ ws.length ≤ us.length) ∧ (∀ v ∈ us,flatKV v) ∧ (∀ v ∈ ws,flatKV v) ∧ (∀ (i : Nat) x y,us[i]? = some x → ws[i]? = some y → isI (keyV x) = isI (keyV y)) ∧ lexK (us.map keyV) (ws.map keyV) = r
  len : vs.length + m = ws.length + n
end
section
variable {X : Cx} {K : PySem.W.Frag}
end
def Rws (H : Hp) (xs : List V) (kss : List (List Key)) : Prop := Paired (fun x ks => ∃ a,x = .ref a ∧ H a = some (.tup (ks.map kV))) xs kss
def Tp (H H' : Hp) : Prop := ∀ p xs,H p = some (.tup xs) → H' p = some (.tup xs)
theorem Same.tp {H H' : Hp} (s : Same H H') : Tp H H' := fun p xs e => s _ _ e
theorem Tp.refl (H : Hp) : Tp H H := fun _ _ h => h
theorem Tp.trans {H H1 H2 : Hp} (a : Tp H H1) (b : Tp H1 H2) : Tp H H2 := fun p xs e => b _ _ (a _ _ e)
theorem Tp.upd {H H' : Hp} {b : Addr} {o u : HO} (t : Tp H H') (h : H' b = some u) (hn : ∀ xs,u ≠ .tup xs) : Tp H (L2.upd H' b o) := fun p xs e => by
  have e := t p xs e
  have : p ≠ b := fun z => by rw [z,h] at e; exact hn xs (Option.some.inj e)
  rw [upd_ne this]
  exact e
theorem paired_imp {α β : Type} {F G : α → β → Prop} (h : ∀ a b,F a b → G a b) : ∀ {l : List α} {m : List β},Paired F l m → Paired G l m
  | _,_,.nil => .nil
  | _,_,.cons a r => .cons (h _ _ a) (paired_imp h r)
theorem paired_app {α β : Type} {F : α → β → Prop} : ∀ {l l' : List α} {m m' : List β},Paired F l m → Paired F l' m' → Paired F (l ++ l') (m ++ m')
  | _,_,_,_,.nil,h => h
  | _,_,_,_,.cons a r,h => .cons a (paired_app r h)
theorem Rws.keep {H H' : Hp} {xs : List V} {kss : List (List Key)} (h : Rws H xs kss) (t : Tp H H') : Rws H' xs kss := paired_imp (fun x ks ⟨a,e,q⟩ => ⟨a,e,t _ _ q⟩) h
theorem Rws.len {H : Hp} {xs : List V} {kss : List (List Key)} (h : Rws H xs kss) : xs.length = kss.length := (paired_at h).1
theorem Rws.at {H : Hp} {xs : List V} {kss : List (List Key)} (h : Rws H xs kss) {i : Nat} {x : V} (e : xs[i]? = some x) : ∃ a ks,x = .ref a ∧ kss[i]? = some ks ∧ H a = some (.tup (ks.map kV)) := by
  have hi := (List.getElem?_eq_some_iff.mp e).1
  have e2 : kss[i]? = some (kss[i]'(by rw [← h.len]; exact hi)) := List.getElem?_eq_getElem _
  obtain ⟨a,ea,q⟩ := (paired_at h).2 i _ _ e e2
  exact ⟨a,_,ea,e2,q⟩
theorem Rws.ix {H : Hp} {xs : List V} {kss : List (List Key)} (h : Rws H xs kss) {i : Nat} {ks : List Key} (e : kss[i]? = some ks) : ∃ a,xs[i]? = some (.ref a) ∧ H a = some (.tup (ks.map kV)) := by
  have hi := (List.getElem?_eq_some_iff.mp e).1
  have e2 : xs[i]? = some (xs[i]'(by rw [h.len]; exact hi)) := List.getElem?_eq_getElem _
  obtain ⟨a,ea,q⟩ := (paired_at h).2 i _ _ e2 e
  exact ⟨a,by rw [e2,ea],q⟩
theorem Rws.snoc {H : Hp} {xs : List V} {kss : List (List Key)} {p : Addr} {ks : List Key} (h : Rws H xs kss) (e : H p = some (.tup (ks.map kV))) : Rws H (xs ++ [.ref p]) (kss ++ [ks]) := paired_app h (.cons ⟨p,rfl,e⟩ .nil)
def kD : Key → PyData
  | .inl i => .int i
  | .inr x => .str x
def ktD (ks : List Key) : PyData := .tuple (ks.map kD)
theorem dvs_keys {K : PySem.W.Frag} {H : Hp} : ∀ ks : List Key,Dvs K H (ks.map kV) (ks.map kD)
  | [] => .nil
  | .inl i :: r => .cons (.int i) (dvs_keys r)
  | .inr x :: r => .cons (.str x) (dvs_keys r)
theorem Rws.dvs {K : PySem.W.Frag} {H : Hp} : ∀ {xs : List V} {kss : List (List Key)},Rws H xs kss → Dvs K H xs (kss.map ktD)
  | _,_,Paired.nil => .nil
  | _,_,Paired.cons ⟨a,e,q⟩ r => by
    subst e
    exact .cons (.tup (SqT.of q) (dvs_keys _)) (Rws.dvs r)
theorem Rws.dv {K : PySem.W.Frag} {H : Hp} {l : Addr} {xs : List V} {kss : List (List Key)} (h : Rws H xs kss) (e : H l = some (.lst xs)) : Dv K H (.ref l) (.list (kss.map ktD)) := .lst (SqL.of e) h.dvs
end L2
namespace L2
open PySem PySem.Spec PyProof.Rows
theorem comp_list {K : PySem.W.Frag} {a : Addr} {n0 : Nat} {fr : List Nat} {g : TG} {tt : TT} {te : TE} {σ : St} {H : Hp} {Q : VK} {xs : List V} (Pv : Nat → St → List V → Hp → Prop) (hn : xs.length ≤ sizeLine)
    (h0 : Pv 0 (List.replicate n0 none ++ fr.map (pick σ)) [] H) (hl : ∀ i τ acc H1,Pv i τ acc H1 → SqL K H1 a xs)
    (hs : ∀ (i : Nat) x τ acc H1 (R1 : V → St → Hp → Prop) (R0 : St → Hp → Prop),xs[i]? = some x → acc.length ≤ i → Pv i τ acc H1 → (∀ y τ' H2,Pv (i + 1) τ' (acc ++ [y]) H2 → R1 y τ' H2) → (∀ τ' H2,Pv (i + 1) τ' acc H2 → R0 τ' H2) →
      g x τ H1 fun τ1 H2 => tt τ1 H2 fun b H3 => if b = true then te τ1 H3 fun y H4 => R1 y τ1 H4 else R0 τ1 H3)
    (hd : ∀ τ acc H1,acc.length ≤ xs.length → Pv xs.length τ acc H1 → ∀ D,H1 D = none → Q (.ref D) (upd H1 D (.lst acc))) :
    CompG n0 fr g tt te σ Q (Itl K a) H := by
  refine ⟨fun i m τ acc H' => m = xs.length - i ∧ i ≤ xs.length ∧ acc.length ≤ i ∧ Pv i τ acc H',⟨xs.length,by simp,Nat.zero_le _,Nat.zero_le _,h0⟩,?_⟩
  rintro i m τ acc H' ⟨rfl,hi,ha,p⟩
  have q := hl i τ acc H' p
  by_cases hlt : i < xs.length
  · refine .inr ⟨⟨xs,xs[i],q,by simp [hlt]⟩,by omega,fun x H1 y => ?_⟩
    obtain ⟨e,y⟩ := y
    subst e
    have ex := y xs q
    exact hs i x τ acc _ (fun y τ1 H4 => ∃ m',m' < xs.length - i ∧ m' = xs.length - (i + 1) ∧ i + 1 ≤ xs.length ∧ (acc ++ [y]).length ≤ i + 1 ∧ Pv (i + 1) τ1 (acc ++ [y]) H4) (fun τ1 H3 => ∃ m',m' < xs.length - i ∧ m' = xs.length - (i + 1) ∧ i + 1 ≤ xs.length ∧ acc.length ≤ i + 1 ∧ Pv (i + 1) τ1 acc H3) ex ha p
      (fun y τ' H2 h => ⟨_,by omega,rfl,hlt,by rw [List.length_append,List.length_singleton]; omega,h⟩) fun τ' H2 h => ⟨_,by omega,rfl,hlt,by omega,h⟩
  · have e : i = xs.length := by omega
    subst e
    exact .inl ⟨⟨xs,q,Nat.le_refl _⟩,hd τ acc H' ha p⟩
section
variable {X : Cx}
end
section
variable {κ : Type} [DecidableEq κ]
end
def SameX (d : Addr) (H H' : Hp) : Prop := ∀ b o,b ≠ d → H b = some o → H' b = some o
theorem Same.x {H H' : Hp} (s : Same H H') (d : Addr) : SameX d H H' := fun b o _ e => s b o e
theorem SameX.trans {d : Addr} {H H1 H2 : Hp} (a : SameX d H H1) (b : SameX d H1 H2) : SameX d H H2 := fun c o n e => b c o n (a c o n e)
theorem SameX.upd {d : Addr} {H H' : Hp} {o : HO} (a : SameX d H H') : SameX d H (L2.upd H' d o) := fun c u n e => by rw [upd_ne n]; exact a c u n e
theorem SameX.tp {d : Addr} {H H' : Hp} (a : SameX d H H') {u : HO} (h : H d = some u) (hn : ∀ xs,u ≠ .tup xs) : Tp H H' := fun p xs e => a p _ (fun z => by rw [z,h] at e; exact hn xs (Option.some.inj e)) e
end L2
namespace Rev
open PySem PySem.Builtin PySem.W PyProof.Rows
section
variable {prog : Program} {w : World} {A : Around} {E : Value → Shared → Prop} {s : Shared} {I : Addr} {fp wr : List Addr} {G : Array GenState → Array GenState → Prop} {n : Nat} {P : Nat → Value → Prop} {St : Nat → Shared → Prop} {Live : Shared → Prop}
end
end Rev
namespace L2
open PySem PySem.Spec PyProof.Rows
section
variable {X : Cx} {K : PySem.W.Frag}
end
end L2
namespace L2
open PySem PySem.Spec PyProof.Rows
section
variable {X : Cx} {K : PySem.W.Frag}
end
theorem Room.units1 {k : Nat} {A : Around} (r : Room k A) : A.in1.units + 64 < cLine := by
  have := r.un
  have e : A.in1.units ≤ A.units + 1 := by first | exact Nat.le_refl _ | (simp [Around.in1]; omega)
  omega
end L2
namespace Sdf
open PySem PySem.Spec PyProof.Rows
section
variable {prog : Program} {w : World} {K : Type} [DecidableEq K] {knd : KeyKind prog w K} {A : Around} {E : Value → Shared → Prop} {s : Shared}
end
end Sdf
namespace L2
open PySem PySem.Spec PyProof.Rows
section
variable {X : Cx} {o e f : Expr} {apos cpos : Pos} {td ty tx : TE}
end
end L2
namespace Upk
open PySem PySem.Spec PyProof.Rows
section
variable {prog : Program} {w : World} {A : Around} {E : Value → Shared → Prop} {s : Shared}
end
end Upk
namespace L2
open PySem PySem.Spec PyProof.Rows
section
variable {X : Cx} {pos : Pos}
end
end L2
namespace L2
open PySem PySem.Spec PyProof.Rows
section
variable {X : Cx}
def rInsert : V → List V → Hp → VK → Prop := fun x vs H Q => ∃ (l : Addr) (xs : List V) (i : Nat) (y : V),x = .ref l ∧ vs = [.int (i : Int),y] ∧ H l = some (.lst xs) ∧ i ≤ xs.length ∧ xs.length < sizeLine ∧ Q .non (upd H l (.lst (xs.take i ++ [y] ++ xs.drop i)))
theorem mt_insert : MtM X "list.insert" rInsert := by
  intro pins s σ H x vs v us Q I rx rv h
  obtain ⟨l,xs,i,y,rfl,rfl,hH,hi,hz,q⟩ := h
  cases rx
  obtain ⟨u0,u,rfl,⟨t,rfl⟩,ru⟩ := vals2 rv
  obtain ⟨z,its,n,r,hl,e⟩ := I.lstM hH
  have sz : sizeLine = 16777216 := sizeLine_eq
  obtain ⟨x,hx⟩ : ∃ x : Int,x = (i : Int) := ⟨_,rfl⟩
  have h63 : x < 2 ^ 63 := by omega
  have hf : Builtin.List.listFitsIndex x = true := fitsIndex_of (by omega) h63
  have hc : ¬ (!Builtin.List.listFitsIndex x) = true := by simp [hf]
  clear h63 hf
  have hz2 : its.toArray.size ≤ sizeLine := by rw [List.size_toArray]; omega
  have M := AutoSeq1.list_insert_list_int_val_1 l its.toArray n x t u hc hz2
  have key : (its.toArray.extract 0 (if x < 0 then (x + ((its.toArray.size : Nat) : Int)).toNat else min x.toNat its.toArray.size)).push u ++ its.toArray.extract (if x < 0 then (x + ((its.toArray.size : Nat) : Int)).toNat else min x.toNat its.toArray.size) = (its.take i ++ [u] ++ its.drop i).toArray := by
    have hn : ¬ (x < 0) := by omega
    have hm : min x.toNat its.length = i := by omega
    rw [if_neg hn,List.size_toArray,hm]
    have h1 : (its.toArray.extract 0 i).push u = its.toArray.extract 0 i ++ [u].toArray := by simp
    rw [h1]
    exact splice_eq its [u] i i
  rw [← hx]
  refine call_meets F.slot_list_insert ⟨_,e,rfl⟩ F.entry_list_insert (F.args_list_insert_3 _ _ _) M ⟨e,?_⟩
  refine ⟨.non,_,I.lset (its' := its.take i ++ [u] ++ its.drop i) hH e key (Vals.append (Vals.append (r.take _) (.cons ru .nil)) (r.drop _)) ?_,rfl,q⟩
  rw [List.length_append,List.length_append,List.length_take,List.length_drop,List.length_singleton]
  omega
def rInW (K : PySem.W.Frag) : R2 := fun x y H Q => ∃ p ys ds dx,y = .ref p ∧ SqT K H p ys ∧ Dvs K H ys ds ∧ Dv K H x dx ∧ (∀ d ∈ ds,SeqAt.shaped d = true) ∧ SeqAt.shaped dx = true ∧ ∀ b : Bool,(b = true → ∃ d ∈ ds,PyData.eqv d dx = true) → Q (.bl b) H
theorem dvs_each {pins : List (Addr × Obj)} {σ : St} {H : Hp} {s : Shared} (I : Inv X pins σ H s) : ∀ {ys : List V} {ds : List PyData} {us : List Value},Dvs X.K H ys ds → Vals ys us → ∃ ps : List (Value × PyData),ps.map (·.1) = us ∧ (∀ p ∈ ps,p.2 ∈ ds ∧ ∃ as,Reads s.heap p.1 p.2 as)
  | _,_,_,.nil,r => by cases r; exact ⟨[],rfl,fun p hp => by cases hp⟩
  | _,_,_,.cons (d := d0) d ds,r => by
    cases r with
    | cons r1 r2 =>
      obtain ⟨as,q⟩ := Dv.reads I d r1
      obtain ⟨ps,e,h⟩ := dvs_each I ds r2
      refine ⟨(_,d0) :: ps,by rw [List.map_cons,e],fun p hp => ?_⟩
      rcases List.mem_cons.mp hp with rfl | hp
      · exact ⟨List.mem_cons_self,as,q⟩
      · exact ⟨List.mem_cons_of_mem _ (h p hp).1,(h p hp).2⟩
theorem op_inW {K : PySem.W.Frag} (hu : X.A.in1.units + 64 < cLine) (hK : X.K = K := by rfl) : OpR X (compareOp .In) (rInW K) := by
  subst hK
  intro pins s σ H x y v u Q I rx ry h
  obtain ⟨p,ys,ds,dx,rfl,hq,hds,hdx,sds,sdx,q⟩ := h
  cases ry
  obtain ⟨as,r1⟩ := hdx.reads I rx
  obtain ⟨its,rv,pl,hz⟩ := I.tuple hq
  obtain ⟨ps,e,hp⟩ := dvs_each I hds rv
  have fnd : ∀ w ∈ its,∃ d,(ps.find? fun p => p.1 == w) = some (w,d) ∧ (w,d) ∈ ps := fun w hw => by
    rw [← e] at hw
    obtain ⟨p0,m,rfl⟩ := List.mem_map.mp hw
    cases z : ps.find? (fun p => p.1 == p0.1) with
    | none => exact absurd (beq_self_eq_true p0.1) (by simpa using List.find?_eq_none.mp z p0 m)
    | some p1 =>
      have h1 := List.find?_some z
      have h2 := List.mem_of_find?_eq_some z
      have h1 : p1.1 = p0.1 := eq_of_beq h1
      exact ⟨p1.2,by rw [← h1],by rw [← h1]; exact h2⟩
  refine SeqAt.in_tupleAt (fun w => match ps.find? (fun p => p.1 == w) with | some p => PyData.eqv p.2 dx | none => false) pl (fun w hw => ?_) ⟨.bl _,H,I,rfl,q _ fun hb => ?_⟩
  · obtain ⟨d,z,m⟩ := fnd w (by simpa using hw)
    obtain ⟨md,as',r2⟩ := hp _ m
    rw [z]
    refine SeqAt.eqAt_reads d dx _ s w v as' as r2 r1 (SeqAt.canLay_of_shaped (sds d md)) (SeqAt.canLay_of_shaped sdx) (SeqAt.room_of_shaped (sds d md) ?_)
    exact hu
  · obtain ⟨w,hw,z⟩ := Array.any_eq_true'.mp hb
    obtain ⟨d,z2,m⟩ := fnd w (by simpa using hw)
    rw [z2] at z
    exact ⟨d,(hp _ m).1,z⟩
end
section
variable {X : Cx} {e : Expr} {es : List Expr} {te : TX} {pos : Pos}
abbrev TAX := St → Hp → (List V → Hp → Prop) → XK → Prop
def PAX (X : Cx) (es : List Expr) (t : TAX) : Prop :=
  ∀ (pos : Pos) (pins : List (Addr × Obj)) (s : Shared) (σ : St) (H : Hp) (Q : List V → Hp → Prop) (E : XK),Inv X pins σ H s → t σ H Q E →
    wpAny (model X.prog X.w) X.A (spliced (backTo pos (starEach es X.env))) (AP X pins σ Q) (fun e' s' => ∃ H1 s1,Inv X pins σ H1 s1 ∧ CXF X.prog X.w X.stack H1 s1 E e' s') s
theorem pax_nil : PAX X [] (fun _ H Q _ => Q [] H) := fun _ _ _ _ H Q _ I h => Calls.spliced_nil ⟨[],H,I,.nil,h⟩
theorem pax_cons {t : TAX} (ha : PEX X e te) (hr : PAX X es t) (hs : starEach (e :: es) X.env = (false,eval e X.env) :: starEach es X.env := by rfl) : PAX X (e :: es) (fun σ H Q E => te σ H (fun x H1 => t σ H1 (fun xs H2 => Q (x :: xs) H2) E) E) := by
  intro pos pins s σ H Q E I h
  rw [hs]
  show wpAny _ _ (spliced ((false,eval e X.env) :: backTo pos (starEach es X.env))) _ _ s
  refine Calls.spliced_cons (thn (ha pins s σ H _ E I h) fun u s1 ⟨x,H1,I1,r1,q1⟩ => ?_)
  exact thn (hr pos pins s1 σ H1 _ E I1 q1) fun us s2 ⟨xs,H2,I2,r2,q2⟩ => ⟨x :: xs,H2,I2,.cons r1 r2,q2⟩
theorem pex_tup {x1} {t : TAX} (h : PAX X es t) : PEX X (.Tuple es x1 pos) (fun σ H Q E => t σ H (fun xs H1 => xs.length ≤ sizeLine ∧ ∀ p,H1 p = none → Q (.ref p) (upd H1 p (.tup xs))) E) := by
  intro pins s σ H Q E I hq
  refine wpAny_Tuple_spliced (thn (h pos pins s σ H _ E I hq) fun us s1 ⟨xs,H1,I1,r,z,q⟩ => ⟨by rw [← r.length]; exact z,?_⟩)
  have hf : H1 s1.heap.objs.size = none := I1.hok.fresh (Nat.le_refl _)
  refine ⟨.ref s1.heap.objs.size,upd H1 s1.heap.objs.size (.tup xs),I1.laid (t' := s1.toks) (fun b u e => Heap.get?_push_of_some _ e) (Nat.le_refl _) ?_,rfl,q _ hf⟩
  exact ⟨z,us,r,⟨_,Heap.get?_push_size _ rfl,rfl,_,rfl⟩⟩
end
section
variable {prog : Program} {w : World} {A : Around} {E : Value → Shared → Prop} {s : Shared}
theorem bounds_cut {a c n : Nat} (hac : a ≤ c) (ha : a ≤ n) : sliceBounds (some (a : Int)) (some (c : Int)) none n = ((a : Int),((min c n : Nat) : Int),1) := by
  obtain ⟨h1,h2,h3⟩ := slice_bounds (some (a : Int)) (some (c : Int)) n
  refine Prod.ext (h1.trans ?_) (Prod.ext (h2.trans ?_) h3)
  · show ((HT.sIx n 0 (some (a : Int)) : Nat) : Int) = (a : Int)
    unfold HT.sIx
    try simp only
    all_goals first | omega | (split <;> omega)
  · show ((HT.sIx n n (some (c : Int)) : Nat) : Int) = ((min c n : Nat) : Int)
    unfold HT.sIx
    try simp only
    all_goals first | omega | (split <;> omega)
set_option maxRecDepth 100000 in
theorem put_cut {l b sl : Addr} {items new : Array Value} {n n2 : Nat} {vl vu : Value} {a c : Nat} {Q : Unit → Shared → Prop}
    (e : s.heap.get? l = some { cls := .type "list", data := .seq items n }) (e2 : s.heap.get? b = some { cls := .type "list", data := .seq new n2 }) (hne : l ≠ b)
    (hs : s.heap.IsSliceOf sl vl vu .none) (pl : IsPart vl (some (a : Int))) (pu : IsPart vu (some (c : Int))) (hac : a ≤ c) (ha : a ≤ items.size)
    (hsz : items.size + new.size ≤ sizeLine) (h : Q () { s with heap := s.heap.update l (Obj.mapSeq fun xs => xs.extract 0 a ++ new ++ xs.extract (min c items.size) xs.size) }) :
    wpAny (model prog w) A (setItem (.ref l) (.ref sl) (.ref b)) Q E s := by
  by_cases hc : c ≤ items.size
  · refine setItem_slice e e2 hne hs pl pu hac hc hsz ?_
    rw [Nat.min_eq_left hc] at h
    exact h
  have IL : s.heap.IsList l items := PySem.IsL.isList e
  have IB : s.heap.IsList b new := PySem.IsL.isList e2
  obtain ⟨so,so1,so2,so3⟩ := id hs
  have ts : s.TypeIs (.ref sl) "slice" := ⟨so,so1,so2⟩
  have apart : Builtin.List.listSameRef (.ref l) (.ref b) = false := beq_eq_false_iff_ne.mpr hne
  have big : (max (a : Int) (((min c items.size : Nat)) : Int)).toNat = min c items.size := by omega
  have room : ((fun xs : Array Value => xs.extract 0 a ++ new ++ xs.extract (min c items.size) xs.size) items).size ≤ sizeLine + 1 := by
    simp only [Array.size_append,Array.size_extract]
    omega
  unfold setItem
  try with_reducible refine wpAny_holding ?_
  first | refine wpAny_bind (wpAny_pure ?_) | skip
  refine wpAny_bind (wpAny_sequenceKey IL.typeIs (by decide) (wpAny_bind (wpAny_callSpecial?_slot (name := Str.ofString "__setitem__") IL.typeIs slot_list_setitem (wpAny_call_entry slot_list_setitem IL.typeIs entry_list_setitem ?_ (args_list_setitem _ _ _)))))
  show wpAny _ _ (Builtin.List.listSubscript? (.ref sl) >>= _) _ _ s
  unfold Builtin.List.listSubscript?
  refine wpAny_bind (wpAny_bind (wpAny_specialOf ts slice_no_index ?_))
  simp only [Option.isNone_none,if_true]
  refine wpAny_pure ?_
  show wpAny _ _ (typeOf (.ref sl) >>= _) _ _ s
  refine wpAny_bind (wpAny_typeOf ts ?_)
  first | rw [if_neg (by decide)] | refine PySem.W.KFB.if_not (by decide) ?_
  rw [listSliceParts_eq]
  refine wpAny_bind (wpAny_bind (wpAny_field so1 so3 (x := .none) rfl (wpAny_bind (wpAny_listPart .none ?_))))
  rw [if_neg (show ¬ ((rawPart none == rawInt 0) = true) from Bool.false_ne_true)]
  refine wpAny_bind (wpAny_field so1 so3 (x := vl) rfl (wpAny_bind (wpAny_listPart pl (wpAny_bind (wpAny_field so1 so3 (x := vu) rfl (wpAny_bind (wpAny_listPart pu (wpAny_pure ?_))))))))
  first | simp only [apart,Bool.false_eq_true,if_false] | refine PySem.W.KFB.if_not apart ?_ | (dsimp only; rw [if_neg (by rw [apart]; exact Bool.false_ne_true)])
  refine wpAny_bind (m := Builtin.List.listAllItems (.ref b) "must assign iterable to extended slice") ?_
  unfold Builtin.List.listAllItems
  refine wpAny_bind (wpAny_typeOf IB.typeIs ?_)
  first | refine PySem.W.KFB.if_so (by decide) ?_ | rw [if_pos (by decide)] | simp only [beq_self_eq_true,Bool.true_or,if_true]
  unfold Builtin.List.listItems
  refine wpAny_bind (wpAny_seqItems e2 rfl (wpAny_pure (wpAny_bind (wpAny_bind (wpAny_seqItems e rfl (wpAny_pure ?_))))))
  refine wpAny_bind (wpAny_of_eq ((sliceIndices_raw (some (a : Int)) (some (c : Int)) none items.size (by simp)).trans (congrArg (pure : Int × Int × Int → Sem (Int × Int × Int)) (bounds_cut hac ha))) ?_)
  show wpAny _ _ (if ((1 : Int) == 1) = true then _ else _) _ _ s
  rw [if_pos (by decide)]
  refine wpAny_bind (wpAny_rule ?_)
  first | simp only [notLongL hsz,Bool.false_eq_true,if_false] | refine PySem.W.KFB.if_not (notLongL hsz) ?_
  first | refine wpAny_bind (wpAny_pure ?_) | skip
  show wpAny _ _ (updateSeq l (fun xs => xs.extract 0 ((a : Int)).toNat ++ new ++ xs.extract (max (a : Int) (((min c items.size : Nat)) : Int)).toNat xs.size) >>= _) _ _ s
  rw [big,Int.toNat_natCast]
  refine wpAny_bind (wpAny_updateSeq (hz := Nat.le_trans (Nat.le_add_right _ _) hsz) (_hz' := room) e rfl (wpAny_bind (wpAny_letGo ?_)))
  first | exact wpAny_bind (wpAny_pure (wpAny_pure ⟨.none,rfl,wpAny_pure h⟩)) | exact wpAny_pure ⟨.none,rfl,wpAny_pure h⟩
end
section
variable {X : Cx} {o value lo hi : Expr} {pos pos' p2 : Pos} {td tv : TE} {tl th : TO}
def sCut (td tv : TE) (tl th : TO) : TS := fun D σ H => tv σ H fun v H1 => td σ H1 fun x H2 => tl σ H2 fun l H3 => th σ H3 fun u H4 => ∃ (p b : Addr) (xs ys : List V) (i j : Nat),x = .ref p ∧ v = .ref b ∧ l = some (i : Int) ∧ u = some (j : Int) ∧
  H4 p = some (.lst xs) ∧ H4 b = some (.lst ys) ∧ p ≠ b ∧ i ≤ j ∧ i ≤ xs.length ∧ xs.length + ys.length ≤ sizeLine ∧ D.nx σ (upd H4 p (.lst (xs.take i ++ ys ++ xs.drop (min j xs.length))))
theorem ps_cutput (ho : PE X o td) (hl : PO X (some lo) tl) (hh : PO X (some hi) th) (hv : PE X value tv) (hs : swapsWith value (some (.Subscript o (.Slice (some lo) (some hi) none p2) pos')) pos.line X.env = pure false) :
    PS X (.Assign [.Subscript o (.Slice (some lo) (some hi) none p2) pos'] value pos) (sCut td tv tl th) := by
  intro pins s σ H D I h
  refine wpAny_Assign_Subscript (thn (hv pins s σ H _ I h) fun r s1 ⟨v,H1,I1,rv,q1⟩ => thn (ho pins s1 σ H1 _ I1 q1) fun ov s2 ⟨x,H2,I2,rx,q2⟩ => ?_) hs
  refine wpAny_Slice (thn (hl pins s2 σ H2 _ I2 q2) fun vl s3 ⟨l,H3,I3,pl,q3⟩ => thn (hh pins s3 σ H3 _ I3 q3) fun vu s4 ⟨u,H4,I4,pu,p,b,xs,ys,i,j,ex,ev,el,eu,hp,hb,hne,hij,hi,hz,q4⟩ => ?_)
  rw [evalPart_none]
  refine wpAny_pure ?_
  subst ex ev el eu
  obtain rfl : ov = Value.ref p := rx
  obtain rfl : r = Value.ref b := rv
  have I5 : Inv X pins σ H4 { s4 with heap := s4.heap.push { cls := .type "slice", data := .fields #[vl,vu,.none] } } := I4.kept (t' := s4.toks) fun b ob q => Heap.get?_push_of_some _ q
  obtain ⟨z,its,n,rs,len,e⟩ := I5.lstM hp
  obtain ⟨z2,its2,n2,rs2,len2,e2⟩ := I5.lstM hb
  refine put_cut (a := i) (c := j) e e2 hne (Heap.IsSliceOf.new ..) pl pu hij (by rw [List.size_toArray]; omega) (by rw [List.size_toArray,List.size_toArray]; omega) ?_
  refine ⟨σ,_,I5.lset (its' := its.take i ++ its2 ++ its.drop (min j xs.length)) (t' := s4.toks) hp e ?_ (Vals.append (Vals.append (rs.take _) rs2) (rs.drop _)) ?_,q4⟩
  · show its.toArray.extract 0 i ++ its2.toArray ++ its.toArray.extract (min j its.toArray.size) its.toArray.size = _
    rw [show min j its.toArray.size = min j xs.length by rw [List.size_toArray,len]]
    exact splice_eq its its2 i (min j xs.length)
  · rw [List.length_append,List.length_append,List.length_take,List.length_drop]
    omega
end
section
variable {prog : Program} {w : World} {A : Around} {E : Value → Shared → Prop} {s : Shared}
theorem cut_all {t sl : Addr} {items : Array Value} {vl vu : Value} {lo hi : Option Int} {Q : Value → Shared → Prop} (ht : IsTup s.heap t items) (hs : s.heap.IsSliceOf sl vl vu .none) (pl : IsPart vl lo) (pu : IsPart vu hi)
    (hw : HT.sIx items.size 0 lo = 0 ∧ HT.sIx items.size items.size hi = items.size) (h : Q (.ref t) s) : wpAny (model prog w) A (getItem (.ref t) (.ref sl)) Q E s := by
  obtain ⟨so,so1,so2,so3⟩ := id hs
  have ts : s.TypeIs (.ref sl) "slice" := ⟨so,so1,so2⟩
  unfold getItem
  try with_reducible refine wpAny_holding ?_
  first | refine wpAny_bind (wpAny_pure ?_) | skip
  refine wpAny_bind (wpAny_sequenceKey ht.typeIs (by decide) (wpAny_bind (wpAny_callSpecial?_slot (name := Str.ofString "__getitem__") ht.typeIs PyProof.Rows.slot_tuple_getitem (wpAny_call_entry PyProof.Rows.slot_tuple_getitem ht.typeIs entry_tuple_getitem ?_ (args_tuple_getitem _ _)))))
  show wpAny _ _ (Builtin.Tuple.tupleItemsOf (.ref t) >>= _) _ _ s
  refine wpAny_bind (tupleItemsOf_ ht (wpAny_bind (wpAny_typeOf ts ?_)))
  rw [if_pos (by decide)]
  refine wpAny_bind (HT.sliceApplied_gen hs pl pu ?_)
  rw [hw.1,hw.2]
  show wpAny _ _ (if ((((0 : Nat) : Int)) == 0 && (1 : Int) == 1 && (items.size - 0) == items.size) = true then _ else _) _ _ s
  rw [if_pos (by simp)]
  unfold Builtin.Tuple.tupleIsExact
  refine wpAny_bind (wpAny_bind (wpAny_typeOf ht.typeIs (wpAny_pure ?_)))
  rw [if_pos (by decide)]
  first
    | exact wpAny_bind (wpAny_rule (wpAny_bind (wpAny_pure (wpAny_pure ⟨_,rfl,wpAny_pure h⟩))))
    | exact wpAny_bind (wpAny_rule (wpAny_pure ⟨_,rfl,wpAny_pure h⟩))
end
section
variable {X : Cx}
def rSlA (K : PySem.W.Frag) : V → Option Int → Option Int → Hp → VK → Prop := fun x lo hi H Q => ∃ a xs,x = .ref a ∧ SqT K H a xs ∧ HT.sIx xs.length 0 lo = 0 ∧ HT.sIx xs.length xs.length hi = xs.length ∧ Q (.ref a) H
theorem sl_all : SlR X (rSlA X.K) := by
  intro pins s σ H x v vl vu lo hi sl Q I rx hs pl pu h
  obtain ⟨a,xs,rfl,hx,h1,h2,q⟩ := h
  cases rx
  obtain ⟨its,r,ht,hz⟩ := I.tuple hx
  have hlen : its.toArray.size = xs.length := by rw [List.size_toArray]; exact r.length.symm
  refine ⟨"tuple", _,PyProof.Rows.slot_tuple_getitem.lookup,ht.typeIs,?_⟩
  refine cut_all ht hs pl pu (by rw [hlen]; exact ⟨h1,h2⟩) ?_
  exact ⟨.ref a,H,I,rfl,q⟩
theorem sl_any {K : PySem.W.Frag} (hK : X.K = K := by rfl) : SlR X (fun x lo hi H Q => rSlA K x lo hi H Q ∨ rSlT K x lo hi H Q) := by
  subst hK
  exact SlR.or sl_all sl_tup
end
section
theorem comp_pure_tup {K : PySem.W.Frag} {a : Addr} {fr : List Nat} {tt : TT} {te : TE} {σ : St} {H : Hp} {Q : VK} {xs : List V} (p : V → Bool) (f : V → V) (hq : SqT K H a xs) (hn : xs.length ≤ sizeLine)
    (htt : ∀ x (R : Bool → Hp → Prop),x ∈ xs → R (p x) H → tt (some x :: fr.map (pick σ)) H R)
    (hte : ∀ x (R : VK),x ∈ xs → p x = true → R (f x) H → te (some x :: fr.map (pick σ)) H R)
    (hd : ∀ D,H D = none → Q (.ref D) (upd H D (.lst ((xs.filter p).map f)))) :
    CompG 1 fr (gName 0) tt te σ Q (Itt K a) H :=
  comp_pure xs p f hn (fun i hi => ⟨xs,xs[i],hq,by simp [hi]⟩) ⟨xs,hq,Nat.le_refl _⟩ (fun i x H' _ y => ⟨y.1,y.2 xs hq⟩) htt hte hd
end
section
theorem comp_rangeN {lo : Int} {n n0 : Nat} {fr : List Nat} {g : TG} {te : TE} {σ : St} {H : Hp} {Q : VK} (Pv : Nat → St → List V → Hp → Prop) (hn : n ≤ sizeLine)
    (h0 : Pv 0 (List.replicate n0 none ++ fr.map (pick σ)) [] H)
    (hs : ∀ (i : Nat) τ acc H1 (R1 : V → St → Hp → Prop),i < n → acc.length ≤ i → Pv i τ acc H1 → (∀ y τ' H2,Pv (i + 1) τ' (acc ++ [y]) H2 → R1 y τ' H2) → g (.int (lo + i)) τ H1 fun τ1 H2 => te τ1 H2 fun y H4 => R1 y τ1 H4)
    (hd : ∀ τ acc H1,acc.length ≤ n → Pv n τ acc H1 → ∀ D,H1 D = none → Q (.ref D) (upd H1 D (.lst acc))) :
    CompG n0 fr g tYes te σ Q (Itr lo n) H := by
  refine ⟨fun i m τ acc H' => m = n - i ∧ i ≤ n ∧ acc.length ≤ i ∧ Pv i τ acc H',⟨n,by simp,Nat.zero_le _,Nat.zero_le _,h0⟩,?_⟩
  rintro i m τ acc H' ⟨rfl,hi,ha,p⟩
  by_cases hlt : i < n
  · refine .inr ⟨hlt,by omega,fun x H1 y => ?_⟩
    obtain ⟨e1,e2⟩ := y
    subst e1 e2
    have e : (fun (τ1 : St) (H2 : Hp) => tYes τ1 H2 fun b H3 => if b = true then te τ1 H3 fun y H4 => ∃ m',m' < n - i ∧ m' = n - (i + 1) ∧ i + 1 ≤ n ∧ (acc ++ [y]).length ≤ i + 1 ∧ Pv (i + 1) τ1 (acc ++ [y]) H4 else ∃ m',m' < n - i ∧ m' = n - (i + 1) ∧ i + 1 ≤ n ∧ acc.length ≤ i + 1 ∧ Pv (i + 1) τ1 acc H3) = fun τ1 H2 => te τ1 H2 fun y H4 => ∃ m',m' < n - i ∧ m' = n - (i + 1) ∧ i + 1 ≤ n ∧ (acc ++ [y]).length ≤ i + 1 ∧ Pv (i + 1) τ1 (acc ++ [y]) H4 := by
      funext τ1 H2
      show (if true = true then (te τ1 H2 fun y H4 => ∃ m',m' < n - i ∧ m' = n - (i + 1) ∧ i + 1 ≤ n ∧ (acc ++ [y]).length ≤ i + 1 ∧ Pv (i + 1) τ1 (acc ++ [y]) H4) else ∃ m',m' < n - i ∧ m' = n - (i + 1) ∧ i + 1 ≤ n ∧ acc.length ≤ i + 1 ∧ Pv (i + 1) τ1 acc H2) = _
      rw [if_pos rfl]
    rw [e]
    exact hs i τ acc _ (fun y τ1 H4 => ∃ m',m' < n - i ∧ m' = n - (i + 1) ∧ i + 1 ≤ n ∧ (acc ++ [y]).length ≤ i + 1 ∧ Pv (i + 1) τ1 (acc ++ [y]) H4) hlt ha p (fun y τ' H2 h => ⟨_,by omega,rfl,hlt,by rw [List.length_append,List.length_singleton]; omega,h⟩)
  · have e : i = n := by omega
    subst e
    exact .inl ⟨Nat.le_refl _,hd τ acc H' ha p⟩
end
end L2
namespace L2
open PySem PySem.Spec PyProof.Rows
section
variable {X : Cx}
end
section
variable {X : Cx}
end
end L2
namespace L2
open PySem PySem.Spec PyProof.Rows
section
variable {X : Cx} {pins : List (Addr × Obj)} {σ : St} {k : Nat} {f : Addr} {fd : FuncData} {ps : List Str} {sp : Sp}
def KeysAt (H : Hp) (us : List Value) (kss : List (List Key)) : Prop := us.length = kss.length ∧ ∀ (i : Nat) u ks,us[i]? = some u → kss[i]? = some ks → ∃ q,u = .ref q ∧ H q = some (.tup (ks.map kV))
theorem KeysAt.mono {H H' : Hp} {us : List Value} {kss : List (List Key)} (h : KeysAt H us kss) (s : Same H H') : KeysAt H' us kss := ⟨h.1,fun i u ks e1 e2 => let ⟨q,a,b⟩ := h.2 i u ks e1 e2; ⟨q,a,s _ _ b⟩⟩
end
section
variable {X : Cx} {k : Nat} {f : Addr} {fd : FuncData} {ps : List Str} {sp : Sp} {x y : Str} {p p2 pk pos : Pos} {e : Expr} {t : TE} {K : PySem.W.Frag}
end
end L2
namespace L2
open PySem PySem.Spec PyProof.Rows
section
variable {X : Cx}
end
end L2
set_option maxHeartbeats 4000000
namespace K05
open PySem L2
seal PE PT PW PA PS PSs PG PGs PI PTs PC PO OpR UnR CallR TruR IxR SlR
def top (i : Nat) : Stmt := PySem.Challenge.pw_brooktally_k05_plans_looked_at.main.body.getD i (.Pass ⟨0,0,0,0⟩)
abbrev s_BadStep___init__ : Stmt := inClass (top 5) 0
abbrev s_is_whole : Stmt := top 12
abbrev s_is_among : Stmt := top 13
abbrev s_is_amount : Stmt := top 14
abbrev s_is_made_of : Stmt := top 15
abbrev s_is_name : Stmt := top 16
abbrev s_has_form : Stmt := top 25
abbrev s_names_end : Stmt := top 26
abbrev s_is_tally : Stmt := top 27
abbrev s_is_ticks : Stmt := top 28
abbrev s_are_bounds : Stmt := top 29
abbrev s_are_windows : Stmt := top 30
abbrev s_are_good : Stmt := top 31
abbrev s_is_step : Stmt := top 32
abbrev s_name_of : Stmt := top 33
abbrev s_feeders : Stmt := top 34
abbrev s_is_teller : Stmt := top 35
abbrev s_is_fed : Stmt := top 39
abbrev s_width_of : Stmt := top 40
abbrev s_fits : Stmt := top 41
abbrev s_checked : Stmt := top 42
abbrev s_uat : Stmt := top 44
abbrev s_uwhole : Stmt := top 45
abbrev s_uis_name : Stmt := top 46
abbrev s_uis_among : Stmt := top 47
abbrev s_ucalled : Stmt := top 48
abbrev s_uis_step : Stmt := top 49
abbrev s_unumber : Stmt := top 50
abbrev s_ustep : Stmt := top 51
abbrev s_uwide : Stmt := top 52
abbrev s_ustep_name : Stmt := top 53
abbrev s_uplan : Stmt := top 54
abbrev s_ubad : Stmt := top 55
abbrev s_uspoilt : Stmt := top 56
abbrev s_usaid : Stmt := top 57
abbrev s_law : Stmt := top 58
theorem sc_BadStep___init__ : FnScope ["self", "place"] ["self", "place"] (defScope s_BadStep___init__) := ⟨rfl,rfl,rfl,by decide +kernel,rfl,by decide +kernel,by decide +kernel⟩
theorem sc_is_whole : FnScope ["thing"] ["thing"] (defScope s_is_whole) := ⟨rfl,rfl,rfl,by decide +kernel,rfl,by decide +kernel,by decide +kernel⟩
theorem sc_is_among : FnScope ["thing", "least", "most"] ["thing", "least", "most"] (defScope s_is_among) := ⟨rfl,rfl,rfl,by decide +kernel,rfl,by decide +kernel,by decide +kernel⟩
theorem sc_is_amount : FnScope ["thing"] ["thing"] (defScope s_is_amount) := ⟨rfl,rfl,rfl,by decide +kernel,rfl,by decide +kernel,by decide +kernel⟩
theorem sc_is_made_of : FnScope ["text", "signs"] ["text", "signs"] (defScope s_is_made_of) := ⟨rfl,rfl,rfl,by decide +kernel,rfl,by decide +kernel,by decide +kernel⟩
theorem sc_is_name : FnScope ["thing"] ["thing"] (defScope s_is_name) := ⟨rfl,rfl,rfl,by decide +kernel,rfl,by decide +kernel,by decide +kernel⟩
theorem sc_has_form : FnScope ["thing"] ["thing"] (defScope s_has_form) := ⟨rfl,rfl,rfl,by decide +kernel,rfl,by decide +kernel,by decide +kernel⟩
theorem sc_names_end : FnScope ["step"] ["step"] (defScope s_names_end) := ⟨rfl,rfl,rfl,by decide +kernel,rfl,by decide +kernel,by decide +kernel⟩
theorem sc_is_tally : FnScope ["thing"] ["thing"] (defScope s_is_tally) := ⟨rfl,rfl,rfl,by decide +kernel,rfl,by decide +kernel,by decide +kernel⟩
theorem sc_is_ticks : FnScope ["thing", "least"] ["thing", "least"] (defScope s_is_ticks) := ⟨rfl,rfl,rfl,by decide +kernel,rfl,by decide +kernel,by decide +kernel⟩
theorem sc_are_bounds : FnScope ["low", "high"] ["low", "high"] (defScope s_are_bounds) := ⟨rfl,rfl,rfl,by decide +kernel,rfl,by decide +kernel,by decide +kernel⟩
theorem sc_are_windows : FnScope ["size", "step"] ["size", "step"] (defScope s_are_windows) := ⟨rfl,rfl,rfl,by decide +kernel,rfl,by decide +kernel,by decide +kernel⟩
theorem sc_are_good : FnScope ["word", "rest"] ["word", "rest"] (defScope s_are_good) := ⟨rfl,rfl,rfl,by decide +kernel,rfl,by decide +kernel,by decide +kernel⟩
theorem sc_is_step : FnScope ["thing", "end"] ["thing"] (defScope s_is_step) := ⟨rfl,rfl,rfl,by decide +kernel,rfl,by decide +kernel,by decide +kernel⟩
theorem sc_name_of : FnScope ["step"] ["step"] (defScope s_name_of) := ⟨rfl,rfl,rfl,by decide +kernel,rfl,by decide +kernel,by decide +kernel⟩
theorem sc_feeders : FnScope ["step"] ["step"] (defScope s_feeders) := ⟨rfl,rfl,rfl,by decide +kernel,rfl,by decide +kernel,by decide +kernel⟩
theorem sc_is_teller : FnScope ["step"] ["step"] (defScope s_is_teller) := ⟨rfl,rfl,rfl,by decide +kernel,rfl,by decide +kernel,by decide +kernel⟩
theorem sc_is_fed : FnScope ["step", "widths"] ["step", "widths"] (defScope s_is_fed) := ⟨rfl,rfl,rfl,by decide +kernel,rfl,by decide +kernel,by decide +kernel⟩
theorem sc_width_of : FnScope ["step", "widths"] ["step", "widths"] (defScope s_width_of) := ⟨rfl,rfl,rfl,by decide +kernel,rfl,by decide +kernel,by decide +kernel⟩
theorem sc_fits : FnScope ["step", "names", "widths"] ["step", "names", "widths"] (defScope s_fits) := ⟨rfl,rfl,rfl,by decide +kernel,rfl,by decide +kernel,by decide +kernel⟩
theorem sc_checked : FnScope ["plan", "names", "widths", "place", "step"] ["plan"] (defScope s_checked) := ⟨rfl,rfl,rfl,by decide +kernel,rfl,by decide +kernel,by decide +kernel⟩
theorem sc_uat : FnScope ["_law_script", "_law_k"] ["_law_script", "_law_k"] (defScope s_uat) := ⟨rfl,rfl,rfl,by decide +kernel,rfl,by decide +kernel,by decide +kernel⟩
theorem sc_uwhole : FnScope ["_law_thing"] ["_law_thing"] (defScope s_uwhole) := ⟨rfl,rfl,rfl,by decide +kernel,rfl,by decide +kernel,by decide +kernel⟩
theorem sc_uis_name : FnScope ["_law_thing"] ["_law_thing"] (defScope s_uis_name) := ⟨rfl,rfl,rfl,by decide +kernel,rfl,by decide +kernel,by decide +kernel⟩
theorem sc_uis_among : FnScope ["_law_thing", "_law_least", "_law_most"] ["_law_thing", "_law_least", "_law_most"] (defScope s_uis_among) := ⟨rfl,rfl,rfl,by decide +kernel,rfl,by decide +kernel,by decide +kernel⟩
theorem sc_ucalled : FnScope ["_law_cell", "_law_k", "_law_signs", "_law_letters", "_law_turned", "_law_size", "_law_tail", "_law_at_here"] ["_law_cell", "_law_k", "_law_signs"] (defScope s_ucalled) := ⟨rfl,rfl,rfl,by decide +kernel,rfl,by decide +kernel,by decide +kernel⟩
theorem sc_uis_step : FnScope ["_law_thing", "_law_size"] ["_law_thing"] (defScope s_uis_step) := ⟨rfl,rfl,rfl,by decide +kernel,rfl,by decide +kernel,by decide +kernel⟩
theorem sc_unumber : FnScope ["_law_cell", "_law_most"] ["_law_cell", "_law_most"] (defScope s_unumber) := ⟨rfl,rfl,rfl,by decide +kernel,rfl,by decide +kernel,by decide +kernel⟩
theorem sc_ustep : FnScope ["_law_cell", "_law_name", "_law_streams", "_law_kind", "_law_way", "_law_one", "_law_other", "_law_more", "_law_tally", "_law_low", "_law_high", "_law_step_here"] ["_law_cell", "_law_name", "_law_streams", "_law_kind"] (defScope s_ustep) := ⟨rfl,rfl,rfl,by decide +kernel,rfl,by decide +kernel,by decide +kernel⟩
theorem sc_uwide : FnScope ["_law_step_here", "_law_widths"] ["_law_step_here", "_law_widths"] (defScope s_uwide) := ⟨rfl,rfl,rfl,by decide +kernel,rfl,by decide +kernel,by decide +kernel⟩
theorem sc_ustep_name : FnScope ["_law_base", "_law_k", "_law_signs", "_law_words"] ["_law_base", "_law_k", "_law_signs"] (defScope s_ustep_name) := ⟨rfl,rfl,rfl,by decide +kernel,rfl,by decide +kernel,by decide +kernel⟩
theorem sc_uplan : FnScope ["_law_script", "_law_first", "_law_most", "_law_base", "_law_letters", "_law_plan_here", "_law_widths", "_law_k", "_law_cell", "_law_name", "_law_kind", "_law_step_here"] ["_law_script", "_law_first", "_law_most"] (defScope s_uplan) := ⟨rfl,rfl,rfl,by decide +kernel,rfl,by decide +kernel,by decide +kernel⟩
theorem sc_ubad : FnScope ["_law_plan_here", "_law_widths", "_law_names", "_law_place", "_law_step_here", "_law_some"] ["_law_plan_here"] (defScope s_ubad) := ⟨rfl,rfl,rfl,by decide +kernel,rfl,by decide +kernel,by decide +kernel⟩
theorem sc_uspoilt : FnScope ["_law_plan_here", "_law_cell", "_law_more", "_law_at_here", "_law_names", "_law_name", "_law_other", "_law_some", "_law_great", "_law_way", "_law_told", "_law_k", "_law_ahead", "_law_step_here"] ["_law_plan_here", "_law_cell", "_law_more"] (defScope s_uspoilt) := ⟨rfl,rfl,rfl,by decide +kernel,rfl,by decide +kernel,by decide +kernel⟩
theorem sc_usaid : FnScope ["_law_plan_here", "error", "_law_others"] ["_law_plan_here"] (defScope s_usaid) := ⟨rfl,rfl,rfl,by decide +kernel,rfl,by decide +kernel,by decide +kernel⟩
theorem sc_law : FnScope ["_law_script", "_law_most", "_law_plan_here", "_law_cell", "_law_many", "_law_steps", "_law_handed", "_law_is_bad", "_law_place", "_law_found"] ["_law_script"] (defScope s_law) := ⟨rfl,rfl,rfl,by decide +kernel,rfl,by decide +kernel,by decide +kernel⟩
structure Ad where
  a_BadStep___init__ : Addr
  d_BadStep___init__ : FuncData
  a_is_whole : Addr
  d_is_whole : FuncData
  a_is_among : Addr
  d_is_among : FuncData
  a_is_amount : Addr
  d_is_amount : FuncData
  a_is_made_of : Addr
  d_is_made_of : FuncData
  a_is_name : Addr
  d_is_name : FuncData
  a_has_form : Addr
  d_has_form : FuncData
  a_names_end : Addr
  d_names_end : FuncData
  a_is_tally : Addr
  d_is_tally : FuncData
  a_is_ticks : Addr
  d_is_ticks : FuncData
  a_are_bounds : Addr
  d_are_bounds : FuncData
  a_are_windows : Addr
  d_are_windows : FuncData
  a_are_good : Addr
  d_are_good : FuncData
  a_is_step : Addr
  d_is_step : FuncData
  a_name_of : Addr
  d_name_of : FuncData
  a_feeders : Addr
  d_feeders : FuncData
  a_is_teller : Addr
  d_is_teller : FuncData
  a_is_fed : Addr
  d_is_fed : FuncData
  a_width_of : Addr
  d_width_of : FuncData
  a_fits : Addr
  d_fits : FuncData
  a_checked : Addr
  d_checked : FuncData
  a_uat : Addr
  d_uat : FuncData
  a_uwhole : Addr
  d_uwhole : FuncData
  a_uis_name : Addr
  d_uis_name : FuncData
  a_uis_among : Addr
  d_uis_among : FuncData
  a_ucalled : Addr
  d_ucalled : FuncData
  a_uis_step : Addr
  d_uis_step : FuncData
  a_unumber : Addr
  d_unumber : FuncData
  a_ustep : Addr
  d_ustep : FuncData
  a_uwide : Addr
  d_uwide : FuncData
  a_ustep_name : Addr
  d_ustep_name : FuncData
  a_uplan : Addr
  d_uplan : FuncData
  a_ubad : Addr
  d_ubad : FuncData
  a_uspoilt : Addr
  d_uspoilt : FuncData
  a_usaid : Addr
  d_usaid : FuncData
  a_law : Addr
  d_law : FuncData
  c_FlowError : Addr
  c_BadEvent : Addr
  c_BadSlack : Addr
  c_Broken : Addr
  c_BadStep : Addr
  c_BadLine : Addr
  c_BadKeep : Addr
  o_LENGTHS : Addr
  o_PAIRED : Addr
  o_TELLERS : Addr
  o_TALLIES : Addr
structure Tx (w : World) (K : W.Frag) (mg : Str → Option Value) (ad : Ad) : Prop where
  F_BadStep___init__ : Fun K "__init__" "BadStep.__init__" s_BadStep___init__ ad.a_BadStep___init__ ad.d_BadStep___init__
  b_BadStep___init__ : Binds K ad.d_BadStep___init__ ["self", "place"] []
  F_is_whole : Fun K "is_whole" "is_whole" s_is_whole ad.a_is_whole ad.d_is_whole
  b_is_whole : Binds K ad.d_is_whole ["thing"] []
  m_is_whole : mg "is_whole" = some (.ref ad.a_is_whole)
  F_is_among : Fun K "is_among" "is_among" s_is_among ad.a_is_among ad.d_is_among
  b_is_among : Binds K ad.d_is_among ["thing", "least", "most"] []
  m_is_among : mg "is_among" = some (.ref ad.a_is_among)
  F_is_amount : Fun K "is_amount" "is_amount" s_is_amount ad.a_is_amount ad.d_is_amount
  b_is_amount : Binds K ad.d_is_amount ["thing"] []
  m_is_amount : mg "is_amount" = some (.ref ad.a_is_amount)
  F_is_made_of : Fun K "is_made_of" "is_made_of" s_is_made_of ad.a_is_made_of ad.d_is_made_of
  b_is_made_of : Binds K ad.d_is_made_of ["text", "signs"] []
  m_is_made_of : mg "is_made_of" = some (.ref ad.a_is_made_of)
  F_is_name : Fun K "is_name" "is_name" s_is_name ad.a_is_name ad.d_is_name
  b_is_name : Binds K ad.d_is_name ["thing"] []
  m_is_name : mg "is_name" = some (.ref ad.a_is_name)
  F_has_form : Fun K "has_form" "has_form" s_has_form ad.a_has_form ad.d_has_form
  b_has_form : Binds K ad.d_has_form ["thing"] []
  m_has_form : mg "has_form" = some (.ref ad.a_has_form)
  F_names_end : Fun K "names_end" "names_end" s_names_end ad.a_names_end ad.d_names_end
  b_names_end : Binds K ad.d_names_end ["step"] []
  m_names_end : mg "names_end" = some (.ref ad.a_names_end)
  F_is_tally : Fun K "is_tally" "is_tally" s_is_tally ad.a_is_tally ad.d_is_tally
  b_is_tally : Binds K ad.d_is_tally ["thing"] []
  m_is_tally : mg "is_tally" = some (.ref ad.a_is_tally)
  F_is_ticks : Fun K "is_ticks" "is_ticks" s_is_ticks ad.a_is_ticks ad.d_is_ticks
  b_is_ticks : Binds K ad.d_is_ticks ["thing", "least"] []
  m_is_ticks : mg "is_ticks" = some (.ref ad.a_is_ticks)
  F_are_bounds : Fun K "are_bounds" "are_bounds" s_are_bounds ad.a_are_bounds ad.d_are_bounds
  b_are_bounds : Binds K ad.d_are_bounds ["low", "high"] []
  m_are_bounds : mg "are_bounds" = some (.ref ad.a_are_bounds)
  F_are_windows : Fun K "are_windows" "are_windows" s_are_windows ad.a_are_windows ad.d_are_windows
  b_are_windows : Binds K ad.d_are_windows ["size", "step"] []
  m_are_windows : mg "are_windows" = some (.ref ad.a_are_windows)
  F_are_good : Fun K "are_good" "are_good" s_are_good ad.a_are_good ad.d_are_good
  b_are_good : Binds K ad.d_are_good ["word", "rest"] []
  m_are_good : mg "are_good" = some (.ref ad.a_are_good)
  F_is_step : Fun K "is_step" "is_step" s_is_step ad.a_is_step ad.d_is_step
  b_is_step : Binds K ad.d_is_step ["thing"] []
  m_is_step : mg "is_step" = some (.ref ad.a_is_step)
  F_name_of : Fun K "name_of" "name_of" s_name_of ad.a_name_of ad.d_name_of
  b_name_of : Binds K ad.d_name_of ["step"] []
  m_name_of : mg "name_of" = some (.ref ad.a_name_of)
  F_feeders : Fun K "feeders" "feeders" s_feeders ad.a_feeders ad.d_feeders
  b_feeders : Binds K ad.d_feeders ["step"] []
  m_feeders : mg "feeders" = some (.ref ad.a_feeders)
  F_is_teller : Fun K "is_teller" "is_teller" s_is_teller ad.a_is_teller ad.d_is_teller
  b_is_teller : Binds K ad.d_is_teller ["step"] []
  m_is_teller : mg "is_teller" = some (.ref ad.a_is_teller)
  F_is_fed : Fun K "is_fed" "is_fed" s_is_fed ad.a_is_fed ad.d_is_fed
  b_is_fed : Binds K ad.d_is_fed ["step", "widths"] []
  m_is_fed : mg "is_fed" = some (.ref ad.a_is_fed)
  F_width_of : Fun K "width_of" "width_of" s_width_of ad.a_width_of ad.d_width_of
  b_width_of : Binds K ad.d_width_of ["step", "widths"] []
  m_width_of : mg "width_of" = some (.ref ad.a_width_of)
  F_fits : Fun K "fits" "fits" s_fits ad.a_fits ad.d_fits
  b_fits : Binds K ad.d_fits ["step", "names", "widths"] []
  m_fits : mg "fits" = some (.ref ad.a_fits)
  F_checked : Fun K "checked" "checked" s_checked ad.a_checked ad.d_checked
  b_checked : Binds K ad.d_checked ["plan"] []
  m_checked : mg "checked" = some (.ref ad.a_checked)
  F_uat : Fun K "_law_at" "_law_at" s_uat ad.a_uat ad.d_uat
  b_uat : Binds K ad.d_uat ["_law_script", "_law_k"] []
  m_uat : mg "_law_at" = some (.ref ad.a_uat)
  F_uwhole : Fun K "_law_whole" "_law_whole" s_uwhole ad.a_uwhole ad.d_uwhole
  b_uwhole : Binds K ad.d_uwhole ["_law_thing"] []
  m_uwhole : mg "_law_whole" = some (.ref ad.a_uwhole)
  F_uis_name : Fun K "_law_is_name" "_law_is_name" s_uis_name ad.a_uis_name ad.d_uis_name
  b_uis_name : Binds K ad.d_uis_name ["_law_thing"] []
  m_uis_name : mg "_law_is_name" = some (.ref ad.a_uis_name)
  F_uis_among : Fun K "_law_is_among" "_law_is_among" s_uis_among ad.a_uis_among ad.d_uis_among
  b_uis_among : Binds K ad.d_uis_among ["_law_thing", "_law_least", "_law_most"] []
  m_uis_among : mg "_law_is_among" = some (.ref ad.a_uis_among)
  F_ucalled : Fun K "_law_called" "_law_called" s_ucalled ad.a_ucalled ad.d_ucalled
  b_ucalled : Binds K ad.d_ucalled ["_law_cell", "_law_k", "_law_signs"] []
  m_ucalled : mg "_law_called" = some (.ref ad.a_ucalled)
  F_uis_step : Fun K "_law_is_step" "_law_is_step" s_uis_step ad.a_uis_step ad.d_uis_step
  b_uis_step : Binds K ad.d_uis_step ["_law_thing"] []
  m_uis_step : mg "_law_is_step" = some (.ref ad.a_uis_step)
  F_unumber : Fun K "_law_number" "_law_number" s_unumber ad.a_unumber ad.d_unumber
  b_unumber : Binds K ad.d_unumber ["_law_cell", "_law_most"] []
  m_unumber : mg "_law_number" = some (.ref ad.a_unumber)
  F_ustep : Fun K "_law_step" "_law_step" s_ustep ad.a_ustep ad.d_ustep
  b_ustep : Binds K ad.d_ustep ["_law_cell", "_law_name", "_law_streams", "_law_kind"] []
  m_ustep : mg "_law_step" = some (.ref ad.a_ustep)
  F_uwide : Fun K "_law_wide" "_law_wide" s_uwide ad.a_uwide ad.d_uwide
  b_uwide : Binds K ad.d_uwide ["_law_step_here", "_law_widths"] []
  m_uwide : mg "_law_wide" = some (.ref ad.a_uwide)
  F_ustep_name : Fun K "_law_step_name" "_law_step_name" s_ustep_name ad.a_ustep_name ad.d_ustep_name
  b_ustep_name : Binds K ad.d_ustep_name ["_law_base", "_law_k", "_law_signs"] []
  m_ustep_name : mg "_law_step_name" = some (.ref ad.a_ustep_name)
  F_uplan : Fun K "_law_plan" "_law_plan" s_uplan ad.a_uplan ad.d_uplan
  b_uplan : Binds K ad.d_uplan ["_law_script", "_law_first", "_law_most"] []
  m_uplan : mg "_law_plan" = some (.ref ad.a_uplan)
  F_ubad : Fun K "_law_bad" "_law_bad" s_ubad ad.a_ubad ad.d_ubad
  b_ubad : Binds K ad.d_ubad ["_law_plan_here"] []
  m_ubad : mg "_law_bad" = some (.ref ad.a_ubad)
  F_uspoilt : Fun K "_law_spoilt" "_law_spoilt" s_uspoilt ad.a_uspoilt ad.d_uspoilt
  b_uspoilt : Binds K ad.d_uspoilt ["_law_plan_here", "_law_cell", "_law_more"] []
  m_uspoilt : mg "_law_spoilt" = some (.ref ad.a_uspoilt)
  F_usaid : Fun K "_law_said" "_law_said" s_usaid ad.a_usaid ad.d_usaid
  b_usaid : Binds K ad.d_usaid ["_law_plan_here"] []
  m_usaid : mg "_law_said" = some (.ref ad.a_usaid)
  F_law : Fun K "law" "law" s_law ad.a_law ad.d_law
  b_law : Binds K ad.d_law ["_law_script"] []
  m_law : mg "law" = some (.ref ad.a_law)
  mc_FlowError : mg "FlowError" = some (.ref ad.c_FlowError)
  x_FlowError : W.excIn K ad.c_FlowError [.type "ValueError", .type "Exception", .type "BaseException", .type "object"] "ValueError.__new__" = true
  mc_BadEvent : mg "BadEvent" = some (.ref ad.c_BadEvent)
  x_BadEvent : W.excIn K ad.c_BadEvent [.type "ValueError", .type "Exception", .type "BaseException", .type "object"] "ValueError.__new__" = true
  mc_BadSlack : mg "BadSlack" = some (.ref ad.c_BadSlack)
  x_BadSlack : W.excIn K ad.c_BadSlack [.type "ValueError", .type "Exception", .type "BaseException", .type "object"] "ValueError.__new__" = true
  mc_Broken : mg "Broken" = some (.ref ad.c_Broken)
  x_Broken : W.excIn K ad.c_Broken [.type "ValueError", .type "Exception", .type "BaseException", .type "object"] "ValueError.__new__" = true
  mc_BadStep : mg "BadStep" = some (.ref ad.c_BadStep)
  mc_BadLine : mg "BadLine" = some (.ref ad.c_BadLine)
  mc_BadKeep : mg "BadKeep" = some (.ref ad.c_BadKeep)
  xp_BadStep : ExP K ad.c_BadStep ad.c_FlowError ad.a_BadStep___init__ "place"
  ex_BadStep : ExI K ad.c_BadStep
  i_BadStep_ValueError : W.kitOne K (.ref ad.c_BadStep) (.type "ValueError") = some true
  i_BadStep_FlowError : W.kitOne K (.ref ad.c_BadStep) (.ref ad.c_FlowError) = some true
  e_BadStep_FlowError : W.exmOne K (.ref ad.c_BadStep) (.ref ad.c_FlowError) = some true
  i_BadStep_BadEvent : W.kitOne K (.ref ad.c_BadStep) (.ref ad.c_BadEvent) = some false
  i_BadStep_BadSlack : W.kitOne K (.ref ad.c_BadStep) (.ref ad.c_BadSlack) = some false
  i_BadStep_Broken : W.kitOne K (.ref ad.c_BadStep) (.ref ad.c_Broken) = some false
  i_BadStep_BadStep : W.kitOne K (.ref ad.c_BadStep) (.ref ad.c_BadStep) = some true
  e_BadStep_BadStep : W.exmOne K (.ref ad.c_BadStep) (.ref ad.c_BadStep) = some true
  i_BadStep_BadLine : W.kitOne K (.ref ad.c_BadStep) (.ref ad.c_BadLine) = some false
  i_BadStep_BadKeep : W.kitOne K (.ref ad.c_BadStep) (.ref ad.c_BadKeep) = some false
  g_LETTERS : ∃ t,mg "LETTERS" = some (.str "abcdefghijklmnopqrstuvwxyz" t)
  g_MOST_LETTERS : ∃ t,mg "MOST_LETTERS" = some (.int 12 t)
  g_MOST_AMOUNT : ∃ t,mg "MOST_AMOUNT" = some (.int 1000000000 t)
  g_LENGTHS : mg "LENGTHS" = some (.ref ad.o_LENGTHS)
  q_LENGTHS : FzD w K ad.o_LENGTHS [(.inr "take", .int 3),(.inr "only", .int 5),(.inr "turn", .int 5),(.inr "both", .int 4),(.inr "join", .int 5),(.inr "each", .int 6),(.inr "gap", .int 5)]
  g_PAIRED : mg "PAIRED" = some (.ref ad.o_PAIRED)
  q_PAIRED : ∀ H,SqT K H ad.o_PAIRED [.str "both", .str "join"]
  k_PAIRED : ∃ o,K.lookup ad.o_PAIRED = some o ∧ o.cls = .type "tuple" ∧ o.dict = none
  g_TELLERS : mg "TELLERS" = some (.ref ad.o_TELLERS)
  q_TELLERS : ∀ H,SqT K H ad.o_TELLERS [.str "each", .str "gap"]
  k_TELLERS : ∃ o,K.lookup ad.o_TELLERS = some o ∧ o.cls = .type "tuple" ∧ o.dict = none
  g_TALLIES : mg "TALLIES" = some (.ref ad.o_TALLIES)
  q_TALLIES : ∀ H,SqT K H ad.o_TALLIES [.str "count", .str "sum", .str "least", .str "greatest"]
  k_TALLIES : ∃ o,K.lookup ad.o_TALLIES = some o ∧ o.cls = .type "tuple" ∧ o.dict = none
  g_MOST_TIMES : ∃ t,mg "MOST_TIMES" = some (.int 9 t)
  g_MOST_TICKS : ∃ t,mg "MOST_TICKS" = some (.int 1000000 t)
  g_MOST_WINDOWS : ∃ t,mg "MOST_WINDOWS" = some (.int 20 t)
  g_MOST_STEPS : ∃ t,mg "MOST_STEPS" = some (.int 30 t)
  g_MOST_WIDE : ∃ t,mg "MOST_WIDE" = some (.int 32 t)
  z_ValueError : mg "ValueError" = none
  z_all : mg "all" = none
  z_bool : mg "bool" = none
  z_enumerate : mg "enumerate" = none
  z_int : mg "int" = none
  z_isinstance : mg "isinstance" = none
  z_len : mg "len" = none
  z_list : mg "list" = none
  z_max : mg "max" = none
  z_min : mg "min" = none
  z_range : mg "range" = none
  z_str : mg "str" = none
  z_sum : mg "sum" = none
  z_tuple : mg "tuple" = none
theorem tx_mk {w : World} {K : W.Frag} {h : Heap} {mg : Str → Option Value} (X : K.In h) (G : h.Ns mainGlobals mg)
    {c_BadStep : Addr}
    {f_BadStep___init__ : Addr} {d_BadStep___init__ : FuncData}
    {f_is_whole : Addr} {d_is_whole : FuncData}
    {f_is_among : Addr} {d_is_among : FuncData}
    {f_is_amount : Addr} {d_is_amount : FuncData}
    {f_is_made_of : Addr} {d_is_made_of : FuncData}
    {f_is_name : Addr} {d_is_name : FuncData}
    {f_has_form : Addr} {d_has_form : FuncData}
    {f_names_end : Addr} {d_names_end : FuncData}
    {f_is_tally : Addr} {d_is_tally : FuncData}
    {f_is_ticks : Addr} {d_is_ticks : FuncData}
    {f_are_bounds : Addr} {d_are_bounds : FuncData}
    {f_are_windows : Addr} {d_are_windows : FuncData}
    {f_are_good : Addr} {d_are_good : FuncData}
    {f_is_step : Addr} {d_is_step : FuncData}
    {f_name_of : Addr} {d_name_of : FuncData}
    {f_feeders : Addr} {d_feeders : FuncData}
    {f_is_teller : Addr} {d_is_teller : FuncData}
    {f_is_fed : Addr} {d_is_fed : FuncData}
    {f_width_of : Addr} {d_width_of : FuncData}
    {f_fits : Addr} {d_fits : FuncData}
    {f_checked : Addr} {d_checked : FuncData}
    {f_uat : Addr} {d_uat : FuncData}
    {f_uwhole : Addr} {d_uwhole : FuncData}
    {f_uis_name : Addr} {d_uis_name : FuncData}
    {f_uis_among : Addr} {d_uis_among : FuncData}
    {f_ucalled : Addr} {d_ucalled : FuncData}
    {f_uis_step : Addr} {d_uis_step : FuncData}
    {f_unumber : Addr} {d_unumber : FuncData}
    {f_ustep : Addr} {d_ustep : FuncData}
    {f_uwide : Addr} {d_uwide : FuncData}
    {f_ustep_name : Addr} {d_ustep_name : FuncData}
    {f_uplan : Addr} {d_uplan : FuncData}
    {f_ubad : Addr} {d_ubad : FuncData}
    {f_uspoilt : Addr} {d_uspoilt : FuncData}
    {f_usaid : Addr} {d_usaid : FuncData}
    {f_law : Addr} {d_law : FuncData}
    {c_FlowError : Addr}
    {c_BadEvent : Addr}
    {c_BadSlack : Addr}
    {c_Broken : Addr}
    {c_BadLine : Addr}
    {c_BadKeep : Addr}
    {cd_BadStep : ClassData}
    {nm_BadStep q_BadStep : Str} {NS_BadStep : Addr} {bs_BadStep : List Value} {hdct_BadStep : Bool} {sn_BadStep : List Str} {sub_BadStep : List Value} {ab_BadStep : Bool} {col_BadStep : Option Bool} {dd_BadStep : Option Addr} {k0_BadStep k1_BadStep k2_BadStep k3_BadStep k5_BadStep : Option Value}
    {t_LETTERS : Tok}
    {t_MOST_LETTERS : Tok}
    {t_MOST_AMOUNT : Tok}
    {o_LENGTHS : Addr}
    {t0_LENGTHS t1_LENGTHS t2_LENGTHS t3_LENGTHS t4_LENGTHS t5_LENGTHS t6_LENGTHS t7_LENGTHS t8_LENGTHS t9_LENGTHS t10_LENGTHS t11_LENGTHS t12_LENGTHS t13_LENGTHS : Tok}
    {n_LENGTHS : Nat}
    {o_PAIRED : Addr}
    {t0_PAIRED t1_PAIRED : Tok}
    {n_PAIRED : Nat} {sl_PAIRED : Array (Option Value)}
    {o_TELLERS : Addr}
    {t0_TELLERS t1_TELLERS : Tok}
    {n_TELLERS : Nat} {sl_TELLERS : Array (Option Value)}
    {o_TALLIES : Addr}
    {t0_TALLIES t1_TALLIES t2_TALLIES t3_TALLIES : Tok}
    {n_TALLIES : Nat} {sl_TALLIES : Array (Option Value)}
    {t_MOST_TIMES : Tok}
    {t_MOST_TICKS : Tok}
    {t_MOST_WINDOWS : Tok}
    {t_MOST_STEPS : Tok}
    {t_MOST_WIDE : Tok}
    (a_BadStep : W.nsIn K mainGlobals "BadStep" = some (some (.ref c_BadStep)))
    (a_BadStep___init__ : W.findIn K (.ref c_BadStep) "__init__" = some (some (.ref f_BadStep___init__)))
    (F_BadStep___init__ : Fun K "__init__" "BadStep.__init__" s_BadStep___init__ f_BadStep___init__ d_BadStep___init__)
    (a_is_whole : W.nsIn K mainGlobals "is_whole" = some (some (.ref f_is_whole)))
    (F_is_whole : Fun K "is_whole" "is_whole" s_is_whole f_is_whole d_is_whole)
    (a_is_among : W.nsIn K mainGlobals "is_among" = some (some (.ref f_is_among)))
    (F_is_among : Fun K "is_among" "is_among" s_is_among f_is_among d_is_among)
    (a_is_amount : W.nsIn K mainGlobals "is_amount" = some (some (.ref f_is_amount)))
    (F_is_amount : Fun K "is_amount" "is_amount" s_is_amount f_is_amount d_is_amount)
    (a_is_made_of : W.nsIn K mainGlobals "is_made_of" = some (some (.ref f_is_made_of)))
    (F_is_made_of : Fun K "is_made_of" "is_made_of" s_is_made_of f_is_made_of d_is_made_of)
    (a_is_name : W.nsIn K mainGlobals "is_name" = some (some (.ref f_is_name)))
    (F_is_name : Fun K "is_name" "is_name" s_is_name f_is_name d_is_name)
    (a_has_form : W.nsIn K mainGlobals "has_form" = some (some (.ref f_has_form)))
    (F_has_form : Fun K "has_form" "has_form" s_has_form f_has_form d_has_form)
    (a_names_end : W.nsIn K mainGlobals "names_end" = some (some (.ref f_names_end)))
    (F_names_end : Fun K "names_end" "names_end" s_names_end f_names_end d_names_end)
    (a_is_tally : W.nsIn K mainGlobals "is_tally" = some (some (.ref f_is_tally)))
    (F_is_tally : Fun K "is_tally" "is_tally" s_is_tally f_is_tally d_is_tally)
    (a_is_ticks : W.nsIn K mainGlobals "is_ticks" = some (some (.ref f_is_ticks)))
    (F_is_ticks : Fun K "is_ticks" "is_ticks" s_is_ticks f_is_ticks d_is_ticks)
    (a_are_bounds : W.nsIn K mainGlobals "are_bounds" = some (some (.ref f_are_bounds)))
    (F_are_bounds : Fun K "are_bounds" "are_bounds" s_are_bounds f_are_bounds d_are_bounds)
    (a_are_windows : W.nsIn K mainGlobals "are_windows" = some (some (.ref f_are_windows)))
    (F_are_windows : Fun K "are_windows" "are_windows" s_are_windows f_are_windows d_are_windows)
    (a_are_good : W.nsIn K mainGlobals "are_good" = some (some (.ref f_are_good)))
    (F_are_good : Fun K "are_good" "are_good" s_are_good f_are_good d_are_good)
    (a_is_step : W.nsIn K mainGlobals "is_step" = some (some (.ref f_is_step)))
    (F_is_step : Fun K "is_step" "is_step" s_is_step f_is_step d_is_step)
    (a_name_of : W.nsIn K mainGlobals "name_of" = some (some (.ref f_name_of)))
    (F_name_of : Fun K "name_of" "name_of" s_name_of f_name_of d_name_of)
    (a_feeders : W.nsIn K mainGlobals "feeders" = some (some (.ref f_feeders)))
    (F_feeders : Fun K "feeders" "feeders" s_feeders f_feeders d_feeders)
    (a_is_teller : W.nsIn K mainGlobals "is_teller" = some (some (.ref f_is_teller)))
    (F_is_teller : Fun K "is_teller" "is_teller" s_is_teller f_is_teller d_is_teller)
    (a_is_fed : W.nsIn K mainGlobals "is_fed" = some (some (.ref f_is_fed)))
    (F_is_fed : Fun K "is_fed" "is_fed" s_is_fed f_is_fed d_is_fed)
    (a_width_of : W.nsIn K mainGlobals "width_of" = some (some (.ref f_width_of)))
    (F_width_of : Fun K "width_of" "width_of" s_width_of f_width_of d_width_of)
    (a_fits : W.nsIn K mainGlobals "fits" = some (some (.ref f_fits)))
    (F_fits : Fun K "fits" "fits" s_fits f_fits d_fits)
    (a_checked : W.nsIn K mainGlobals "checked" = some (some (.ref f_checked)))
    (F_checked : Fun K "checked" "checked" s_checked f_checked d_checked)
    (a_uat : W.nsIn K mainGlobals "_law_at" = some (some (.ref f_uat)))
    (F_uat : Fun K "_law_at" "_law_at" s_uat f_uat d_uat)
    (a_uwhole : W.nsIn K mainGlobals "_law_whole" = some (some (.ref f_uwhole)))
    (F_uwhole : Fun K "_law_whole" "_law_whole" s_uwhole f_uwhole d_uwhole)
    (a_uis_name : W.nsIn K mainGlobals "_law_is_name" = some (some (.ref f_uis_name)))
    (F_uis_name : Fun K "_law_is_name" "_law_is_name" s_uis_name f_uis_name d_uis_name)
    (a_uis_among : W.nsIn K mainGlobals "_law_is_among" = some (some (.ref f_uis_among)))
    (F_uis_among : Fun K "_law_is_among" "_law_is_among" s_uis_among f_uis_among d_uis_among)
    (a_ucalled : W.nsIn K mainGlobals "_law_called" = some (some (.ref f_ucalled)))
    (F_ucalled : Fun K "_law_called" "_law_called" s_ucalled f_ucalled d_ucalled)
    (a_uis_step : W.nsIn K mainGlobals "_law_is_step" = some (some (.ref f_uis_step)))
    (F_uis_step : Fun K "_law_is_step" "_law_is_step" s_uis_step f_uis_step d_uis_step)
    (a_unumber : W.nsIn K mainGlobals "_law_number" = some (some (.ref f_unumber)))
    (F_unumber : Fun K "_law_number" "_law_number" s_unumber f_unumber d_unumber)
    (a_ustep : W.nsIn K mainGlobals "_law_step" = some (some (.ref f_ustep)))
    (F_ustep : Fun K "_law_step" "_law_step" s_ustep f_ustep d_ustep)
    (a_uwide : W.nsIn K mainGlobals "_law_wide" = some (some (.ref f_uwide)))
    (F_uwide : Fun K "_law_wide" "_law_wide" s_uwide f_uwide d_uwide)
    (a_ustep_name : W.nsIn K mainGlobals "_law_step_name" = some (some (.ref f_ustep_name)))
    (F_ustep_name : Fun K "_law_step_name" "_law_step_name" s_ustep_name f_ustep_name d_ustep_name)
    (a_uplan : W.nsIn K mainGlobals "_law_plan" = some (some (.ref f_uplan)))
    (F_uplan : Fun K "_law_plan" "_law_plan" s_uplan f_uplan d_uplan)
    (a_ubad : W.nsIn K mainGlobals "_law_bad" = some (some (.ref f_ubad)))
    (F_ubad : Fun K "_law_bad" "_law_bad" s_ubad f_ubad d_ubad)
    (a_uspoilt : W.nsIn K mainGlobals "_law_spoilt" = some (some (.ref f_uspoilt)))
    (F_uspoilt : Fun K "_law_spoilt" "_law_spoilt" s_uspoilt f_uspoilt d_uspoilt)
    (a_usaid : W.nsIn K mainGlobals "_law_said" = some (some (.ref f_usaid)))
    (F_usaid : Fun K "_law_said" "_law_said" s_usaid f_usaid d_usaid)
    (a_law : W.nsIn K mainGlobals "law" = some (some (.ref f_law)))
    (F_law : Fun K "law" "law" s_law f_law d_law)
    (a_FlowError : W.nsIn K mainGlobals "FlowError" = some (some (.ref c_FlowError)))
    (x_FlowError : W.excIn K c_FlowError [.type "ValueError", .type "Exception", .type "BaseException", .type "object"] "ValueError.__new__" = true)
    (a_BadEvent : W.nsIn K mainGlobals "BadEvent" = some (some (.ref c_BadEvent)))
    (x_BadEvent : W.excIn K c_BadEvent [.type "ValueError", .type "Exception", .type "BaseException", .type "object"] "ValueError.__new__" = true)
    (a_BadSlack : W.nsIn K mainGlobals "BadSlack" = some (some (.ref c_BadSlack)))
    (x_BadSlack : W.excIn K c_BadSlack [.type "ValueError", .type "Exception", .type "BaseException", .type "object"] "ValueError.__new__" = true)
    (a_Broken : W.nsIn K mainGlobals "Broken" = some (some (.ref c_Broken)))
    (x_Broken : W.excIn K c_Broken [.type "ValueError", .type "Exception", .type "BaseException", .type "object"] "ValueError.__new__" = true)
    (a_BadLine : W.nsIn K mainGlobals "BadLine" = some (some (.ref c_BadLine)))
    (a_BadKeep : W.nsIn K mainGlobals "BadKeep" = some (some (.ref c_BadKeep)))
    (ga_BadStep : W.findIn K (.ref c_BadStep) "__getattribute__" = some (some (.builtin "BaseException.__getattribute__")))
    (gt_BadStep : W.findIn K (.ref c_BadStep) "__getattr__" = some none)
    (ck_BadStep : W.findIn K (.ref c_BadStep) "__class__" = some (some (.builtin "object.__class__")))
    (sb_BadStep : W.subIn K (.ref c_BadStep) (.type "BaseException") = some true)
    (so_BadStep : W.subIn K (.ref c_BadStep) (.type "object") = some true)
    (cl_BadStep : W.clsIn K c_BadStep = some cd_BadStep)
    (lk_BadStep : K.lookup c_BadStep = some (excClassObj nm_BadStep q_BadStep c_BadStep NS_BadStep bs_BadStep (.ref c_FlowError :: VB) hdct_BadStep sn_BadStep sub_BadStep ab_BadStep col_BadStep dd_BadStep k0_BadStep k1_BadStep k2_BadStep k3_BadStep k5_BadStep "ValueError.__new__"))
    (xfn_BadStep : W.isFn K (.ref f_BadStep___init__) = true)
    (xhd_BadStep : W.hasDictIn K c_BadStep = true)
    (xna_BadStep : W.findIn K (.ref c_BadStep) "place" = some none)
    (xsa_BadStep : W.findIn K (.ref c_BadStep) "__setattr__" = some (some (.builtin "object.__setattr__")))
    (i_BadStep_ValueError : W.kitOne K (.ref c_BadStep) (.type "ValueError") = some true)
    (i_BadStep_FlowError : W.kitOne K (.ref c_BadStep) (.ref c_FlowError) = some true)
    (e_BadStep_FlowError : W.exmOne K (.ref c_BadStep) (.ref c_FlowError) = some true)
    (i_BadStep_BadEvent : W.kitOne K (.ref c_BadStep) (.ref c_BadEvent) = some false)
    (i_BadStep_BadSlack : W.kitOne K (.ref c_BadStep) (.ref c_BadSlack) = some false)
    (i_BadStep_Broken : W.kitOne K (.ref c_BadStep) (.ref c_Broken) = some false)
    (i_BadStep_BadStep : W.kitOne K (.ref c_BadStep) (.ref c_BadStep) = some true)
    (e_BadStep_BadStep : W.exmOne K (.ref c_BadStep) (.ref c_BadStep) = some true)
    (i_BadStep_BadLine : W.kitOne K (.ref c_BadStep) (.ref c_BadLine) = some false)
    (i_BadStep_BadKeep : W.kitOne K (.ref c_BadStep) (.ref c_BadKeep) = some false)
    (g_LETTERS : W.nsIn K mainGlobals "LETTERS" = some (some (.str "abcdefghijklmnopqrstuvwxyz" t_LETTERS)))
    (g_MOST_LETTERS : W.nsIn K mainGlobals "MOST_LETTERS" = some (some (.int 12 t_MOST_LETTERS)))
    (g_MOST_AMOUNT : W.nsIn K mainGlobals "MOST_AMOUNT" = some (some (.int 1000000000 t_MOST_AMOUNT)))
    (g_LENGTHS : W.nsIn K mainGlobals "LENGTHS" = some (some (.ref o_LENGTHS)))
    (l_LENGTHS : K.lookup o_LENGTHS = some ⟨.type "dict", none,.dict #[⟨PySem.PyData.keyHash w.params "take", .str "take" t0_LENGTHS,.int 3 t1_LENGTHS⟩,⟨PySem.PyData.keyHash w.params "only", .str "only" t2_LENGTHS,.int 5 t3_LENGTHS⟩,⟨PySem.PyData.keyHash w.params "turn", .str "turn" t4_LENGTHS,.int 5 t5_LENGTHS⟩,⟨PySem.PyData.keyHash w.params "both", .str "both" t6_LENGTHS,.int 4 t7_LENGTHS⟩,⟨PySem.PyData.keyHash w.params "join", .str "join" t8_LENGTHS,.int 5 t9_LENGTHS⟩,⟨PySem.PyData.keyHash w.params "each", .str "each" t10_LENGTHS,.int 6 t11_LENGTHS⟩,⟨PySem.PyData.keyHash w.params "gap", .str "gap" t12_LENGTHS,.int 5 t13_LENGTHS⟩] n_LENGTHS,#[]⟩)
    (y_LENGTHS : (o_LENGTHS == sysModules) = false)
    (g_PAIRED : W.nsIn K mainGlobals "PAIRED" = some (some (.ref o_PAIRED)))
    (l_PAIRED : K.lookup o_PAIRED = some ⟨.type "tuple", none,.seq #[.str "both" t0_PAIRED,.str "join" t1_PAIRED] n_PAIRED,sl_PAIRED⟩)
    (g_TELLERS : W.nsIn K mainGlobals "TELLERS" = some (some (.ref o_TELLERS)))
    (l_TELLERS : K.lookup o_TELLERS = some ⟨.type "tuple", none,.seq #[.str "each" t0_TELLERS,.str "gap" t1_TELLERS] n_TELLERS,sl_TELLERS⟩)
    (g_TALLIES : W.nsIn K mainGlobals "TALLIES" = some (some (.ref o_TALLIES)))
    (l_TALLIES : K.lookup o_TALLIES = some ⟨.type "tuple", none,.seq #[.str "count" t0_TALLIES,.str "sum" t1_TALLIES,.str "least" t2_TALLIES,.str "greatest" t3_TALLIES] n_TALLIES,sl_TALLIES⟩)
    (g_MOST_TIMES : W.nsIn K mainGlobals "MOST_TIMES" = some (some (.int 9 t_MOST_TIMES)))
    (g_MOST_TICKS : W.nsIn K mainGlobals "MOST_TICKS" = some (some (.int 1000000 t_MOST_TICKS)))
    (g_MOST_WINDOWS : W.nsIn K mainGlobals "MOST_WINDOWS" = some (some (.int 20 t_MOST_WINDOWS)))
    (g_MOST_STEPS : W.nsIn K mainGlobals "MOST_STEPS" = some (some (.int 30 t_MOST_STEPS)))
    (g_MOST_WIDE : W.nsIn K mainGlobals "MOST_WIDE" = some (some (.int 32 t_MOST_WIDE)))
    (z_ValueError : W.nsIn K mainGlobals "ValueError" = some none)
    (z_all : W.nsIn K mainGlobals "all" = some none)
    (z_bool : W.nsIn K mainGlobals "bool" = some none)
    (z_enumerate : W.nsIn K mainGlobals "enumerate" = some none)
    (z_int : W.nsIn K mainGlobals "int" = some none)
    (z_isinstance : W.nsIn K mainGlobals "isinstance" = some none)
    (z_len : W.nsIn K mainGlobals "len" = some none)
    (z_list : W.nsIn K mainGlobals "list" = some none)
    (z_max : W.nsIn K mainGlobals "max" = some none)
    (z_min : W.nsIn K mainGlobals "min" = some none)
    (z_range : W.nsIn K mainGlobals "range" = some none)
    (z_str : W.nsIn K mainGlobals "str" = some none)
    (z_sum : W.nsIn K mainGlobals "sum" = some none)
    (z_tuple : W.nsIn K mainGlobals "tuple" = some none)
    : Tx w K mg (⟨f_BadStep___init__,d_BadStep___init__,f_is_whole,d_is_whole,f_is_among,d_is_among,f_is_amount,d_is_amount,f_is_made_of,d_is_made_of,f_is_name,d_is_name,f_has_form,d_has_form,f_names_end,d_names_end,f_is_tally,d_is_tally,f_is_ticks,d_is_ticks,f_are_bounds,d_are_bounds,f_are_windows,d_are_windows,f_are_good,d_are_good,f_is_step,d_is_step,f_name_of,d_name_of,f_feeders,d_feeders,f_is_teller,d_is_teller,f_is_fed,d_is_fed,f_width_of,d_width_of,f_fits,d_fits,f_checked,d_checked,f_uat,d_uat,f_uwhole,d_uwhole,f_uis_name,d_uis_name,f_uis_among,d_uis_among,f_ucalled,d_ucalled,f_uis_step,d_uis_step,f_unumber,d_unumber,f_ustep,d_ustep,f_uwide,d_uwide,f_ustep_name,d_ustep_name,f_uplan,d_uplan,f_ubad,d_ubad,f_uspoilt,d_uspoilt,f_usaid,d_usaid,f_law,d_law,c_FlowError,c_BadEvent,c_BadSlack,c_Broken,c_BadStep,c_BadLine,c_BadKeep,o_LENGTHS,o_PAIRED,o_TELLERS,o_TALLIES⟩ : Ad) :=
  ⟨F_BadStep___init__,
    F_BadStep___init__.binds fun _ _ _ _ _ _ us hl => match us,hl with | [_,_],_ => rfl,
    F_is_whole,
    F_is_whole.binds fun _ _ _ _ _ _ us hl => match us,hl with | [_],_ => rfl,
    W.mg_of X G a_is_whole,
    F_is_among,
    F_is_among.binds fun _ _ _ _ _ _ us hl => match us,hl with | [_,_,_],_ => rfl,
    W.mg_of X G a_is_among,
    F_is_amount,
    F_is_amount.binds fun _ _ _ _ _ _ us hl => match us,hl with | [_],_ => rfl,
    W.mg_of X G a_is_amount,
    F_is_made_of,
    F_is_made_of.binds fun _ _ _ _ _ _ us hl => match us,hl with | [_,_],_ => rfl,
    W.mg_of X G a_is_made_of,
    F_is_name,
    F_is_name.binds fun _ _ _ _ _ _ us hl => match us,hl with | [_],_ => rfl,
    W.mg_of X G a_is_name,
    F_has_form,
    F_has_form.binds fun _ _ _ _ _ _ us hl => match us,hl with | [_],_ => rfl,
    W.mg_of X G a_has_form,
    F_names_end,
    F_names_end.binds fun _ _ _ _ _ _ us hl => match us,hl with | [_],_ => rfl,
    W.mg_of X G a_names_end,
    F_is_tally,
    F_is_tally.binds fun _ _ _ _ _ _ us hl => match us,hl with | [_],_ => rfl,
    W.mg_of X G a_is_tally,
    F_is_ticks,
    F_is_ticks.binds fun _ _ _ _ _ _ us hl => match us,hl with | [_,_],_ => rfl,
    W.mg_of X G a_is_ticks,
    F_are_bounds,
    F_are_bounds.binds fun _ _ _ _ _ _ us hl => match us,hl with | [_,_],_ => rfl,
    W.mg_of X G a_are_bounds,
    F_are_windows,
    F_are_windows.binds fun _ _ _ _ _ _ us hl => match us,hl with | [_,_],_ => rfl,
    W.mg_of X G a_are_windows,
    F_are_good,
    F_are_good.binds fun _ _ _ _ _ _ us hl => match us,hl with | [_,_],_ => rfl,
    W.mg_of X G a_are_good,
    F_is_step,
    F_is_step.binds fun _ _ _ _ _ _ us hl => match us,hl with | [_],_ => rfl,
    W.mg_of X G a_is_step,
    F_name_of,
    F_name_of.binds fun _ _ _ _ _ _ us hl => match us,hl with | [_],_ => rfl,
    W.mg_of X G a_name_of,
    F_feeders,
    F_feeders.binds fun _ _ _ _ _ _ us hl => match us,hl with | [_],_ => rfl,
    W.mg_of X G a_feeders,
    F_is_teller,
    F_is_teller.binds fun _ _ _ _ _ _ us hl => match us,hl with | [_],_ => rfl,
    W.mg_of X G a_is_teller,
    F_is_fed,
    F_is_fed.binds fun _ _ _ _ _ _ us hl => match us,hl with | [_,_],_ => rfl,
    W.mg_of X G a_is_fed,
    F_width_of,
    F_width_of.binds fun _ _ _ _ _ _ us hl => match us,hl with | [_,_],_ => rfl,
    W.mg_of X G a_width_of,
    F_fits,
    F_fits.binds fun _ _ _ _ _ _ us hl => match us,hl with | [_,_,_],_ => rfl,
    W.mg_of X G a_fits,
    F_checked,
    F_checked.binds fun _ _ _ _ _ _ us hl => match us,hl with | [_],_ => rfl,
    W.mg_of X G a_checked,
    F_uat,
    F_uat.binds fun _ _ _ _ _ _ us hl => match us,hl with | [_,_],_ => rfl,
    W.mg_of X G a_uat,
    F_uwhole,
    F_uwhole.binds fun _ _ _ _ _ _ us hl => match us,hl with | [_],_ => rfl,
    W.mg_of X G a_uwhole,
    F_uis_name,
    F_uis_name.binds fun _ _ _ _ _ _ us hl => match us,hl with | [_],_ => rfl,
    W.mg_of X G a_uis_name,
    F_uis_among,
    F_uis_among.binds fun _ _ _ _ _ _ us hl => match us,hl with | [_,_,_],_ => rfl,
    W.mg_of X G a_uis_among,
    F_ucalled,
    F_ucalled.binds fun _ _ _ _ _ _ us hl => match us,hl with | [_,_,_],_ => rfl,
    W.mg_of X G a_ucalled,
    F_uis_step,
    F_uis_step.binds fun _ _ _ _ _ _ us hl => match us,hl with | [_],_ => rfl,
    W.mg_of X G a_uis_step,
    F_unumber,
    F_unumber.binds fun _ _ _ _ _ _ us hl => match us,hl with | [_,_],_ => rfl,
    W.mg_of X G a_unumber,
    F_ustep,
    F_ustep.binds fun _ _ _ _ _ _ us hl => match us,hl with | [_,_,_,_],_ => rfl,
    W.mg_of X G a_ustep,
    F_uwide,
    F_uwide.binds fun _ _ _ _ _ _ us hl => match us,hl with | [_,_],_ => rfl,
    W.mg_of X G a_uwide,
    F_ustep_name,
    F_ustep_name.binds fun _ _ _ _ _ _ us hl => match us,hl with | [_,_,_],_ => rfl,
    W.mg_of X G a_ustep_name,
    F_uplan,
    F_uplan.binds fun _ _ _ _ _ _ us hl => match us,hl with | [_,_,_],_ => rfl,
    W.mg_of X G a_uplan,
    F_ubad,
    F_ubad.binds fun _ _ _ _ _ _ us hl => match us,hl with | [_],_ => rfl,
    W.mg_of X G a_ubad,
    F_uspoilt,
    F_uspoilt.binds fun _ _ _ _ _ _ us hl => match us,hl with | [_,_,_],_ => rfl,
    W.mg_of X G a_uspoilt,
    F_usaid,
    F_usaid.binds fun _ _ _ _ _ _ us hl => match us,hl with | [_],_ => rfl,
    W.mg_of X G a_usaid,
    F_law,
    F_law.binds fun _ _ _ _ _ _ us hl => match us,hl with | [_],_ => rfl,
    W.mg_of X G a_law,
    W.mg_of X G a_FlowError,
    x_FlowError,
    W.mg_of X G a_BadEvent,
    x_BadEvent,
    W.mg_of X G a_BadSlack,
    x_BadSlack,
    W.mg_of X G a_Broken,
    x_Broken,
    W.mg_of X G a_BadStep,
    W.mg_of X G a_BadLine,
    W.mg_of X G a_BadKeep,
    ⟨⟨_,_,_,_,_,_,_,_,_,_,_,_,_,_,_,lk_BadStep⟩,x_FlowError,a_BadStep___init__,xfn_BadStep,⟨⟨ga_BadStep,gt_BadStep,ck_BadStep,sb_BadStep,so_BadStep,by rw [cl_BadStep]; rfl⟩,xhd_BadStep,xna_BadStep,xsa_BadStep⟩⟩,
    ⟨ga_BadStep,gt_BadStep,ck_BadStep,sb_BadStep,so_BadStep,by rw [cl_BadStep]; rfl⟩,
    i_BadStep_ValueError,
    i_BadStep_FlowError,
    e_BadStep_FlowError,
    i_BadStep_BadEvent,
    i_BadStep_BadSlack,
    i_BadStep_Broken,
    i_BadStep_BadStep,
    e_BadStep_BadStep,
    i_BadStep_BadLine,
    i_BadStep_BadKeep,
    ⟨_,W.mg_of X G g_LETTERS⟩,
    ⟨_,W.mg_of X G g_MOST_LETTERS⟩,
    ⟨_,W.mg_of X G g_MOST_AMOUNT⟩,
    W.mg_of X G g_LENGTHS,
    ⟨y_LENGTHS,_,_,_,l_LENGTHS,⟨rfl,rfl,rfl⟩,rfl,by repeat (first | exact .nil | refine .cons ⟨by first | exact keyIs_str _ _ | exact keyIs_int _ _,rfl,by first | exact ⟨_,rfl⟩ | rfl⟩ ?_),by decide +kernel⟩,
    W.mg_of X G g_PAIRED,
    fun H => .inr ⟨_,_,_,l_PAIRED,rfl,rfl,by first | decide | exact (by decide : 2 ≤ sizeLine),by repeat (first | exact .nil | refine .cons ?_ ?_ | exact ⟨_,rfl⟩ | rfl)⟩,
    ⟨_,l_PAIRED,rfl,rfl⟩,
    W.mg_of X G g_TELLERS,
    fun H => .inr ⟨_,_,_,l_TELLERS,rfl,rfl,by first | decide | exact (by decide : 2 ≤ sizeLine),by repeat (first | exact .nil | refine .cons ?_ ?_ | exact ⟨_,rfl⟩ | rfl)⟩,
    ⟨_,l_TELLERS,rfl,rfl⟩,
    W.mg_of X G g_TALLIES,
    fun H => .inr ⟨_,_,_,l_TALLIES,rfl,rfl,by first | decide | exact (by decide : 4 ≤ sizeLine),by repeat (first | exact .nil | refine .cons ?_ ?_ | exact ⟨_,rfl⟩ | rfl)⟩,
    ⟨_,l_TALLIES,rfl,rfl⟩,
    ⟨_,W.mg_of X G g_MOST_TIMES⟩,
    ⟨_,W.mg_of X G g_MOST_TICKS⟩,
    ⟨_,W.mg_of X G g_MOST_WINDOWS⟩,
    ⟨_,W.mg_of X G g_MOST_STEPS⟩,
    ⟨_,W.mg_of X G g_MOST_WIDE⟩,
    W.mg_none_of X G z_ValueError,
    W.mg_none_of X G z_all,
    W.mg_none_of X G z_bool,
    W.mg_none_of X G z_enumerate,
    W.mg_none_of X G z_int,
    W.mg_none_of X G z_isinstance,
    W.mg_none_of X G z_len,
    W.mg_none_of X G z_list,
    W.mg_none_of X G z_max,
    W.mg_none_of X G z_min,
    W.mg_none_of X G z_range,
    W.mg_none_of X G z_str,
    W.mg_none_of X G z_sum,
    W.mg_none_of X G z_tuple⟩
variable {P : Program} {w : World} {K : W.Frag} {mg : Str → Option Value} {base : Heap} {ad : Ad}
def sp_law (K : W.Frag) : Sp := fun vs H Q _ => ∃ (a : Addr) (ns : List Int),vs = [.ref a] ∧ SqL K H a (ns.map V.int) ∧ ns.length ≤ 63 ∧ ∀ H',Q (.bl true) H'
theorem law_sp (K : W.Frag) (H : Hp) (a : Addr) (ns : List Int) (hl : ns.length ≤ 63) (_ : Only H) (hS : SqL K H a (ns.map V.int)) : sp_law K [.ref a] H (fun v _ => v = .bl true) fun _ _ _ => False := ⟨a,ns,rfl,hS,hl,fun _ => rfl⟩
abbrev depth : Nat := 10
inductive Tg where
  | non | bl | int | str | lst | tup | dct
def nm : Tg → String
  | .non => "NoneType" | .bl => "bool" | .int => "int" | .str => "str" | .lst => "list" | .tup => "tuple" | .dct => "dict"
inductive Th (H : Hp) : V → Tg → Prop where
  | non : Th H .non .non
  | bl (b : Bool) : Th H (.bl b) .bl
  | int (i : Int) : Th H (.int i) .int
  | str (z : Str) (hz : z.length ≤ 1000) : Th H (.str z) .str
  | lst {a : Addr} {xs : List V} (e : H a = some (.lst xs)) : Th H (.ref a) .lst
  | tup {a : Addr} {xs : List V} (e : H a = some (.tup xs)) : Th H (.ref a) .tup
  | dct {a : Addr} {kvs : List (Key × V)} (e : H a = some (.dK kvs)) : Th H (.ref a) .dct
theorem Th.ty {K : W.Frag} {H : Hp} {x : V} {g : Tg} (h : Th H x g) : TyOf K H x (.type (nm g)) := by
  cases h with
  | non => exact .non
  | bl b => exact .bl b
  | int i => exact .int i
  | str z _ => exact .str z
  | lst e => exact .lst e
  | tup e => exact .tup e
  | dct e => exact .dK e
theorem Th.mono {H H' : Hp} {x : V} {g : Tg} (h : Th H x g) (s : Same H H') : Th H' x g := by
  cases h with
  | non => exact .non
  | bl b => exact .bl b
  | int i => exact .int i
  | str z hz => exact .str z hz
  | lst e => exact .lst (s _ _ e)
  | tup e => exact .tup (s _ _ e)
  | dct e => exact .dct (s _ _ e)
def isI : Tg → Bool
  | .int => true | .bl => true | _ => false
def isB : Tg → Bool
  | .bl => true | _ => false
def isS : Tg → Bool
  | .str => true | _ => false
theorem kit_int (K : W.Frag) (g : Tg) : W.kitOne K (.type (nm g)) (.type "int") = some (isI g) := by cases g <;> rfl
theorem kit_bool (K : W.Frag) (g : Tg) : W.kitOne K (.type (nm g)) (.type "bool") = some (isB g) := by cases g <;> rfl
theorem kit_str (K : W.Frag) (g : Tg) : W.kitOne K (.type (nm g)) (.type "str") = some (isS g) := by cases g <;> rfl
def wholeV : V → Bool
  | .int _ => true | _ => false
def amongV (a b : Int) : V → Bool
  | .int i => decide (a ≤ i) && decide (i ≤ b) | _ => false
abbrev LET : Str := "abcdefghijklmnopqrstuvwxyz"
def inL : V → Bool
  | .str y => !(Builtin.Str.occurrences LET y 0 LET.length 1).isEmpty | _ => false
def nameV : V → Bool
  | .str z => (decide ((1 : Int) ≤ (z.length : Int)) && decide ((z.length : Int) ≤ 12)) && (signsV z).all inL | _ => false
def sp1 (f : V → Bool) : Sp := fun vs H Q _ => ∃ x g,vs = [x] ∧ Th H x g ∧ ∀ H',Same H H' → Q (.bl (f x)) H'
def sp3 : Sp := fun vs H Q _ => ∃ x g a b,vs = [x,.int a,.int b] ∧ Th H x g ∧ ∀ H',Same H H' → Q (.bl (amongV a b x)) H'
def spMade : Sp := fun vs H Q _ => ∃ z y,vs = [.str z,.str y] ∧ z.length ≤ 1000 ∧ ∀ H',Same H H' → Q (.bl ((signsV z).all fun x => match x with | .str c => !(Builtin.Str.occurrences y c 0 y.length 1).isEmpty | _ => false)) H'
theorem ok_is_whole (T : Tx w K mg ad) : FnOk P w K mg base CX0 1 ad.a_is_whole ad.d_is_whole ["thing"] (sp1 wholeV) := by
  refine T.F_is_whole.ok sc_is_whole (fun vs H Q E h => ?_) (fun cdv A outer s H vs Q E hr h => ?_)
  · obtain ⟨x,g,rfl,_⟩ := h
    rfl
  · obtain ⟨x,g,rfl,hx,k⟩ := h
    refine ⟨_,pss_one (ps_ret (pe_and (pe_callB (call_isinst (K := K)) (by rfl) T.z_isinstance PyProof.Rows.boot_isinstance (pa_cons (pv 0) (pa_cons (pe_bltn (v := .ty "int") (by rfl) T.z_int PyProof.Rows.boot_int rfl) pa_nil)))
      (pe_one (pe_not (pe_callB (call_isinst (K := K)) (by rfl) T.z_isinstance PyProof.Rows.boot_isinstance (pa_cons (pv 0) (pa_cons (pe_bltn (v := .ty "bool") (by rfl) T.z_bool PyProof.Rows.boot_bool rfl) pa_nil))))))),?_⟩
    refine ⟨_,rfl,x, "int", _,_,rfl,hx.ty,kit_int _ g,_,rfl,?_⟩
    have k := k H (Same.refl H)
    cases hx with
    | int i => exact iteT ⟨_,rfl,_, "bool", _,_,rfl,(Th.int i).ty,kit_bool _ .int,_,rfl,k⟩
    | bl b => exact iteT ⟨_,rfl,_, "bool", _,_,rfl,(Th.bl b).ty,kit_bool _ .bl,_,rfl,k⟩
    | _ => exact iteF k
theorem ok_is_among (T : Tx w K mg ad) : FnOk P w K mg base CX0 2 ad.a_is_among ad.d_is_among ["thing", "least", "most"] sp3 := by
  have G := ok_is_whole (P := P) (w := w) (base := base) T
  refine T.F_is_among.ok sc_is_among (fun vs H Q E h => ?_) (fun cdv A outer s H vs Q E hr h => ?_)
  · obtain ⟨x,g,a,b,rfl,_⟩ := h
    rfl
  · obtain ⟨x,g,a,b,rfl,hx,k⟩ := h
    refine ⟨_,pss_one (ps_ret (pe_and (pe_call G hr (by rfl) T.m_is_whole T.F_is_whole.kp T.b_is_whole .nil pass0 (pa_cons (pv 0) pa_nil))
      (pe_one (pe_chain op_le op_le (pv 1) (pv 0) (pv 2))))),?_⟩
    refine ⟨_,rfl,x,g,rfl,hx,fun H1 s1 => ⟨_,rfl,?_⟩⟩
    have k := k H1 s1
    cases hx with
    | int i =>
      refine iteT ⟨_,rfl,_,rfl,_,_,rfl,rfl,_,rfl,?_⟩
      have k : Q (.bl (decide (a ≤ i) && decide (i ≤ b))) H1 := k
      refine iteB (fun e => ?_) fun e => ?_
      · rw [e,Bool.true_and] at k
        exact ⟨_,rfl,_,_,rfl,rfl,k⟩
      · rw [e,Bool.false_and] at k
        exact k
    | _ => exact iteF k
theorem ok_is_amount (T : Tx w K mg ad) : FnOk P w K mg base CX0 3 ad.a_is_amount ad.d_is_amount ["thing"] (sp1 (amongV (-1000000000) 1000000000)) := by
  have G := ok_is_among (P := P) (w := w) (base := base) T
  refine T.F_is_amount.ok sc_is_amount (fun vs H Q E h => ?_) (fun cdv A outer s H vs Q E hr h => ?_)
  · obtain ⟨x,g,rfl,_⟩ := h
    rfl
  · obtain ⟨x,g,rfl,hx,k⟩ := h
    obtain ⟨t,ht⟩ := T.g_MOST_AMOUNT
    refine ⟨_,pss_one (ps_ret (pe_call G hr (by rfl) T.m_is_among T.F_is_among.kp T.b_is_among .nil pass0 (pa_cons (pv 0) (pa_cons (pe_un un_neg (pe_glob (v := .int 1000000000) (by rfl) ht ⟨t,rfl⟩)) (pa_cons (pe_glob (v := .int 1000000000) (by rfl) ht ⟨t,rfl⟩) pa_nil))))),?_⟩
    exact ⟨_,rfl,_,rfl,x,g,_,_,rfl,hx,k⟩
theorem ok_is_made_of (T : Tx w K mg ad) : FnOk P w K mg base CX0 1 ad.a_is_made_of ad.d_is_made_of ["text", "signs"] spMade := by
  refine T.F_is_made_of.ok sc_is_made_of (fun vs H Q E h => ?_) (fun cdv A outer s H vs Q E hr h => ?_)
  · obtain ⟨z,y,rfl,_⟩ := h
    rfl
  · obtain ⟨z,y,rfl,hz,k⟩ := h
    refine ⟨_,pss_one (ps_ret (pe_callB (call_all_bools (K := K) rfl) (by rfl) T.z_all PyProof.Rows.boot_all (pa_cons
      (pe_comp1 (osc := defScope s_is_made_of) [("signs", 1)] rfl (pi_str (pv 0)) rfl rfl (by decide +kernel) (by decide +kernel) (by decide +kernel) ⟨rfl,rfl,trivial⟩ rfl (by decide +kernel)
        (fun _ _ _ _ => pts_nil) (fun _ _ _ _ => pe_cmpR op_in_str (pv 0) (pv 1) (by with_unfolding_all rfl))) pa_nil))),?_⟩
    refine ⟨_,rfl,z,rfl,comp_pure_str (fun _ => true) (fun x => .bl (match x with | .str c => !(Builtin.Str.occurrences y c 0 y.length 1).isEmpty | _ => false)) (Nat.le_trans hz (by decide)) (fun x R _ q => q) (fun x R hx _ q => ?_) fun D hD => ?_⟩
    · obtain ⟨c,_,rfl⟩ := List.mem_map.mp hx
      exact ⟨_,rfl,_,rfl,_,_,rfl,rfl,q⟩
    · refine ⟨D,(signsV z).map (fun x => match x with | .str c => !(Builtin.Str.occurrences y c 0 y.length 1).isEmpty | _ => false),rfl,SqL.of ?_,?_⟩
      · rw [upd_same,List.filter_eq_self.mpr (fun _ _ => rfl),List.map_map]
        rfl
      · have q := k _ ((Same.refl H).upd (o := .lst (List.map (fun x => V.bl (match x with | .str c => !(Builtin.Str.occurrences y c 0 y.length 1).isEmpty | _ => false)) (List.filter (fun _ => true) (signsV z)))) hD)
        rw [List.all_map]
        exact q
theorem ok_is_name (T : Tx w K mg ad) : FnOk P w K mg base CX0 2 ad.a_is_name ad.d_is_name ["thing"] (sp1 nameV) := by
  have G := ok_is_made_of (P := P) (w := w) (base := base) T
  refine T.F_is_name.ok sc_is_name (fun vs H Q E h => ?_) (fun cdv A outer s H vs Q E hr h => ?_)
  · obtain ⟨x,g,rfl,_⟩ := h
    rfl
  · obtain ⟨x,g,rfl,hx,k⟩ := h
    obtain ⟨t,ht⟩ := T.g_MOST_LETTERS
    obtain ⟨u,hu⟩ := T.g_LETTERS
    refine ⟨_,pss_one (ps_ret (pe_and (pe_callB (call_isinst (K := K)) (by rfl) T.z_isinstance PyProof.Rows.boot_isinstance (pa_cons (pv 0) (pa_cons (pe_bltn (v := .ty "str") (by rfl) T.z_str PyProof.Rows.boot_str rfl) pa_nil)))
      (pe_and (pe_chain op_le op_le pe_int (pe_callB call_len_str (by rfl) T.z_len PySem.boot_len (pa_cons (pv 0) pa_nil)) (pe_glob (v := .int 12) (by rfl) ht ⟨t,rfl⟩))
      (pe_one (pe_call G hr (by rfl) T.m_is_made_of T.F_is_made_of.kp T.b_is_made_of .nil pass0 (pa_cons (pv 0) (pa_cons (pe_glob (v := .str LET) (by rfl) hu ⟨u,rfl⟩) pa_nil))))))),?_⟩
    refine ⟨_,rfl,x, "str", _,_,rfl,hx.ty,kit_str _ g,_,rfl,?_⟩
    cases hx with
    | str z hz =>
      refine iteT ⟨_,rfl,z,rfl,Nat.le_trans hz (by decide),_,_,rfl,rfl,_,rfl,?_⟩
      have k : ∀ H',Same H H' → Q (.bl ((decide ((1 : Int) ≤ (z.length : Int)) && decide ((z.length : Int) ≤ 12)) && (signsV z).all inL)) H' := k
      refine iteB (fun e => ?_) fun e => ?_
      · rw [e,Bool.true_and] at k
        refine ⟨_,_,rfl,rfl,_,rfl,iteB (fun e2 => ?_) fun e2 => ?_⟩
        · rw [e2,Bool.true_and] at k
          refine ⟨_,rfl,z,LET,rfl,hz,fun H1 s1 => ?_⟩
          exact k H1 s1
        · rw [e2,Bool.false_and] at k
          exact k H (Same.refl H)
      · rw [e,Bool.false_and,Bool.false_and] at k
        exact ⟨_,rfl,iteF (k H (Same.refl H))⟩
    | _ => exact iteF (k H (Same.refl H))
theorem join_le {zs : List Str} (h : ∀ z ∈ zs,z.length = 1) : (Txt.join "" zs).length ≤ zs.length ∧ (zs.map (·.length)).sum = zs.length := by
  have e : Txt.join "" zs = Str.join "" zs := eq_of_beq (PyProof.Rows.join_plain_closes "" zs)
  have l := StrLaws.join_length_le ("" : Str) zs
  have z : (("" : Str)).length = 0 := rfl
  have q : (zs.map (·.length)).sum = zs.length := by
    clear l e
    induction zs with
    | nil => rfl
    | cons a r ih =>
      rw [List.map_cons,List.sum_cons,h a List.mem_cons_self,ih fun z hz => h z (List.mem_cons_of_mem _ hz),List.length_cons]
      omega
  rw [z,Nat.mul_zero,q] at l
  rw [e]
  exact ⟨l,q⟩
def ltr (m : Int) : Str := ⟨#[LET.cps.toList.getD (m % 26).toNat 0]⟩
theorem ltr_at (m : Int) : atI LET.cps.toList (m % 26) = some (LET.cps.toList.getD (m % 26).toNat 0) := by
  obtain ⟨v,hv,_⟩ := atI_mod LET.cps.toList 26 (by decide +kernel) (by decide) m
  have h1 : 0 ≤ m % 26 := Int.emod_nonneg _ (by decide)
  have e : ((m % 26).toNat : Int) = m % 26 := Int.toNat_of_nonneg h1
  have h2 : m % 26 < 26 := Int.emod_lt_of_pos _ (by decide)
  have hl : LET.cps.toList.length = 26 := by decide +kernel
  have hlt : (m % 26).toNat < LET.cps.toList.length := by omega
  rw [← e]
  refine atI_nat ?_
  rw [List.getElem?_eq_getElem (by simpa using hlt),List.getD_eq_getElem?_getD,e,List.getElem?_eq_getElem hlt]
  rfl
theorem ok_law_is_among (T : Tx w K mg ad) : FnOk P w K mg base CX0 1 ad.a_uis_among ad.d_uis_among ["_law_thing", "_law_least", "_law_most"] sp3 := by
  refine T.F_uis_among.ok sc_uis_among (fun vs H Q E h => ?_) (fun cdv A outer s H vs Q E hr h => ?_)
  · obtain ⟨x,g,a,b,rfl,_⟩ := h
    rfl
  · obtain ⟨x,g,a,b,rfl,hx,k⟩ := h
    refine ⟨_,pss_one (ps_ret (pe_and (pe_callB (call_isinst (K := K)) (by rfl) T.z_isinstance PyProof.Rows.boot_isinstance (pa_cons (pv 0) (pa_cons (pe_bltn (v := .ty "int") (by rfl) T.z_int PyProof.Rows.boot_int rfl) pa_nil)))
      (pe_and (pe_not (pe_callB (call_isinst (K := K)) (by rfl) T.z_isinstance PyProof.Rows.boot_isinstance (pa_cons (pv 0) (pa_cons (pe_bltn (v := .ty "bool") (by rfl) T.z_bool PyProof.Rows.boot_bool rfl) pa_nil))))
      (pe_one (pe_chain op_le op_le (pv 1) (pv 0) (pv 2)))))),?_⟩
    refine ⟨_,rfl,x, "int", _,_,rfl,hx.ty,kit_int _ g,_,rfl,?_⟩
    have k := k H (Same.refl H)
    cases hx with
    | int i =>
      refine iteT ⟨_,rfl,_, "bool", _,_,rfl,(Th.int i).ty,kit_bool _ .int,_,rfl,_,rfl,iteT ⟨_,rfl,_,rfl,_,_,rfl,rfl,_,rfl,?_⟩⟩
      have k : Q (.bl (decide (a ≤ i) && decide (i ≤ b))) H := k
      refine iteB (fun e => ?_) fun e => ?_
      · rw [e,Bool.true_and] at k
        exact ⟨_,rfl,_,_,rfl,rfl,k⟩
      · rw [e,Bool.false_and] at k
        exact k
    | bl b => exact iteT ⟨_,rfl,_, "bool", _,_,rfl,(Th.bl b).ty,kit_bool _ .bl,_,rfl,_,rfl,iteF k⟩
    | _ => exact iteF k
theorem ok_law_is_name (T : Tx w K mg ad) : FnOk P w K mg base CX0 1 ad.a_uis_name ad.d_uis_name ["_law_thing"] (sp1 nameV) := by
  refine T.F_uis_name.ok sc_uis_name (fun vs H Q E h => ?_) (fun cdv A outer s H vs Q E hr h => ?_)
  · obtain ⟨x,g,rfl,_⟩ := h
    rfl
  · obtain ⟨x,g,rfl,hx,k⟩ := h
    refine ⟨_,pss_cons (ps_if (PW.pt (pw_or (pt_not (pt_val (pe_callB (call_isinst (K := K)) (by rfl) T.z_isinstance PyProof.Rows.boot_isinstance (pa_cons (pv 0) (pa_cons (pe_bltn (v := .ty "str") (by rfl) T.z_str PyProof.Rows.boot_str rfl) pa_nil)))))
        (pw_or1 (pt_not (pt_chain op_le op_le pe_int (pe_callB call_len_str (by rfl) T.z_len PySem.boot_len (pa_cons (pv 0) pa_nil)) pe_int))))) (pss_one (ps_ret pe_bl)) pss_nil)
      (pss_one (ps_ret (pe_cmpR (op_eqNil (K := K) hr.units0) (pe_comp1 (osc := defScope s_uis_name) [] rfl (pi_str (pv 0)) rfl rfl (by decide +kernel) (by decide +kernel) (by decide +kernel) trivial rfl (by decide +kernel)
        (fun _ _ _ _ => pts_one (pt_cmpR op_notin_str (pv 0) pe_str (by with_unfolding_all rfl))) (fun _ _ _ _ => pv 0)) (pe_lst pa_nil) (nomark _)))),?_⟩
    refine ⟨_,rfl,x, "str", _,_,rfl,hx.ty,kit_str _ g,_,rfl,?_⟩
    cases hx with
    | str z hz =>
      have hz' : z.length ≤ sizeLine := Nat.le_trans hz (by decide)
      refine iteF ⟨_,rfl,z,rfl,hz',_,_,rfl,rfl,_,rfl,?_⟩
      have k : ∀ H',Same H H' → Q (.bl ((decide ((1 : Int) ≤ (z.length : Int)) && decide ((z.length : Int) ≤ 12)) && (signsV z).all inL)) H' := k
      have fin : ∀ (b : Bool),(b = true → (decide ((1 : Int) ≤ (z.length : Int)) && decide ((z.length : Int) ≤ 12)) = true) → True := fun _ _ => trivial
      refine iteB (fun e => ?_) fun e => ?_
      · rw [e,Bool.true_and] at k
        refine ⟨_,_,rfl,rfl,_,rfl,iteB (fun e2 => ?_) fun e2 => ?_⟩
        · have e2 : decide ((z.length : Int) ≤ 12) = false := by simpa using e2
          rw [e2,Bool.false_and] at k
          exact k H (Same.refl H)
        · have e2 : decide ((z.length : Int) ≤ 12) = true := by simpa using e2
          rw [e2,Bool.true_and] at k
          refine ⟨_,rfl,z,rfl,comp_pure_str (fun x => !inL x) (fun x => x) hz' (fun x R hx q => ?_) (fun x R _ _ q => ⟨_,rfl,q⟩) fun D hD => ?_⟩
          · obtain ⟨c,_,rfl⟩ := List.mem_map.mp hx
            exact ⟨_,rfl,_,_,rfl,rfl,_,rfl,q⟩
          · refine ⟨Nat.zero_le _,fun l hl => ⟨D,l,List.map (fun x => x) (List.filter (fun x => !inL x) (signsV z)),rfl,rfl,SqL.of ?_,SqL.of upd_same,?_⟩⟩
            · rw [upd_ne (ne_of_none upd_same hl)]
              exact upd_same
            · have q := k _ (((Same.refl H).upd (o := .lst (List.map (fun x => x) (List.filter (fun x => !inL x) (signsV z)))) hD).upd (o := .lst []) hl)
              have ee : (List.map (fun x => x) (List.filter (fun x => !inL x) (signsV z))).isEmpty = (signsV z).all inL := by
                rw [List.map_id']
                generalize signsV z = l
                induction l with
                | nil => rfl
                | cons a r ih =>
                  rw [List.filter_cons,List.all_cons]
                  cases hh : inL a with
                  | true => simpa using ih
                  | false => simp
              rw [ee]
              exact q
      · rw [e,Bool.false_and,Bool.false_and] at k
        exact ⟨_,rfl,iteT (k H (Same.refl H))⟩
    | _ => exact iteT (k H (Same.refl H))
abbrev LENS : List (Key × V) := [(.inr "take", .int 3),(.inr "only", .int 5),(.inr "turn", .int 5),(.inr "both", .int 4),(.inr "join", .int 5),(.inr "each", .int 6),(.inr "gap", .int 5)]
def lenOf (z : Str) : Option V := valV LENS (.inr z)
abbrev PAI : List V := [.str "both", .str "join"]
abbrev TEL : List V := [.str "each", .str "gap"]
abbrev TAL : List V := [.str "count", .str "sum", .str "least", .str "greatest"]
inductive St1 (H : Hp) : V → Option (List V) → Prop where
  | tup {p : Addr} {xs : List V} (e : H p = some (.tup xs)) (h : ∀ y ∈ xs,∃ g,Th H y g) (l : xs.length ≤ 20) : St1 H (.ref p) (some xs)
  | oth {x : V} {g : Tg} (h : Th H x g) (hg : g ≠ .tup) : St1 H x none
def isT : Tg → Bool
  | .tup => true | _ => false
theorem kit_tuple (K : W.Frag) (g : Tg) : W.kitOne K (.type (nm g)) (.type "tuple") = some (isT g) := by cases g <;> rfl
theorem things_mono {H H' : Hp} {xs : List V} (h : ∀ y ∈ xs,∃ g,Th H y g) (s : Same H H') : ∀ y ∈ xs,∃ g,Th H' y g := fun y hy => (h y hy).elim fun g q => ⟨g,q.mono s⟩
theorem St1.mono {H H' : Hp} {x : V} {o : Option (List V)} (h : St1 H x o) (s : Same H H') : St1 H' x o := by
  cases h with
  | tup e h l => exact .tup (s _ _ e) (things_mono h s) l
  | oth h hg => exact .oth (h.mono s) hg
def formV : List V → Bool
  | .str z :: r => match lenOf z with | some v => decide (V.int (((V.str z :: r).length : Nat) : Int) = v) | none => false
  | _ => false
def onX (f : List V → Bool) : Option (List V) → Bool
  | some xs => f xs | none => false
def endV (z : Str) : Int := if inV (.str z) PAI = true then 4 else 3
def tallyV : V → Bool
  | .str z => inV (.str z) TAL | _ => false
def boundsV (a b : V) : Bool := (amongV (-1000000000) 1000000000 a && amongV (-1000000000) 1000000000 b) && match a,b with | .int i,.int j => decide (i ≤ j) | _,_ => false
def windowsV (a b : V) : Bool := match a,b with | .int i,.int j => (amongV 1 1000000 (.int i) && amongV 1 i (.int j)) && decide (i ≤ 20 * j) | _,_ => false
def goodV (z : Str) (rs : List V) : Bool :=
  if z = "only" then (match rs with | [c,d] => boundsV c d | _ => false)
  else if z = "turn" then (match rs with | [c,d] => amongV (-9) 9 c && amongV (-1000000000) 1000000000 d | _ => false)
  else if z = "join" then (match rs with | [d] => amongV 0 1000000 d | _ => false)
  else if z = "each" then (match rs with | [c,d,e] => tallyV c && windowsV d e | _ => false)
  else if z = "gap" then (match rs with | [c,d] => tallyV c && amongV 0 1000000 d | _ => false)
  else true
def GoodLen (z : Str) (rs : List V) : Prop :=
  (z = "only" → rs.length = 2) ∧ (z = "turn" → rs.length = 2) ∧ (z = "join" → rs.length = 1) ∧ (z = "each" → rs.length = 3) ∧ (z = "gap" → rs.length = 2)
def spX (f : List V → Bool) : Sp := fun vs H Q _ => ∃ x o,vs = [x] ∧ St1 H x o ∧ ∀ H',Same H H' → Q (.bl (onX f o)) H'
def spEnd : Sp := fun vs H Q _ => ∃ p z r,vs = [.ref p] ∧ H p = some (.tup (.str z :: r)) ∧ Q (.int (endV z)) H
def sp2 (f : V → V → Bool) : Sp := fun vs H Q _ => ∃ x y g g',vs = [x,y] ∧ Th H x g ∧ Th H y g' ∧ ∀ H',Same H H' → Q (.bl (f x y)) H'
def spTicks : Sp := fun vs H Q _ => ∃ x g a,vs = [x,.int a] ∧ Th H x g ∧ ∀ H',Same H H' → Q (.bl (amongV a 1000000 x)) H'
def spGood : Sp := fun vs H Q _ => ∃ z p rs,vs = [.str z,.ref p] ∧ H p = some (.tup rs) ∧ (∀ y ∈ rs,∃ g,Th H y g) ∧ GoodLen z rs ∧ ∀ H',Same H H' → Q (.bl (goodV z rs)) H'
theorem len_some {z : Str} {v : V} (h : lenOf z = some v) : (z = "take" ∧ v = .int 3) ∨ (z = "only" ∧ v = .int 5) ∨ (z = "turn" ∧ v = .int 5) ∨ (z = "both" ∧ v = .int 4) ∨ (z = "join" ∧ v = .int 5) ∨ (z = "each" ∧ v = .int 6) ∨ (z = "gap" ∧ v = .int 5) := by
  unfold lenOf valV at h
  obtain ⟨kv,h1,h2⟩ := Option.map_eq_some_iff.mp h
  have hk : kv.1 = Sum.inr z := of_decide_eq_true (List.find?_some (p := fun kv : Key × V => decide (kv.1 = Sum.inr z)) h1)
  have hm := List.mem_of_find?_eq_some h1
  simp only [List.mem_cons,List.not_mem_nil,or_false] at hm
  rcases hm with rfl | rfl | rfl | rfl | rfl | rfl | rfl <;> (have e := Sum.inr.inj hk; subst e; subst h2; simp)
theorem form_shape {xs : List V} (h : formV xs = true) : (∃ a b,xs = [.str "take", a,b]) ∨ (∃ a b c d,xs = [.str "only", a,b,c,d]) ∨ (∃ a b c d,xs = [.str "turn", a,b,c,d]) ∨ (∃ a b c,xs = [.str "both", a,b,c]) ∨
    (∃ a b c d,xs = [.str "join", a,b,c,d]) ∨ (∃ a b c d e,xs = [.str "each", a,b,c,d,e]) ∨ (∃ a b c d,xs = [.str "gap", a,b,c,d]) := by
  unfold formV at h
  split at h
  · rename_i z r
    split at h
    · rename_i v hv
      have hl := of_decide_eq_true h
      have l2 : ∀ {n : Nat},V.int (((V.str z :: r).length : Nat) : Int) = V.int (n : Int) → r.length + 1 = n := fun q => by
        have q := V.int.inj q
        rw [List.length_cons] at q
        omega
      rcases len_some hv with ⟨rfl,rfl⟩ | ⟨rfl,rfl⟩ | ⟨rfl,rfl⟩ | ⟨rfl,rfl⟩ | ⟨rfl,rfl⟩ | ⟨rfl,rfl⟩ | ⟨rfl,rfl⟩
      · have q := l2 (n := 3) hl
        match r,q with
        | [a,b],_ => exact .inl ⟨a,b,rfl⟩
      · have q := l2 (n := 5) hl
        match r,q with
        | [a,b,c,d],_ => exact .inr (.inl ⟨a,b,c,d,rfl⟩)
      · have q := l2 (n := 5) hl
        match r,q with
        | [a,b,c,d],_ => exact .inr (.inr (.inl ⟨a,b,c,d,rfl⟩))
      · have q := l2 (n := 4) hl
        match r,q with
        | [a,b,c],_ => exact .inr (.inr (.inr (.inl ⟨a,b,c,rfl⟩)))
      · have q := l2 (n := 5) hl
        match r,q with
        | [a,b,c,d],_ => exact .inr (.inr (.inr (.inr (.inl ⟨a,b,c,d,rfl⟩))))
      · have q := l2 (n := 6) hl
        match r,q with
        | [a,b,c,d,e],_ => exact .inr (.inr (.inr (.inr (.inr (.inl ⟨a,b,c,d,e,rfl⟩)))))
      · have q := l2 (n := 5) hl
        match r,q with
        | [a,b,c,d],_ => exact .inr (.inr (.inr (.inr (.inr (.inr ⟨a,b,c,d,rfl⟩)))))
    · exact absurd h (by decide)
  · exact absurd h (by decide)
theorem ok_names_end (T : Tx w K mg ad) : FnOk P w K mg base CX0 1 ad.a_names_end ad.d_names_end ["step"] spEnd := by
  refine T.F_names_end.ok sc_names_end (fun vs H Q E h => ?_) (fun cdv A outer s H vs Q E hr h => ?_)
  · obtain ⟨p,z,r,rfl,_⟩ := h
    rfl
  · obtain ⟨p,z,r,rfl,e,k⟩ := h
    have nd := sc_names_end.nd
    refine ⟨_,(pss_one (ps_ret (pe_ifExp (pt_cmpR (op_in_seqK (K := K)) (pe_ix (ix_tupK (K := K)) (pv 0) pe_int (fun _ _ => rfl)) (pe_glob (v := .ref ad.o_PAIRED) (by rfl) T.g_PAIRED rfl) (by with_unfolding_all rfl)) pe_int pe_int))),?_⟩
    refine ⟨_,rfl,p,_,_,_,rfl,rfl,SqT.of e,atI_nat (j := 0) rfl,_,PAI,rfl,.inr (T.q_PAIRED H),rfl,rfl,_,rfl,?_⟩
    unfold endV at k
    refine iteB (fun e => ?_) fun e => ?_
    · have e : inV (.str z) PAI = true := e
      rw [if_pos e] at k
      exact k
    · have e : inV (.str z) PAI = false := e
      rw [if_neg (by rw [e]; exact Bool.false_ne_true)] at k
      exact k
theorem ok_is_tally (T : Tx w K mg ad) : FnOk P w K mg base CX0 1 ad.a_is_tally ad.d_is_tally ["thing"] (sp1 tallyV) := by
  refine T.F_is_tally.ok sc_is_tally (fun vs H Q E h => ?_) (fun cdv A outer s H vs Q E hr h => ?_)
  · obtain ⟨x,g,rfl,_⟩ := h
    rfl
  · obtain ⟨x,g,rfl,hx,k⟩ := h
    have nd := sc_is_tally.nd
    refine ⟨_,(pss_one (ps_ret (pe_and (pe_callB (call_isinst (K := K)) (by rfl) T.z_isinstance PyProof.Rows.boot_isinstance (pa_cons (pv 0) (pa_cons (pe_bltn (v := .ty "str") (by rfl) T.z_str PyProof.Rows.boot_str rfl) pa_nil))) (pe_one (pe_cmpR (op_in_seqK (K := K)) (pv 0) (pe_glob (v := .ref ad.o_TALLIES) (by rfl) T.g_TALLIES rfl) (by with_unfolding_all rfl)))))),?_⟩
    have k := k H (Same.refl H)
    refine ⟨_,rfl,x, "str", _,_,rfl,hx.ty,kit_str _ g,_,rfl,?_⟩
    cases hx with
    | str z hz => exact iteT ⟨_,rfl,_,TAL,rfl,.inr (T.q_TALLIES H),rfl,rfl,k⟩
    | _ => exact iteF k
theorem ok_is_ticks (T : Tx w K mg ad) : FnOk P w K mg base CX0 3 ad.a_is_ticks ad.d_is_ticks ["thing", "least"] spTicks := by
  have G_is_among := ok_is_among (P := P) (w := w) (base := base) T
  refine T.F_is_ticks.ok sc_is_ticks (fun vs H Q E h => ?_) (fun cdv A outer s H vs Q E hr h => ?_)
  · obtain ⟨x,g,a,rfl,_⟩ := h
    rfl
  · obtain ⟨x,g,a,rfl,hx,k⟩ := h
    obtain ⟨t_MOST_TICKS,h_MOST_TICKS⟩ := T.g_MOST_TICKS
    have nd := sc_is_ticks.nd
    refine ⟨_,(pss_one (ps_ret (pe_call G_is_among (hr.mono (by decide)) (by rfl) T.m_is_among T.F_is_among.kp T.b_is_among .nil pass0 (pa_cons (pv 0) (pa_cons (pv 1) (pa_cons (pe_glob (v := .int 1000000) (by rfl) h_MOST_TICKS ⟨t_MOST_TICKS,rfl⟩) pa_nil)))))),?_⟩
    exact ⟨_,rfl,_,rfl,x,g,a,_,rfl,hx,k⟩
theorem among_int {a b : Int} {x : V} (h : amongV a b x = true) : ∃ i,x = .int i ∧ a ≤ i ∧ i ≤ b := by
  cases x with
  | int i =>
    have h : (decide (a ≤ i) && decide (i ≤ b)) = true := h
    rw [Bool.and_eq_true,decide_eq_true_eq,decide_eq_true_eq] at h
    exact ⟨i,rfl,h⟩
  | _ => exact absurd h Bool.false_ne_true
theorem ok_are_bounds (T : Tx w K mg ad) : FnOk P w K mg base CX0 4 ad.a_are_bounds ad.d_are_bounds ["low", "high"] (sp2 boundsV) := by
  have G_is_amount := ok_is_amount (P := P) (w := w) (base := base) T
  refine T.F_are_bounds.ok sc_are_bounds (fun vs H Q E h => ?_) (fun cdv A outer s H vs Q E hr h => ?_)
  · obtain ⟨x,y,g,g',rfl,_⟩ := h
    rfl
  · obtain ⟨x,y,g,g',rfl,hx,hy,k⟩ := h
    have nd := sc_are_bounds.nd
    refine ⟨_,(pss_one (ps_ret (pe_and (pe_call G_is_amount (hr.mono (by decide)) (by rfl) T.m_is_amount T.F_is_amount.kp T.b_is_amount .nil pass0 (pa_cons (pv 0) pa_nil)) (pe_and (pe_call G_is_amount (hr.mono (by decide)) (by rfl) T.m_is_amount T.F_is_amount.kp T.b_is_amount .nil pass0 (pa_cons (pv 1) pa_nil)) (pe_one (pe_cmpR op_le (pv 0) (pv 1) (nomark _))))))),?_⟩
    refine ⟨_,rfl,x,g,rfl,hx,fun H1 s1 => ⟨_,rfl,iteB (fun e1 => ?_) fun e1 => ?_⟩⟩
    · refine ⟨_,rfl,y,g',rfl,hy.mono s1,fun H2 s2 => ⟨_,rfl,iteB (fun e2 => ?_) fun e2 => ?_⟩⟩
      · obtain ⟨i,rfl,_⟩ := among_int e1
        obtain ⟨j,rfl,_⟩ := among_int e2
        have q := k H2 (s1.trans s2)
        unfold boundsV at q
        rw [e1,e2] at q
        exact ⟨_,rfl,_,rfl,_,_,rfl,rfl,q⟩
      · have q := k H2 (s1.trans s2)
        unfold boundsV at q
        rw [e1,e2] at q
        exact q
    · have q := k H1 s1
      unfold boundsV at q
      rw [e1] at q
      exact q
theorem ok_are_windows (T : Tx w K mg ad) : FnOk P w K mg base CX0 4 ad.a_are_windows ad.d_are_windows ["size", "step"] (sp2 windowsV) := by
  have G_is_ticks := ok_is_ticks (P := P) (w := w) (base := base) T
  have G_is_among := ok_is_among (P := P) (w := w) (base := base) T
  refine T.F_are_windows.ok sc_are_windows (fun vs H Q E h => ?_) (fun cdv A outer s H vs Q E hr h => ?_)
  · obtain ⟨x,y,g,g',rfl,_⟩ := h
    rfl
  · obtain ⟨x,y,g,g',rfl,hx,hy,k⟩ := h
    obtain ⟨t_MOST_WINDOWS,h_MOST_WINDOWS⟩ := T.g_MOST_WINDOWS
    have nd := sc_are_windows.nd
    refine ⟨_,(pss_one (ps_ret (pe_and (pe_call G_is_ticks (hr.mono (by decide)) (by rfl) T.m_is_ticks T.F_is_ticks.kp T.b_is_ticks .nil pass0 (pa_cons (pv 0) (pa_cons pe_int pa_nil))) (pe_and (pe_call G_is_among (hr.mono (by decide)) (by rfl) T.m_is_among T.F_is_among.kp T.b_is_among .nil pass0 (pa_cons (pv 1) (pa_cons pe_int (pa_cons (pv 0) pa_nil)))) (pe_one (pe_cmpR op_le (pv 0) (pe_op op_mul (pe_glob (v := .int 20) (by rfl) h_MOST_WINDOWS ⟨t_MOST_WINDOWS,rfl⟩) (pv 1)) (nomark _))))))),?_⟩
    have no : ∀ H',Same H H' → windowsV x y = false → Q (.bl false) H' := fun H' s e => by have q := k H' s; rw [e] at q; exact q
    refine ⟨_,rfl,x,g,_,rfl,hx,fun H1 s1 => ⟨_,rfl,iteB (fun e1 => ?_) fun e1 => ?_⟩⟩
    · obtain ⟨i,rfl,i1,i2⟩ := among_int e1
      refine ⟨_,rfl,_,rfl,y,g',_,_,rfl,hy.mono s1,fun H2 s2 => ⟨_,rfl,iteB (fun e2 => ?_) fun e2 => ?_⟩⟩
      · obtain ⟨j,rfl,_⟩ := among_int e2
        have q : Q (.bl ((amongV 1 1000000 (.int i) && amongV 1 i (.int j)) && decide (i ≤ 20 * j))) H2 := k H2 (s1.trans s2)
        rw [e1,e2] at q
        exact ⟨_,rfl,_,rfl,_,_,rfl,rfl,.inl ⟨by decide,by decide⟩,_,_,rfl,rfl,q⟩
      · refine no H2 (s1.trans s2) ?_
        cases y with
        | int j =>
          show ((amongV 1 1000000 (.int i) && amongV 1 i (.int j)) && decide (i ≤ 20 * j)) = false
          rw [e2,Bool.and_false]
          rfl
        | _ => rfl
    · refine no H1 s1 ?_
      unfold windowsV
      split
      · rw [e1,Bool.false_and]
        rfl
      · rfl
def stepV : List V → Bool
  | .str z :: r => formV (.str z :: r) && ((cutV (.str z :: r) (some 1) (some (endV z))).all nameV && goodV z (cutV (.str z :: r) (some (endV z)) none))
  | _ => false
theorem step_form {xs : List V} (h : formV xs = false) : stepV xs = false := by
  unfold stepV
  split
  · rw [h]; rfl
  · rfl
theorem ok_has_form (T : Tx w K mg ad) : FnOk P w K mg base CX0 1 ad.a_has_form ad.d_has_form ["thing"] (spX formV) := by
  refine T.F_has_form.ok sc_has_form (fun vs H Q E h => ?_) (fun cdv A outer s H vs Q E hr h => ?_)
  · obtain ⟨x,o,rfl,_⟩ := h
    rfl
  · obtain ⟨x,o,rfl,hx,k⟩ := h
    have nd := sc_has_form.nd
    refine ⟨_,(pss_cons (ps_if (PW.pt (pw_or (pt_not (pt_val (pe_callB (call_isinst (K := K)) (by rfl) T.z_isinstance PyProof.Rows.boot_isinstance (pa_cons (pv 0) (pa_cons (pe_bltn (v := .ty "tuple") (by rfl) T.z_tuple PyProof.Rows.boot_tuple rfl) pa_nil))))) (pw_or1 (pt_cmpR op_eq (pe_callB (call_len_seqK (K := K)) (by rfl) T.z_len PySem.boot_len (pa_cons (pv 0) pa_nil)) pe_int (nomark _)))))
        (pss_one (ps_ret pe_bl))
        pss_nil)
        (pss_one (ps_ret (pe_and (pe_callB (call_isinst (K := K)) (by rfl) T.z_isinstance PyProof.Rows.boot_isinstance (pa_cons (pe_ix (ix_tupK (K := K)) (pv 0) pe_int (fun _ _ => rfl)) (pa_cons (pe_bltn (v := .ty "str") (by rfl) T.z_str PyProof.Rows.boot_str rfl) pa_nil))) (pe_and (pe_cmp (pc_fin (w := w) (K := K) (pe_ix (ix_tupK (K := K)) (pv 0) pe_int (fun _ _ => rfl)) (pe_glob (v := .ref ad.o_LENGTHS) (by rfl) T.g_LENGTHS rfl))) (pe_one (pe_cmpR op_eq (pe_callB (call_len_seqK (K := K)) (by rfl) T.z_len PySem.boot_len (pa_cons (pv 0) pa_nil)) (pe_fget (w := w) (K := K) (pe_glob (v := .ref ad.o_LENGTHS) (by rfl) T.g_LENGTHS rfl) (pe_ix (ix_tupK (K := K)) (pv 0) pe_int (fun _ _ => rfl)) (fun _ _ => rfl)) (nomark _)))))))),?_⟩
    have k := k H (Same.refl H)
    cases hx with
    | @oth _ g hx hg =>
      refine ⟨_,rfl,x, "tuple", _,_,rfl,hx.ty,kit_tuple _ g,_,rfl,?_⟩
      have e : isT g = false := by cases g <;> first | rfl | exact absurd rfl hg
      rw [e]
      exact iteT k
    | @tup p xs e h l =>
      refine ⟨_,rfl,_, "tuple", _,true,rfl,(Th.tup e).ty,rfl,_,rfl,iteF ?_⟩
      refine ⟨_,rfl,p,xs,rfl,.inr (SqT.of e),rfl,_,rfl,iteB (fun e0 => ?_) fun e0 => ?_⟩
      · have e0 : ((xs.length : Nat) : Int) = 0 := V.int.inj (of_decide_eq_true e0)
        have : xs = [] := List.length_eq_zero_iff.mp (by omega)
        subst this
        exact k
      · cases xs with
        | nil => exact absurd rfl (of_decide_eq_false e0)
        | cons y r =>
          obtain ⟨g,hy⟩ := h y List.mem_cons_self
          have ix : SqT K H p (y :: r) := SqT.of e
          refine ⟨_,rfl,p,_,0,y,rfl,rfl,ix,atI_nat (j := 0) rfl,y, "str", _,_,rfl,hy.ty,kit_str _ g,_,rfl,?_⟩
          cases hy with
          | str z hz =>
            have k : Q (.bl (match lenOf z with | some v => decide (V.int (((V.str z :: r).length : Nat) : Int) = v) | none => false)) H := k
            refine iteT ⟨_,rfl,p,_,0,_,rfl,rfl,ix,atI_nat (j := 0) rfl,_,LENS,.inr z,rfl,T.q_LENGTHS,rfl,_,rfl,?_⟩
            cases hl : lenOf z with
            | none =>
              rw [hl] at k
              have hl : valV LENS (.inr z) = none := hl
              rw [hl]
              exact iteF k
            | some v =>
              rw [hl] at k
              have hl' : valV LENS (.inr z) = some v := hl
              rw [hl']
              refine iteT ⟨_,rfl,p,_,rfl,.inr ix,_,rfl,p,_,0,_,rfl,rfl,ix,atI_nat (j := 0) rfl,_,LENS,.inr z,v,rfl,T.q_LENGTHS,rfl,hl',?_,k⟩
              rcases len_some hl with ⟨_,rfl⟩ | ⟨_,rfl⟩ | ⟨_,rfl⟩ | ⟨_,rfl⟩ | ⟨_,rfl⟩ | ⟨_,rfl⟩ | ⟨_,rfl⟩ <;> rfl
          | _ => exact iteF k
theorem two_of {rs : List V} (h : rs.length = 2) : ∃ c d,rs = [c,d] := match rs,h with | [c,d],_ => ⟨c,d,rfl⟩
theorem one_of {rs : List V} (h : rs.length = 1) : ∃ c,rs = [c] := match rs,h with | [c],_ => ⟨c,rfl⟩
theorem three_of {rs : List V} (h : rs.length = 3) : ∃ c d e,rs = [c,d,e] := match rs,h with | [c,d,e],_ => ⟨c,d,e,rfl⟩
theorem ok_are_good (T : Tx w K mg ad) : FnOk P w K mg base CX0 5 ad.a_are_good ad.d_are_good ["word", "rest"] spGood := by
  have G_are_bounds := ok_are_bounds (P := P) (w := w) (base := base) T
  have G_are_windows := ok_are_windows (P := P) (w := w) (base := base) T
  have G_is_ticks := ok_is_ticks (P := P) (w := w) (base := base) T
  have G_is_among := ok_is_among (P := P) (w := w) (base := base) T
  have G_is_amount := ok_is_amount (P := P) (w := w) (base := base) T
  have G_is_tally := ok_is_tally (P := P) (w := w) (base := base) T
  refine T.F_are_good.ok sc_are_good (fun vs H Q E h => ?_) (fun cdv A outer s H vs Q E hr h => ?_)
  · obtain ⟨z,p,rs,rfl,_⟩ := h
    rfl
  · obtain ⟨z,p,rs,rfl,e,hth,⟨l1,l2,l3,l4,l5⟩,k⟩ := h
    obtain ⟨t_MOST_TIMES,h_MOST_TIMES⟩ := T.g_MOST_TIMES
    have nd := sc_are_good.nd
    refine ⟨_,(pss_cons (ps_if (pt_cmpR op_eq (pv 0) pe_str (nomark _))
        (pss_one (ps_ret (pe_call G_are_bounds (hr.mono (by decide)) (by rfl) T.m_are_bounds T.F_are_bounds.kp T.b_are_bounds .nil pass0 (pa_cons (pe_ix (ix_tupK (K := K)) (pv 1) pe_int (fun _ _ => rfl)) (pa_cons (pe_ix (ix_tupK (K := K)) (pv 1) pe_int (fun _ _ => rfl)) pa_nil)))))
        pss_nil)
        (pss_cons (ps_if (pt_cmpR op_eq (pv 0) pe_str (nomark _))
        (pss_one (ps_ret (pe_and (pe_call G_is_among (hr.mono (by decide)) (by rfl) T.m_is_among T.F_is_among.kp T.b_is_among .nil pass0 (pa_cons (pe_ix (ix_tupK (K := K)) (pv 1) pe_int (fun _ _ => rfl)) (pa_cons (pe_un un_neg (pe_glob (v := .int 9) (by rfl) h_MOST_TIMES ⟨t_MOST_TIMES,rfl⟩)) (pa_cons (pe_glob (v := .int 9) (by rfl) h_MOST_TIMES ⟨t_MOST_TIMES,rfl⟩) pa_nil)))) (pe_one (pe_call G_is_amount (hr.mono (by decide)) (by rfl) T.m_is_amount T.F_is_amount.kp T.b_is_amount .nil pass0 (pa_cons (pe_ix (ix_tupK (K := K)) (pv 1) pe_int (fun _ _ => rfl)) pa_nil))))))
        pss_nil)
        (pss_cons (ps_if (pt_cmpR op_eq (pv 0) pe_str (nomark _))
        (pss_one (ps_ret (pe_call G_is_ticks (hr.mono (by decide)) (by rfl) T.m_is_ticks T.F_is_ticks.kp T.b_is_ticks .nil pass0 (pa_cons (pe_ix (ix_tupK (K := K)) (pv 1) pe_int (fun _ _ => rfl)) (pa_cons pe_int pa_nil)))))
        pss_nil)
        (pss_cons (ps_if (pt_cmpR op_eq (pv 0) pe_str (nomark _))
        (pss_one (ps_ret (pe_and (pe_call G_is_tally (hr.mono (by decide)) (by rfl) T.m_is_tally T.F_is_tally.kp T.b_is_tally .nil pass0 (pa_cons (pe_ix (ix_tupK (K := K)) (pv 1) pe_int (fun _ _ => rfl)) pa_nil)) (pe_one (pe_call G_are_windows (hr.mono (by decide)) (by rfl) T.m_are_windows T.F_are_windows.kp T.b_are_windows .nil pass0 (pa_cons (pe_ix (ix_tupK (K := K)) (pv 1) pe_int (fun _ _ => rfl)) (pa_cons (pe_ix (ix_tupK (K := K)) (pv 1) pe_int (fun _ _ => rfl)) pa_nil)))))))
        pss_nil)
        (pss_cons (ps_if (pt_cmpR op_eq (pv 0) pe_str (nomark _))
        (pss_one (ps_ret (pe_and (pe_call G_is_tally (hr.mono (by decide)) (by rfl) T.m_is_tally T.F_is_tally.kp T.b_is_tally .nil pass0 (pa_cons (pe_ix (ix_tupK (K := K)) (pv 1) pe_int (fun _ _ => rfl)) pa_nil)) (pe_one (pe_call G_is_ticks (hr.mono (by decide)) (by rfl) T.m_is_ticks T.F_is_ticks.kp T.b_is_ticks .nil pass0 (pa_cons (pe_ix (ix_tupK (K := K)) (pv 1) pe_int (fun _ _ => rfl)) (pa_cons pe_int pa_nil)))))))
        pss_nil)
        (pss_one (ps_ret pe_bl))))))),?_⟩
    have ix : ∀ {H'},Same H H' → SqT K H' p rs := fun s => SqT.of (s _ _ e)
    have s0 := Same.refl H
    have no : ∀ {a : Str},decide (V.str z = V.str a) = false → ¬ z = a := fun q r => of_decide_eq_false q (congrArg V.str r)
    refine ⟨_,rfl,rfl,_,rfl,iteB (fun q1 => ?_) fun q1 => ?_⟩
    · have q1 : z = "only" := V.str.inj (of_decide_eq_true q1)
      obtain ⟨c,d,rfl⟩ := two_of (l1 q1)
      obtain ⟨gc,hc⟩ := hth c (by simp)
      obtain ⟨gd,hd⟩ := hth d (by simp)
      subst q1
      exact ⟨_,rfl,p,_,0,_,rfl,rfl,ix s0,atI_nat (j := 0) rfl,_,rfl,p,_,1,_,rfl,rfl,ix s0,atI_nat (j := 1) rfl,c,d,gc,gd,rfl,hc,hd,k⟩
    have n1 := no q1
    refine ⟨_,rfl,rfl,_,rfl,iteB (fun q2 => ?_) fun q2 => ?_⟩
    · have q2 : z = "turn" := V.str.inj (of_decide_eq_true q2)
      obtain ⟨c,d,rfl⟩ := two_of (l2 q2)
      obtain ⟨gc,hc⟩ := hth c (by simp)
      obtain ⟨gd,hd⟩ := hth d (by simp)
      subst q2
      have k : ∀ H',Same H H' → Q (.bl (amongV (-9) 9 c && amongV (-1000000000) 1000000000 d)) H' := k
      refine ⟨_,rfl,p,_,0,_,rfl,rfl,ix s0,atI_nat (j := 0) rfl,_,rfl,c,gc,_,_,rfl,hc,fun H1 s1 => ⟨_,rfl,iteB (fun e1 => ?_) fun e1 => ?_⟩⟩
      · rw [e1,Bool.true_and] at k
        exact ⟨_,rfl,p,_,1,_,rfl,rfl,ix s1,atI_nat (j := 1) rfl,d,gd,rfl,hd.mono s1,fun H2 s2 => k H2 (s1.trans s2)⟩
      · rw [e1,Bool.false_and] at k
        exact k H1 s1
    have n2 := no q2
    refine ⟨_,rfl,rfl,_,rfl,iteB (fun q3 => ?_) fun q3 => ?_⟩
    · have q3 : z = "join" := V.str.inj (of_decide_eq_true q3)
      obtain ⟨c,rfl⟩ := one_of (l3 q3)
      obtain ⟨gc,hc⟩ := hth c (by simp)
      subst q3
      exact ⟨_,rfl,p,_,0,_,rfl,rfl,ix s0,atI_nat (j := 0) rfl,c,gc,_,rfl,hc,k⟩
    have n3 := no q3
    refine ⟨_,rfl,rfl,_,rfl,iteB (fun q4 => ?_) fun q4 => ?_⟩
    · have q4 : z = "each" := V.str.inj (of_decide_eq_true q4)
      obtain ⟨c,d,f,rfl⟩ := three_of (l4 q4)
      obtain ⟨gc,hc⟩ := hth c (by simp)
      obtain ⟨gd,hd⟩ := hth d (by simp)
      obtain ⟨gf,hf⟩ := hth f (by simp)
      subst q4
      have k : ∀ H',Same H H' → Q (.bl (tallyV c && windowsV d f)) H' := k
      refine ⟨_,rfl,p,_,0,_,rfl,rfl,ix s0,atI_nat (j := 0) rfl,c,gc,rfl,hc,fun H1 s1 => ⟨_,rfl,iteB (fun e1 => ?_) fun e1 => ?_⟩⟩
      · rw [e1,Bool.true_and] at k
        exact ⟨_,rfl,p,_,1,_,rfl,rfl,ix s1,atI_nat (j := 1) rfl,_,rfl,p,_,2,_,rfl,rfl,ix s1,atI_nat (j := 2) rfl,d,f,gd,gf,rfl,hd.mono s1,hf.mono s1,fun H2 s2 => k H2 (s1.trans s2)⟩
      · rw [e1,Bool.false_and] at k
        exact k H1 s1
    have n4 := no q4
    refine ⟨_,rfl,rfl,_,rfl,iteB (fun q5 => ?_) fun q5 => ?_⟩
    · have q5 : z = "gap" := V.str.inj (of_decide_eq_true q5)
      obtain ⟨c,d,rfl⟩ := two_of (l5 q5)
      obtain ⟨gc,hc⟩ := hth c (by simp)
      obtain ⟨gd,hd⟩ := hth d (by simp)
      subst q5
      have k : ∀ H',Same H H' → Q (.bl (tallyV c && amongV 0 1000000 d)) H' := k
      refine ⟨_,rfl,p,_,0,_,rfl,rfl,ix s0,atI_nat (j := 0) rfl,c,gc,rfl,hc,fun H1 s1 => ⟨_,rfl,iteB (fun e1 => ?_) fun e1 => ?_⟩⟩
      · rw [e1,Bool.true_and] at k
        exact ⟨_,rfl,p,_,1,_,rfl,rfl,ix s1,atI_nat (j := 1) rfl,d,gd,_,rfl,hd.mono s1,fun H2 s2 => k H2 (s1.trans s2)⟩
      · rw [e1,Bool.false_and] at k
        exact k H1 s1
    have n5 := no q5
    have q := k H s0
    unfold goodV at q
    rw [if_neg n1,if_neg n2,if_neg n3,if_neg n4,if_neg n5] at q
    exact q
theorem form_head {xs : List V} (h : formV xs = true) : ∃ z r,xs = .str z :: r ∧ 3 ≤ xs.length ∧ xs.length ≤ 6 := by
  rcases form_shape h with ⟨a,b,rfl⟩ | ⟨a,b,c,d,rfl⟩ | ⟨a,b,c,d,rfl⟩ | ⟨a,b,c,rfl⟩ | ⟨a,b,c,d,rfl⟩ | ⟨a,b,c,d,e,rfl⟩ | ⟨a,b,c,d,rfl⟩ <;> exact ⟨_,_,rfl,by simp only [List.length_cons,List.length_nil]; omega,by simp only [List.length_cons,List.length_nil]; omega⟩
theorem end_two (z : Str) : endV z = 3 ∨ endV z = 4 := by
  unfold endV
  split
  · exact .inr rfl
  · exact .inl rfl
theorem form_good {z : Str} {r : List V} (h : formV (.str z :: r) = true) : GoodLen z (cutV (.str z :: r) (some (endV z)) none) := by
  rcases form_shape h with ⟨a,b,e⟩ | ⟨a,b,c,d,e⟩ | ⟨a,b,c,d,e⟩ | ⟨a,b,c,e⟩ | ⟨a,b,c,d,e⟩ | ⟨a,b,c,d,f,e⟩ | ⟨a,b,c,d,e⟩ <;>
    (obtain ⟨rfl,rfl⟩ := List.cons.inj e |>.imp V.str.inj id
     refine ⟨fun q => ?_,fun q => ?_,fun q => ?_,fun q => ?_,fun q => ?_⟩ <;> first | rfl | exact absurd q (by decide))
theorem mem_cut {xs : List V} {lo hi : Option Int} {y : V} (h : y ∈ cutV xs lo hi) : y ∈ xs := List.mem_of_mem_drop (List.mem_of_mem_take h)
theorem sIx_some {n d : Nat} {v : Int} (h : 0 ≤ v) : HT.sIx n d (some v) = min v.toNat n := by
  show (if v < 0 then (v + (n : Int)).toNat else min v.toNat n) = _
  rw [if_neg (by omega)]
theorem ok_is_step (T : Tx w K mg ad) : FnOk P w K mg base CX0 6 ad.a_is_step ad.d_is_step ["thing"] (spX stepV) := by
  have G_has_form := ok_has_form (P := P) (w := w) (base := base) T
  have G_names_end := ok_names_end (P := P) (w := w) (base := base) T
  have G_is_name := ok_is_name (P := P) (w := w) (base := base) T
  have G_are_good := ok_are_good (P := P) (w := w) (base := base) T
  refine T.F_is_step.ok sc_is_step (fun vs H Q E h => ?_) (fun cdv A outer s H vs Q E hr h => ?_)
  · obtain ⟨x,o,rfl,_⟩ := h
    rfl
  · obtain ⟨x,o,rfl,hx,k⟩ := h
    have nd := sc_is_step.nd
    refine ⟨_,(pss_cons (ps_if (pt_not (pt_val (pe_call G_has_form (hr.mono (by decide)) (by rfl) T.m_has_form T.F_has_form.kp T.b_has_form .nil pass0 (pa_cons (pv 0) pa_nil))))
        (pss_one (ps_ret pe_bl))
        pss_nil)
        (pss_cons (ps_set (i := 1) nd rfl (Or.inl rfl) (pe_call G_names_end (hr.mono (by decide)) (by rfl) T.m_names_end T.F_names_end.kp T.b_names_end .nil pass0 (pa_cons (pv 0) pa_nil)))
        (pss_one (ps_ret (pe_and (pe_callB (call_all_bools (K := K) rfl) (by rfl) T.z_all PyProof.Rows.boot_all (pa_cons (pe_comp1 (osc := defScope s_is_step) [] rfl (pi_tupK (K := K) (pe_slice (sl_tupK (K := K)) (pv 0) (po_some pe_int) (po_some (pv 1)))) rfl rfl (by decide +kernel) (by decide +kernel) (by decide +kernel) trivial rfl (by decide +kernel) (fun _ _ _ _ => pts_nil) (fun _ _ _ _ => (pe_call G_is_name (hr.mono (by decide)) (by rfl) T.m_is_name T.F_is_name.kp T.b_is_name .nil pass0 (pa_cons (pv 0) pa_nil)))) pa_nil)) (pe_one (pe_call G_are_good (hr.mono (by decide)) (by rfl) T.m_are_good T.F_are_good.kp T.b_are_good .nil pass0 (pa_cons (pe_ix (ix_tupK (K := K)) (pv 0) pe_int (fun _ _ => rfl)) (pa_cons (pe_slice (sl_tupK (K := K)) (pv 0) (po_some (pv 1)) po_none) pa_nil))))))))),?_⟩
    refine ⟨_,rfl,x,o,rfl,hx,fun H1 s1 => ⟨_,rfl,iteB (fun ef => ?_) fun ef => ?_⟩⟩
    · have q := k H1 s1
      have ef : onX formV o = false := by simpa using ef
      cases o with
      | none => exact q
      | some xs =>
        have e : stepV xs = false := step_form ef
        have q : Q (.bl (stepV xs)) H1 := q
        rw [e] at q
        exact q
    · have ef : onX formV o = true := by simpa using ef
      cases hx with
      | oth h hg => exact absurd ef Bool.false_ne_true
      | @tup p xs e h l =>
        have ef : formV xs = true := ef
        obtain ⟨z,r,rfl,n3,n6⟩ := form_head ef
        have e1 := s1 _ _ e
        have h1 := things_mono h s1
        have hE := end_two z
        have k : ∀ H',Same H H' → Q (.bl ((cutV (.str z :: r) (some 1) (some (endV z))).all nameV && goodV z (cutV (.str z :: r) (some (endV z)) none))) H' := fun H' s => by
          have q : Q (.bl (formV (.str z :: r) && ((cutV (.str z :: r) (some 1) (some (endV z))).all nameV && goodV z (cutV (.str z :: r) (some (endV z)) none)))) H' := k H' s
          rw [ef,Bool.true_and] at q
          exact q
        refine ⟨_,rfl,p,z,r,rfl,e1,?_⟩
        refine ⟨_,rfl,_,rfl,_,rfl,_,rfl,p,_,rfl,SqT.of e1,?_,fun p2 hp2 => ?_⟩
        · rintro ⟨q,_⟩
          rw [sIx_some (by decide)] at q
          have : min (Int.toNat 1) (V.str z :: r).length = 1 := by
            have : Int.toNat 1 = 1 := rfl
            omega
          omega
        have s2 := s1.upd (o := .tup (cutV (.str z :: r) (some 1) (some (endV z)))) hp2
        have lc := cutV_length (.str z :: r) (some 1) (some (endV z))
        have sz : sizeLine = 16777216 := sizeLine_eq
        refine ⟨p2,rfl,⟨_,SqT.of upd_same⟩,comp_same_tup (fun x y => y = .bl (nameV x)) upd_same (by omega) (fun x H3 Rr hxm s3 q => ?_) fun acc H3 s3 f D hD => ?_⟩
        · obtain ⟨g,hg⟩ := h1 x (mem_cut hxm)
          refine ⟨_,rfl,x,g,rfl,(hg.mono ((Same.refl H1).upd hp2)).mono s3,fun H4 s4 => q _ H4 s4 rfl⟩
        · have ea := f.map
          subst ea
          refine ⟨D,(cutV (.str z :: r) (some 1) (some (endV z))).map nameV,rfl,SqL.of ?_,?_⟩
          · rw [upd_same,List.map_map]
            rfl
          have s5 := (s2.trans s3).upd (o := .lst (List.map (fun x => V.bl (nameV x)) (cutV (.str z :: r) (some 1) (some (endV z))))) hD
          generalize upd H3 D (.lst (List.map (fun x => V.bl (nameV x)) (cutV (.str z :: r) (some 1) (some (endV z))))) = H5 at s5 ⊢
          rw [List.all_map]
          have ea : (cutV (V.str z :: r) (some 1) (some (endV z))).all (id ∘ nameV) = (cutV (V.str z :: r) (some 1) (some (endV z))).all nameV := rfl
          rw [ea]
          refine ⟨_,rfl,iteB (fun en => ?_) fun en => ?_⟩
          · have ix : SqT K H5 p (.str z :: r) := SqT.of (s5 _ _ e)
            refine ⟨_,rfl,p,_,0,_,rfl,rfl,ix,atI_nat (j := 0) rfl,_,rfl,_,rfl,_,rfl,p,_,rfl,ix,?_,fun p3 hp3 => ?_⟩
            · rintro ⟨q,_⟩
              rw [sIx_some (by omega)] at q
              omega
            · have s6 := s5.upd (o := .tup (cutV (.str z :: r) (some (endV z)) none)) hp3
              refine ⟨z,p3,_,rfl,upd_same,fun y hy => (h y (mem_cut hy)).elim fun g q => ⟨g,q.mono s6⟩,form_good ef,fun H7 s7 => ?_⟩
              have q := k H7 (s6.trans s7)
              rw [en,Bool.true_and] at q
              exact q
          · have q := k H5 s5
            rw [en,Bool.false_and] at q
            exact q
def feedV : List V → List V
  | .str z :: r => if z = "take" then [] else cutV (.str z :: r) (some 2) (some (endV z))
  | _ => []
def spName : Sp := fun vs H Q _ => ∃ p z a r,vs = [.ref p] ∧ H p = some (.tup (z :: a :: r)) ∧ Q a H
def spFeed : Sp := fun vs H Q _ => ∃ p z a b r,vs = [.ref p] ∧ H p = some (.tup (.str z :: a :: b :: r)) ∧ ∀ l H',Same H H' → H' l = some (.lst (feedV (.str z :: a :: b :: r))) → Q (.ref l) H'
def spTell : Sp := fun vs H Q _ => ∃ p z r,vs = [.ref p] ∧ H p = some (.tup (.str z :: r)) ∧ Q (.bl (inV (.str z) TEL)) H
theorem ok_name_of (T : Tx w K mg ad) : FnOk P w K mg base CX0 1 ad.a_name_of ad.d_name_of ["step"] spName := by
  refine T.F_name_of.ok sc_name_of (fun vs H Q E h => ?_) (fun cdv A outer s H vs Q E hr h => ?_)
  · obtain ⟨p,z,a,r,rfl,_⟩ := h
    rfl
  · obtain ⟨p,z,a,r,rfl,e,k⟩ := h
    have nd := sc_name_of.nd
    refine ⟨_,(pss_one (ps_ret (pe_ix (ix_tupK (K := K)) (pv 0) pe_int (fun _ _ => rfl)))),?_⟩
    exact ⟨_,rfl,p,_,1,_,rfl,rfl,SqT.of e,atI_nat (j := 1) rfl,k⟩
theorem ok_is_teller (T : Tx w K mg ad) : FnOk P w K mg base CX0 1 ad.a_is_teller ad.d_is_teller ["step"] spTell := by
  refine T.F_is_teller.ok sc_is_teller (fun vs H Q E h => ?_) (fun cdv A outer s H vs Q E hr h => ?_)
  · obtain ⟨p,z,r,rfl,_⟩ := h
    rfl
  · obtain ⟨p,z,r,rfl,e,k⟩ := h
    have nd := sc_is_teller.nd
    refine ⟨_,(pss_one (ps_ret (pe_cmpR (op_in_seqK (K := K)) (pe_ix (ix_tupK (K := K)) (pv 0) pe_int (fun _ _ => rfl)) (pe_glob (v := .ref ad.o_TELLERS) (by rfl) T.g_TELLERS rfl) (by with_unfolding_all rfl)))),?_⟩
    exact ⟨_,rfl,p,_,0,_,rfl,rfl,SqT.of e,atI_nat (j := 0) rfl,_,TEL,rfl,.inr (T.q_TELLERS H),rfl,rfl,k⟩
theorem ok_feeders (T : Tx w K mg ad) : FnOk P w K mg base CX0 2 ad.a_feeders ad.d_feeders ["step"] spFeed := by
  have G_names_end := ok_names_end (P := P) (w := w) (base := base) T
  refine T.F_feeders.ok sc_feeders (fun vs H Q E h => ?_) (fun cdv A outer s H vs Q E hr h => ?_)
  · obtain ⟨p,z,a,b,r,rfl,_⟩ := h
    rfl
  · obtain ⟨p,z,a,b,r,rfl,e,k⟩ := h
    have nd := sc_feeders.nd
    refine ⟨_,(pss_cons (ps_if (pt_cmpR op_eq (pe_ix (ix_tupK (K := K)) (pv 0) pe_int (fun _ _ => rfl)) pe_str (nomark _))
        (pss_one (ps_ret (pe_lst pa_nil)))
        pss_nil)
        (pss_one (ps_ret (pe_callTy (call_list_ofK (K := K)) (by rfl) T.z_list PyProof.Rows.boot_list (pa_cons (pe_slice (sl_tupK (K := K)) (pv 0) (po_some pe_int) (po_some (pe_call G_names_end (hr.mono (by decide)) (by rfl) T.m_names_end T.F_names_end.kp T.b_names_end .nil pass0 (pa_cons (pv 0) pa_nil)))) pa_nil))))),?_⟩
    refine ⟨_,rfl,p,_,0,_,rfl,rfl,SqT.of e,atI_nat (j := 0) rfl,rfl,_,rfl,iteB (fun q1 => ?_) fun q1 => ?_⟩
    · have q1 : z = "take" := V.str.inj (of_decide_eq_true q1)
      subst q1
      exact ⟨Nat.zero_le _,fun l hl => k l _ ((Same.refl H).upd hl) upd_same⟩
    · have q1 : ¬ z = "take" := fun q => of_decide_eq_false q1 (congrArg V.str q)
      have hE := end_two z
      refine ⟨_,rfl,_,rfl,_,rfl,p,z,_,rfl,e,_,rfl,p,_,rfl,SqT.of e,?_,fun p2 hp2 => ⟨p2,_,rfl,.inr (SqT.of upd_same),fun l hl => k l _ (((Same.refl H).upd hp2).upd hl) ?_⟩⟩
      · rintro ⟨q,_⟩
        rw [sIx_some (by decide)] at q
        have : Int.toNat 2 = 2 := rfl
        simp only [List.length_cons] at q
        omega
      · have ef : feedV (.str z :: a :: b :: r) = if z = "take" then [] else cutV (.str z :: a :: b :: r) (some 2) (some (endV z)) := rfl
        rw [upd_same,ef,if_neg q1]
theorem neS {a b : Str} {A B : Prop} (h : a ≠ b) (hb : B) : if decide (V.str a = V.str b) = true then A else B := by
  rw [if_neg (by rw [decide_eq_true_eq]; exact fun q => h (V.str.inj q))]
  exact hb
theorem eqS {a : Str} {A B : Prop} (ha : A) : if decide (V.str a = V.str a) = true then A else B := by
  rw [if_pos (decide_eq_true rfl)]
  exact ha
theorem f_take (a b : V) : formV [.str "take", a,b] = true := rfl
theorem f_only (a b c d : V) : formV [.str "only", a,b,c,d] = true := rfl
theorem f_turn (a b c d : V) : formV [.str "turn", a,b,c,d] = true := rfl
theorem f_both (a b c : V) : formV [.str "both", a,b,c] = true := rfl
theorem f_join (a b c d : V) : formV [.str "join", a,b,c,d] = true := rfl
theorem f_each (a b c d e : V) : formV [.str "each", a,b,c,d,e] = true := rfl
theorem f_gap (a b c d : V) : formV [.str "gap", a,b,c,d] = true := rfl
theorem v_take (a b : V) : stepV [.str "take", a,b] = (nameV a && nameV b) := by
  have e0 : stepV [.str "take", a,b] = (formV [.str "take", a,b] && ((cutV [.str "take", a,b] (some 1) (some (endV "take"))).all nameV && goodV "take" (cutV [.str "take", a,b] (some (endV "take")) none))) := rfl
  have e1 : cutV [.str "take", a,b] (some 1) (some (endV "take")) = [a,b] := rfl
  have e2 : cutV [.str "take", a,b] (some (endV "take")) none = [] := rfl
  have e3 : goodV "take" [] = true := rfl
  rw [e0,f_take,e1,e2,e3]
  simp [Bool.and_assoc]
theorem v_only (a b c d : V) : stepV [.str "only", a,b,c,d] = ((nameV a && nameV b) && boundsV c d) := by
  have e0 : stepV [.str "only", a,b,c,d] = (formV [.str "only", a,b,c,d] && ((cutV [.str "only", a,b,c,d] (some 1) (some (endV "only"))).all nameV && goodV "only" (cutV [.str "only", a,b,c,d] (some (endV "only")) none))) := rfl
  have e1 : cutV [.str "only", a,b,c,d] (some 1) (some (endV "only")) = [a,b] := rfl
  have e2 : cutV [.str "only", a,b,c,d] (some (endV "only")) none = [c,d] := rfl
  have e3 : goodV "only" [c,d] = boundsV c d := rfl
  rw [e0,f_only,e1,e2,e3]
  simp [Bool.and_assoc]
theorem v_turn (a b c d : V) : stepV [.str "turn", a,b,c,d] = ((nameV a && nameV b) && (amongV (-9) 9 c && amongV (-1000000000) 1000000000 d)) := by
  have e0 : stepV [.str "turn", a,b,c,d] = (formV [.str "turn", a,b,c,d] && ((cutV [.str "turn", a,b,c,d] (some 1) (some (endV "turn"))).all nameV && goodV "turn" (cutV [.str "turn", a,b,c,d] (some (endV "turn")) none))) := rfl
  have e1 : cutV [.str "turn", a,b,c,d] (some 1) (some (endV "turn")) = [a,b] := rfl
  have e2 : cutV [.str "turn", a,b,c,d] (some (endV "turn")) none = [c,d] := rfl
  have e3 : goodV "turn" [c,d] = (amongV (-9) 9 c && amongV (-1000000000) 1000000000 d) := rfl
  rw [e0,f_turn,e1,e2,e3]
  simp [Bool.and_assoc]
theorem v_both (a b c : V) : stepV [.str "both", a,b,c] = ((nameV a && nameV b) && nameV c) := by
  have e0 : stepV [.str "both", a,b,c] = (formV [.str "both", a,b,c] && ((cutV [.str "both", a,b,c] (some 1) (some (endV "both"))).all nameV && goodV "both" (cutV [.str "both", a,b,c] (some (endV "both")) none))) := rfl
  have e1 : cutV [.str "both", a,b,c] (some 1) (some (endV "both")) = [a,b,c] := rfl
  have e2 : cutV [.str "both", a,b,c] (some (endV "both")) none = [] := rfl
  have e3 : goodV "both" [] = true := rfl
  rw [e0,f_both,e1,e2,e3]
  simp [Bool.and_assoc]
theorem v_join (a b c d : V) : stepV [.str "join", a,b,c,d] = ((nameV a && nameV b) && (nameV c && amongV 0 1000000 d)) := by
  have e0 : stepV [.str "join", a,b,c,d] = (formV [.str "join", a,b,c,d] && ((cutV [.str "join", a,b,c,d] (some 1) (some (endV "join"))).all nameV && goodV "join" (cutV [.str "join", a,b,c,d] (some (endV "join")) none))) := rfl
  have e1 : cutV [.str "join", a,b,c,d] (some 1) (some (endV "join")) = [a,b,c] := rfl
  have e2 : cutV [.str "join", a,b,c,d] (some (endV "join")) none = [d] := rfl
  have e3 : goodV "join" [d] = amongV 0 1000000 d := rfl
  rw [e0,f_join,e1,e2,e3]
  simp [Bool.and_assoc]
theorem v_each (a b c d e : V) : stepV [.str "each", a,b,c,d,e] = ((nameV a && nameV b) && (tallyV c && windowsV d e)) := by
  have e0 : stepV [.str "each", a,b,c,d,e] = (formV [.str "each", a,b,c,d,e] && ((cutV [.str "each", a,b,c,d,e] (some 1) (some (endV "each"))).all nameV && goodV "each" (cutV [.str "each", a,b,c,d,e] (some (endV "each")) none))) := rfl
  have e1 : cutV [.str "each", a,b,c,d,e] (some 1) (some (endV "each")) = [a,b] := rfl
  have e2 : cutV [.str "each", a,b,c,d,e] (some (endV "each")) none = [c,d,e] := rfl
  have e3 : goodV "each" [c,d,e] = (tallyV c && windowsV d e) := rfl
  rw [e0,f_each,e1,e2,e3]
  simp [Bool.and_assoc]
theorem v_gap (a b c d : V) : stepV [.str "gap", a,b,c,d] = ((nameV a && nameV b) && (tallyV c && amongV 0 1000000 d)) := by
  have e0 : stepV [.str "gap", a,b,c,d] = (formV [.str "gap", a,b,c,d] && ((cutV [.str "gap", a,b,c,d] (some 1) (some (endV "gap"))).all nameV && goodV "gap" (cutV [.str "gap", a,b,c,d] (some (endV "gap")) none))) := rfl
  have e1 : cutV [.str "gap", a,b,c,d] (some 1) (some (endV "gap")) = [a,b] := rfl
  have e2 : cutV [.str "gap", a,b,c,d] (some (endV "gap")) none = [c,d] := rfl
  have e3 : goodV "gap" [c,d] = (tallyV c && amongV 0 1000000 d) := rfl
  rw [e0,f_gap,e1,e2,e3]
  simp [Bool.and_assoc]
theorem step_names {x0 x1 x2 : V} {r : List V} (h : nameV x1 = false ∨ nameV x2 = false) : stepV (x0 :: x1 :: x2 :: r) = false := by
  cases hf : formV (x0 :: x1 :: x2 :: r) with
  | false => exact step_form hf
  | true =>
    have e : (nameV x1 && nameV x2) = false := by rcases h with h | h <;> rw [h] <;> simp
    rcases form_shape hf with ⟨a,b,q⟩ | ⟨a,b,c,d,q⟩ | ⟨a,b,c,d,q⟩ | ⟨a,b,c,q⟩ | ⟨a,b,c,d,q⟩ | ⟨a,b,c,d,f,q⟩ | ⟨a,b,c,d,q⟩ <;> cases q
    · rw [v_take]; exact e
    · rw [v_only,e]; rfl
    · rw [v_turn,e]; rfl
    · rw [v_both,e]; rfl
    · rw [v_join,e]; rfl
    · rw [v_each,e]; rfl
    · rw [v_gap,e]; rfl
theorem bounds_way (c d : V) : boundsV c d = (amongV (0 - 1000000000) 1000000000 d && (match d with | .int j => amongV (0 - 1000000000) j c | _ => false)) := by
  cases c with
  | int i =>
    cases d with
    | int j =>
      show (((decide (-1000000000 ≤ i) && decide (i ≤ 1000000000)) && (decide (-1000000000 ≤ j) && decide (j ≤ 1000000000))) && decide (i ≤ j)) = ((decide ((0 - 1000000000 : Int) ≤ j) && decide (j ≤ 1000000000)) && (decide ((0 - 1000000000 : Int) ≤ i) && decide (i ≤ j)))
      rw [Bool.eq_iff_iff]
      simp only [Bool.and_eq_true,decide_eq_true_eq]
      omega
    | _ => simp [boundsV,amongV]
  | _ => cases d <;> simp [boundsV,amongV]
theorem merge_lens : mergeK [] LENS = LENS := by rfl
theorem windows_no {d f : V} (h : amongV 1 1000000 d = false) : windowsV d f = false := by
  cases d with
  | int i =>
    cases f with
    | int j =>
      show ((amongV 1 1000000 (.int i) && amongV 1 i (.int j)) && decide (i ≤ 20 * j)) = false
      rw [h]; rfl
    | _ => rfl
  | _ => rfl
theorem windows_no2 {i : Int} {f : V} (h : amongV 1 i f = false) : windowsV (.int i) f = false := by
  cases f with
  | int j =>
    show ((amongV 1 1000000 (.int i) && amongV 1 i (.int j)) && decide (i ≤ 20 * j)) = false
    rw [h,Bool.and_false]; rfl
  | _ => rfl
theorem ok_law_is_step (T : Tx w K mg ad) : FnOk P w K mg base CX0 2 ad.a_uis_step ad.d_uis_step ["_law_thing"] (spX stepV) := by
  have G_uis_name := ok_law_is_name (P := P) (w := w) (base := base) T
  have G_uis_among := ok_law_is_among (P := P) (w := w) (base := base) T
  refine T.F_uis_step.ok sc_uis_step (fun vs H Q E h => ?_) (fun cdv A outer s H vs Q E hr h => ?_)
  · obtain ⟨x,o,rfl,_⟩ := h
    rfl
  · obtain ⟨x,o,rfl,hx,k⟩ := h
    have nd := sc_uis_step.nd
    refine ⟨_,(pss_cons (ps_if (PW.pt (pw_or (pt_not (pt_val (pe_callB (call_isinst (K := K)) (by rfl) T.z_isinstance PyProof.Rows.boot_isinstance (pa_cons (pv 0) (pa_cons (pe_bltn (v := .ty "tuple") (by rfl) T.z_tuple PyProof.Rows.boot_tuple rfl) pa_nil))))) (pw_or (pt_cmpR op_lt (pe_callB (call_len_seqK (K := K)) (by rfl) T.z_len PySem.boot_len (pa_cons (pv 0) pa_nil)) pe_int (nomark _)) (pw_or1 (pt_not (pt_val (pe_call G_uis_name (hr.mono (by decide)) (by rfl) T.m_uis_name T.F_uis_name.kp T.b_uis_name .nil pass0 (pa_cons (pe_ix (ix_tupK (K := K)) (pv 0) pe_int (fun _ _ => rfl)) pa_nil))))))))
        (pss_one (ps_ret pe_bl))
        pss_nil)
        (pss_cons (ps_set (i := 1) nd rfl (Or.inl rfl) (pe_disp (pps_cons pe_str pe_int (pps_cons pe_str pe_int (pps_cons pe_str pe_int (pps_cons pe_str pe_int (pps_cons pe_str pe_int (pps_cons pe_str pe_int (pps_cons pe_str pe_int pps_nil))))))) (by rfl) (by rfl) (by intro z; cases z) (by decide)))
        (pss_cons (ps_if (PW.pt (pw_or (pt_not (pt_val (pe_callB (call_isinst (K := K)) (by rfl) T.z_isinstance PyProof.Rows.boot_isinstance (pa_cons (pe_ix (ix_tupK (K := K)) (pv 0) pe_int (fun _ _ => rfl)) (pa_cons (pe_bltn (v := .ty "str") (by rfl) T.z_str PyProof.Rows.boot_str rfl) pa_nil))))) (pw_or (pt_cmpR op_ne (pe_dget2 hr.u1 (pv 1) (pe_ix (ix_tupK (K := K)) (pv 0) pe_int (fun _ _ => rfl)) pe_int ⟨rfl,rfl,rfl,rfl⟩) (pe_callB (call_len_seqK (K := K)) (by rfl) T.z_len PySem.boot_len (pa_cons (pv 0) pa_nil)) (nomark _)) (pw_or1 (pt_not (pt_val (pe_call G_uis_name (hr.mono (by decide)) (by rfl) T.m_uis_name T.F_uis_name.kp T.b_uis_name .nil pass0 (pa_cons (pe_ix (ix_tupK (K := K)) (pv 0) pe_int (fun _ _ => rfl)) pa_nil))))))))
        (pss_one (ps_ret pe_bl))
        pss_nil)
        (pss_cons (ps_if (PW.pt (pw_and (pt_cmpR op_eq (pe_ix (ix_tupK (K := K)) (pv 0) pe_int (fun _ _ => rfl)) pe_str (nomark _)) (pw_and1 (pt_not (pt_val (pe_call G_uis_among (hr.mono (by decide)) (by rfl) T.m_uis_among T.F_uis_among.kp T.b_uis_among .nil pass0 (pa_cons (pe_ix (ix_tupK (K := K)) (pv 0) pe_int (fun _ _ => rfl)) (pa_cons (pe_op op_sub pe_int pe_int) (pa_cons pe_int pa_nil)))))))))
        (pss_one (ps_ret pe_bl))
        pss_nil)
        (pss_cons (ps_if (pt_cmpR op_eq (pe_ix (ix_tupK (K := K)) (pv 0) pe_int (fun _ _ => rfl)) pe_str (nomark _))
        (pss_one (ps_ret (pe_call G_uis_among (hr.mono (by decide)) (by rfl) T.m_uis_among T.F_uis_among.kp T.b_uis_among .nil pass0 (pa_cons (pe_ix (ix_tupK (K := K)) (pv 0) pe_int (fun _ _ => rfl)) (pa_cons (pe_op op_sub pe_int pe_int) (pa_cons (pe_ix (ix_tupK (K := K)) (pv 0) pe_int (fun _ _ => rfl)) pa_nil))))))
        pss_nil)
        (pss_cons (ps_if (pt_cmpR op_eq (pe_ix (ix_tupK (K := K)) (pv 0) pe_int (fun _ _ => rfl)) pe_str (nomark _))
        (pss_one (ps_ret (pe_and (pe_call G_uis_among (hr.mono (by decide)) (by rfl) T.m_uis_among T.F_uis_among.kp T.b_uis_among .nil pass0 (pa_cons (pe_ix (ix_tupK (K := K)) (pv 0) pe_int (fun _ _ => rfl)) (pa_cons (pe_op op_sub pe_int pe_int) (pa_cons pe_int pa_nil)))) (pe_one (pe_call G_uis_among (hr.mono (by decide)) (by rfl) T.m_uis_among T.F_uis_among.kp T.b_uis_among .nil pass0 (pa_cons (pe_ix (ix_tupK (K := K)) (pv 0) pe_int (fun _ _ => rfl)) (pa_cons (pe_op op_sub pe_int pe_int) (pa_cons pe_int pa_nil))))))))
        pss_nil)
        (pss_cons (ps_if (PW.pt (pw_or (pt_cmpR op_eq (pe_ix (ix_tupK (K := K)) (pv 0) pe_int (fun _ _ => rfl)) pe_str (nomark _)) (pw_or1 (pt_cmpR op_eq (pe_ix (ix_tupK (K := K)) (pv 0) pe_int (fun _ _ => rfl)) pe_str (nomark _)))))
        (pss_one (ps_ret (pe_and (pe_call G_uis_name (hr.mono (by decide)) (by rfl) T.m_uis_name T.F_uis_name.kp T.b_uis_name .nil pass0 (pa_cons (pe_ix (ix_tupK (K := K)) (pv 0) pe_int (fun _ _ => rfl)) pa_nil)) (pe_one (pe_or (pe_cmpR op_eq (pe_callB (call_len_seqK (K := K)) (by rfl) T.z_len PySem.boot_len (pa_cons (pv 0) pa_nil)) pe_int (nomark _)) (pe_one (pe_call G_uis_among (hr.mono (by decide)) (by rfl) T.m_uis_among T.F_uis_among.kp T.b_uis_among .nil pass0 (pa_cons (pe_ix (ix_tupK (K := K)) (pv 0) pe_int (fun _ _ => rfl)) (pa_cons pe_int (pa_cons pe_int pa_nil))))))))))
        pss_nil)
        (pss_cons (ps_if (pt_cmpR op_eq (pe_ix (ix_tupK (K := K)) (pv 0) pe_int (fun _ _ => rfl)) pe_str (nomark _))
        (pss_one (ps_ret pe_bl))
        pss_nil)
        (pss_cons (ps_if (PW.pt (pw_or (pt_not (pt_val (pe_callB (call_isinst (K := K)) (by rfl) T.z_isinstance PyProof.Rows.boot_isinstance (pa_cons (pe_ix (ix_tupK (K := K)) (pv 0) pe_int (fun _ _ => rfl)) (pa_cons (pe_bltn (v := .ty "str") (by rfl) T.z_str PyProof.Rows.boot_str rfl) pa_nil))))) (pw_or1 (pt_cmpR (op_notIn_seqK (K := K)) (pe_ix (ix_tupK (K := K)) (pv 0) pe_int (fun _ _ => rfl)) (pe_tup (pa_cons pe_str (pa_cons pe_str (pa_cons pe_str (pa_cons pe_str pa_nil))))) (by with_unfolding_all rfl)))))
        (pss_one (ps_ret pe_bl))
        pss_nil)
        (pss_cons (ps_if (pt_cmpR op_eq (pe_ix (ix_tupK (K := K)) (pv 0) pe_int (fun _ _ => rfl)) pe_str (nomark _))
        (pss_one (ps_ret (pe_call G_uis_among (hr.mono (by decide)) (by rfl) T.m_uis_among T.F_uis_among.kp T.b_uis_among .nil pass0 (pa_cons (pe_ix (ix_tupK (K := K)) (pv 0) pe_int (fun _ _ => rfl)) (pa_cons pe_int (pa_cons pe_int pa_nil))))))
        pss_nil)
        (pss_cons (ps_if (PW.pt (pw_or (pt_not (pt_val (pe_call G_uis_among (hr.mono (by decide)) (by rfl) T.m_uis_among T.F_uis_among.kp T.b_uis_among .nil pass0 (pa_cons (pe_ix (ix_tupK (K := K)) (pv 0) pe_int (fun _ _ => rfl)) (pa_cons pe_int (pa_cons pe_int pa_nil)))))) (pw_or1 (pt_not (pt_val (pe_call G_uis_among (hr.mono (by decide)) (by rfl) T.m_uis_among T.F_uis_among.kp T.b_uis_among .nil pass0 (pa_cons (pe_ix (ix_tupK (K := K)) (pv 0) pe_int (fun _ _ => rfl)) (pa_cons pe_int (pa_cons (pe_ix (ix_tupK (K := K)) (pv 0) pe_int (fun _ _ => rfl)) pa_nil)))))))))
        (pss_one (ps_ret pe_bl))
        pss_nil)
        (pss_one (ps_ret (pe_cmpR op_le (pe_ix (ix_tupK (K := K)) (pv 0) pe_int (fun _ _ => rfl)) (pe_op op_mul pe_int (pe_ix (ix_tupK (K := K)) (pv 0) pe_int (fun _ _ => rfl))) (nomark _))))))))))))))),?_⟩
    have s0 := Same.refl H
    cases hx with
    | @oth _ g hx hg =>
      refine ⟨_,rfl,x, "tuple", _,_,rfl,hx.ty,kit_tuple _ g,_,rfl,?_⟩
      have e : isT g = false := by cases g <;> first | rfl | exact absurd rfl hg
      rw [e]
      exact iteT (iteT (k H s0))
    | @tup p xs e0 h l =>
      have k : ∀ H',Same H H' → Q (.bl (stepV xs)) H' := k
      have no : stepV xs = false → ∀ H',Same H H' → Q (.bl false) H' := fun q H' s => by have z := k H' s; rw [q] at z; exact z
      have ix : ∀ {H'},Same H H' → SqT K H' p xs := fun s => SqT.of (s _ _ e0)
      refine ⟨_,rfl,_, "tuple", _,true,rfl,(Th.tup e0).ty,rfl,_,rfl,iteF ?_⟩
      refine ⟨_,rfl,p,xs,rfl,.inr (ix s0),_,_,rfl,rfl,_,rfl,iteB (fun q => ?_) fun q => ?_⟩
      · have q : ((xs.length : Nat) : Int) < 3 := of_decide_eq_true q
        refine iteT (no (step_form ?_) H s0)
        cases hf : formV xs with
        | false => rfl
        | true => obtain ⟨_,_,_,n3,_⟩ := form_head hf; omega
      have q : ¬ ((xs.length : Nat) : Int) < 3 := of_decide_eq_false q
      obtain ⟨x0,x1,x2,r,rfl⟩ : ∃ x0 x1 x2 r,xs = x0 :: x1 :: x2 :: r := by
        match xs,q with
        | x0 :: x1 :: x2 :: r,_ => exact ⟨x0,x1,x2,r,rfl⟩
        | [],q => exact absurd (by simp) q
        | [_],q => exact absurd (by simp) q
        | [_,_],q => exact absurd (by simp) q
      obtain ⟨g1,h1⟩ := h x1 (by simp)
      obtain ⟨g2,h2⟩ := h x2 (by simp)
      refine ⟨_,rfl,p,_,1,_,rfl,rfl,ix s0,atI_nat (j := 1) rfl,x1,g1,rfl,h1,fun H1 s1 => ⟨_,rfl,iteB (fun q => ?_) fun q => ?_⟩⟩
      · have q : nameV x1 = false := by simpa using q
        exact no (step_names (.inl q)) H1 s1
      have n1 : nameV x1 = true := by simpa using q
      refine fun pd hpd => ⟨upd_same,LENS,rfl,by decide,?_⟩
      have s2 : Same H (upd (upd H1 pd (.dK [])) pd (.dK (mergeK [] LENS))) := fun b o e => by
        have e1 := s1 _ _ e
        rw [upd_ne (ne_of_none e1 hpd),upd_ne (ne_of_none e1 hpd)]
        exact e1
      have ed : (upd (upd H1 pd (.dK [])) pd (.dK (mergeK [] LENS))) pd = some (.dK LENS) := by rw [upd_same,merge_lens]
      generalize upd (upd H1 pd (.dK [])) pd (.dK (mergeK [] LENS)) = H2 at s2 ed ⊢
      obtain ⟨g0,h0⟩ := h x0 (by simp)
      refine ⟨_,rfl,p,_,0,_,rfl,rfl,ix s2,atI_nat (j := 0) rfl,x0, "str", _,_,rfl,(h0.mono s2).ty,kit_str _ g0,_,rfl,?_⟩
      have notstr : isS g0 = false → stepV (x0 :: x1 :: x2 :: r) = false := fun q => by
        cases h0 with
        | str z hz => exact absurd q (by decide)
        | _ => rfl
      refine iteB (fun q => ?_) fun q => ?_
      · exact iteT (no (notstr (by simpa using q)) H2 s2)
      have q : isS g0 = true := by simpa using q
      obtain ⟨z,rfl⟩ : ∃ z,x0 = .str z := by
        cases h0 with
        | str z hz => exact ⟨z,rfl⟩
        | _ => exact absurd q (by decide)
      have form : formV (.str z :: x1 :: x2 :: r) = (match lenOf z with | some v => decide (V.int (((V.str z :: x1 :: x2 :: r).length : Nat) : Int) = v) | none => false) := rfl
      refine ⟨_,rfl,pd,rfl,.inl ⟨_,.inl ed⟩,_,rfl,p,_,0,_,rfl,rfl,ix s2,atI_nat (j := 0) rfl,lenOf z,.inl ⟨_,.inr z,.inl ed,rfl,rfl⟩,?_⟩
      have next : formV (.str z :: x1 :: x2 :: r) = false → Q (.bl false) H2 := fun q => no (step_form q) H2 s2
      have l0 : ∀ v,lenOf z = some v → ∃ m : Int,v = .int m := fun v q => by
        rcases len_some q with ⟨_,rfl⟩ | ⟨_,rfl⟩ | ⟨_,rfl⟩ | ⟨_,rfl⟩ | ⟨_,rfl⟩ | ⟨_,rfl⟩ | ⟨_,rfl⟩ <;> exact ⟨_,rfl⟩
      obtain ⟨m,hm,hf⟩ : ∃ m : Int,(lenOf z).getD (.int 0) = .int m ∧ (m ≠ (((V.str z :: x1 :: x2 :: r).length : Nat) : Int) → formV (.str z :: x1 :: x2 :: r) = false) ∧ (m = (((V.str z :: x1 :: x2 :: r).length : Nat) : Int) → formV (.str z :: x1 :: x2 :: r) = true) := by
        cases hl : lenOf z with
        | none =>
          rw [form,hl]
          exact ⟨0,rfl,fun _ => rfl,fun q => by rw [List.length_cons] at q; omega⟩
        | some v =>
          obtain ⟨m,rfl⟩ := l0 v hl
          rw [form,hl]
          exact ⟨m,rfl,fun q => decide_eq_false fun q2 => q (V.int.inj q2).symm,fun q => decide_eq_true (by rw [q])⟩
      rw [hm]
      refine ⟨_,rfl,p,_,rfl,.inr (ix s2),rfl,_,rfl,iteB (fun q => ?_) fun q => ?_⟩
      · have q : ¬ V.int m = V.int (((V.str z :: x1 :: x2 :: r).length : Nat) : Int) := of_decide_eq_false (by simpa using q)
        exact iteT (next (hf.1 fun q2 => q (congrArg V.int q2)))
      have q : V.int m = V.int (((V.str z :: x1 :: x2 :: r).length : Nat) : Int) := of_decide_eq_true (by simpa using q)
      have ef := hf.2 (V.int.inj q)
      refine ⟨_,rfl,p,_,2,_,rfl,rfl,ix s2,atI_nat (j := 2) rfl,x2,g2,rfl,h2.mono s2,fun H3 s3 => ⟨_,rfl,iteB (fun q => ?_) fun q => ?_⟩⟩
      · have q : nameV x2 = false := by simpa using q
        exact no (step_names (.inr q)) H3 (s2.trans s3)
      have n2 : nameV x2 = true := by simpa using q
      have s3 := s2.trans s3
      clear hf hm next l0 notstr
      rcases form_shape ef with ⟨a,b,q⟩ | ⟨a,b,c,d,q⟩ | ⟨a,b,c,d,q⟩ | ⟨a,b,c,q⟩ | ⟨a,b,c,d,q⟩ | ⟨a,b,c,d,f,q⟩ | ⟨a,b,c,d,q⟩ <;> cases q
      · rw [v_take,n1,n2] at k
        exact ⟨_,rfl,p,_,0,_,rfl,rfl,ix s3,atI_nat (j := 0) rfl,rfl,_,rfl,neS (by decide) (iteF (⟨_,rfl,p,_,0,_,rfl,rfl,ix s3,atI_nat (j := 0) rfl,rfl,_,rfl,neS (by decide) (⟨_,rfl,p,_,0,_,rfl,rfl,ix s3,atI_nat (j := 0) rfl,rfl,_,rfl,neS (by decide) (⟨_,rfl,p,_,0,_,rfl,rfl,ix s3,atI_nat (j := 0) rfl,rfl,_,rfl,neS (by decide) (⟨_,rfl,p,_,0,_,rfl,rfl,ix s3,atI_nat (j := 0) rfl,rfl,_,rfl,neS (by decide) (⟨_,rfl,p,_,0,_,rfl,rfl,ix s3,atI_nat (j := 0) rfl,rfl,_,rfl,eqS (k H3 s3)⟩)⟩)⟩)⟩)⟩))⟩
      · rw [v_only,n1,n2,Bool.true_and,Bool.true_and,bounds_way] at k
        obtain ⟨gc,hc⟩ := h c (by simp)
        obtain ⟨gd,hd⟩ := h d (by simp)
        refine ⟨_,rfl,p,_,0,_,rfl,rfl,ix s3,atI_nat (j := 0) rfl,rfl,_,rfl,eqS ?_⟩
        refine ⟨_,rfl,p,_,4,_,rfl,rfl,ix s3,atI_nat (j := 4) rfl,_,_,rfl,rfl,d,gd,_,_,rfl,hd.mono s3,fun H4 s4 => ⟨_,rfl,iteB (fun q => ?_) fun q => ?_⟩⟩
        · have q : amongV (0 - 1000000000) 1000000000 d = false := by simpa using q
          rw [q,Bool.false_and] at k
          exact k H4 (s3.trans s4)
        have q : amongV (0 - 1000000000) 1000000000 d = true := by simpa using q
        rw [q,Bool.true_and] at k
        obtain ⟨j,rfl,_⟩ := among_int q
        have s4 := s3.trans s4
        refine ⟨_,rfl,p,_,0,_,rfl,rfl,ix s4,atI_nat (j := 0) rfl,rfl,_,rfl,eqS ?_⟩
        exact ⟨_,rfl,p,_,3,_,rfl,rfl,ix s4,atI_nat (j := 3) rfl,_,_,rfl,rfl,_,rfl,p,_,4,_,rfl,rfl,ix s4,atI_nat (j := 4) rfl,c,gc,_,_,rfl,hc.mono s4,fun H5 s5 => k H5 (s4.trans s5)⟩
      · rw [v_turn,n1,n2,Bool.true_and,Bool.true_and] at k
        obtain ⟨gc,hc⟩ := h c (by simp)
        obtain ⟨gd,hd⟩ := h d (by simp)
        refine ⟨_,rfl,p,_,0,_,rfl,rfl,ix s3,atI_nat (j := 0) rfl,rfl,_,rfl,neS (by decide) (iteF (⟨_,rfl,p,_,0,_,rfl,rfl,ix s3,atI_nat (j := 0) rfl,rfl,_,rfl,neS (by decide) (⟨_,rfl,p,_,0,_,rfl,rfl,ix s3,atI_nat (j := 0) rfl,rfl,_,rfl,eqS ?_⟩)⟩))⟩
        refine ⟨_,rfl,p,_,3,_,rfl,rfl,ix s3,atI_nat (j := 3) rfl,_,_,rfl,rfl,c,gc,_,_,rfl,hc.mono s3,fun H4 s4 => ⟨_,rfl,iteB (fun q => ?_) fun q => ?_⟩⟩
        · have s4 := s3.trans s4
          have q : amongV (-9) 9 c = true := q
          rw [q,Bool.true_and] at k
          exact ⟨_,rfl,p,_,4,_,rfl,rfl,ix s4,atI_nat (j := 4) rfl,_,_,rfl,rfl,d,gd,_,_,rfl,hd.mono s4,fun H5 s5 => k H5 (s4.trans s5)⟩
        · have q : amongV (-9) 9 c = false := q
          rw [q,Bool.false_and] at k
          exact k H4 (s3.trans s4)
      · rw [v_both,n1,n2,Bool.true_and,Bool.true_and] at k
        obtain ⟨gc,hc⟩ := h c (by simp)
        refine ⟨_,rfl,p,_,0,_,rfl,rfl,ix s3,atI_nat (j := 0) rfl,rfl,_,rfl,neS (by decide) (iteF (⟨_,rfl,p,_,0,_,rfl,rfl,ix s3,atI_nat (j := 0) rfl,rfl,_,rfl,neS (by decide) (⟨_,rfl,p,_,0,_,rfl,rfl,ix s3,atI_nat (j := 0) rfl,rfl,_,rfl,neS (by decide) (⟨_,rfl,p,_,0,_,rfl,rfl,ix s3,atI_nat (j := 0) rfl,rfl,_,rfl,eqS ?_⟩)⟩)⟩))⟩
        refine iteT ⟨_,rfl,p,_,3,_,rfl,rfl,ix s3,atI_nat (j := 3) rfl,c,gc,rfl,hc.mono s3,fun H4 s4 => ⟨_,rfl,iteB (fun q => ?_) fun q => ?_⟩⟩
        · have s4 := s3.trans s4
          rw [q] at k
          exact ⟨_,rfl,p,_,rfl,.inr (ix s4),rfl,_,rfl,iteT (k H4 s4)⟩
        · rw [q] at k
          exact k H4 (s3.trans s4)
      · rw [v_join,n1,n2,Bool.true_and,Bool.true_and] at k
        obtain ⟨gc,hc⟩ := h c (by simp)
        obtain ⟨gd,hd⟩ := h d (by simp)
        refine ⟨_,rfl,p,_,0,_,rfl,rfl,ix s3,atI_nat (j := 0) rfl,rfl,_,rfl,neS (by decide) (iteF (⟨_,rfl,p,_,0,_,rfl,rfl,ix s3,atI_nat (j := 0) rfl,rfl,_,rfl,neS (by decide) (⟨_,rfl,p,_,0,_,rfl,rfl,ix s3,atI_nat (j := 0) rfl,rfl,_,rfl,neS (by decide) (⟨_,rfl,p,_,0,_,rfl,rfl,ix s3,atI_nat (j := 0) rfl,rfl,_,rfl,neS (by decide) (⟨_,rfl,p,_,0,_,rfl,rfl,ix s3,atI_nat (j := 0) rfl,rfl,_,rfl,eqS ?_⟩)⟩)⟩)⟩))⟩
        refine ⟨_,rfl,p,_,3,_,rfl,rfl,ix s3,atI_nat (j := 3) rfl,c,gc,rfl,hc.mono s3,fun H4 s4 => ⟨_,rfl,iteB (fun q => ?_) fun q => ?_⟩⟩
        · have s4 := s3.trans s4
          rw [q,Bool.true_and] at k
          exact ⟨_,rfl,p,_,rfl,.inr (ix s4),rfl,_,rfl,iteF ⟨_,rfl,p,_,4,_,rfl,rfl,ix s4,atI_nat (j := 4) rfl,d,gd,_,_,rfl,hd.mono s4,fun H5 s5 => k H5 (s4.trans s5)⟩⟩
        · rw [q,Bool.false_and] at k
          exact k H4 (s3.trans s4)
      · rw [v_each,n1,n2,Bool.true_and,Bool.true_and] at k
        obtain ⟨gc,hc⟩ := h c (by simp)
        obtain ⟨gd,hd⟩ := h d (by simp)
        obtain ⟨gf,hf⟩ := h f (by simp)
        refine ⟨_,rfl,p,_,0,_,rfl,rfl,ix s3,atI_nat (j := 0) rfl,rfl,_,rfl,neS (by decide) (iteF (⟨_,rfl,p,_,0,_,rfl,rfl,ix s3,atI_nat (j := 0) rfl,rfl,_,rfl,neS (by decide) (⟨_,rfl,p,_,0,_,rfl,rfl,ix s3,atI_nat (j := 0) rfl,rfl,_,rfl,neS (by decide) (⟨_,rfl,p,_,0,_,rfl,rfl,ix s3,atI_nat (j := 0) rfl,rfl,_,rfl,neS (by decide) (⟨_,rfl,p,_,0,_,rfl,rfl,ix s3,atI_nat (j := 0) rfl,rfl,_,rfl,neS (by decide) (⟨_,rfl,p,_,0,_,rfl,rfl,ix s3,atI_nat (j := 0) rfl,rfl,_,rfl,neS (by decide) (?_)⟩)⟩)⟩)⟩)⟩))⟩
        refine ⟨_,rfl,p,_,3,_,rfl,rfl,ix s3,atI_nat (j := 3) rfl,c, "str", _,_,rfl,(hc.mono s3).ty,kit_str _ gc,_,rfl,iteB (fun q => ?_) fun q => ?_⟩
        · have q : isS gc = false := by simpa using q
          have e : tallyV c = false := by
            cases hc with
            | str y hy => exact absurd q (by decide)
            | _ => rfl
          rw [e,Bool.false_and] at k
          exact iteT (k H3 s3)
        have q : isS gc = true := by simpa using q
        obtain ⟨y,rfl⟩ : ∃ y,c = .str y := by
          cases hc with
          | str y hy => exact ⟨y,rfl⟩
          | _ => exact absurd q (by decide)
        refine ⟨_,rfl,p,_,3,_,rfl,rfl,ix s3,atI_nat (j := 3) rfl,by show 4 ≤ sizeLine; decide,fun pt hpt => ⟨pt,TAL,rfl,.inr (SqT.of upd_same),rfl,rfl,_,rfl,iteB (fun q => ?_) fun q => ?_⟩⟩
        · have q : inV (.str y) TAL = false := by simpa using q
          have q : tallyV (.str y) = false := q
          rw [q,Bool.false_and] at k
          exact k _ (s3.upd hpt)
        have q : inV (.str y) TAL = true := by simpa using q
        have q : tallyV (.str y) = true := q
        rw [q,Bool.true_and] at k
        have s4 := s3.upd (o := .tup TAL) hpt
        generalize upd H3 pt (.tup TAL) = H4 at s4 ⊢
        refine ⟨_,rfl,p,_,0,_,rfl,rfl,ix s4,atI_nat (j := 0) rfl,rfl,_,rfl,neS (by decide) (?_)⟩
        refine ⟨_,rfl,p,_,4,_,rfl,rfl,ix s4,atI_nat (j := 4) rfl,d,gd,_,_,rfl,hd.mono s4,fun H5 s5 => ⟨_,rfl,iteB (fun q => ?_) fun q => ?_⟩⟩
        · have qd : amongV 1 1000000 d = false := by simpa using q
          have e : windowsV d f = false := windows_no qd
          rw [e] at k
          exact iteT (k H5 (s4.trans s5))
        have qd : amongV 1 1000000 d = true := by simpa using q
        obtain ⟨i,rfl,i1,i2⟩ := among_int qd
        have s5 := s4.trans s5
        refine ⟨_,rfl,p,_,5,_,rfl,rfl,ix s5,atI_nat (j := 5) rfl,_,rfl,p,_,4,_,rfl,rfl,ix s5,atI_nat (j := 4) rfl,f,gf,_,_,rfl,hf.mono s5,fun H6 s6 => ⟨_,rfl,iteB (fun q2 => ?_) fun q2 => ?_⟩⟩
        · have q2 : amongV 1 i f = false := by simpa using q2
          have e : windowsV (.int i) f = false := windows_no2 q2
          rw [e] at k
          exact k H6 (s5.trans s6)
        have q2 : amongV 1 i f = true := by simpa using q2
        obtain ⟨j,rfl,j1,j2⟩ := among_int q2
        have s6 := s5.trans s6
        have k : Q (.bl ((amongV 1 1000000 (.int i) && amongV 1 i (.int j)) && decide (i ≤ 20 * j))) H6 := k H6 s6
        rw [qd,q2] at k
        exact ⟨_,rfl,p,_,4,_,rfl,rfl,ix s6,atI_nat (j := 4) rfl,_,rfl,p,_,5,_,rfl,rfl,ix s6,atI_nat (j := 5) rfl,_,_,rfl,rfl,.inl ⟨by decide,by decide⟩,_,_,rfl,rfl,k⟩
      · rw [v_gap,n1,n2,Bool.true_and,Bool.true_and] at k
        obtain ⟨gc,hc⟩ := h c (by simp)
        obtain ⟨gd,hd⟩ := h d (by simp)
        refine ⟨_,rfl,p,_,0,_,rfl,rfl,ix s3,atI_nat (j := 0) rfl,rfl,_,rfl,neS (by decide) (iteF (⟨_,rfl,p,_,0,_,rfl,rfl,ix s3,atI_nat (j := 0) rfl,rfl,_,rfl,neS (by decide) (⟨_,rfl,p,_,0,_,rfl,rfl,ix s3,atI_nat (j := 0) rfl,rfl,_,rfl,neS (by decide) (⟨_,rfl,p,_,0,_,rfl,rfl,ix s3,atI_nat (j := 0) rfl,rfl,_,rfl,neS (by decide) (⟨_,rfl,p,_,0,_,rfl,rfl,ix s3,atI_nat (j := 0) rfl,rfl,_,rfl,neS (by decide) (⟨_,rfl,p,_,0,_,rfl,rfl,ix s3,atI_nat (j := 0) rfl,rfl,_,rfl,neS (by decide) (?_)⟩)⟩)⟩)⟩)⟩))⟩
        refine ⟨_,rfl,p,_,3,_,rfl,rfl,ix s3,atI_nat (j := 3) rfl,c, "str", _,_,rfl,(hc.mono s3).ty,kit_str _ gc,_,rfl,iteB (fun q => ?_) fun q => ?_⟩
        · have q : isS gc = false := by simpa using q
          have e : tallyV c = false := by
            cases hc with
            | str y hy => exact absurd q (by decide)
            | _ => rfl
          rw [e,Bool.false_and] at k
          exact iteT (k H3 s3)
        have q : isS gc = true := by simpa using q
        obtain ⟨y,rfl⟩ : ∃ y,c = .str y := by
          cases hc with
          | str y hy => exact ⟨y,rfl⟩
          | _ => exact absurd q (by decide)
        refine ⟨_,rfl,p,_,3,_,rfl,rfl,ix s3,atI_nat (j := 3) rfl,by show 4 ≤ sizeLine; decide,fun pt hpt => ⟨pt,TAL,rfl,.inr (SqT.of upd_same),rfl,rfl,_,rfl,iteB (fun q => ?_) fun q => ?_⟩⟩
        · have q : inV (.str y) TAL = false := by simpa using q
          have q : tallyV (.str y) = false := q
          rw [q,Bool.false_and] at k
          exact k _ (s3.upd hpt)
        have q : inV (.str y) TAL = true := by simpa using q
        have q : tallyV (.str y) = true := q
        rw [q,Bool.true_and] at k
        have s4 := s3.upd (o := .tup TAL) hpt
        generalize upd H3 pt (.tup TAL) = H4 at s4 ⊢
        refine ⟨_,rfl,p,_,0,_,rfl,rfl,ix s4,atI_nat (j := 0) rfl,rfl,_,rfl,eqS ?_⟩
        exact ⟨_,rfl,p,_,4,_,rfl,rfl,ix s4,atI_nat (j := 4) rfl,d,gd,_,_,rfl,hd.mono s4,fun H5 s5 => k H5 (s4.trans s5)⟩
def spAt (K : W.Frag) : Sp := fun vs H Q _ => ∃ (a : Addr) (ns : List Int) (i : Int),vs = [.ref a,.int i] ∧ SqL K H a (ns.map V.int) ∧ ns.length ≤ 63 ∧ 0 ≤ i ∧ ∀ j : Int,Q (.int j) H
theorem ok_at (T : Tx w K mg ad) : FnOk P w K mg base CX0 1 ad.a_uat ad.d_uat ["_law_script", "_law_k"] (spAt K) := by
  refine T.F_uat.ok sc_uat (fun vs H Q E h => ?_) (fun cdv A outer s H vs Q E hr h => ?_)
  · obtain ⟨a,ns,i,rfl,_⟩ := h
    rfl
  · obtain ⟨a,ns,i,rfl,hS,hl,h0,k⟩ := h
    have nd := sc_uat.nd
    refine ⟨_,(pss_cons (ps_if (pt_cmpR op_lt (pv 1) (pe_callB (call_len_seqK (K := K)) (by rfl) T.z_len PySem.boot_len (pa_cons (pv 0) pa_nil)) (nomark _))
        (pss_one (ps_ret (pe_ix (ix_listK (K := K)) (pv 0) (pv 1) (fun _ _ => rfl))))
        pss_nil)
        (pss_one (ps_ret pe_int))),?_⟩
    refine ⟨_,rfl,_,rfl,a,_,rfl,.inl hS,_,_,rfl,rfl,_,rfl,iteB (fun e => ?_) fun e => ?_⟩
    · have e := of_decide_eq_true e
      have hlt : i.toNat < ns.length := by
        have e : i < ((ns.map V.int).length : Int) := e
        rw [List.length_map] at e
        omega
      refine ⟨_,rfl,_,rfl,a,_,_,.int ns[i.toNat],rfl,rfl,hS,?_,k _⟩
      have q := atI_nat (xs := ns.map V.int) (j := i.toNat) (v := .int ns[i.toNat]) (by rw [List.getElem?_map,List.getElem?_eq_getElem hlt]; rfl)
      rw [Int.toNat_of_nonneg h0] at q
      exact q
    · exact k 0
def spNumber : Sp := fun vs H Q _ => ∃ c m : Int,vs = [.int c,.int m] ∧ 1 ≤ m ∧ ∀ r : Int,0 ≤ r → r ≤ m → Q (.int r) H
theorem ok_number (T : Tx w K mg ad) : FnOk P w K mg base CX0 1 ad.a_unumber ad.d_unumber ["_law_cell", "_law_most"] spNumber := by
  refine T.F_unumber.ok sc_unumber (fun vs H Q E h => ?_) (fun cdv A outer s H vs Q E hr h => ?_)
  · obtain ⟨c,m,rfl,_⟩ := h
    rfl
  · obtain ⟨c,m,rfl,hm,k⟩ := h
    have nd := sc_unumber.nd
    refine ⟨_,(pss_cons (ps_if (pt_cmpR op_eq (pe_op op_mod (pv 0) pe_int) pe_int (nomark _))
        (pss_one (ps_ret (pe_op op_mod (pe_op op_fdiv (pv 0) pe_int) (pe_op op_add (pv 1) pe_int))))
        pss_nil)
        (pss_cons (ps_if (pt_cmpR op_eq (pe_op op_mod (pv 0) pe_int) pe_int (nomark _))
        (pss_one (ps_ret (pe_op op_sub (pv 1) (pe_op op_mod (pe_op op_fdiv (pv 0) pe_int) pe_int))))
        pss_nil)
        (pss_one (ps_ret (pe_op op_mod (pe_op op_fdiv (pv 0) pe_int) (pe_callB (call_min2 rfl) (by rfl) T.z_min PyProof.Rows.boot_min (pa_cons pe_int (pa_cons (pe_op op_add (pv 1) pe_int) pa_nil)))))))),?_⟩
    have d4 : (0 : Int) < 4 := by decide
    have b2 : 0 ≤ c / 4 % 2 ∧ c / 4 % 2 < 2 := ⟨Int.emod_nonneg _ (by decide),Int.emod_lt_of_pos _ (by decide)⟩
    refine ⟨_,rfl,_,_,rfl,rfl,d4,rfl,_,rfl,iteB (fun _ => ?_) fun _ => ?_⟩
    · have b : 0 ≤ c / 4 % (m + 1) ∧ c / 4 % (m + 1) < m + 1 := ⟨Int.emod_nonneg _ (by omega),Int.emod_lt_of_pos _ (by omega)⟩
      exact ⟨_,rfl,_,_,rfl,rfl,⟨by decide,by decide⟩,_,rfl,_,_,rfl,rfl,_,_,rfl,rfl,(by show (0 : Int) < m + 1; omega),k _ b.1 (by omega)⟩
    refine ⟨_,rfl,_,_,rfl,rfl,d4,rfl,_,rfl,iteB (fun _ => ?_) fun _ => ?_⟩
    · exact ⟨_,rfl,_,rfl,_,_,rfl,rfl,⟨by decide,by decide⟩,_,_,rfl,rfl,(by decide : (0 : Int) < 2),_,_,rfl,rfl,k _ (by omega) (by omega)⟩
    · have p : (0 : Int) < (if m + 1 < 13 then m + 1 else 13) := by split <;> omega
      have b : 0 ≤ c / 4 % (if m + 1 < 13 then m + 1 else 13) ∧ c / 4 % (if m + 1 < 13 then m + 1 else 13) < (if m + 1 < 13 then m + 1 else 13) := ⟨Int.emod_nonneg _ (by omega),Int.emod_lt_of_pos _ p⟩
      have b3 : (if m + 1 < 13 then m + 1 else (13 : Int)) ≤ m + 1 := by split <;> omega
      exact ⟨_,rfl,_,_,rfl,rfl,⟨by decide,by decide⟩,_,rfl,_,_,rfl,rfl,_,_,rfl,_,_,rfl,rfl,p,k _ b.1 (by omega)⟩
def AL (y : Str) : Prop := ∀ c ∈ y.cps.toList,inL (.str ⟨#[c]⟩) = true
theorem len_cps (z : Str) : z.length = z.cps.toList.length := by simp [Str.length]
theorem cps_app (a b : Str) : (a ++ b).cps.toList = a.cps.toList ++ b.cps.toList := by
  show (a.cps ++ b.cps).toList = _
  simp
theorem name_of_AL {y : Str} (h : AL y) (h1 : 1 ≤ y.length) (h2 : y.length ≤ 12) : nameV (.str y) = true := by
  show ((decide ((1 : Int) ≤ (y.length : Int)) && decide ((y.length : Int) ≤ 12)) && (signsV y).all inL) = true
  rw [decide_eq_true (by omega),decide_eq_true (by omega),Bool.true_and,Bool.true_and]
  unfold signsV
  rw [List.all_map,List.all_eq_true]
  exact h
theorem AL.app {a b : Str} (ha : AL a) (hb : AL b) : AL (a ++ b) := fun c hc => by
  rw [cps_app] at hc
  rcases List.mem_append.mp hc with h | h
  · exact ha c h
  · exact hb c h
theorem cut_parts {x : Str} {j : Int} (h0 : 0 ≤ j) (h1 : j ≤ (x.length : Int)) (hx : AL x) : AL (Txt.slice x none (some j)) ∧ AL (Txt.slice x (some j) none) ∧ (Txt.slice x none (some j)).length + (Txt.slice x (some j) none).length = x.length := by
  have e1 : Txt.slice x none (some j) = StrLaws.sliceText x none (some j) := rfl
  have e2 : Txt.slice x (some j) none = StrLaws.sliceText x (some j) none := rfl
  have hl := len_cps x
  rw [e1,e2,StrLaws.sliceText_to ⟨h0,by omega⟩,StrLaws.sliceText_from ⟨h0,by omega⟩]
  refine ⟨fun c hc => hx c (List.mem_of_mem_drop (List.mem_of_mem_take hc)),fun c hc => hx c (List.mem_of_mem_drop (List.mem_of_mem_take hc)),?_⟩
  rw [len_cps,len_cps,len_cps]
  show (List.take _ (List.drop 0 _)).length + (List.take _ (List.drop _ _)).length = _
  rw [List.length_take,List.length_take,List.length_drop,List.length_drop]
  omega
theorem ltr_AL (m : Int) : AL (ltr m) := by
  have hl : LET.cps.toList.length = 26 := by decide +kernel
  have all : ∀ d : Nat,d < 26 → inL (.str ⟨#[LET.cps.toList.getD d 0]⟩) = true := by decide +kernel
  intro c hc
  have h1 : 0 ≤ m % 26 := Int.emod_nonneg _ (by decide)
  have h2 : m % 26 < 26 := Int.emod_lt_of_pos _ (by decide)
  have e : c = LET.cps.toList.getD (m % 26).toNat 0 := by simpa [ltr] using hc
  rw [e]
  exact all _ (by omega)
theorem join_AL : ∀ {zs : List Str},(∀ z ∈ zs,AL z ∧ z.length = 1) → AL (Str.join ⟨#[]⟩ zs) ∧ (Str.join ⟨#[]⟩ zs).length = zs.length
  | [],_ => ⟨fun c hc => absurd (show c ∈ ([] : List Nat) from hc) (by simp),rfl⟩
  | a :: r,h => by
    obtain ⟨i1,i2⟩ := join_AL fun z hz => h z (List.mem_cons_of_mem _ hz)
    obtain ⟨j1,j2⟩ := h a List.mem_cons_self
    rw [PyProof.Rows.join_nil_cons]
    exact ⟨j1.app i1,by rw [PySem.Str.length_append,i2,j2,List.length_cons]; omega⟩
def tailF (t : Int) (n : Nat) : Str := Txt.join "" ((intsV 0 n).map (fun x => match x with | .int j => ltr (t + 5 * j * (1 + t % 3)) | _ => ("" : Str)))
def turnF (c k : Int) : Int := c + 31 * k * (c % 2)
def sizeF (c k : Int) (z : Str) : Int := turnF c k / 26 % (13 - (z.length : Int))
def atF (c n : Int) : Int := if c % 2 = 0 then c / 4 % (n + 1) else n
def calledS (c k : Int) (z : Str) : Str := Txt.slice (tailF (turnF c k) (sizeF c k z).toNat) none (some (atF c (sizeF c k z))) ++ z ++ Txt.slice (tailF (turnF c k) (sizeF c k z).toNat) (some (atF c (sizeF c k z))) none
def spCalled : Sp := fun vs H Q _ => ∃ (c k : Int) (z : Str),vs = [.int c,.int k,.str z] ∧ AL z ∧ 1 ≤ z.length ∧ z.length ≤ 2 ∧ (nameV (.str (calledS c k z)) = true → ∀ H',Same H H' → Q (.str (calledS c k z)) H')
def tAtH : TS := fun D σ H => ∃ (o1 o2 o3 o4 o6 : Option V) (c n : Int),σ = [some (.int c),o1,o2,o3,o4,some (.int n),o6,some (.int n)] ∧ 0 ≤ n ∧ D.nx [some (.int c),o1,o2,o3,o4,some (.int n),o6,some (.int (atF c n))] H
theorem atF_in {c n : Int} (hn : 0 ≤ n) : 0 ≤ atF c n ∧ atF c n ≤ n := by
  unfold atF
  have b : 0 ≤ c / 4 % (n + 1) ∧ c / 4 % (n + 1) < n + 1 := ⟨Int.emod_nonneg _ (by omega),Int.emod_lt_of_pos _ (by omega)⟩
  split <;> omega
theorem at_way : ∀ D σ H,tAtH D σ H → tIfS (tTest (tOp rEq (tOp (rI (fun _ j => 0 < j) fun i j => .int (i % j)) (tVar 0) (tC (.int 2))) (tC (.int 0))))
    (tAsg (tOp (rI (fun _ j => 0 < j) fun i j => .int (i % j)) (tOp (rI CDiv fun i j => .int (i / j)) (tVar 0) (tC (.int 4))) (tOp (rI0 fun i j => .int (i + j)) (tVar 5) (tC (.int 1)))) (gName 7)) tNext D σ H := by
  rintro D σ H ⟨o1,o2,o3,o4,o6,c,n,rfl,hn,q⟩
  unfold atF at q
  refine ⟨_,rfl,_,_,rfl,rfl,(by decide : (0 : Int) < 2),rfl,_,rfl,iteB (fun e => ?_) fun e => ?_⟩
  · have e : c % 2 = 0 := V.int.inj (of_decide_eq_true e)
    rw [if_pos e] at q
    exact ⟨_,rfl,_,_,rfl,rfl,⟨by decide,by decide⟩,_,rfl,_,_,rfl,rfl,_,_,rfl,rfl,(by show (0 : Int) < n + 1; omega),q⟩
  · have e : ¬ c % 2 = 0 := fun z => of_decide_eq_false e (congrArg V.int z)
    rw [if_neg e] at q
    exact q
theorem ok_called (T : Tx w K mg ad) : FnOk P w K mg base CX0 1 ad.a_ucalled ad.d_ucalled ["_law_cell", "_law_k", "_law_signs"] spCalled := by
  refine T.F_ucalled.ok sc_ucalled (fun vs H Q E h => ?_) (fun cdv A outer s H vs Q E hr h => ?_)
  · obtain ⟨c,i,z,rfl,_⟩ := h
    rfl
  · obtain ⟨c,i,z,rfl,hz,hz0,hz1,k⟩ := h
    have nd := sc_ucalled.nd
    refine ⟨_,(pss_cons (ps_set (i := 3) nd rfl (Or.inr rfl) pe_str)
        (pss_cons (ps_set (i := 4) nd rfl (Or.inr rfl) (pe_op op_add (pv 0) (pe_op op_mul (pe_op op_mul pe_int (pv 1)) (pe_op op_mod (pv 0) pe_int))))
        (pss_cons (ps_set (i := 5) nd rfl (Or.inl rfl) (pe_op op_mod (pe_op op_fdiv (pv 4) pe_int) (pe_op op_sub pe_int (pe_callB call_len_str (by rfl) T.z_len PySem.boot_len (pa_cons (pv 2) pa_nil)))))
        (pss_cons (ps_set (i := 6) nd rfl (Or.inl rfl) (pe_bmK (K := K) F.plainAttrs_str F.slot_str_join F.type_str_join (mt_join (K := K)) pe_str (pa_cons (pe_comp1 (osc := defScope s_ucalled) [("_law_letters", 3),("_law_turned", 4)] rfl (pi_range1 (by rfl) T.z_range (pa_cons (pv 5) pa_nil)) rfl rfl (by decide +kernel) (by decide +kernel) (by decide +kernel) ⟨rfl,rfl,rfl,rfl,trivial⟩ rfl (by decide +kernel) (fun _ _ _ _ => pts_nil) (fun _ _ _ _ => (pe_ix ix_str (pv 1) (pe_op op_mod (pe_op op_add (pv 2) (pe_op op_mul (pe_op op_mul pe_int (pv 0)) (pe_op op_add pe_int (pe_op op_mod (pv 2) pe_int)))) pe_int) (fun _ _ => rfl)))) pa_nil)))
        (pss_cons (ps_set (i := 7) nd rfl (Or.inl rfl) (pv 5))
        (pss_cons (ps_weak (t' := tAtH) (ps_if (pt_cmpR op_eq (pe_op op_mod (pv 0) pe_int) pe_int (nomark _))
        (pss_one (ps_set (i := 7) nd rfl (Or.inl rfl) (pe_op op_mod (pe_op op_fdiv (pv 0) pe_int) (pe_op op_add (pv 5) pe_int))))
        pss_nil) at_way)
        (pss_one (ps_ret (pe_op op_add_str (pe_op op_add_str (pe_slice sl_str (pv 6) po_none (po_some (pv 7))) (pv 2)) (pe_slice sl_str (pv 6) (po_some (pv 7)) po_none)))))))))),?_⟩
    have b2 : 0 ≤ c % 2 ∧ c % 2 < 2 := ⟨Int.emod_nonneg _ (by decide),Int.emod_lt_of_pos _ (by decide)⟩
    refine ⟨_,rfl,_,rfl,_,_,rfl,rfl,.inl ⟨by decide,by decide⟩,_,rfl,_,_,rfl,rfl,(by decide : (0 : Int) < 2),_,_,rfl,rfl,.inr ⟨by omega,by omega⟩,_,_,rfl,rfl,?_⟩
    have sz : sizeLine = 16777216 := sizeLine_eq
    refine ⟨_,rfl,_,_,rfl,rfl,⟨by decide,by decide⟩,_,rfl,z,rfl,by omega,_,_,rfl,rfl,_,_,rfl,rfl,(by show (0 : Int) < 13 - (z.length : Int); omega),?_⟩
    have bn : 0 ≤ (c + 31 * i * (c % 2)) / 26 % (13 - (z.length : Int)) ∧ (c + 31 * i * (c % 2)) / 26 % (13 - (z.length : Int)) < 13 - (z.length : Int) := ⟨Int.emod_nonneg _ (by omega),Int.emod_lt_of_pos _ (by omega)⟩
    refine ⟨rfl,_,rfl,_,rfl,by omega,by omega,?_⟩
    refine comp_pure_range (fun _ => true) (fun x => .str (match x with | .int j => ltr ((c + 31 * i * (c % 2)) + 5 * j * (1 + (c + 31 * i * (c % 2)) % 3)) | _ => "")) (by omega) (fun x R _ q => q) (fun x R hx _ q => ?_) fun D hD => ?_
    · obtain ⟨j,_,rfl⟩ := List.mem_map.mp hx
      have h3 : 0 ≤ (c + 31 * i * (c % 2)) % 3 := Int.emod_nonneg _ (by decide)
      have h4 : (c + 31 * i * (c % 2)) % 3 < 3 := Int.emod_lt_of_pos _ (by decide)
      refine ⟨_,rfl,_,rfl,_,rfl,_,_,rfl,rfl,.inl ⟨by decide,by decide⟩,_,rfl,_,_,rfl,rfl,(by decide : (0 : Int) < 3),_,_,rfl,rfl,_,_,rfl,rfl,.inr ⟨by omega,by omega⟩,_,_,rfl,rfl,_,_,rfl,rfl,(by decide : (0 : Int) < 26),?_⟩
      exact ⟨_,_,_,rfl,rfl,by decide +kernel,ltr_at _,q⟩
    · have hall : ∀ y ∈ (intsV 0 ((c + 31 * i * (c % 2)) / 26 % (13 - (z.length : Int))).toNat).map (fun x => match x with | .int j => ltr ((c + 31 * i * (c % 2)) + 5 * j * (1 + (c + 31 * i * (c % 2)) % 3)) | _ => ("" : Str)),AL y ∧ y.length = 1 := fun y hy => by
        obtain ⟨x,hx,rfl⟩ := List.mem_map.mp hy
        obtain ⟨j,_,rfl⟩ := List.mem_map.mp hx
        exact ⟨ltr_AL _,rfl⟩
      obtain ⟨_,j2⟩ := join_le fun y hy => (hall y hy).2
      obtain ⟨g1,g2⟩ := join_AL hall
      have ej : Txt.join "" ((intsV 0 ((c + 31 * i * (c % 2)) / 26 % (13 - (z.length : Int))).toNat).map (fun x => match x with | .int j => ltr ((c + 31 * i * (c % 2)) + 5 * j * (1 + (c + 31 * i * (c % 2)) % 3)) | _ => ("" : Str))) = Str.join ⟨#[]⟩ _ := eq_of_beq (PyProof.Rows.join_plain_closes "" _)
      rw [← ej] at g1 g2
      have hlen : ((intsV 0 ((c + 31 * i * (c % 2)) / 26 % (13 - (z.length : Int))).toNat).map (fun x => match x with | .int j => ltr ((c + 31 * i * (c % 2)) + 5 * j * (1 + (c + 31 * i * (c % 2)) % 3)) | _ => ("" : Str))).length = ((c + 31 * i * (c % 2)) / 26 % (13 - (z.length : Int))).toNat := by
        rw [List.length_map,intsV,List.length_map,List.length_range]
      rw [hlen] at g2 j2
      refine ⟨"", D,(intsV 0 ((c + 31 * i * (c % 2)) / 26 % (13 - (z.length : Int))).toNat).map (fun x => match x with | .int j => ltr ((c + 31 * i * (c % 2)) + 5 * j * (1 + (c + 31 * i * (c % 2)) % 3)) | _ => ("" : Str)),rfl,rfl,SqL.of ?_,?_,?_⟩
      · rw [upd_same,List.filter_eq_self.mpr (fun _ _ => rfl),List.map_map]
        rfl
      · rw [j2,hlen]
        have : (("" : Str)).length = 0 := rfl
        rw [this]
        omega
      have ey : Txt.join "" ((intsV 0 ((c + 31 * i * (c % 2)) / 26 % (13 - (z.length : Int))).toNat).map (fun x => match x with | .int j => ltr ((c + 31 * i * (c % 2)) + 5 * j * (1 + (c + 31 * i * (c % 2)) % 3)) | _ => ("" : Str))) = tailF (turnF c i) (sizeF c i z).toNat := rfl
      rw [ey] at g1 g2 ⊢
      have sm : ∀ o,Same H (upd H D o) := fun o => (Same.refl H).upd hD
      have en : (c + 31 * i * (c % 2)) / 26 % (13 - (z.length : Int)) = sizeF c i z := rfl
      rw [en] at bn g2
      obtain ⟨m0,m1⟩ := atF_in (c := c) bn.1
      refine ⟨_,rfl,_,_,_,_,_,_,_,rfl,bn.1,?_⟩
      obtain ⟨p1,p2,p3⟩ := cut_parts (x := tailF (turnF c i) (sizeF c i z).toNat) (j := atF c (sizeF c i z)) m0 (by omega) g1
      have nv : nameV (.str (calledS c i z)) = true := name_of_AL ((p1.app hz).app p2) (by unfold calledS; rw [PySem.Str.length_append,PySem.Str.length_append]; omega) (by unfold calledS; rw [PySem.Str.length_append,PySem.Str.length_append]; omega)
      have q1 : (Txt.slice (tailF (turnF c i) (sizeF c i z).toNat) none (some (atF c (sizeF c i z)))).length + z.length ≤ sizeLine := by omega
      have q2 : (Txt.slice (tailF (turnF c i) (sizeF c i z).toNat) none (some (atF c (sizeF c i z))) ++ z).length + (Txt.slice (tailF (turnF c i) (sizeF c i z).toNat) (some (atF c (sizeF c i z))) none).length ≤ sizeLine := by rw [PySem.Str.length_append]; omega
      have q3 : (tailF (turnF c i) (sizeF c i z).toNat).length ≤ sizeLine := by omega
      exact ⟨_,rfl,_,rfl,_,rfl,tailF (turnF c i) (sizeF c i z).toNat,rfl,q3,_,rfl,_,_,rfl,rfl,q1,_,rfl,_,rfl,_,rfl,tailF (turnF c i) (sizeF c i z).toNat,rfl,q3,_,_,rfl,rfl,q2,k nv _ (sm _)⟩
def tHi : TS := fun D σ H => ∃ (o0 o1 o2 o3 o4 o5 o6 o8 o11 : Option V) (m lo hi : Int),σ = [o0,o1,o2,o3,o4,o5,o6,some (.int m),o8,some (.int lo),some (.int hi),o11] ∧
  ∀ hi' : Int,D.nx [o0,o1,o2,o3,o4,o5,o6,some (.int m),o8,some (.int lo),some (.int hi'),o11] H
def tLo : TS := fun D σ H => ∃ (o0 o1 o2 o3 o4 o5 o6 o8 o11 : Option V) (m lo hi : Int),σ = [o0,o1,o2,o3,o4,o5,o6,some (.int m),o8,some (.int lo),some (.int hi),o11] ∧ -1000000000 ≤ lo ∧ lo ≤ 1000000000 ∧
  ∀ lo' hi' : Int,-1000000000 ≤ lo' → lo' ≤ 1000000000 → D.nx [o0,o1,o2,o3,o4,o5,o6,some (.int m),o8,some (.int lo'),some (.int hi'),o11] H
theorem wayA : ∀ D σ H,tHi D σ H → tIfS (tTest (tOp rEq (tOp (rI (fun _ j => 0 < j) fun i j => .int (i % j)) (tOp (rI CDiv fun i j => .int (i / j)) (tVar 7) (tC (.int 32))) (tC (.int 2))) (tC (.int 1))))
    (tAsg (tOp (rI0 fun i j => .int (i - j)) (tC (.int 1000000000)) (tCall spNumber [] E0 (tCons (tOp (rI CDiv fun i j => .int (i / j)) (tVar 7) (tC (.int 16))) (tCons (tC (.int 1000000000)) tNil)))) (gName 10)) tNext D σ H := by
  rintro D σ H ⟨o0,o1,o2,o3,o4,o5,o6,o8,o11,m,lo,hi,rfl,q⟩
  refine ⟨_,rfl,_,_,rfl,rfl,⟨by decide,by decide⟩,_,_,rfl,rfl,(by decide : (0 : Int) < 2),rfl,_,rfl,iteB (fun _ => ?_) fun _ => q hi⟩
  exact ⟨_,rfl,_,_,rfl,rfl,⟨by decide,by decide⟩,_,_,rfl,by decide,fun r r0 r1 => ⟨_,_,rfl,rfl,q _⟩⟩
theorem wayB : ∀ D σ H,tLo D σ H → tIfS (tTest (tOp rEq (tOp (rI (fun _ j => 0 < j) fun i j => .int (i % j)) (tOp (rI CDiv fun i j => .int (i / j)) (tVar 7) (tC (.int 64))) (tC (.int 2))) (tC (.int 1))))
    (tSeq (tAsg (tOp (rI0 fun i j => .int (i - j)) (tOp (rI (fun _ j => 0 < j) fun i j => .int (i % j)) (tOp (rI CDiv fun i j => .int (i / j)) (tVar 7) (tC (.int 128))) (tC (.int 21))) (tC (.int 10))) (gName 9))
      (tAsg (tOp (rI0 fun i j => .int (i + j)) (tVar 9) (tOp (rI (fun _ j => 0 < j) fun i j => .int (i % j)) (tOp (rI CDiv fun i j => .int (i / j)) (tVar 7) (tC (.int 2688))) (tC (.int 21)))) (gName 10))) tNext D σ H := by
  rintro D σ H ⟨o0,o1,o2,o3,o4,o5,o6,o8,o11,m,lo,hi,rfl,l0,l1,q⟩
  refine ⟨_,rfl,_,_,rfl,rfl,⟨by decide,by decide⟩,_,_,rfl,rfl,(by decide : (0 : Int) < 2),rfl,_,rfl,iteB (fun _ => ?_) fun _ => q lo hi l0 l1⟩
  have b : 0 ≤ m / 128 % 21 ∧ m / 128 % 21 < 21 := ⟨Int.emod_nonneg _ (by decide),Int.emod_lt_of_pos _ (by decide)⟩
  exact ⟨_,rfl,_,_,rfl,rfl,⟨by decide,by decide⟩,_,_,rfl,rfl,(by decide : (0 : Int) < 21),_,_,rfl,rfl,_,rfl,_,rfl,_,_,rfl,rfl,⟨by decide,by decide⟩,_,_,rfl,rfl,(by decide : (0 : Int) < 21),_,_,rfl,rfl,q _ _ (by omega) (by omega)⟩
def Pl (v : V) : Prop := (∃ i,v = .int i) ∨ ∃ z,v = .str z ∧ z.length ≤ 1000
def Nm (v : V) : Prop := ∃ z,v = .str z ∧ nameV v = true
theorem Nm.pl {v : V} (h : Nm v) : Pl v := by
  obtain ⟨z,rfl,hn⟩ := h
  refine .inr ⟨z,rfl,?_⟩
  have hn : ((decide ((1 : Int) ≤ (z.length : Int)) && decide ((z.length : Int) ≤ 12)) && (signsV z).all inL) = true := hn
  rw [Bool.and_eq_true,Bool.and_eq_true,decide_eq_true_eq,decide_eq_true_eq] at hn
  omega
theorem tal_pl {v : V} (h : v ∈ TAL) : Pl v ∧ tallyV v = true := by
  simp only [List.mem_cons,List.not_mem_nil,or_false] at h
  rcases h with rfl | rfl | rfl | rfl <;> exact ⟨.inr ⟨_,rfl,by decide⟩,by decide +kernel⟩
theorem among_ok {a b i : Int} (h0 : a ≤ i) (h1 : i ≤ b) : amongV a b (.int i) = true := by
  show (decide (a ≤ i) && decide (i ≤ b)) = true
  rw [decide_eq_true h0,decide_eq_true h1]
  rfl
def nmX : List V → V
  | _ :: n :: _ => n
  | _ => .non
def spStepL : Sp := fun vs H Q _ => ∃ (c : Int) (y : V) (la : Addr) (ss : List V) (kz : V),vs = [.int c,y,.ref la,kz] ∧ Nm y ∧ H la = some (.lst ss) ∧ ss.length ≤ 1000 ∧ (∀ v ∈ ss,Nm v) ∧ Nm kz ∧
  ∀ p xs H',Same H H' → H' p = some (.tup xs) → stepV xs = true → (∀ v ∈ xs,Pl v) → nmX xs = y → (∀ v ∈ feedV xs,v ∈ ss) → Q (.ref p) H'
theorem fd_take (a b : V) : feedV [.str "take", a,b] = [] := rfl
theorem fd_one {z : Str} {a b c d : V} (h : z = "only" ∨ z = "turn" ∨ z = "gap") : feedV [.str z,a,b,c,d] = [b] := by rcases h with rfl | rfl | rfl <;> rfl
theorem fd_each (a b c d e : V) : feedV [.str "each", a,b,c,d,e] = [b] := rfl
theorem fd_both (a b c : V) : feedV [.str "both", a,b,c] = [b,c] := rfl
theorem fd_join (a b c d : V) : feedV [.str "join", a,b,c,d] = [b,c] := rfl
theorem ok_step (T : Tx w K mg ad) : FnOk P w K mg base CX0 2 ad.a_ustep ad.d_ustep ["_law_cell", "_law_name", "_law_streams", "_law_kind"] spStepL := by
  have G_unumber := ok_number (P := P) (w := w) (base := base) T
  refine T.F_ustep.ok sc_ustep (fun vs H Q E h => ?_) (fun cdv A outer s H vs Q E hr h => ?_)
  · obtain ⟨c,y,la,ss,kz,rfl,_⟩ := h
    rfl
  · obtain ⟨c,y,la,ss,kz,rfl,hy,ea,hl3,hss,hk,k⟩ := h
    have nd := sc_ustep.nd
    refine ⟨_,(pss_cons (ps_set (i := 4) nd rfl (Or.inl rfl) (pe_op op_mod (pv 0) pe_int))
        (pss_cons (ps_set (i := 5) nd rfl (Or.inl rfl) (pe_ifExp (pt_cmpR (op_neNil (K := K) hr.units0) (pv 2) (pe_lst pa_nil) (nomark _)) (pe_ix (ix_listK (K := K)) (pv 2) (pe_op op_mod (pe_op op_fdiv (pv 0) pe_int) (pe_callB (call_len_seqK (K := K)) (by rfl) T.z_len PySem.boot_len (pa_cons (pv 2) pa_nil))) (fun _ _ => rfl)) pe_str))
        (pss_cons (ps_set (i := 6) nd rfl (Or.inl rfl) (pe_ifExp (pt_cmpR (op_neNil (K := K) hr.units0) (pv 2) (pe_lst pa_nil) (nomark _)) (pe_ix (ix_listK (K := K)) (pv 2) (pe_op op_mod (pe_op op_fdiv (pv 0) pe_int) (pe_callB (call_len_seqK (K := K)) (by rfl) T.z_len PySem.boot_len (pa_cons (pv 2) pa_nil))) (fun _ _ => rfl)) pe_str))
        (pss_cons (ps_set (i := 7) nd rfl (Or.inl rfl) (pe_op op_add (pe_op op_fdiv (pv 0) pe_int) (pe_op op_mod (pe_op op_mul (pe_op op_fdiv (pv 0) pe_int) pe_int) pe_int)))
        (pss_cons (ps_set (i := 8) nd rfl (Or.inl rfl) (pe_ix (ix_listK (K := K)) (pe_lst (pa_cons pe_str (pa_cons pe_str (pa_cons pe_str (pa_cons pe_str pa_nil))))) (pe_op op_mod (pv 7) pe_int) (fun _ _ => rfl)))
        (pss_cons (ps_if (PW.pt (pw_or (pt_cmpR op_lt (pv 4) pe_int (nomark _)) (pw_or1 (pt_cmpR (op_eqNil (K := K) hr.units0) (pv 2) (pe_lst pa_nil) (nomark _)))))
        (pss_one (ps_ret (pe_tup (pa_cons pe_str (pa_cons (pv 1) (pa_cons (pv 3) pa_nil))))))
        pss_nil)
        (pss_cons (ps_if (pt_cmpR op_eq (pv 4) pe_int (nomark _))
        (pss_cons (ps_set (i := 9) nd rfl (Or.inl rfl) (pe_op op_sub (pe_call G_unumber (hr.mono (by decide)) (by rfl) T.m_unumber T.F_unumber.kp T.b_unumber .nil pass0 (pa_cons (pv 7) (pa_cons pe_int pa_nil))) (pe_op op_mul pe_int (pe_op op_mod (pe_op op_fdiv (pv 7) pe_int) pe_int))))
        (pss_cons (ps_set (i := 10) nd rfl (Or.inl rfl) (pe_op op_add (pv 9) (pe_call G_unumber (hr.mono (by decide)) (by rfl) T.m_unumber T.F_unumber.kp T.b_unumber .nil pass0 (pa_cons (pe_op op_fdiv (pv 7) pe_int) (pa_cons pe_int pa_nil)))))
        (pss_cons (ps_weak (t' := tHi) (ps_if (pt_cmpR op_eq (pe_op op_mod (pe_op op_fdiv (pv 7) pe_int) pe_int) pe_int (nomark _))
        (pss_one (ps_set (i := 10) nd rfl (Or.inl rfl) (pe_op op_sub pe_int (pe_call G_unumber (hr.mono (by decide)) (by rfl) T.m_unumber T.F_unumber.kp T.b_unumber .nil pass0 (pa_cons (pe_op op_fdiv (pv 7) pe_int) (pa_cons pe_int pa_nil))))))
        pss_nil) wayA)
        (pss_cons (ps_weak (t' := tLo) (ps_if (pt_cmpR op_eq (pe_op op_mod (pe_op op_fdiv (pv 7) pe_int) pe_int) pe_int (nomark _))
        (pss_cons (ps_set (i := 9) nd rfl (Or.inl rfl) (pe_op op_sub (pe_op op_mod (pe_op op_fdiv (pv 7) pe_int) pe_int) pe_int))
        (pss_one (ps_set (i := 10) nd rfl (Or.inl rfl) (pe_op op_add (pv 9) (pe_op op_mod (pe_op op_fdiv (pv 7) pe_int) pe_int)))))
        pss_nil) wayB)
        (pss_one (ps_ret (pe_tup (pa_cons pe_str (pa_cons (pv 1) (pa_cons (pv 5) (pa_cons (pv 9) (pa_cons (pe_callB (call_max2 rfl) (by rfl) T.z_max PyProof.Rows.boot_max (pa_cons (pv 9) (pa_cons (pe_callB (call_min2 rfl) (by rfl) T.z_min PyProof.Rows.boot_min (pa_cons pe_int (pa_cons (pv 10) pa_nil))) pa_nil))) pa_nil))))))))))))
        pss_nil)
        (pss_cons (ps_if (pt_cmpR op_eq (pv 4) pe_int (nomark _))
        (pss_one (ps_ret (pe_tup (pa_cons pe_str (pa_cons (pv 1) (pa_cons (pv 5) (pa_cons (pe_op op_sub (pe_op op_mod (pe_op op_fdiv (pv 7) pe_int) pe_int) pe_int) (pa_cons (pe_op op_sub (pe_call G_unumber (hr.mono (by decide)) (by rfl) T.m_unumber T.F_unumber.kp T.b_unumber .nil pass0 (pa_cons (pe_op op_fdiv (pv 7) pe_int) (pa_cons pe_int pa_nil))) pe_int) pa_nil))))))))
        pss_nil)
        (pss_cons (ps_if (pt_cmpR op_eq (pv 4) pe_int (nomark _))
        (pss_one (ps_ret (pe_tup (pa_cons pe_str (pa_cons (pv 1) (pa_cons (pv 5) (pa_cons (pv 6) pa_nil)))))))
        pss_nil)
        (pss_cons (ps_if (pt_cmpR op_eq (pv 4) pe_int (nomark _))
        (pss_one (ps_ret (pe_tup (pa_cons pe_str (pa_cons (pv 1) (pa_cons (pv 5) (pa_cons (pv 6) (pa_cons (pe_call G_unumber (hr.mono (by decide)) (by rfl) T.m_unumber T.F_unumber.kp T.b_unumber .nil pass0 (pa_cons (pv 7) (pa_cons pe_int pa_nil))) pa_nil))))))))
        pss_nil)
        (pss_cons (ps_if (pt_cmpR op_eq (pv 4) pe_int (nomark _))
        (pss_cons (ps_set (i := 11) nd rfl (Or.inl rfl) (pe_op op_add pe_int (pe_call G_unumber (hr.mono (by decide)) (by rfl) T.m_unumber T.F_unumber.kp T.b_unumber .nil pass0 (pa_cons (pe_op op_fdiv (pv 7) pe_int) (pa_cons (pe_ix (ix_listK (K := K)) (pe_lst (pa_cons pe_int (pa_cons pe_int pa_nil))) (pe_op op_mod (pe_op op_fdiv (pv 7) pe_int) pe_int) (fun _ _ => rfl)) pa_nil)))))
        (pss_one (ps_ret (pe_tup (pa_cons pe_str (pa_cons (pv 1) (pa_cons (pv 5) (pa_cons (pv 8) (pa_cons (pe_callB (call_min2 rfl) (by rfl) T.z_min PyProof.Rows.boot_min (pa_cons pe_int (pa_cons (pe_op op_add (pv 11) (pe_call G_unumber (hr.mono (by decide)) (by rfl) T.m_unumber T.F_unumber.kp T.b_unumber .nil pass0 (pa_cons (pe_op op_fdiv (pv 7) pe_int) (pa_cons (pe_op op_mul pe_int (pv 11)) pa_nil)))) pa_nil))) (pa_cons (pv 11) pa_nil))))))))))
        pss_nil)
        (pss_one (ps_ret (pe_tup (pa_cons pe_str (pa_cons (pv 1) (pa_cons (pv 5) (pa_cons (pv 8) (pa_cons (pe_call G_unumber (hr.mono (by decide)) (by rfl) T.m_unumber T.F_unumber.kp T.b_unumber .nil pass0 (pa_cons (pe_op op_fdiv (pv 7) pe_int) (pa_cons pe_int pa_nil))) pa_nil))))))))))))))))))),?_⟩
    have ret : ∀ H',Same H H' → ∀ xs,stepV xs = true → (∀ v ∈ xs,Pl v) → nmX xs = y → (∀ v ∈ feedV xs,v ∈ ss) → ∀ p,H' p = none → Q (.ref p) (upd H' p (.tup xs)) := fun H' s xs h1 h2 h3 h4 p hp => k p xs _ (s.upd hp) upd_same h1 h2 h3 h4
    have s0 := Same.refl H
    have ix : ∀ {H'},Same H H' → SqL K H' la ss := fun s => SqL.of (s _ _ ea)
    have sz : ∀ {n : Nat},n ≤ 10 → n ≤ sizeLine := fun h => Nat.le_trans h (by decide)
    have pl3 : ∀ {a b d : V},Pl a → Pl b → Pl d → ∀ v ∈ [a,b,d],Pl v := fun ha hb hd v hv => by
      simp only [List.mem_cons,List.not_mem_nil,or_false] at hv
      rcases hv with rfl | rfl | rfl <;> assumption
    have wd : ∀ {z : Str},z.length ≤ 1000 → Pl (.str z) := fun h => .inr ⟨_,rfl,h⟩
    obtain ⟨_,_,vy⟩ := id hy
    obtain ⟨_,_,vk⟩ := id hk
    refine ⟨_,rfl,_,_,rfl,rfl,(by decide : (0 : Int) < 8),?_⟩
    cases hne : ss.isEmpty with
    | true =>
      refine ⟨_,rfl,Nat.zero_le _,fun l1 hl1 => ?_⟩
      have s1 := s0.upd (o := .lst []) hl1
      refine ⟨la,l1,ss,rfl,rfl,ix s1,SqL.of upd_same,_,rfl,?_⟩
      generalize upd H l1 (.lst []) = H1 at s1 ⊢
      rw [hne]
      refine iteF ⟨_,rfl,Nat.zero_le _,fun l2 hl2 => ?_⟩
      have s2 := s1.upd (o := .lst []) hl2
      refine ⟨la,l2,ss,rfl,rfl,ix s2,SqL.of upd_same,_,rfl,?_⟩
      generalize upd H1 l2 (.lst []) = H2 at s2 ⊢
      rw [hne]
      refine iteF ⟨_,rfl,_,_,rfl,rfl,⟨by decide,by decide⟩,_,rfl,_,_,rfl,rfl,⟨by decide,by decide⟩,_,_,rfl,rfl,.inr ⟨by decide,by decide⟩,_,_,rfl,rfl,(by decide : (0 : Int) < 2147483647),_,_,rfl,rfl,?_⟩
      refine ⟨sz (by decide),fun l3' hl3' => ?_⟩
      obtain ⟨tl,h3,m3⟩ := atI_mod TAL 4 rfl (by decide) (c / 3200 + c / 8 * 48271 % 2147483647)
      refine ⟨_,rfl,_,_,rfl,rfl,(by decide : (0 : Int) < 4),l3',_,_,tl,rfl,rfl,SqL.of upd_same,h3,?_⟩
      have s3 := s2.upd (o := .lst TAL) hl3'
      generalize upd H2 l3' (.lst TAL) = H3 at s3 ⊢
      have tk : ∀ H',Same H H' → ∀ p,H' p = none → Q (.ref p) (upd H' p (.tup [.str "take", y,kz])) := fun H' s p hp => ret H' s _ (by rw [v_take,vy,vk]; rfl) (pl3 (wd (by decide)) hy.pl hk.pl) rfl (fun v hv => by rw [fd_take] at hv; cases hv) p hp
      refine ⟨_,rfl,_,_,rfl,rfl,_,rfl,iteB (fun _ => ?_) fun _ => ?_⟩
      · exact iteT ⟨_,rfl,_,rfl,sz (by show (_ : Nat) ≤ 10; simp only [List.length_cons,List.length_nil]; omega),fun p hp => tk H3 s3 p hp⟩
      refine ⟨_,rfl,Nat.zero_le _,fun l4 hl4 => ?_⟩
      have s4 := s3.upd (o := .lst []) hl4
      refine ⟨la,l4,ss,rfl,rfl,ix s4,SqL.of upd_same,_,rfl,?_⟩
      generalize upd H3 l4 (.lst []) = H4 at s4 ⊢
      rw [hne]
      exact iteT ⟨_,rfl,_,rfl,sz (by show (_ : Nat) ≤ 10; simp only [List.length_cons,List.length_nil]; omega),fun p hp => tk H4 s4 p hp⟩
    | false =>
      have hpos : 0 < ss.length := by
        cases ss with
        | nil => cases hne
        | cons _ _ => exact Nat.succ_pos _
      refine ⟨_,rfl,Nat.zero_le _,fun l1 hl1 => ?_⟩
      have s1 := s0.upd (o := .lst []) hl1
      refine ⟨la,l1,ss,rfl,rfl,ix s1,SqL.of upd_same,_,rfl,?_⟩
      generalize upd H l1 (.lst []) = H1 at s1 ⊢
      rw [hne]
      obtain ⟨one,h1,m1⟩ := atI_mod ss ((ss.length : Nat) : Int) rfl (by omega) (c / 8)
      refine iteT ⟨_,rfl,_,rfl,_,_,rfl,rfl,⟨by decide,by decide⟩,_,rfl,la,_,rfl,.inl (ix s1),_,_,rfl,rfl,(by show (0 : Int) < ((ss.length : Nat) : Int); omega),la,_,_,one,rfl,rfl,ix s1,h1,?_⟩
      refine ⟨_,rfl,Nat.zero_le _,fun l2 hl2 => ?_⟩
      have s2 := s1.upd (o := .lst []) hl2
      refine ⟨la,l2,ss,rfl,rfl,ix s2,SqL.of upd_same,_,rfl,?_⟩
      generalize upd H1 l2 (.lst []) = H2 at s2 ⊢
      rw [hne]
      obtain ⟨two,h2,m2⟩ := atI_mod ss ((ss.length : Nat) : Int) rfl (by omega) (c / 160)
      refine iteT ⟨_,rfl,_,rfl,_,_,rfl,rfl,⟨by decide,by decide⟩,_,rfl,la,_,rfl,.inl (ix s2),_,_,rfl,rfl,(by show (0 : Int) < ((ss.length : Nat) : Int); omega),la,_,_,two,rfl,rfl,ix s2,h2,?_⟩
      have n1 := hss one m1
      have n2 := hss two m2
      obtain ⟨_,_,v1⟩ := id n1
      obtain ⟨_,_,v2⟩ := id n2
      refine ⟨_,rfl,_,_,rfl,rfl,⟨by decide,by decide⟩,_,rfl,_,_,rfl,rfl,⟨by decide,by decide⟩,_,_,rfl,rfl,.inr ⟨by decide,by decide⟩,_,_,rfl,rfl,(by decide : (0 : Int) < 2147483647),_,_,rfl,rfl,?_⟩
      refine ⟨sz (by decide),fun l3' hl3' => ?_⟩
      obtain ⟨tl,h3,m3⟩ := atI_mod TAL 4 rfl (by decide) (c / 3200 + c / 8 * 48271 % 2147483647)
      obtain ⟨pt,vt⟩ := tal_pl m3
      refine ⟨_,rfl,_,_,rfl,rfl,(by decide : (0 : Int) < 4),l3',_,_,tl,rfl,rfl,SqL.of upd_same,h3,?_⟩
      have s3 := s2.upd (o := .lst TAL) hl3'
      generalize upd H2 l3' (.lst TAL) = H3 at s3 ⊢
      refine ⟨_,rfl,_,_,rfl,rfl,_,rfl,iteB (fun _ => ?_) fun _ => ?_⟩
      · refine iteT ⟨_,rfl,_,rfl,sz (by show (_ : Nat) ≤ 10; simp only [List.length_cons,List.length_nil]; omega),fun p hp => ret H3 s3 _ ?_ (pl3 (wd (by decide)) hy.pl hk.pl) rfl (fun v hv => by rw [fd_take] at hv; cases hv) p hp⟩
        rw [v_take,vy,vk]
        rfl
      refine ⟨_,rfl,Nat.zero_le _,fun l4 hl4 => ?_⟩
      have s4 := s3.upd (o := .lst []) hl4
      refine ⟨la,l4,ss,rfl,rfl,ix s4,SqL.of upd_same,_,rfl,?_⟩
      generalize upd H3 l4 (.lst []) = H4 at s4 ⊢
      rw [hne]
      refine iteF ?_
      have pl5 : ∀ {a b d e f : V},Pl a → Pl b → Pl d → Pl e → Pl f → ∀ v ∈ [a,b,d,e,f],Pl v := fun ha hb hd he hf v hv => by
        simp only [List.mem_cons,List.not_mem_nil,or_false] at hv
        rcases hv with rfl | rfl | rfl | rfl | rfl <;> assumption
      have it : ∀ {i : Int},Pl (.int i) := .inl ⟨_,rfl⟩
      refine ⟨_,rfl,rfl,_,rfl,iteB (fun _ => ?_) fun _ => ?_⟩
      · have b8 : 0 ≤ (c / 3200 + c / 8 * 48271 % 2147483647) / 8 % 2 ∧ (c / 3200 + c / 8 * 48271 % 2147483647) / 8 % 2 < 2 := ⟨Int.emod_nonneg _ (by decide),Int.emod_lt_of_pos _ (by decide)⟩
        refine ⟨_,rfl,_,_,rfl,by decide,fun r r0 r1 => ⟨_,rfl,_,_,rfl,rfl,⟨by decide,by decide⟩,_,_,rfl,rfl,(by decide : (0 : Int) < 2),_,_,rfl,rfl,.inl ⟨by decide,by decide⟩,_,_,rfl,rfl,?_⟩⟩
        refine ⟨_,rfl,_,rfl,_,_,rfl,rfl,⟨by decide,by decide⟩,_,_,rfl,by decide,fun r' r2 r3 => ⟨_,_,rfl,rfl,?_⟩⟩
        refine ⟨_,_,_,_,_,_,_,_,_,_,_,_,rfl,fun hi => ?_⟩
        refine ⟨_,_,_,_,_,_,_,_,_,_,_,_,rfl,by omega,by omega,fun lo hi' b0 b1 => ?_⟩
        refine ⟨_,rfl,_,rfl,_,rfl,_,rfl,_,rfl,_,_,rfl,_,_,rfl,sz (by show (_ : Nat) ≤ 10; simp only [List.length_cons,List.length_nil]; omega),fun p hp => ret H4 s4 _ ?_ (pl5 (wd (by decide)) hy.pl n1.pl it it) rfl (fun v hv => by rw [fd_one (by simp)] at hv; rw [List.mem_singleton.mp hv]; exact m1) p hp⟩
        rw [v_only,vy,v1]
        show (((decide (-1000000000 ≤ lo) && decide (lo ≤ 1000000000)) && (decide (-1000000000 ≤ _) && decide (_ ≤ (1000000000 : Int)))) && decide (lo ≤ _)) = true
        rw [Bool.and_eq_true,Bool.and_eq_true,Bool.and_eq_true,Bool.and_eq_true,decide_eq_true_eq,decide_eq_true_eq,decide_eq_true_eq,decide_eq_true_eq,decide_eq_true_eq]
        refine ⟨⟨⟨b0,b1⟩,?_,?_⟩,?_⟩ <;> (split <;> split <;> omega)
      refine ⟨_,rfl,rfl,_,rfl,iteB (fun _ => ?_) fun _ => ?_⟩
      · have b19 : 0 ≤ (c / 3200 + c / 8 * 48271 % 2147483647) / 4 % 19 ∧ (c / 3200 + c / 8 * 48271 % 2147483647) / 4 % 19 < 19 := ⟨Int.emod_nonneg _ (by decide),Int.emod_lt_of_pos _ (by decide)⟩
        refine ⟨_,rfl,_,rfl,_,rfl,_,_,rfl,rfl,⟨by decide,by decide⟩,_,_,rfl,rfl,(by decide : (0 : Int) < 19),_,_,rfl,rfl,_,rfl,_,_,rfl,rfl,⟨by decide,by decide⟩,_,_,rfl,by decide,fun r r0 r1 => ⟨_,_,rfl,rfl,sz (by show (_ : Nat) ≤ 10; simp only [List.length_cons,List.length_nil]; omega),fun p hp => ret H4 s4 _ ?_ (pl5 (wd (by decide)) hy.pl n1.pl it it) rfl (fun v hv => by rw [fd_one (by simp)] at hv; rw [List.mem_singleton.mp hv]; exact m1) p hp⟩⟩
        rw [v_turn,vy,v1]
        rw [among_ok (by omega) (by omega),among_ok (by omega) (by omega)]
        rfl
      refine ⟨_,rfl,rfl,_,rfl,iteB (fun _ => ?_) fun _ => ?_⟩
      · refine ⟨_,rfl,_,rfl,_,rfl,sz (by show (_ : Nat) ≤ 10; simp only [List.length_cons,List.length_nil]; omega),fun p hp => ret H4 s4 _ ?_ (fun v hv => ?_) rfl (fun v hv => by rw [fd_both] at hv; simp only [List.mem_cons,List.not_mem_nil,or_false] at hv; rcases hv with rfl | rfl; exact m1; exact m2) p hp⟩
        · rw [v_both,vy,v1,v2]
          rfl
        · simp only [List.mem_cons,List.not_mem_nil,or_false] at hv
          rcases hv with rfl | rfl | rfl | rfl
          · exact wd (by decide)
          · exact hy.pl
          · exact n1.pl
          · exact n2.pl
      refine ⟨_,rfl,rfl,_,rfl,iteB (fun _ => ?_) fun _ => ?_⟩
      · refine ⟨_,rfl,_,rfl,_,rfl,_,rfl,_,_,rfl,by decide,fun r r0 r1 => ⟨sz (by show (_ : Nat) ≤ 10; simp only [List.length_cons,List.length_nil]; omega),fun p hp => ret H4 s4 _ ?_ (pl5 (wd (by decide)) hy.pl n1.pl n2.pl it) rfl (fun v hv => by rw [fd_join] at hv; simp only [List.mem_cons,List.not_mem_nil,or_false] at hv; rcases hv with rfl | rfl; exact m1; exact m2) p hp⟩⟩
        rw [v_join,vy,v1,v2,among_ok r0 r1]
        rfl
      refine ⟨_,rfl,rfl,_,rfl,iteB (fun _ => ?_) fun _ => ?_⟩
      · obtain ⟨mx,h5,m5⟩ := atI_mod [V.int 49999,V.int 999999] 2 rfl (by decide) ((c / 3200 + c / 8 * 48271 % 2147483647) / 256)
        obtain ⟨M,rfl,hM⟩ : ∃ M : Int,mx = .int M ∧ 1 ≤ M ∧ M ≤ 999999 := by
          simp only [List.mem_cons,List.not_mem_nil,or_false] at m5
          rcases m5 with rfl | rfl
          · exact ⟨_,rfl,by decide,by decide⟩
          · exact ⟨_,rfl,by decide,by decide⟩
        refine ⟨_,rfl,_,_,rfl,rfl,⟨by decide,by decide⟩,sz (by decide),fun l5 hl5 => ?_⟩
        refine ⟨_,rfl,_,_,rfl,rfl,⟨by decide,by decide⟩,_,_,rfl,rfl,(by decide : (0 : Int) < 2),l5,_,_,_,rfl,rfl,SqL.of upd_same,h5,_,_,rfl,hM.1,fun r r0 r1 => ⟨_,_,rfl,rfl,?_⟩⟩
        have s5 := s4.upd (o := .lst [V.int 49999,V.int 999999]) hl5
        generalize upd H4 l5 (.lst [V.int 49999,V.int 999999]) = H5 at s5 ⊢
        refine ⟨_,rfl,_,rfl,_,rfl,_,rfl,_,rfl,_,_,rfl,rfl,⟨by decide,by decide⟩,_,rfl,_,_,rfl,rfl,.inl ⟨by decide,by decide⟩,_,_,rfl,by omega,fun r' r2 r3 => ⟨_,_,rfl,rfl,_,_,rfl,_,rfl,sz (by show (_ : Nat) ≤ 10; simp only [List.length_cons,List.length_nil]; omega),fun p hp => ret H5 s5 _ ?_ (fun v hv => ?_) rfl (fun v hv => by rw [fd_each] at hv; rw [List.mem_singleton.mp hv]; exact m1) p hp⟩⟩
        · rw [v_each,vy,v1,vt]
          show ((amongV 1 1000000 (.int _) && amongV 1 _ (.int (1 + r))) && decide (_ ≤ 20 * (1 + r))) = true
          have b : (1 : Int) ≤ (if (1 + r) + r' < 1000000 then (1 + r) + r' else 1000000) ∧ (if (1 + r) + r' < 1000000 then (1 + r) + r' else 1000000) ≤ 1000000 ∧ 1 + r ≤ (if (1 + r) + r' < 1000000 then (1 + r) + r' else 1000000) ∧ (if (1 + r) + r' < 1000000 then (1 + r) + r' else 1000000) ≤ 20 * (1 + r) := by
            split <;> omega
          rw [among_ok b.1 b.2.1,among_ok (by omega) b.2.2.1,decide_eq_true b.2.2.2]
          rfl
        · simp only [List.mem_cons,List.not_mem_nil,or_false] at hv
          rcases hv with rfl | rfl | rfl | rfl | rfl | rfl
          · exact wd (by decide)
          · exact hy.pl
          · exact n1.pl
          · exact pt
          · exact it
          · exact it
      refine ⟨_,rfl,_,rfl,_,rfl,_,rfl,_,_,rfl,rfl,⟨by decide,by decide⟩,_,_,rfl,by decide,fun r r0 r1 => ⟨sz (by show (_ : Nat) ≤ 10; simp only [List.length_cons,List.length_nil]; omega),fun p hp => ret H4 s4 _ ?_ (pl5 (wd (by decide)) hy.pl n1.pl pt it) rfl (fun v hv => by rw [fd_one (by simp)] at hv; rw [List.mem_singleton.mp hv]; exact m1) p hp⟩⟩
      rw [v_gap,vy,v1,vt,among_ok r0 r1]
      rfl
theorem step_is_form {xs : List V} (h : stepV xs = true) : formV xs = true := by
  cases hf : formV xs with
  | true => rfl
  | false => rw [step_form hf] at h; exact absurd h Bool.false_ne_true
theorem nm_letters {z : Str} (h : nameV (.str z) = true) : PyData.strOk z = true := by
  have h : ((decide ((1 : Int) ≤ (z.length : Int)) && decide ((z.length : Int) ≤ 12)) && (signsV z).all inL) = true := h
  rw [Bool.and_eq_true] at h
  have ha := h.2
  unfold signsV at ha
  rw [List.all_map,List.all_eq_true] at ha
  unfold PyData.strOk
  rw [← Array.all_toList,List.all_eq_true]
  intro c hc
  have q : inL (.str ⟨#[c]⟩) = true := ha c hc
  have q : (!(Builtin.Str.occurrences LET ⟨#[c]⟩ 0 LET.length 1).isEmpty) = true := q
  rw [StrLaws.found_one LET c] at q
  have m : c ∈ LET.cps.toList := of_decide_eq_true q
  have all : ∀ c ∈ LET.cps.toList,c < 0x110000 := by decide +kernel
  exact decide_eq_true (all c m)
theorem step_feed {xs : List V} (h : stepV xs = true) : ∀ v ∈ feedV xs,Nm v := by
  have nm : ∀ {v : V},nameV v = true → Nm v := fun {v} q => by
    cases v with
    | str z => exact ⟨z,rfl,q⟩
    | _ => exact absurd q Bool.false_ne_true
  have hf := step_is_form h
  rcases form_shape hf with ⟨a,b,rfl⟩ | ⟨a,b,c,d,rfl⟩ | ⟨a,b,c,d,rfl⟩ | ⟨a,b,c,rfl⟩ | ⟨a,b,c,d,rfl⟩ | ⟨a,b,c,d,e,rfl⟩ | ⟨a,b,c,d,rfl⟩
  · intro v hv; exact absurd (show v ∈ ([] : List V) from hv) (by simp)
  · rw [v_only] at h; simp only [Bool.and_eq_true] at h
    intro v hv
    have hv : v ∈ [b] := hv
    rw [List.mem_singleton.mp hv]; exact nm h.1.2
  · rw [v_turn] at h; simp only [Bool.and_eq_true] at h
    intro v hv
    have hv : v ∈ [b] := hv
    rw [List.mem_singleton.mp hv]; exact nm h.1.2
  · rw [v_both] at h; simp only [Bool.and_eq_true] at h
    intro v hv
    have hv : v ∈ [b,c] := hv
    simp only [List.mem_cons,List.not_mem_nil,or_false] at hv
    rcases hv with rfl | rfl
    · exact nm h.1.2
    · exact nm h.2
  · rw [v_join] at h; simp only [Bool.and_eq_true] at h
    intro v hv
    have hv : v ∈ [b,c] := hv
    simp only [List.mem_cons,List.not_mem_nil,or_false] at hv
    rcases hv with rfl | rfl
    · exact nm h.1.2
    · exact nm h.2.1
  · rw [v_each] at h; simp only [Bool.and_eq_true] at h
    intro v hv
    have hv : v ∈ [b] := hv
    rw [List.mem_singleton.mp hv]; exact nm h.1.2
  · rw [v_gap] at h; simp only [Bool.and_eq_true] at h
    intro v hv
    have hv : v ∈ [b] := hv
    rw [List.mem_singleton.mp hv]; exact nm h.1.2
abbrev chL (j : Nat) : Str := ⟨#[LET.cps.toList.getD j 0]⟩
theorem chL_at (j : Nat) (h : j < 26) : atI LET.cps.toList (j : Int) = some (LET.cps.toList.getD j 0) := by
  refine atI_nat ?_
  have hl : LET.cps.toList.length = 26 := by decide +kernel
  rw [List.getElem?_eq_getElem (by omega),List.getD_eq_getElem?_getD,List.getElem?_eq_getElem (by omega)]
  rfl
theorem chL_AL (j : Nat) (h : j < 26) : AL (chL j) := by
  have all : ∀ d : Nat,d < 26 → inL (.str ⟨#[LET.cps.toList.getD d 0]⟩) = true := by decide +kernel
  intro c hc
  have e : c = LET.cps.toList.getD j 0 := by simpa [chL] using hc
  rw [e]
  exact all _ h
def WD13 : List Str := ["take", "only", "turn", "both", "join", "each", "gap", "count", "sum", "least", "greatest", "late", "end"]
theorem wd13_name : ∀ z ∈ WD13,nameV (.str z) = true := by decide +kernel
def snF (b k : Int) (z : Str) : Str := if b % 9 = 4 then WD13.getD ((k + b / 9) % 13).toNat "" else calledS b k z
def nmF (most b : Int) (k : Nat) : Str := if most = 12 then snF b (k : Int) (chL 0 ++ chL k) else calledS b (k : Int) (chL (k / 26) ++ chL (k % 26))
theorem len2 (i j : Nat) : (chL i ++ chL j).length = 2 := by rw [PySem.Str.length_append]; rfl
theorem shape {xs : List V} (h : stepV xs = true) : ∃ z n b r,xs = .str z :: n :: b :: r ∧ ((z = "take" ∧ feedV xs = []) ∨ (z ≠ "take" ∧ z ≠ "both" ∧ z ≠ "join" ∧ feedV xs = [b]) ∨ (z ≠ "take" ∧ (z = "both" ∨ z = "join") ∧ ∃ c r',r = c :: r' ∧ feedV xs = [b,c])) := by
  rcases form_shape (step_is_form h) with ⟨a,b,rfl⟩ | ⟨a,b,c,d,rfl⟩ | ⟨a,b,c,d,rfl⟩ | ⟨a,b,c,rfl⟩ | ⟨a,b,c,d,rfl⟩ | ⟨a,b,c,d,e,rfl⟩ | ⟨a,b,c,d,rfl⟩
  · exact ⟨_,_,_,_,rfl,.inl ⟨rfl,rfl⟩⟩
  · exact ⟨_,_,_,_,rfl,.inr (.inl ⟨by decide,by decide,by decide,rfl⟩)⟩
  · exact ⟨_,_,_,_,rfl,.inr (.inl ⟨by decide,by decide,by decide,rfl⟩)⟩
  · exact ⟨_,_,_,_,rfl,.inr (.inr ⟨by decide,.inl rfl,_,_,rfl,rfl⟩)⟩
  · exact ⟨_,_,_,_,rfl,.inr (.inr ⟨by decide,.inr rfl,_,_,rfl,rfl⟩)⟩
  · exact ⟨_,_,_,_,rfl,.inr (.inl ⟨by decide,by decide,by decide,rfl⟩)⟩
  · exact ⟨_,_,_,_,rfl,.inr (.inl ⟨by decide,by decide,by decide,rfl⟩)⟩
def Wd (kvs : List (Key × V)) : Prop := ∀ q ∈ kvs,(∃ z,q.1 = .inr z ∧ nameV (.str z) = true) ∧ ∃ n,q.2 = .int n
theorem wd_get {kvs : List (Key × V)} (h : Wd kvs) {v : V} (hv : v ∈ kvs.map fun p => kV p.1) : ∃ k n,v = kV k ∧ some (V.int n) = valV kvs k := by
  obtain ⟨q,hq,rfl⟩ := List.mem_map.mp hv
  refine ⟨q.1,?_⟩
  have hs : (kvs.find? fun kv => decide (kv.1 = q.1)).isSome = true := List.find?_isSome.mpr ⟨q,hq,decide_eq_true rfl⟩
  obtain ⟨r,hr⟩ := Option.isSome_iff_exists.mp hs
  have hm := List.mem_of_find?_eq_some hr
  obtain ⟨n,hn⟩ := (h r hm).2
  refine ⟨n,rfl,?_⟩
  unfold valV
  rw [hr,← hn]
  rfl
theorem wd_put {kvs : List (Key × V)} (h : Wd kvs) {z : Str} (hz : nameV (.str z) = true) (n : Int) : Wd (putK kvs (.inr z) (.int n)) := by
  intro q hq
  unfold putK at hq
  split at hq
  · obtain ⟨r,hr,e⟩ := List.mem_map.mp hq
    split at e
    · subst e
      exact ⟨(h r hr).1,n,rfl⟩
    · subst e
      exact h r hr
  · rcases List.mem_append.mp hq with hq | hq
    · exact h q hq
    · rw [List.mem_singleton.mp hq]
      exact ⟨⟨z,rfl,hz⟩,n,rfl⟩
theorem put_len (kvs : List (Key × V)) (k : Key) (v : V) : (putK kvs k v).length ≤ kvs.length + 1 := by
  unfold putK
  split
  · rw [List.length_map]; omega
  · rw [List.length_append,List.length_singleton]; exact Nat.le_refl _
def spWide : Sp := fun vs H Q _ => ∃ p xs d kvs,vs = [.ref p,.ref d] ∧ H p = some (.tup xs) ∧ stepV xs = true ∧ H d = some (.dK kvs) ∧ Wd kvs ∧ (∀ v ∈ feedV xs,v ∈ kvs.map fun p => kV p.1) ∧ ∀ n : Int,Q (.int n) H
theorem ok_wide (T : Tx w K mg ad) : FnOk P w K mg base CX0 1 ad.a_uwide ad.d_uwide ["_law_step_here", "_law_widths"] spWide := by
  refine T.F_uwide.ok sc_uwide (fun vs H Q E h => ?_) (fun cdv A outer s H vs Q E hr h => ?_)
  · obtain ⟨p,xs,d,kvs,rfl,_⟩ := h
    rfl
  · obtain ⟨p,xs,d,kvs,rfl,e,hs,ed,hw,hf,k⟩ := h
    have nd := sc_uwide.nd
    refine ⟨_,(pss_cons (ps_if (pt_cmpR op_eq (pe_ix (ix_tupK (K := K)) (pv 0) pe_int (fun _ _ => rfl)) pe_str (nomark _))
        (pss_one (ps_ret pe_int))
        pss_nil)
        (pss_cons (ps_if (PW.pt (pw_or (pt_cmpR op_eq (pe_ix (ix_tupK (K := K)) (pv 0) pe_int (fun _ _ => rfl)) pe_str (nomark _)) (pw_or1 (pt_cmpR op_eq (pe_ix (ix_tupK (K := K)) (pv 0) pe_int (fun _ _ => rfl)) pe_str (nomark _)))))
        (pss_one (ps_ret (pe_op op_add (pe_dget hr.u1 (pv 1) (pe_ix (ix_tupK (K := K)) (pv 0) pe_int (fun _ _ => rfl)) (fun _ _ => rfl)) (pe_dget hr.u1 (pv 1) (pe_ix (ix_tupK (K := K)) (pv 0) pe_int (fun _ _ => rfl)) (fun _ _ => rfl)))))
        pss_nil)
        (pss_one (ps_ret (pe_dget hr.u1 (pv 1) (pe_ix (ix_tupK (K := K)) (pv 0) pe_int (fun _ _ => rfl)) (fun _ _ => rfl)))))),?_⟩
    obtain ⟨z,n,b,r,rfl,sh⟩ := shape hs
    have i0 : atI (V.str z :: n :: b :: r) 0 = some (.str z) := atI_nat (j := 0) rfl
    have i2 : atI (V.str z :: n :: b :: r) 2 = some b := atI_nat (j := 2) rfl
    refine ⟨_,rfl,p,_,_,_,rfl,rfl,SqT.of e,i0,rfl,_,rfl,?_⟩
    rcases sh with ⟨rfl,_⟩ | ⟨z1,z2,z3,ef⟩ | ⟨z1,z2,c,r',rfl,ef⟩
    · exact eqS (k 1)
    · refine neS z1 ⟨_,rfl,p,_,_,_,rfl,rfl,SqT.of e,i0,rfl,_,rfl,neS z2 ⟨_,rfl,p,_,_,_,rfl,rfl,SqT.of e,i0,rfl,_,rfl,neS z3 ?_⟩⟩
      obtain ⟨kb,nb,rfl,eb⟩ := wd_get hw (hf b (by rw [ef]; exact List.mem_singleton.mpr rfl))
      exact ⟨_,rfl,_,rfl,p,_,_,_,rfl,rfl,SqT.of e,i2,d,_,rfl,.inl ⟨kvs,kb,.inl ed,rfl,eb⟩,k nb⟩
    · have i3 : atI (V.str z :: n :: b :: c :: r') 3 = some c := atI_nat (j := 3) rfl
      obtain ⟨kb,nb,rfl,eb⟩ := wd_get hw (hf b (by rw [ef]; exact List.mem_cons_self))
      obtain ⟨kc,nc,rfl,ec⟩ := wd_get hw (hf c (by rw [ef]; exact List.mem_cons_of_mem _ List.mem_cons_self))
      refine neS z1 ⟨_,rfl,p,_,_,_,rfl,rfl,SqT.of e,i0,rfl,_,rfl,?_⟩
      rcases z2 with rfl | rfl
      · exact eqS ⟨_,rfl,_,rfl,p,_,_,_,rfl,rfl,SqT.of e,i2,d,_,rfl,.inl ⟨kvs,kb,.inl ed,rfl,eb⟩,_,rfl,_,rfl,p,_,_,_,rfl,rfl,SqT.of e,i3,d,_,rfl,.inl ⟨kvs,kc,.inl ed,rfl,ec⟩,_,_,rfl,rfl,k (nb + nc)⟩
      · exact neS (by decide) ⟨_,rfl,p,_,_,_,rfl,rfl,SqT.of e,i0,rfl,_,rfl,eqS ⟨_,rfl,_,rfl,p,_,_,_,rfl,rfl,SqT.of e,i2,d,_,rfl,.inl ⟨kvs,kb,.inl ed,rfl,eb⟩,_,rfl,_,rfl,p,_,_,_,rfl,rfl,SqT.of e,i3,d,_,rfl,.inl ⟨kvs,kc,.inl ed,rfl,ec⟩,_,_,rfl,rfl,k (nb + nc)⟩⟩
def spSName : Sp := fun vs H Q _ => ∃ (b k : Int) (z : Str),vs = [.int b,.int k,.str z] ∧ AL z ∧ z.length = 2 ∧ 0 ≤ k ∧ k < 13 ∧ (nameV (.str (snF b k z)) = true → ∀ H',Same H H' → Q (.str (snF b k z)) H')
theorem ok_step_name (T : Tx w K mg ad) : FnOk P w K mg base CX0 2 ad.a_ustep_name ad.d_ustep_name ["_law_base", "_law_k", "_law_signs"] spSName := by
  have G_ucalled := ok_called (P := P) (w := w) (base := base) T
  refine T.F_ustep_name.ok sc_ustep_name (fun vs H Q E h => ?_) (fun cdv A outer s H vs Q E hr h => ?_)
  · obtain ⟨b,k,z,rfl,_⟩ := h
    rfl
  · obtain ⟨b,k,z,rfl,hz,hz2,k0,k1,kk⟩ := h
    have nd := sc_ustep_name.nd
    refine ⟨_,(pss_cons (ps_set (i := 3) nd rfl (Or.inl rfl) (pe_lst (pa_cons pe_str (pa_cons pe_str (pa_cons pe_str (pa_cons pe_str (pa_cons pe_str (pa_cons pe_str (pa_cons pe_str (pa_cons pe_str (pa_cons pe_str (pa_cons pe_str (pa_cons pe_str (pa_cons pe_str (pa_cons pe_str pa_nil)))))))))))))))
        (pss_cons (ps_if (PW.pt (pw_and (pt_cmpR op_eq (pe_op op_mod (pv 0) pe_int) pe_int (nomark _)) (pw_and1 (pt_cmpR op_lt (pv 1) pe_int (nomark _)))))
        (pss_one (ps_ret (pe_ix (ix_listK (K := K)) (pv 3) (pe_op op_mod (pe_op op_add (pv 1) (pe_op op_fdiv (pv 0) pe_int)) pe_int) (fun _ _ => rfl))))
        pss_nil)
        (pss_one (ps_ret (pe_call G_ucalled (hr.mono (by decide)) (by rfl) T.m_ucalled T.F_ucalled.kp T.b_ucalled .nil pass0 (pa_cons (pv 0) (pa_cons (pv 1) (pa_cons (pv 2) pa_nil)))))))),?_⟩
    refine ⟨by show 13 ≤ sizeLine; decide,fun l hl => ?_⟩
    have s1 : Same H (upd H l (.lst (WD13.map V.str))) := (Same.refl H).upd hl
    have e1 : (upd H l (.lst (WD13.map V.str))) l = some (.lst (WD13.map V.str)) := upd_same
    unfold snF at kk
    refine ⟨_,rfl,_,_,rfl,rfl,(by decide : (0 : Int) < 9),rfl,_,rfl,iteB (fun q => ?_) fun q => ?_⟩
    · have q : b % 9 = 4 := V.int.inj (of_decide_eq_true q)
      rw [if_pos q] at kk
      refine ⟨_,rfl,_,_,rfl,rfl,_,rfl,iteD (show k < 13 from k1) ?_⟩
      have b13 : 0 ≤ (k + b / 9) % 13 ∧ (k + b / 9) % 13 < 13 := ⟨Int.emod_nonneg _ (by decide),Int.emod_lt_of_pos _ (by decide)⟩
      have hlt : ((k + b / 9) % 13).toNat < WD13.length := by show _ < 13; omega
      have hg : WD13.getD ((k + b / 9) % 13).toNat "" = WD13[((k + b / 9) % 13).toNat] := by
        rw [List.getD_eq_getElem?_getD,List.getElem?_eq_getElem hlt]
        rfl
      have ha : atI (WD13.map V.str) ((k + b / 9) % 13) = some (.str (WD13.getD ((k + b / 9) % 13).toNat "")) := by
        have q := atI_nat (xs := WD13.map V.str) (j := ((k + b / 9) % 13).toNat) (v := .str (WD13.getD ((k + b / 9) % 13).toNat "")) (by rw [List.getElem?_map,List.getElem?_eq_getElem hlt,hg]; rfl)
        rw [Int.toNat_of_nonneg b13.1] at q
        exact q
      refine ⟨_,rfl,_,rfl,_,rfl,_,_,rfl,rfl,⟨by decide,by decide⟩,_,_,rfl,rfl,_,_,rfl,rfl,(by decide : (0 : Int) < 13),l,_,_,_,rfl,rfl,SqL.of e1,ha,?_⟩
      exact kk (wd13_name _ (by rw [hg]; exact List.getElem_mem hlt)) _ s1
    · have q : ¬ b % 9 = 4 := fun z => of_decide_eq_false q (congrArg V.int z)
      rw [if_neg q] at kk
      refine ⟨_,rfl,_,rfl,_,rfl,b,k,z,rfl,hz,by omega,by omega,fun nv H' s' => kk nv H' (s1.trans s')⟩
def GoodS (xs : List V) : Prop := stepV xs = true ∧ ∀ v ∈ xs,Pl v
def Pn (H : Hp) (ps : List V) (xss : List (List V)) : Prop := ps.length = xss.length ∧ ∀ (i : Nat) xs,xss[i]? = some xs → ∃ p,ps[i]? = some (.ref p) ∧ H p = some (.tup xs) ∧ GoodS xs
def Nms (most b : Int) (xss : List (List V)) : Prop := ∀ (i : Nat) xs,xss[i]? = some xs → nmX xs = .str (nmF most b i)
theorem Pn.keep {H H' : Hp} {ps : List V} {xss : List (List V)} (h : Pn H ps xss) (k : ∀ p xs,H p = some (.tup xs) → H' p = some (.tup xs)) : Pn H' ps xss :=
  ⟨h.1,fun i xs e => let ⟨p,a,b,c⟩ := h.2 i xs e; ⟨p,a,k p xs b,c⟩⟩
theorem Pn.snoc {H : Hp} {ps : List V} {xss : List (List V)} (h : Pn H ps xss) {p : Addr} {xs : List V} (e : H p = some (.tup xs)) (g : GoodS xs) : Pn H (ps ++ [.ref p]) (xss ++ [xs]) := by
  refine ⟨by rw [List.length_append,List.length_append,h.1,List.length_singleton,List.length_singleton],fun i ys hy => ?_⟩
  by_cases hi : i < xss.length
  · rw [List.getElem?_append_left hi] at hy
    obtain ⟨q,a,b,c⟩ := h.2 i ys hy
    exact ⟨q,by rw [List.getElem?_append_left (by rw [h.1]; exact hi)]; exact a,b,c⟩
  · rw [List.getElem?_append_right (by omega)] at hy
    have hi0 : i - xss.length = 0 := by
      have := (List.getElem?_eq_some_iff.mp hy).1
      rw [List.length_singleton] at this
      omega
    rw [hi0] at hy
    have hy : xs = ys := Option.some.inj hy
    subst hy
    exact ⟨p,by rw [List.getElem?_append_right (by rw [h.1]; omega),h.1,hi0]; rfl,e,g⟩
theorem Nms.snoc {most b : Int} {xss : List (List V)} (h : Nms most b xss) {xs : List V} (e : nmX xs = .str (nmF most b xss.length)) : Nms most b (xss ++ [xs]) := fun i ys hy => by
  by_cases hi : i < xss.length
  · rw [List.getElem?_append_left hi] at hy
    exact h i ys hy
  · rw [List.getElem?_append_right (by omega)] at hy
    have hi0 : i - xss.length = 0 := by
      have := (List.getElem?_eq_some_iff.mp hy).1
      rw [List.length_singleton] at this
      omega
    rw [hi0] at hy
    have hy : xs = ys := Option.some.inj hy
    subst hy
    have : i = xss.length := by omega
    rw [this]
    exact e
abbrev cS (b : Int) (i : Nat) : Str := calledS b (i : Int) (chL (i / 26) ++ chL (i % 26))
def tNm : TS := fun D σ H => ∃ (o0 o1 : Option V) (most b : Int) (o5 o6 : Option V) (i : Nat) (o8 o10 o11 : Option V),σ = [o0,o1,some (.int most),some (.int b),some (.str LET),o5,o6,some (.int (i : Int)),o8,some (.str (cS b i)),o10,o11] ∧ (most = 12 ∨ most = 30) ∧ (i : Int) < most ∧ nameV (.str (cS b i)) = true ∧
  ∀ H',Same H H' → nameV (.str (nmF most b i)) = true → D.nx [o0,o1,some (.int most),some (.int b),some (.str LET),o5,o6,some (.int (i : Int)),o8,some (.str (nmF most b i)),o10,o11] H'
def tWd : TS := fun D σ H => ∃ (o0 o1 o2 o3 o4 o5 o7 o8 : Option V) (d p : Addr) (kvs : List (Key × V)) (nm kd : Str) (xs : List V),σ = [o0,o1,o2,o3,o4,o5,some (.ref d),o7,o8,some (.str nm),some (.str kd),some (.ref p)] ∧ H p = some (.tup xs) ∧ GoodS xs ∧ nmX xs = .str nm ∧ nameV (.str nm) = true ∧ nameV (.str kd) = true ∧ H d = some (.dK kvs) ∧ Wd kvs ∧ (∀ v ∈ feedV xs,v ∈ kvs.map fun p => kV p.1) ∧
  ∀ p' xs' H',Same H H' → H' p' = some (.tup xs') → GoodS xs' → nmX xs' = .str nm → (∀ v ∈ feedV xs',v ∈ kvs.map fun p => kV p.1) → D.nx [o0,o1,o2,o3,o4,o5,some (.ref d),o7,o8,some (.str nm),some (.str kd),some (.ref p')] H'
def spPlan (K : W.Frag) : Sp := fun vs H Q _ => ∃ (a : Addr) (ns : List Int) (first most : Int),vs = [.ref a,.int first,.int most] ∧ SqL K H a (ns.map V.int) ∧ ns.length ≤ 63 ∧ 0 ≤ first ∧ (most = 12 ∨ most = 30) ∧
  ∀ H' l ps xss b,Same H H' → H' l = some (.lst ps) → Pn H' ps xss → Nms most b xss → (xss.length : Int) ≤ most → Q (.ref l) H'
theorem mnop_at (x : Int) : ∃ ch,atI ("mnop" : Str).cps.toList (x % 4) = some ch ∧ AL ⟨#[ch]⟩ := by
  obtain ⟨v,hv,hm⟩ := atI_mod ("mnop" : Str).cps.toList 4 (by decide +kernel) (by decide) x
  have all : ∀ c ∈ ("mnop" : Str).cps.toList,inL (.str ⟨#[c]⟩) = true := by decide +kernel
  refine ⟨v,hv,fun c hc => ?_⟩
  have e : c = v := by simpa using hc
  rw [e]
  exact all v hm
theorem ok_plan (T : Tx w K mg ad) : FnOk P w K mg base CX0 3 ad.a_uplan ad.d_uplan ["_law_script", "_law_first", "_law_most"] (spPlan K) := by
  have G_uat := ok_at (P := P) (w := w) (base := base) T
  have G_ucalled := ok_called (P := P) (w := w) (base := base) T
  have G_ustep_name := ok_step_name (P := P) (w := w) (base := base) T
  have G_ustep := ok_step (P := P) (w := w) (base := base) T
  have G_uwide := ok_wide (P := P) (w := w) (base := base) T
  refine T.F_uplan.ok sc_uplan (fun vs H Q E h => ?_) (fun cdv A outer s H vs Q E hr h => ?_)
  · obtain ⟨a,ns,f,m,rfl,_⟩ := h
    rfl
  · obtain ⟨a,ns,f,m,rfl,hS,hlen,f0,hm,k⟩ := h
    have nd := sc_uplan.nd
    refine ⟨_,(pss_cons (ps_set (i := 3) nd rfl (Or.inl rfl) (pe_call G_uat (hr.mono (by decide)) (by rfl) T.m_uat T.F_uat.kp T.b_uat .nil pass0 (pa_cons (pv 0) (pa_cons (pv 1) pa_nil))))
        (pss_cons (ps_set (i := 4) nd rfl (Or.inl rfl) pe_str)
        (pss_cons (ps_set (i := 5) nd rfl (Or.inl rfl) (pe_lst pa_nil))
        (pss_cons (ps_set (i := 6) nd rfl (Or.inl rfl) pe_dnewK)
        (pss_cons (ps_for PassesOwn.never rfl (pi_range1 (by rfl) T.z_range (pa_cons (pe_op op_mod (pe_call G_uat (hr.mono (by decide)) (by rfl) T.m_uat T.F_uat.kp T.b_uat .nil pass0 (pa_cons (pv 0) (pa_cons (pe_op op_add (pv 1) pe_int) pa_nil))) (pe_op op_add (pv 2) pe_int)) pa_nil)) (pg_name (i := 7) nd rfl (Or.inl rfl))
        (pss_cons (ps_set (i := 8) nd rfl (Or.inl rfl) (pe_op op_add (pe_op op_add (pe_call G_uat (hr.mono (by decide)) (by rfl) T.m_uat T.F_uat.kp T.b_uat .nil pass0 (pa_cons (pv 0) (pa_cons (pe_op op_add (pe_op op_add (pv 1) pe_int) (pe_op op_mod (pv 7) pe_int)) pa_nil))) (pe_op op_mul pe_int (pe_op op_fdiv (pv 7) pe_int))) (pv 7)))
        (pss_cons (ps_set (i := 9) nd rfl (Or.inl rfl) (pe_call G_ucalled (hr.mono (by decide)) (by rfl) T.m_ucalled T.F_ucalled.kp T.b_ucalled .nil pass0 (pa_cons (pv 3) (pa_cons (pv 7) (pa_cons (pe_op op_add_str (pe_ix ix_str (pv 4) (pe_op op_fdiv (pv 7) pe_int) (fun _ _ => rfl)) (pe_ix ix_str (pv 4) (pe_op op_mod (pv 7) pe_int) (fun _ _ => rfl))) pa_nil)))))
        (pss_cons (ps_weak (t' := tNm) (ps_if (pt_cmpR op_eq (pv 2) pe_int (nomark _))
        (pss_one (ps_set (i := 9) nd rfl (Or.inl rfl) (pe_call G_ustep_name (hr.mono (by decide)) (by rfl) T.m_ustep_name T.F_ustep_name.kp T.b_ustep_name .nil pass0 (pa_cons (pv 3) (pa_cons (pv 7) (pa_cons (pe_op op_add_str (pe_ix ix_str (pv 4) pe_int (fun _ _ => rfl)) (pe_ix ix_str (pv 4) (pv 7) (fun _ _ => rfl))) pa_nil))))))
        pss_nil) ?w1)
        (pss_cons (ps_set (i := 10) nd rfl (Or.inl rfl) (pe_call G_ucalled (hr.mono (by decide)) (by rfl) T.m_ucalled T.F_ucalled.kp T.b_ucalled .nil pass0 (pa_cons (pe_op op_fdiv (pv 3) pe_int) (pa_cons (pe_op op_mod (pe_op op_fdiv (pv 8) pe_int) pe_int) (pa_cons (pe_ix ix_str pe_str (pe_op op_mod (pe_op op_fdiv (pv 8) pe_int) pe_int) (fun _ _ => rfl)) pa_nil)))))
        (pss_cons (ps_set (i := 11) nd rfl (Or.inl rfl) (pe_call G_ustep (hr.mono (by decide)) (by rfl) T.m_ustep T.F_ustep.kp T.b_ustep .nil pass0 (pa_cons (pv 8) (pa_cons (pv 9) (pa_cons (pe_callTy (call_listD (K := K) rfl) (by rfl) T.z_list PyProof.Rows.boot_list (pa_cons (pv 6) pa_nil)) (pa_cons (pv 10) pa_nil))))))
        (pss_cons (ps_weak (t' := tWd) (ps_if (pt_cmpR op_gt (pe_call G_uwide (hr.mono (by decide)) (by rfl) T.m_uwide T.F_uwide.kp T.b_uwide .nil pass0 (pa_cons (pv 11) (pa_cons (pv 6) pa_nil))) pe_int (nomark _))
        (pss_one (ps_set (i := 11) nd rfl (Or.inl rfl) (pe_tup (pa_cons pe_str (pa_cons (pv 9) (pa_cons (pv 10) pa_nil))))))
        pss_nil) ?w2)
        (pss_cons (ps_expr (pe_bmK (K := K) F.plainAttrs_list F.slot_list_append F.type_list_append mt_append (pv 5) (pa_cons (pv 11) pa_nil)))
        (pss_one (ps_if (PW.pt (pw_and (pt_cmpR op_ne (pe_ix (ix_tupK (K := K)) (pv 11) pe_int (fun _ _ => rfl)) pe_str (nomark _)) (pw_and1 (pt_cmpR op_ne (pe_ix (ix_tupK (K := K)) (pv 11) pe_int (fun _ _ => rfl)) pe_str (nomark _)))))
        (pss_one (ps_dput hr.u1 (pv 6) (pv 9) (pe_call G_uwide (hr.mono (by decide)) (by rfl) T.m_uwide T.F_uwide.kp T.b_uwide .nil pass0 (pa_cons (pv 11) (pa_cons (pv 6) pa_nil))) rfl))
        pss_nil))))))))))
        (pss_one (ps_ret (pv 5)))))))),?_⟩
    case w1 =>
      rintro D σ H ⟨o0,o1,most,b,o5,o6,i,o8,o10,o11,rfl,hmo,him,hn,q⟩
      refine ⟨_,rfl,rfl,_,rfl,iteB (fun e => ?_) fun e => ?_⟩
      · have e : most = 12 := V.int.inj (of_decide_eq_true e)
        subst e
        have hi : i < 26 := by omega
        refine ⟨_,rfl,_,rfl,_,rfl,_,_,_,rfl,rfl,by decide +kernel,chL_at 0 (by decide),_,rfl,_,rfl,_,_,_,rfl,rfl,by decide +kernel,chL_at i hi,_,_,rfl,rfl,by show 1 + 1 ≤ sizeLine; decide,?_⟩
        refine ⟨b,_,chL 0 ++ chL i,rfl,(chL_AL 0 (by decide)).app (chL_AL i hi),len2 _ _,by omega,by omega,fun nv H' s' => ?_⟩
        have en : snF b (i : Int) (chL 0 ++ chL i) = nmF 12 b i := by unfold nmF; rw [if_pos rfl]
        rw [en] at nv ⊢
        exact q H' s' nv
      · have e : ¬ most = 12 := fun z => of_decide_eq_false e (congrArg V.int z)
        have en : nmF most b i = cS b i := by unfold nmF; rw [if_neg e]
        rw [en] at q
        exact q H (Same.refl H) hn
    case w2 =>
      rintro D σ H ⟨o0,o1,o2,o3,o4,o5,o7,o8,d,p,kvs,nm,kd,xs,rfl,ep,g,hnm,nv,kv,ed,hw,hf,q⟩
      refine ⟨_,rfl,_,rfl,p,xs,d,kvs,rfl,ep,g.1,ed,hw,hf,fun n => ⟨_,_,rfl,rfl,_,rfl,iteB (fun _ => ?_) fun _ => ?_⟩⟩
      · refine ⟨_,rfl,_,rfl,by show 3 ≤ sizeLine; decide,fun p' hp' => ?_⟩
        refine q p' _ _ ((Same.refl H).upd hp') upd_same ⟨by rw [v_take,nv,kv]; rfl,fun v hv => ?_⟩ rfl (fun v hv => by rw [fd_take] at hv; cases hv)
        simp only [List.mem_cons,List.not_mem_nil,or_false] at hv
        rcases hv with rfl | rfl | rfl
        · exact .inr ⟨_,rfl,by decide⟩
        · exact Nm.pl ⟨_,rfl,nv⟩
        · exact Nm.pl ⟨_,rfl,kv⟩
      · exact q p xs H (Same.refl H) ep g hnm hf
    have sz : sizeLine = 16777216 := sizeLine_eq
    refine ⟨_,rfl,_,rfl,a,ns,_,rfl,hS,hlen,f0,fun b => ?_⟩
    refine ⟨by show 0 ≤ sizeLine; decide,fun l hl => fun d hd => ?_⟩
    have nld : l ≠ d := ne_of_none upd_same hd
    have hdH : H d = none := by rw [upd_ne nld.symm] at hd; exact hd
    have s0 : Same H (upd (upd H l (.lst [])) d (.dK [])) := ((Same.refl H).upd hl).upd hd
    have el0 : (upd (upd H l (.lst [])) d (.dK [])) l = some (.lst []) := by rw [upd_ne nld]; exact upd_same
    have ed0 : (upd (upd H l (.lst [])) d (.dK [])) d = some (.dK []) := upd_same
    generalize upd (upd H l (.lst [])) d (.dK []) = H0 at s0 el0 ed0 ⊢
    refine ⟨_,rfl,_,rfl,_,_,rfl,rfl,a,ns,_,rfl,s0.seq hS,hlen,by omega,fun cnt => ?_⟩
    have hm1 : (0 : Int) < m + 1 := by omega
    have bc : 0 ≤ cnt % (m + 1) ∧ cnt % (m + 1) < m + 1 := ⟨Int.emod_nonneg _ (by omega),Int.emod_lt_of_pos _ hm1⟩
    refine ⟨_,rfl,_,_,rfl,rfl,_,_,rfl,rfl,hm1,_,rfl,by omega,by omega,?_⟩
    refine for_range (fun i σ H' => ∃ (o7 o8 o9 o10 o11 : Option V) (ps : List V) (xss : List (List V)) (kvs : List (Key × V)),σ = [some (.ref a),some (.int f),some (.int m),some (.int b),some (.str LET),some (.ref l),some (.ref d),o7,o8,o9,o10,o11] ∧ Same H H' ∧ H' l = some (.lst ps) ∧ H' d = some (.dK kvs) ∧ Wd kvs ∧ kvs.length ≤ i ∧ Pn H' ps xss ∧ xss.length = i ∧ Nms m b xss)
      ⟨none,none,none,none,none,[],[],[],rfl,s0,el0,ed0,fun q hq => (nomatch hq),Nat.le_refl _,⟨rfl,fun i xs h => by simp at h⟩,rfl,fun i xs h => by simp at h⟩ ?_ ?_
    · rintro i σ H1 hi ⟨o7,o8,o9,o10,o11,ps,xss,kvs,rfl,s1,el,ed,hw,hk,hp,hx,hn⟩
      rw [Int.zero_add]
      have him : (i : Int) < m := by omega
      have hi26 : i / 26 < 26 := by omega
      have hi27 : i % 26 < 26 := Nat.mod_lt _ (by decide)
      refine ⟨_,rfl,_,rfl,_,_,rfl,rfl,_,rfl,_,_,rfl,rfl,(by decide : (0 : Int) < 9),_,_,rfl,rfl,a,ns,_,rfl,s1.seq hS,hlen,?_,fun cc => ?_⟩
      · have : 0 ≤ (i : Int) % 9 := Int.emod_nonneg _ (by decide)
        omega
      refine ⟨_,rfl,_,_,rfl,rfl,⟨by decide,by decide⟩,_,_,rfl,rfl,.inl ⟨by decide,by decide⟩,_,_,rfl,rfl,_,rfl,_,_,rfl,rfl,?_⟩
      have e26 : (i : Int) / 26 = ((i / 26 : Nat) : Int) := by omega
      have e27 : (i : Int) % 26 = ((i % 26 : Nat) : Int) := by omega
      refine ⟨_,rfl,_,rfl,_,rfl,_,rfl,_,_,rfl,rfl,⟨by decide,by decide⟩,_,_,_,rfl,rfl,by decide +kernel,by show atI _ ((i : Int) / 26) = _; rw [e26]; exact chL_at (i / 26) hi26,?_⟩
      refine ⟨_,rfl,_,rfl,_,_,rfl,rfl,(by decide : (0 : Int) < 26),_,_,_,rfl,rfl,by decide +kernel,by show atI _ ((i : Int) % 26) = _; rw [e27]; exact chL_at (i % 26) hi27,_,_,rfl,rfl,by show 1 + 1 ≤ sizeLine; decide,?_⟩
      refine ⟨b,_,chL (i / 26) ++ chL (i % 26),rfl,(chL_AL _ hi26).app (chL_AL _ hi27),by rw [len2]; decide,by rw [len2]; decide,fun nv H2 s2 => ?_⟩
      refine ⟨_,_,m,b,_,_,i,_,_,_,rfl,hm,him,nv,fun H3 s3 nv3 => ?_⟩
      obtain ⟨ch,hch,alc⟩ := mnop_at ((cc + 7919 * ((i : Int) / 9) + (i : Int)) / 3200)
      refine ⟨_,rfl,_,_,rfl,rfl,⟨by decide,by decide⟩,_,rfl,_,_,rfl,rfl,⟨by decide,by decide⟩,_,_,rfl,rfl,(by decide : (0 : Int) < 4),_,rfl,_,_,rfl,rfl,⟨by decide,by decide⟩,_,_,rfl,rfl,(by decide : (0 : Int) < 4),_,_,ch,rfl,rfl,by decide +kernel,hch,_,_,_,rfl,alc,by show 1 ≤ 1; decide,by show 1 ≤ 2; decide,fun kv H4 s4 => ?_⟩
      have s14 := (s2.trans s3).trans s4
      have el4 := s14 _ _ el
      have ed4 := s14 _ _ ed
      have hss : ∀ v ∈ kvs.map (fun p => kV p.1),Nm v := fun v hv => by
        obtain ⟨q,hq,rfl⟩ := List.mem_map.mp hv
        obtain ⟨z,e,hz⟩ := (hw q hq).1
        rw [e]
        exact ⟨z,rfl,hz⟩
      refine ⟨_,rfl,_,rfl,_,rfl,d,kvs,rfl,ed4,fun ls hls => ⟨_,rfl,_,_,ls,_,_,rfl,⟨_,rfl,nv3⟩,upd_same,by rw [List.length_map]; omega,hss,⟨_,rfl,kv⟩,fun p xs H5 s5 e5 hs5 hp5 hn5 hf5 => ?_⟩⟩
      have s45 := ((Same.refl H4).upd (o := .lst (kvs.map fun p => kV p.1)) hls).trans s5
      refine ⟨_,_,_,_,_,_,_,_,d,p,kvs,_,_,xs,rfl,e5,⟨hs5,hp5⟩,hn5,nv3,kv,s45 _ _ ed4,hw,hf5,fun p' xs' H6 s6 e6 g6 hn6 hf6 => ?_⟩
      have s16 := s14.trans (s45.trans s6)
      have el6 := s16 _ _ el
      have ed6 := s16 _ _ ed
      have hp6 := hp.keep fun p xs e => s16 _ _ e
      have lps : ps.length = i := by rw [hp.1,hx]
      refine ⟨_,rfl,.inl ⟨rfl,_,SqL.of el6⟩,_,rfl,l,_,_,rfl,rfl,el6,by omega,?_⟩
      have hpl : ∀ q ys,H6 q = some (.tup ys) → q ≠ l := fun q ys e z => by subst z; rw [el6] at e; cases e
      have hpd : ∀ q ys,H6 q = some (.tup ys) → q ≠ d := fun q ys e z => by subst z; rw [ed6] at e; cases e
      have e7 : (upd H6 l (.lst (ps ++ [.ref p']))) p' = some (.tup xs') := by rw [upd_ne (hpl _ _ e6)]; exact e6
      have ed7 : (upd H6 l (.lst (ps ++ [.ref p']))) d = some (.dK kvs) := by rw [upd_ne nld.symm]; exact ed6
      have el7 : (upd H6 l (.lst (ps ++ [.ref p']))) l = some (.lst (ps ++ [.ref p'])) := upd_same
      have s7 : Same H (upd H6 l (.lst (ps ++ [.ref p']))) := (s1.trans s16).updN hl
      have hp7 : Pn (upd H6 l (.lst (ps ++ [.ref p']))) (ps ++ [.ref p']) (xss ++ [xs']) := (hp6.keep fun q ys e => by rw [upd_ne (hpl _ _ e)]; exact e).snoc e7 g6
      have hpd7 : ∀ q ys,(upd H6 l (.lst (ps ++ [.ref p']))) q = some (.tup ys) → q ≠ d := fun q ys e z => by subst z; rw [ed7] at e; cases e
      generalize upd H6 l (.lst (ps ++ [.ref p'])) = H7 at e7 ed7 el7 s7 hp7 hpd7 ⊢
      have hx7 : (xss ++ [xs']).length = i + 1 := by rw [List.length_append,hx,List.length_singleton]
      have hn7 : Nms m b (xss ++ [xs']) := hn.snoc (by rw [hx]; exact hn6)
      obtain ⟨z,n1,b1,r1,rfl,sh⟩ := shape g6.1
      have i0 : atI (V.str z :: n1 :: b1 :: r1) 0 = some (.str z) := atI_nat (j := 0) rfl
      refine ⟨_,rfl,p',_,_,_,rfl,rfl,SqT.of e7,i0,rfl,_,rfl,iteB (fun _ => ?_) fun _ => ?_⟩
      · refine ⟨_,rfl,p',_,_,_,rfl,rfl,SqT.of e7,i0,rfl,_,rfl,iteB (fun _ => ?_) fun _ => ?_⟩
        · refine ⟨_,rfl,_,rfl,p',_,d,kvs,rfl,e7,g6.1,ed7,hw,hf6,fun n => ⟨_,rfl,_,rfl,d,_,rfl,.inl ⟨kvs,.inr (nmF m b i),ed7,rfl,by omega,rfl⟩,?_⟩⟩
          have pl := put_len kvs (.inr (nmF m b i)) (.int n)
          exact ⟨_,_,_,_,_,_,_,_,rfl,s7.updN hdH,by rw [upd_ne nld]; exact el7,upd_same,wd_put hw nv3 n,by omega,hp7.keep fun q ys e => by rw [upd_ne (hpd7 _ _ e)]; exact e,hx7,hn7⟩
        · exact ⟨_,_,_,_,_,_,_,_,rfl,s7,el7,ed7,hw,by omega,hp7,hx7,hn7⟩
      · exact ⟨_,_,_,_,_,_,_,_,rfl,s7,el7,ed7,hw,by omega,hp7,hx7,hn7⟩
    · rintro σ H1 ⟨o7,o8,o9,o10,o11,ps,xss,kvs,rfl,s1,el,ed,hw,hk,hp,hx,hn⟩
      exact ⟨_,rfl,k H1 l ps xss b s1 el hp hn (by omega)⟩
theorem pn_at {H : Hp} {ps : List V} {xss : List (List V)} (h : Pn H ps xss) {i : Nat} {x : V} (e : ps[i]? = some x) : ∃ p xs,x = .ref p ∧ xss[i]? = some xs ∧ H p = some (.tup xs) ∧ GoodS xs := by
  have hi := (List.getElem?_eq_some_iff.mp e).1
  have hi' : i < xss.length := by rw [← h.1]; exact hi
  have hx : xss[i]? = some xss[i] := List.getElem?_eq_getElem hi'
  obtain ⟨p,a,b,c⟩ := h.2 i _ hx
  rw [e] at a
  exact ⟨p,_,Option.some.inj a,hx,b,c⟩
theorem feed_two {xs : List V} (h : stepV xs = true) : (feedV xs).length ≤ 2 := by
  obtain ⟨z,n,b,r,rfl,sh⟩ := shape h
  rcases sh with ⟨_,e⟩ | ⟨_,_,_,e⟩ | ⟨_,_,c,r',_,e⟩ <;> rw [e] <;> simp
theorem in_pai (z : Str) : inV (.str z) [.str "both", .str "join"] = decide (z = "both" ∨ z = "join") := by
  by_cases h : z = "both" ∨ z = "join"
  · rw [decide_eq_true h]
    rcases h with rfl | rfl <;> decide +kernel
  · rw [decide_eq_false h]
    refine Bool.eq_false_iff.mpr fun q => ?_
    have q : (("both" : Str) == z || (("join" : Str) == z || false)) = true := q
    simp only [Bool.or_eq_true,Bool.or_false,beq_iff_eq] at q
    exact h (q.elim (fun e => .inl e.symm) fun e => .inr e.symm)
def vD : V → PyData
  | .int i => .int i
  | .str z => .str z
  | _ => .none
def OkV (v : V) : Prop := (∃ i,v = .int i) ∨ ∃ z,v = .str z ∧ PyData.strOk z = true
abbrev tupD (xs : List V) : PyData := .tuple (xs.map vD)
theorem dvs_ok {K : W.Frag} {H : Hp} : ∀ {xs : List V},(∀ v ∈ xs,OkV v) → Dvs K H xs (xs.map vD)
  | [],_ => .nil
  | x :: r,h => by
    refine .cons ?_ (dvs_ok fun v hv => h v (List.mem_cons_of_mem _ hv))
    rcases h x List.mem_cons_self with ⟨i,rfl⟩ | ⟨z,rfl,_⟩
    · exact .int i
    · exact .str z
theorem lay_ok : ∀ {xs : List V},(∀ v ∈ xs,OkV v) → PyData.canLayAll0 (xs.map vD) = true ∧ PyData.depthAll (xs.map vD) = 0
  | [],_ => ⟨rfl,rfl⟩
  | x :: r,h => by
    obtain ⟨a,b⟩ := lay_ok fun v hv => h v (List.mem_cons_of_mem _ hv)
    rcases h x List.mem_cons_self with ⟨i,rfl⟩ | ⟨z,rfl,hz⟩
    · simp [vD,PyData.canLayAll0,PyData.canLay0,PyData.depthAll,PyData.depth,a,b]
    · simp [vD,PyData.canLayAll0,PyData.canLay0,PyData.depthAll,PyData.depth,a,b,hz]
def Tups (H : Hp) (vs : List V) (xss : List (List V)) : Prop := vs.length = xss.length ∧ ∀ (i : Nat) xs,xss[i]? = some xs → ∃ p,vs[i]? = some (.ref p) ∧ H p = some (.tup xs)
theorem dvs_tups {K : W.Frag} {H : Hp} : ∀ {vs : List V} {xss : List (List V)},Tups H vs xss → (∀ xs ∈ xss,∀ v ∈ xs,OkV v) → Dvs K H vs (xss.map tupD)
  | [],[],_,_ => .nil
  | [],_ :: _,h,_ => by have := h.1; simp at this
  | _ :: _,[],h,_ => by have := h.1; simp at this
  | v :: vs,xs :: xss,h,hk => by
    obtain ⟨p,e1,e2⟩ := h.2 0 xs rfl
    have e1 : v = .ref p := Option.some.inj e1
    subst e1
    refine .cons (.tup (SqT.of e2) (dvs_ok (hk xs List.mem_cons_self))) (dvs_tups ⟨by have := h.1; simpa using this,fun i ys e => ?_⟩ fun ys hy => hk ys (List.mem_cons_of_mem _ hy))
    obtain ⟨q,a,b⟩ := h.2 (i + 1) ys (by simpa using e)
    exact ⟨q,by simpa using a,b⟩
theorem nm_ok {v : V} (h : nameV v = true) : OkV v := by
  cases v with
  | str z => exact .inr ⟨z,rfl,nm_letters h⟩
  | _ => exact absurd h Bool.false_ne_true
theorem am_ok {a b : Int} {v : V} (h : amongV a b v = true) : OkV v := by
  obtain ⟨i,rfl,_⟩ := among_int h
  exact .inl ⟨i,rfl⟩
theorem ta_ok {v : V} (h : tallyV v = true) : OkV v := by
  cases v with
  | str z =>
    have h : (("count" : Str) == z || (("sum" : Str) == z || (("least" : Str) == z || (("greatest" : Str) == z || false)))) = true := h
    simp only [Bool.or_eq_true,Bool.or_false,beq_iff_eq] at h
    refine .inr ⟨z,rfl,?_⟩
    rcases h with rfl | rfl | rfl | rfl <;> decide +kernel
  | _ => exact absurd h Bool.false_ne_true
theorem wi_ok {a b : V} (h : windowsV a b = true) : OkV a ∧ OkV b := by
  unfold windowsV at h
  split at h
  · exact ⟨.inl ⟨_,rfl⟩,.inl ⟨_,rfl⟩⟩
  · cases h
theorem bo_ok {a b : V} (h : boundsV a b = true) : OkV a ∧ OkV b := by
  unfold boundsV at h
  rw [Bool.and_eq_true,Bool.and_eq_true] at h
  exact ⟨am_ok h.1.1,am_ok h.1.2⟩
theorem step_ok {xs : List V} (h : stepV xs = true) : ∀ v ∈ xs,OkV v := by
  have wd : ∀ {z : Str},PyData.strOk z = true → OkV (.str z) := fun h => .inr ⟨_,rfl,h⟩
  rcases form_shape (step_is_form h) with ⟨a,b,rfl⟩ | ⟨a,b,c,d,rfl⟩ | ⟨a,b,c,d,rfl⟩ | ⟨a,b,c,rfl⟩ | ⟨a,b,c,d,rfl⟩ | ⟨a,b,c,d,e,rfl⟩ | ⟨a,b,c,d,rfl⟩
  · rw [v_take] at h
    simp only [Bool.and_eq_true] at h
    intro v hv
    simp only [List.mem_cons,List.not_mem_nil,or_false] at hv
    rcases hv with rfl | rfl | rfl
    · exact wd (by decide +kernel)
    · exact nm_ok h.1
    · exact nm_ok h.2
  · rw [v_only] at h
    simp only [Bool.and_eq_true] at h
    intro v hv
    simp only [List.mem_cons,List.not_mem_nil,or_false] at hv
    rcases hv with rfl | rfl | rfl | rfl | rfl
    · exact wd (by decide +kernel)
    · exact nm_ok h.1.1
    · exact nm_ok h.1.2
    · exact (bo_ok h.2).1
    · exact (bo_ok h.2).2
  · rw [v_turn] at h
    simp only [Bool.and_eq_true] at h
    intro v hv
    simp only [List.mem_cons,List.not_mem_nil,or_false] at hv
    rcases hv with rfl | rfl | rfl | rfl | rfl
    · exact wd (by decide +kernel)
    · exact nm_ok h.1.1
    · exact nm_ok h.1.2
    · exact am_ok h.2.1
    · exact am_ok h.2.2
  · rw [v_both] at h
    simp only [Bool.and_eq_true] at h
    intro v hv
    simp only [List.mem_cons,List.not_mem_nil,or_false] at hv
    rcases hv with rfl | rfl | rfl | rfl
    · exact wd (by decide +kernel)
    · exact nm_ok h.1.1
    · exact nm_ok h.1.2
    · exact nm_ok h.2
  · rw [v_join] at h
    simp only [Bool.and_eq_true] at h
    intro v hv
    simp only [List.mem_cons,List.not_mem_nil,or_false] at hv
    rcases hv with rfl | rfl | rfl | rfl | rfl
    · exact wd (by decide +kernel)
    · exact nm_ok h.1.1
    · exact nm_ok h.1.2
    · exact nm_ok h.2.1
    · exact am_ok h.2.2
  · rw [v_each] at h
    simp only [Bool.and_eq_true] at h
    intro v hv
    simp only [List.mem_cons,List.not_mem_nil,or_false] at hv
    rcases hv with rfl | rfl | rfl | rfl | rfl | rfl
    · exact wd (by decide +kernel)
    · exact nm_ok h.1.1
    · exact nm_ok h.1.2
    · exact ta_ok h.2.1
    · exact (wi_ok h.2.2).1
    · exact (wi_ok h.2.2).2
  · rw [v_gap] at h
    simp only [Bool.and_eq_true] at h
    intro v hv
    simp only [List.mem_cons,List.not_mem_nil,or_false] at hv
    rcases hv with rfl | rfl | rfl | rfl | rfl
    · exact wd (by decide +kernel)
    · exact nm_ok h.1.1
    · exact nm_ok h.1.2
    · exact ta_ok h.2.1
    · exact am_ok h.2.2
theorem Pn.ok {H : Hp} {ps : List V} {xss : List (List V)} (h : Pn H ps xss) : ∀ xs ∈ xss,∀ v ∈ xs,OkV v := fun xs hx => by
  obtain ⟨i,hi,e⟩ := List.mem_iff_getElem.mp hx
  obtain ⟨p,_,_,g⟩ := h.2 i xs (by rw [← e]; exact List.getElem?_eq_getElem hi)
  exact step_ok g.1
theorem Pn.dv {K : W.Frag} {H : Hp} {l : Addr} {ps : List V} {xss : List (List V)} (h : Pn H ps xss) (e : H l = some (.lst ps)) : Dv K H (.ref l) (.list (xss.map tupD)) :=
  .lst (SqL.of e) (dvs_tups ⟨h.1,fun i xs hx => let ⟨p,a,b,_⟩ := h.2 i xs hx; ⟨p,a,b⟩⟩ h.ok)
theorem same_none {H H' : Hp} (s : Same H H') {r : Addr} (h : H' r = none) : H r = none := by
  cases hh : H r with
  | none => rfl
  | some o => rw [s _ _ hh] at h; cases h
def inB (kvs : List (Key × V)) : V → Bool
  | .str z => (valV kvs (.inr z)).isSome
  | _ => false
def wOf (kvs : List (Key × V)) : V → Int
  | .str z => match valV kvs (.inr z) with | some (.int n) => n | _ => 0
  | _ => 0
def fedV (kvs : List (Key × V)) (xs : List V) : Bool := ((feedV xs).map (inB kvs)).all id
def widV (kvs : List (Key × V)) (xs : List V) : Int := if feedV xs = [] then 1 else ((feedV xs).map (wOf kvs)).sum
def nmS (xs : List V) : Str := match nmX xs with | .str z => z | _ => ""
def telV : List V → Bool
  | .str z :: _ => inV (.str z) TEL
  | _ => false
def fitV (ns : List Str) (kvs : List (Key × V)) (xs : List V) : Bool := (!decide (nmS xs ∈ ns)) && (fedV kvs xs && decide (widV kvs xs ≤ 32))
def nxW (kvs : List (Key × V)) (xs : List V) : List (Key × V) := if telV xs = true then kvs else putK kvs (.inr (nmS xs)) (.int (widV kvs xs))
def badV : List (Option (List V)) → Nat → List Str → List (Key × V) → Option Nat
  | [],_,_,_ => none
  | none :: _,i,_,_ => some i
  | some xs :: r,i,ns,kvs => if (stepV xs && fitV ns kvs xs) = true then badV r (i + 1) (ns ++ [nmS xs]) (nxW kvs xs) else some i
def nmsD (ns : List Str) : List (Key × V) := ns.map fun z => (.inr z,.bl true)
theorem nms_in (z : Str) : ∀ ns : List Str,(valV (nmsD ns) (.inr z)).isSome = decide (z ∈ ns)
  | [] => by
    rw [decide_eq_false (by simp)]
    rfl
  | a :: r => by
    have ih := nms_in z r
    show (valV ((Sum.inr a,V.bl true) :: nmsD r) (.inr z)).isSome = _
    by_cases h : a = z
    · subst h
      rw [valV_pos (p := (Sum.inr a,V.bl true)) rfl,decide_eq_true List.mem_cons_self]
      rfl
    · rw [valV_neg (p := (Sum.inr a,V.bl true)) (fun e => h (Sum.inr.inj e)),ih]
      by_cases m : z ∈ r
      · rw [decide_eq_true m,decide_eq_true (List.mem_cons_of_mem _ m)]
      · rw [decide_eq_false m,decide_eq_false (fun q => (List.mem_cons.mp q).elim (fun e => h e.symm) m)]
theorem nms_put {ns : List Str} {z : Str} (h : z ∉ ns) : putK (nmsD ns) (.inr z) (.bl true) = nmsD (ns ++ [z]) := by
  rw [putK_new]
  · unfold nmsD
    rw [List.map_append]
    rfl
  · have q := nms_in z ns
    rw [decide_eq_false h] at q
    exact Option.isNone_iff_eq_none.mp (by rw [← Option.not_isSome,q]; rfl)
def WdP (kvs : List (Key × V)) : Prop := ∀ q ∈ kvs,(∃ z,q.1 = .inr z ∧ nameV (.str z) = true) ∧ ∃ n : Int,q.2 = .int n ∧ 1 ≤ n
theorem wdp_put {kvs : List (Key × V)} (h : WdP kvs) {z : Str} (hz : nameV (.str z) = true) {n : Int} (hn : 1 ≤ n) : WdP (putK kvs (.inr z) (.int n)) := by
  intro q hq
  unfold putK at hq
  split at hq
  · obtain ⟨r,hr,e⟩ := List.mem_map.mp hq
    split at e
    · subst e
      exact ⟨(h r hr).1,n,rfl,hn⟩
    · subst e
      exact h r hr
  · rcases List.mem_append.mp hq with hq | hq
    · exact h q hq
    · rw [List.mem_singleton.mp hq]
      exact ⟨⟨z,rfl,hz⟩,n,rfl,hn⟩
theorem val_mem {kvs : List (Key × V)} {k : Key} {v : V} (h : valV kvs k = some v) : (k,v) ∈ kvs := by
  unfold valV at h
  obtain ⟨p,hp,rfl⟩ := Option.map_eq_some_iff.mp h
  have h1 := List.find?_some hp
  have h2 := List.mem_of_find?_eq_some hp
  have : p.1 = k := of_decide_eq_true h1
  rw [← this]
  exact h2
theorem fed_at {kvs : List (Key × V)} {xs : List V} (hw : WdP kvs) (h : fedV kvs xs = true) {v : V} (hv : v ∈ feedV xs) : ∃ f n,v = .str f ∧ valV kvs (.inr f) = some (.int n) ∧ 1 ≤ n ∧ wOf kvs v = n := by
  unfold fedV at h
  rw [List.all_eq_true] at h
  have q := h (inB kvs v) (List.mem_map.mpr ⟨v,hv,rfl⟩)
  cases v with
  | str f =>
    have q : (valV kvs (.inr f)).isSome = true := q
    obtain ⟨y,hy⟩ := Option.isSome_iff_exists.mp q
    obtain ⟨_,n,e,hn⟩ := hw _ (val_mem hy)
    have e : y = .int n := e
    subst e
    refine ⟨f,n,rfl,hy,hn,?_⟩
    show (match valV kvs (.inr f) with | some (.int n) => n | _ => 0) = n
    rw [hy]
  | _ => exact absurd q Bool.false_ne_true
theorem wid_pos {kvs : List (Key × V)} {xs : List V} (hs : stepV xs = true) (hw : WdP kvs) (h : fedV kvs xs = true) : 1 ≤ widV kvs xs ∧ (if ((feedV xs).map (wOf kvs)).sum > 1 then ((feedV xs).map (wOf kvs)).sum else 1) = widV kvs xs := by
  obtain ⟨z,n,b,r,rfl,sh⟩ := shape hs
  unfold widV
  rcases sh with ⟨_,ef⟩ | ⟨_,_,_,ef⟩ | ⟨_,_,c,r',rfl,ef⟩
  · rw [ef,if_pos rfl]
    exact ⟨by decide,rfl⟩
  · obtain ⟨f,m,_,_,hm,e⟩ := fed_at hw h (v := b) (by rw [ef]; exact List.mem_singleton.mpr rfl)
    rw [ef,if_neg (by simp)]
    have es : ([b].map (wOf kvs)).sum = m := by rw [List.map_cons,e]; simp
    rw [es]
    refine ⟨hm,?_⟩
    split <;> omega
  · obtain ⟨f,m,_,_,hm,e⟩ := fed_at hw h (v := b) (by rw [ef]; exact List.mem_cons_self)
    obtain ⟨f',m',_,_,hm',e'⟩ := fed_at hw h (v := c) (by rw [ef]; exact List.mem_cons_of_mem _ List.mem_cons_self)
    rw [ef,if_neg (by simp)]
    have es : ([b,c].map (wOf kvs)).sum = m + m' := by rw [List.map_cons,List.map_cons,e,e']; simp
    rw [es]
    refine ⟨by omega,?_⟩
    split <;> omega
theorem step_nm {xs : List V} (hs : stepV xs = true) : ∃ z n b r,xs = .str z :: .str n :: b :: r ∧ nameV (.str n) = true ∧ nmS xs = n := by
  obtain ⟨z,n,b,r,rfl,_⟩ := shape hs
  cases hn : nameV n with
  | true =>
    cases n with
    | str y => exact ⟨z,y,b,r,rfl,hn,rfl⟩
    | _ => exact absurd hn Bool.false_ne_true
  | false => rw [step_names (.inl hn)] at hs; cases hs
def spIsFed : Sp := fun vs H Q _ => ∃ p xs d kvs,vs = [.ref p,.ref d] ∧ H p = some (.tup xs) ∧ stepV xs = true ∧ H d = some (.dK kvs) ∧ ∀ H',Same H H' → Q (.bl (fedV kvs xs)) H'
def spWof : Sp := fun vs H Q _ => ∃ p xs d kvs,vs = [.ref p,.ref d] ∧ H p = some (.tup xs) ∧ stepV xs = true ∧ H d = some (.dK kvs) ∧ WdP kvs ∧ fedV kvs xs = true ∧ ∀ H',Same H H' → Q (.int (widV kvs xs)) H'
def spFits : Sp := fun vs H Q _ => ∃ p xs nd ns d kvs,vs = [.ref p,.ref nd,.ref d] ∧ H p = some (.tup xs) ∧ stepV xs = true ∧ H nd = some (.dK (nmsD ns)) ∧ H d = some (.dK kvs) ∧ WdP kvs ∧ ∀ H',Same H H' → Q (.bl (fitV ns kvs xs)) H'
theorem ok_is_fed (T : Tx w K mg ad) : FnOk P w K mg base CX0 3 ad.a_is_fed ad.d_is_fed ["step", "widths"] spIsFed := by
  have G_feeders := ok_feeders (P := P) (w := w) (base := base) T
  refine T.F_is_fed.ok sc_is_fed (fun vs H Q E h => ?_) (fun cdv A outer s H vs Q E hr h => ?_)
  · obtain ⟨p,xs,d,kvs,rfl,_⟩ := h
    rfl
  · obtain ⟨p,xs,d,kvs,rfl,e,hs,ed,k⟩ := h
    have nd := sc_is_fed.nd
    refine ⟨_,(pss_one (ps_ret (pe_callB (call_all_bools (K := K) rfl) (by rfl) T.z_all PyProof.Rows.boot_all (pa_cons (pe_comp1 (osc := defScope s_is_fed) [("widths", 1)] rfl (pi_listK (K := K) (pe_call G_feeders (hr.mono (by decide)) (by rfl) T.m_feeders T.F_feeders.kp T.b_feeders .nil pass0 (pa_cons (pv 0) pa_nil))) rfl rfl (by decide +kernel) (by decide +kernel) (by decide +kernel) ⟨rfl,rfl,trivial⟩ rfl (by decide +kernel) (fun _ _ _ _ => pts_nil) (fun _ _ _ _ => (pe_cmp (pc_din hr.u1 (pv 0) (pv 1))))) pa_nil)))),?_⟩
    have f2 := feed_two hs
    have fn := step_feed hs
    have sz : sizeLine = 16777216 := sizeLine_eq
    obtain ⟨z,n,b,r,rfl,_⟩ := shape hs
    refine ⟨_,rfl,p,z,n,b,r,rfl,e,fun l H1 s1 el => ⟨l,rfl,⟨_,SqL.of el⟩,comp_pure_list (K := K) (fun _ => true) (fun v => .bl (inB kvs v)) (SqL.of el) (by omega) (fun x R _ q => q) (fun x R hx _ q => ?_) fun D hD => ?_⟩⟩
    · obtain ⟨f,rfl,_⟩ := fn x hx
      exact ⟨_,rfl,_,rfl,d,valV kvs (.inr f),rfl,.inl ⟨kvs,.inr f,.inl (s1 _ _ ed),rfl,rfl⟩,q⟩
    · refine ⟨D,(feedV (V.str z :: n :: b :: r)).map (inB kvs),rfl,SqL.of ?_,k _ (s1.upd hD)⟩
      rw [upd_same,List.filter_eq_self.mpr (fun _ _ => rfl),List.map_map]
      rfl
theorem ok_width_of (T : Tx w K mg ad) : FnOk P w K mg base CX0 3 ad.a_width_of ad.d_width_of ["step", "widths"] spWof := by
  have G_feeders := ok_feeders (P := P) (w := w) (base := base) T
  refine T.F_width_of.ok sc_width_of (fun vs H Q E h => ?_) (fun cdv A outer s H vs Q E hr h => ?_)
  · obtain ⟨p,xs,d,kvs,rfl,_⟩ := h
    rfl
  · obtain ⟨p,xs,d,kvs,rfl,e,hs,ed,hw,hf,k⟩ := h
    have nd := sc_width_of.nd
    refine ⟨_,(pss_one (ps_ret (pe_callB (call_max2 rfl) (by rfl) T.z_max PyProof.Rows.boot_max (pa_cons pe_int (pa_cons (pe_callB (call_sumL (K := K) rfl) (by rfl) T.z_sum PyProof.Rows.boot_sum (pa_cons (pe_comp1 (osc := defScope s_width_of) [("widths", 1)] rfl (pi_listK (K := K) (pe_call G_feeders (hr.mono (by decide)) (by rfl) T.m_feeders T.F_feeders.kp T.b_feeders .nil pass0 (pa_cons (pv 0) pa_nil))) rfl rfl (by decide +kernel) (by decide +kernel) (by decide +kernel) ⟨rfl,rfl,trivial⟩ rfl (by decide +kernel) (fun _ _ _ _ => pts_nil) (fun _ _ _ _ => (pe_dget hr.u1 (pv 1) (pv 0) (fun _ _ => rfl)))) pa_nil)) pa_nil))))),?_⟩
    have f2 := feed_two hs
    have fn := fun v hv => fed_at hw hf (v := v) hv
    have wp := (wid_pos hs hw hf).2
    have sz : sizeLine = 16777216 := sizeLine_eq
    obtain ⟨z,n,b,r,rfl,_⟩ := shape hs
    refine ⟨_,rfl,p,z,n,b,r,rfl,e,fun l H1 s1 el => ⟨l,rfl,⟨_,SqL.of el⟩,comp_pure_list (K := K) (fun _ => true) (fun v => .int (wOf kvs v)) (SqL.of el) (by omega) (fun x R _ q => q) (fun x R hx _ q => ?_) fun D hD => ?_⟩⟩
    · obtain ⟨f,m,rfl,hv,_,ew⟩ := fn x hx
      rw [ew] at q
      exact ⟨_,rfl,_,rfl,d,_,rfl,.inl ⟨kvs,.inr f,.inl (s1 _ _ ed),rfl,hv.symm⟩,q⟩
    · refine ⟨D,(feedV (V.str z :: n :: b :: r)).map (wOf kvs),rfl,SqL.of ?_,1,_,rfl,?_⟩
      · rw [upd_same,List.filter_eq_self.mpr (fun _ _ => rfl),List.map_map]
        rfl
      · rw [wp]
        exact k _ (s1.upd hD)
theorem ok_fits (T : Tx w K mg ad) : FnOk P w K mg base CX0 4 ad.a_fits ad.d_fits ["step", "names", "widths"] spFits := by
  have G_name_of := ok_name_of (P := P) (w := w) (base := base) T
  have G_is_fed := ok_is_fed (P := P) (w := w) (base := base) T
  have G_width_of := ok_width_of (P := P) (w := w) (base := base) T
  refine T.F_fits.ok sc_fits (fun vs H Q E h => ?_) (fun cdv A outer s H vs Q E hr h => ?_)
  · obtain ⟨p,xs,nd,ns,d,kvs,rfl,_⟩ := h
    rfl
  · obtain ⟨p,xs,ndx,ns,d,kvs,rfl,e,hs,en,ed,hw,k⟩ := h
    obtain ⟨t_MOST_WIDE,h_MOST_WIDE⟩ := T.g_MOST_WIDE
    have nd := sc_fits.nd
    refine ⟨_,(pss_one (ps_ret (pe_and (pe_cmp (pc_dnotin hr.u1 (pe_call G_name_of (hr.mono (by decide)) (by rfl) T.m_name_of T.F_name_of.kp T.b_name_of .nil pass0 (pa_cons (pv 0) pa_nil)) (pv 1))) (pe_and (pe_call G_is_fed (hr.mono (by decide)) (by rfl) T.m_is_fed T.F_is_fed.kp T.b_is_fed .nil pass0 (pa_cons (pv 0) (pa_cons (pv 2) pa_nil))) (pe_one (pe_cmpR op_le (pe_call G_width_of (hr.mono (by decide)) (by rfl) T.m_width_of T.F_width_of.kp T.b_width_of .nil pass0 (pa_cons (pv 0) (pa_cons (pv 2) pa_nil))) (pe_glob (v := .int 32) (by rfl) h_MOST_WIDE ⟨t_MOST_WIDE,rfl⟩) (nomark _))))))),?_⟩
    obtain ⟨z,n,b,r,rfl,_,hn⟩ := step_nm hs
    unfold fitV at k
    rw [hn] at k
    refine ⟨_,rfl,p,_,_,_,rfl,e,_,rfl,ndx,valV (nmsD ns) (.inr n),rfl,.inl ⟨_,.inr n,.inl en,rfl,rfl⟩,_,rfl,?_⟩
    rw [nms_in]
    refine iteB (fun q => ?_) fun q => ?_
    · rw [q,Bool.true_and] at k
      refine ⟨_,rfl,_,rfl,p,_,d,kvs,rfl,e,hs,ed,fun H1 s1 => ⟨_,rfl,iteB (fun q2 => ?_) fun q2 => ?_⟩⟩
      · rw [q2,Bool.true_and] at k
        refine ⟨_,rfl,_,rfl,p,_,d,kvs,rfl,s1 _ _ e,hs,s1 _ _ ed,hw,q2,fun H2 s2 => ?_⟩
        exact ⟨_,_,rfl,rfl,k _ (s1.trans s2)⟩
      · rw [q2,Bool.false_and] at k
        exact k _ s1
    · rw [q,Bool.false_and] at k
      exact k _ (Same.refl H)
def Sts (H : Hp) (ps : List V) (os : List (Option (List V))) : Prop := ps.length = os.length ∧ ∀ (i : Nat) x,ps[i]? = some x → ∃ o,os[i]? = some o ∧ St1 H x o
theorem Sts.mono {H H' : Hp} {ps : List V} {os : List (Option (List V))} (h : Sts H ps os) (s : Same H H') : Sts H' ps os := ⟨h.1,fun i x e => (h.2 i x e).imp fun o q => ⟨q.1,q.2.mono s⟩⟩
inductive Says (H : Hp) : V → Option V → Prop where
  | oth {x : V} {g : Tg} (h : Th H x g) (hg : g ≠ .lst) : Says H x (some .non)
  | long {a : Addr} {ps : List V} (e : H a = some (.lst ps)) (l : 30 < ps.length) (l2 : ps.length ≤ 1000) : Says H (.ref a) (some .non)
  | lst {a : Addr} {ps : List V} {os : List (Option (List V))} (e : H a = some (.lst ps)) (l : ps.length ≤ 30) (h : Sts H ps os) : Says H (.ref a) ((badV os 0 [] []).map fun i : Nat => V.int (i : Int))
theorem Says.mono {H H' : Hp} {x : V} {r : Option V} (h : Says H x r) (s : Same H H') : Says H' x r := by
  cases h with
  | oth h hg => exact .oth (h.mono s) hg
  | long e l l2 => exact .long (s _ _ e) l l2
  | lst e l h => exact .lst (s _ _ e) l (h.mono s)
def isL : Tg → Bool
  | .lst => true | _ => false
theorem kit_list (K : W.Frag) (g : Tg) : W.kitOne K (.type (nm g)) (.type "list") = some (isL g) := by cases g <;> rfl
def spChecked (ad : Ad) : Sp := fun vs H Q E => ∃ x r,vs = [x] ∧ Says H x r ∧ (r = none → ∀ H',Same H H' → Q (.bl true) H') ∧ ∀ v,r = some v → ∀ H' dx,Same H H' → H' dx = some (.xd [("place", v)]) → E (.ref ad.c_BadStep) (some dx) H'
theorem ok_bad_init (T : Tx w K mg ad) : FnOk P w K mg base CX0 1 ad.a_BadStep___init__ ad.d_BadStep___init__ ["self", "place"] (spKeep K "place") := by
  refine T.F_BadStep___init__.ok sc_BadStep___init__ (fun vs H Q E h => ?_) (fun cdv A outer s H vs Q E hr h => ?_)
  · obtain ⟨e,C,cF,fI,t,v,rfl,_⟩ := h
    rfl
  · obtain ⟨e,C,cF,fI,t,v,rfl,he,XP,k⟩ := h
    refine ⟨_,pss_one (ps_xfld (f := "place") (pv 0) (pv 1) rfl),?_⟩
    exact ⟨_,rfl,_,rfl,e,C,cF,fI,t,rfl,he,XP,fun dx hdx => k dx hdx⟩
theorem drop_at {α : Type} {xs : List α} {i : Nat} {x : α} (h : xs[i]? = some x) : xs.drop i = x :: xs.drop (i + 1) := by
  obtain ⟨hi,e⟩ := List.getElem?_eq_some_iff.mp h
  rw [List.drop_eq_getElem_cons hi,e]
theorem nxW_len (kvs : List (Key × V)) (xs : List V) : (nxW kvs xs).length ≤ kvs.length + 1 := by
  unfold nxW
  split
  · omega
  · exact put_len _ _ _
theorem nxW_wdp {kvs : List (Key × V)} {xs : List V} (hs : stepV xs = true) (hw : WdP kvs) (h : fedV kvs xs = true) : WdP (nxW kvs xs) := by
  unfold nxW
  split
  · exact hw
  · obtain ⟨z,n,b,r,rfl,hn,e⟩ := step_nm hs
    rw [e]
    exact wdp_put hw hn (wid_pos hs hw h).1
theorem ok_checked (T : Tx w K mg ad) : FnOk P w K mg base (CXF P w) 7 ad.a_checked ad.d_checked ["plan"] (spChecked ad) := by
  have G_BadStep___init__ := ok_bad_init (P := P) (w := w) (base := base) T
  have G_is_step := ok_is_step (P := P) (w := w) (base := base) T
  have G_fits := ok_fits (P := P) (w := w) (base := base) T
  have G_name_of := ok_name_of (P := P) (w := w) (base := base) T
  have G_is_teller := ok_is_teller (P := P) (w := w) (base := base) T
  have G_width_of := ok_width_of (P := P) (w := w) (base := base) T
  refine T.F_checked.okX sc_checked (fun vs H Q E h => ?_) (fun cdv A outer s H vs Q E hr h => ?_)
  · obtain ⟨x,r,rfl,_⟩ := h
    rfl
  · obtain ⟨x,r,rfl,hx,k1,k2⟩ := h
    obtain ⟨t_MOST_STEPS,h_MOST_STEPS⟩ := T.g_MOST_STEPS
    have nd := sc_checked.nd
    refine ⟨_,(pss_cons (ps_if (PW.pt (pw_or (pt_not (pt_val (pe_callB (call_isinst (K := K)) (by rfl) T.z_isinstance PyProof.Rows.boot_isinstance (pa_cons (pv 0) (pa_cons (pe_bltn (v := .ty "list") (by rfl) T.z_list PyProof.Rows.boot_list rfl) pa_nil))))) (pw_or1 (pt_cmpR op_gt (pe_callB (call_len_seqK (K := K)) (by rfl) T.z_len PySem.boot_len (pa_cons (pv 0) pa_nil)) (pe_glob (v := .int 30) (by rfl) h_MOST_STEPS ⟨t_MOST_STEPS,rfl⟩) (nomark _)))))
        (pss_one (ps_raiseP T.xp_BadStep G_BadStep___init__ T.b_BadStep___init__ (hr.mono (by decide)) (pe_glob (v := .ref ad.c_BadStep) (by rfl) T.mc_BadStep rfl) pe_non))
        pss_nil)
        (pss_cons (ps_set (i := 1) nd rfl (Or.inl rfl) pe_dnewK)
        (pss_cons (ps_set (i := 2) nd rfl (Or.inl rfl) pe_dnewK)
        (pss_cons (ps_for PassesOwn.leaving rfl (pi_enum (K := K) (by rfl) T.z_enumerate (pv 0)) (pg_tup rfl (pgs_cons (pg_name (i := 3) nd rfl (Or.inl rfl)) (pgs_cons (pg_name (i := 4) nd rfl (Or.inl rfl)) pgs_nil)))
        (pss_cons (ps_if (PW.pt (pw_or (pt_not (pt_val (pe_call G_is_step (hr.mono (by decide)) (by rfl) T.m_is_step T.F_is_step.kp T.b_is_step .nil pass0 (pa_cons (pv 4) pa_nil)))) (pw_or1 (pt_not (pt_val (pe_call G_fits (hr.mono (by decide)) (by rfl) T.m_fits T.F_fits.kp T.b_fits .nil pass0 (pa_cons (pv 4) (pa_cons (pv 1) (pa_cons (pv 2) pa_nil)))))))))
        (pss_one (ps_raiseP T.xp_BadStep G_BadStep___init__ T.b_BadStep___init__ (hr.mono (by decide)) (pe_glob (v := .ref ad.c_BadStep) (by rfl) T.mc_BadStep rfl) (pv 3)))
        pss_nil)
        (pss_cons (ps_dput hr.u1 (pv 1) (pe_call G_name_of (hr.mono (by decide)) (by rfl) T.m_name_of T.F_name_of.kp T.b_name_of .nil pass0 (pa_cons (pv 4) pa_nil)) pe_bl rfl)
        (pss_one (ps_if (pt_not (pt_val (pe_call G_is_teller (hr.mono (by decide)) (by rfl) T.m_is_teller T.F_is_teller.kp T.b_is_teller .nil pass0 (pa_cons (pv 4) pa_nil))))
        (pss_one (ps_dput hr.u1 (pv 2) (pe_call G_name_of (hr.mono (by decide)) (by rfl) T.m_name_of T.F_name_of.kp T.b_name_of .nil pass0 (pa_cons (pv 4) pa_nil)) (pe_call G_width_of (hr.mono (by decide)) (by rfl) T.m_width_of T.F_width_of.kp T.b_width_of .nil pass0 (pa_cons (pv 4) (pa_cons (pv 2) pa_nil))) rfl))
        pss_nil)))))
        (pss_one (ps_ret pe_bl)))))),?_⟩
    have sz : sizeLine = 16777216 := sizeLine_eq
    have bad : ∀ v,r = some v → ∀ H1,Same H H1 → ∀ dx,H1 dx = none → E (.ref ad.c_BadStep) (some dx) (upd H1 dx (.xd [("place", v)])) := fun v e H1 s1 dx hdx => k2 v e _ dx (s1.upd hdx) upd_same
    cases hx with
    | oth h hg =>
      rename_i g
      refine ⟨_,rfl,x, "list", _,_,rfl,h.ty,kit_list _ g,_,rfl,?_⟩
      have : isL g = false := by cases g <;> first | rfl | exact absurd rfl hg
      rw [this]
      exact iteT fun dx hdx => bad _ rfl H (Same.refl H) dx hdx
    | long e l l2 =>
      refine ⟨_,rfl,_, "list", _,true,rfl,.lst e,rfl,_,rfl,iteF ⟨_,rfl,_,_,rfl,.inl (SqL.of e),_,_,rfl,rfl,_,rfl,iteB (fun _ dx hdx => bad _ rfl H (Same.refl H) dx hdx) fun q => ?_⟩⟩
      have q := of_decide_eq_false q
      omega
    | lst e l h =>
      rename_i lp ps os
      refine ⟨_,rfl,_, "list", _,true,rfl,.lst e,rfl,_,rfl,iteF ⟨_,rfl,_,_,rfl,.inl (SqL.of e),_,_,rfl,rfl,_,rfl,iteB (fun q => ?_) fun q => ?_⟩⟩
      · have q := of_decide_eq_true q
        omega
      intro a1 h1
      have s1 := Same.upd' (o := .dK []) h1
      have e1 : (upd H a1 (.dK [])) a1 = some (.dK []) := upd_same
      generalize upd H a1 (.dK []) = H1 at s1 e1 ⊢
      intro a2 h2
      have s2 := Same.upd' (o := .dK []) h2
      have e2 : (upd H1 a2 (.dK [])) a2 = some (.dK []) := upd_same
      generalize upd H1 a2 (.dK []) = H2 at s2 e2 ⊢
      have n12 : a1 ≠ a2 := ne_of_none e1 h2
      have h2' : H a2 = none := same_none s1 h2
      have s02 := s1.trans s2
      refine ⟨_,rfl,lp,rfl,⟨_,SqL.of (s02 _ _ e)⟩,for_enum (K := K) (xs := ps) (fun i σ H' => ∃ (o3 o4 : Option V) (ns : List Str) (kvs : List (Key × V)),σ = [some (.ref lp),some (.ref a1),some (.ref a2),o3,o4] ∧ Same H H' ∧ H' a1 = some (.dK (nmsD ns)) ∧ H' a2 = some (.dK kvs) ∧ WdP kvs ∧ ns.length ≤ i ∧ kvs.length ≤ i ∧ badV os 0 [] [] = badV (os.drop i) i ns kvs)
        ⟨none,none,[],[],rfl,s02,s2 _ _ e1,e2,fun q hq => absurd hq (by simp),Nat.le_refl _,Nat.le_refl _,rfl⟩ (fun i σ H' _ ⟨_,_,_,_,_,sx,_⟩ => SqL.of (sx _ _ e)) ?_ ?_⟩
      · rintro i x σ H3 pe hx ⟨o3,o4,ns,kvs,rfl,s3,en,ew,hw,ln,lw,eb⟩ hpe
        obtain ⟨o,ho,st⟩ := h.2 i x hx
        have hi : i < ps.length := (List.getElem?_eq_some_iff.mp hx).1
        rw [drop_at ho] at eb
        refine ⟨pe,_,rfl,SqT.of upd_same,rfl,_,_,rfl,_,_,rfl,rfl,?_⟩
        have s4 : Same H3 (upd H3 pe (.tup [.int (i : Int),x])) := Same.upd' hpe
        generalize upd H3 pe (.tup [.int (i : Int),x]) = H4 at s4 ⊢
        have st4 := (st.mono s3).mono s4
        have s34 := s3.trans s4
        refine ⟨_,rfl,x,o,rfl,st4,fun H5 s5 => ⟨_,rfl,?_⟩⟩
        have s35 := s34.trans s5
        cases o with
        | none =>
          refine iteT ⟨_,rfl,fun dx hdx => bad (.int (i : Int)) ?_ H5 s35 dx hdx⟩
          rw [eb]
          rfl
        | some xs =>
          cases st4 with
          | tup ep hth lth =>
            rename_i p
            refine iteB (fun q => ?_) fun q => ?_
            · have q : stepV xs = false := by simpa [onX] using q
              refine ⟨_,rfl,fun dx hdx => bad (.int (i : Int)) ?_ H5 s35 dx hdx⟩
              rw [eb]
              unfold badV
              rw [q,Bool.false_and,if_neg Bool.false_ne_true]
              rfl
            · have hs : stepV xs = true := by simpa [onX] using q
              have ep5 := s5 _ _ ep
              have en5 := (s4.trans s5) _ _ en
              have ew5 := (s4.trans s5) _ _ ew
              refine ⟨_,rfl,_,rfl,_,rfl,p,xs,a1,ns,a2,kvs,rfl,ep5,hs,en5,ew5,hw,fun H6 s6 => ⟨_,rfl,?_⟩⟩
              have s36 := s35.trans s6
              refine iteB (fun q => ?_) fun q => ?_
              · have q : fitV ns kvs xs = false := by simpa using q
                refine ⟨_,rfl,fun dx hdx => bad (.int (i : Int)) ?_ H6 s36 dx hdx⟩
                rw [eb]
                unfold badV
                rw [q,Bool.and_false,if_neg Bool.false_ne_true]
                rfl
              · have hf : fitV ns kvs xs = true := by simpa using q
                have eb : badV os 0 [] [] = badV (os.drop (i + 1)) (i + 1) (ns ++ [nmS xs]) (nxW kvs xs) := by
                  rw [eb]
                  conv => lhs; unfold badV
                  rw [hs,hf,Bool.true_and,if_pos rfl]
                have hf' := hf
                unfold fitV at hf'
                rw [Bool.and_eq_true,Bool.and_eq_true] at hf'
                obtain ⟨f1,f2,f3⟩ := hf'
                have nin : nmS xs ∉ ns := by simpa using f1
                have hw' := nxW_wdp hs hw f2
                have nl := nxW_len kvs xs
                have ep6 := s6 _ _ ep5
                have en6 := s6 _ _ en5
                have ew6 := s6 _ _ ew5
                obtain ⟨z,n,b,r,rfl,hn,enm⟩ := step_nm hs
                rw [enm] at nin eb
                refine ⟨_,rfl,_,rfl,p,_,_,_,rfl,ep6,a1,_,rfl,.inl ⟨nmsD ns,.inr n,en6,rfl,by unfold nmsD; rw [List.length_map]; omega,rfl⟩,?_⟩
                rw [nms_put nin]
                have s7 : Same H (upd H6 a1 (.dK (nmsD (ns ++ [n])))) := s36.updN h1
                have en7 : (upd H6 a1 (.dK (nmsD (ns ++ [n])))) a1 = some (.dK (nmsD (ns ++ [n]))) := upd_same
                have ew7 : (upd H6 a1 (.dK (nmsD (ns ++ [n])))) a2 = some (.dK kvs) := by rw [upd_ne n12.symm]; exact ew6
                have ep7 : (upd H6 a1 (.dK (nmsD (ns ++ [n])))) p = some (.tup (.str z :: .str n :: b :: r)) := by
                  rw [upd_ne (fun q => by rw [q,en6] at ep6; cases ep6)]
                  exact ep6
                generalize upd H6 a1 (.dK (nmsD (ns ++ [n]))) = H7 at s7 en7 ew7 ep7 ⊢
                have ll : (ns ++ [n]).length ≤ i + 1 := by rw [List.length_append,List.length_singleton]; omega
                refine ⟨_,rfl,p,z,_,rfl,ep7,_,rfl,iteB (fun q => ?_) fun q => ?_⟩
                · have tl : telV (V.str z :: .str n :: b :: r) = false := by simpa [telV] using q
                  have enx : nxW kvs (V.str z :: .str n :: b :: r) = putK kvs (.inr n) (.int (widV kvs (V.str z :: .str n :: b :: r))) := by
                    unfold nxW
                    rw [tl,if_neg Bool.false_ne_true,enm]
                  refine ⟨_,rfl,_,rfl,p,_,a2,kvs,rfl,ep7,hs,ew7,hw,f2,fun H8 s8 => ⟨_,rfl,_,rfl,p,_,_,_,rfl,s8 _ _ ep7,a2,_,rfl,.inl ⟨kvs,.inr n,s8 _ _ ew7,rfl,by omega,rfl⟩,?_⟩⟩
                  refine ⟨_,_,ns ++ [n],_,rfl,(s7.trans s8).updN h2',?_,upd_same,by rw [← enx]; exact hw',ll,by rw [← enx]; omega,by rw [← enx]; exact eb⟩
                  rw [upd_ne n12]
                  exact s8 _ _ en7
                · have tl : telV (V.str z :: .str n :: b :: r) = true := by simpa [telV] using q
                  have enx : nxW kvs (V.str z :: .str n :: b :: r) = kvs := by
                    unfold nxW
                    rw [tl,if_pos rfl]
                  rw [enx] at eb
                  exact ⟨_,_,ns ++ [n],kvs,rfl,s7,en7,ew7,hw,ll,by omega,eb⟩
      · rintro σ H3 ⟨o3,o4,ns,kvs,rfl,s3,en,ew,hw,ln,lw,eb⟩
        rw [h.1,List.drop_of_length_le (Nat.le_refl _)] at eb
        exact k1 (by rw [eb]; rfl) H3 s3
def spWideX : Sp := fun vs H Q _ => ∃ p xs d kvs,vs = [.ref p,.ref d] ∧ H p = some (.tup xs) ∧ stepV xs = true ∧ H d = some (.dK kvs) ∧ WdP kvs ∧ fedV kvs xs = true ∧ Q (.int (widV kvs xs)) H
theorem ok_wideX (T : Tx w K mg ad) : FnOk P w K mg base CX0 1 ad.a_uwide ad.d_uwide ["_law_step_here", "_law_widths"] spWideX := by
  refine T.F_uwide.ok sc_uwide (fun vs H Q E h => ?_) (fun cdv A outer s H vs Q E hr h => ?_)
  · obtain ⟨p,xs,d,kvs,rfl,_⟩ := h
    rfl
  · obtain ⟨p,xs,d,kvs,rfl,e,hs,ed,hw,hf,k⟩ := h
    have nd := sc_uwide.nd
    refine ⟨_,(pss_cons (ps_if (pt_cmpR op_eq (pe_ix (ix_tupK (K := K)) (pv 0) pe_int (fun _ _ => rfl)) pe_str (nomark _))
        (pss_one (ps_ret pe_int))
        pss_nil)
        (pss_cons (ps_if (PW.pt (pw_or (pt_cmpR op_eq (pe_ix (ix_tupK (K := K)) (pv 0) pe_int (fun _ _ => rfl)) pe_str (nomark _)) (pw_or1 (pt_cmpR op_eq (pe_ix (ix_tupK (K := K)) (pv 0) pe_int (fun _ _ => rfl)) pe_str (nomark _)))))
        (pss_one (ps_ret (pe_op op_add (pe_dget hr.u1 (pv 1) (pe_ix (ix_tupK (K := K)) (pv 0) pe_int (fun _ _ => rfl)) (fun _ _ => rfl)) (pe_dget hr.u1 (pv 1) (pe_ix (ix_tupK (K := K)) (pv 0) pe_int (fun _ _ => rfl)) (fun _ _ => rfl)))))
        pss_nil)
        (pss_one (ps_ret (pe_dget hr.u1 (pv 1) (pe_ix (ix_tupK (K := K)) (pv 0) pe_int (fun _ _ => rfl)) (fun _ _ => rfl)))))),?_⟩
    have fa := fun v hv => fed_at hw hf (v := v) hv
    obtain ⟨z,n,b,r,rfl,sh⟩ := shape hs
    have i0 : atI (V.str z :: n :: b :: r) 0 = some (.str z) := atI_nat (j := 0) rfl
    have i2 : atI (V.str z :: n :: b :: r) 2 = some b := atI_nat (j := 2) rfl
    unfold widV at k
    refine ⟨_,rfl,p,_,_,_,rfl,rfl,SqT.of e,i0,rfl,_,rfl,?_⟩
    rcases sh with ⟨rfl,ef⟩ | ⟨z1,z2,z3,ef⟩ | ⟨z1,z2,c,r',rfl,ef⟩
    · rw [ef,if_pos rfl] at k
      exact eqS k
    · refine neS z1 ⟨_,rfl,p,_,_,_,rfl,rfl,SqT.of e,i0,rfl,_,rfl,neS z2 ⟨_,rfl,p,_,_,_,rfl,rfl,SqT.of e,i0,rfl,_,rfl,neS z3 ?_⟩⟩
      obtain ⟨fb,nb,rfl,eb,_,wb⟩ := fa b (by rw [ef]; exact List.mem_singleton.mpr rfl)
      rw [ef,if_neg (by simp)] at k
      have es : ([V.str fb].map (wOf kvs)).sum = nb := by rw [List.map_cons,wb]; simp
      rw [es] at k
      exact ⟨_,rfl,_,rfl,p,_,_,_,rfl,rfl,SqT.of e,i2,d,_,rfl,.inl ⟨kvs,.inr fb,.inl ed,rfl,eb.symm⟩,k⟩
    · have i3 : atI (V.str z :: n :: b :: c :: r') 3 = some c := atI_nat (j := 3) rfl
      obtain ⟨fb,nb,rfl,eb,_,wb⟩ := fa b (by rw [ef]; exact List.mem_cons_self)
      obtain ⟨fc,nc,rfl,ec,_,wc⟩ := fa c (by rw [ef]; exact List.mem_cons_of_mem _ List.mem_cons_self)
      rw [ef,if_neg (by simp)] at k
      have es : ([V.str fb,V.str fc].map (wOf kvs)).sum = nb + nc := by rw [List.map_cons,List.map_cons,wb,wc]; simp
      rw [es] at k
      refine neS z1 ⟨_,rfl,p,_,_,_,rfl,rfl,SqT.of e,i0,rfl,_,rfl,?_⟩
      rcases z2 with rfl | rfl
      · exact eqS ⟨_,rfl,_,rfl,p,_,_,_,rfl,rfl,SqT.of e,i2,d,_,rfl,.inl ⟨kvs,.inr fb,.inl ed,rfl,eb.symm⟩,_,rfl,_,rfl,p,_,_,_,rfl,rfl,SqT.of e,i3,d,_,rfl,.inl ⟨kvs,.inr fc,.inl ed,rfl,ec.symm⟩,_,_,rfl,rfl,k⟩
      · exact neS (by decide) ⟨_,rfl,p,_,_,_,rfl,rfl,SqT.of e,i0,rfl,_,rfl,eqS ⟨_,rfl,_,rfl,p,_,_,_,rfl,rfl,SqT.of e,i2,d,_,rfl,.inl ⟨kvs,.inr fb,.inl ed,rfl,eb.symm⟩,_,rfl,_,rfl,p,_,_,_,rfl,rfl,SqT.of e,i3,d,_,rfl,.inl ⟨kvs,.inr fc,.inl ed,rfl,ec.symm⟩,_,_,rfl,rfl,k⟩⟩
theorem in_strs (z : Str) : ∀ ns : List Str,inV (.str z) (ns.map V.str) = decide (z ∈ ns)
  | [] => by
    rw [decide_eq_false (by simp)]
    rfl
  | a :: r => by
    have ih := in_strs z r
    have e : inV (.str z) ((a :: r).map V.str) = ((a == z) || inV (.str z) (r.map V.str)) := rfl
    rw [e,ih]
    by_cases h : a = z
    · subst h
      rw [beq_self_eq_true,Bool.true_or,decide_eq_true List.mem_cons_self]
    · rw [beq_eq_false_iff_ne.mpr h,Bool.false_or]
      by_cases m : z ∈ r
      · rw [decide_eq_true m,decide_eq_true (List.mem_cons_of_mem _ m)]
      · rw [decide_eq_false m,decide_eq_false (fun q => (List.mem_cons.mp q).elim (fun e => h e.symm) m)]
theorem strs_flat (ns : List Str) : (ns.map V.str).all flatV = true := by
  rw [List.all_map,List.all_eq_true]
  intro x _
  rfl
theorem in_tel (z : Str) : inV (.str z) TEL = decide (z = "each" ∨ z = "gap") := by
  by_cases h : z = "each" ∨ z = "gap"
  · rw [decide_eq_true h]
    rcases h with rfl | rfl <;> decide +kernel
  · rw [decide_eq_false h]
    refine Bool.eq_false_iff.mpr fun q => ?_
    have q : (("each" : Str) == z || (("gap" : Str) == z || false)) = true := q
    simp only [Bool.or_eq_true,Bool.or_false,beq_iff_eq] at q
    exact h (q.elim (fun e => .inl e.symm) fun e => .inr e.symm)
theorem cut24 (a b c d : V) (r : List V) : cutV (a :: b :: c :: d :: r) (some 2) (some 4) = [c,d] := by
  unfold cutV
  rw [sIx_some (by decide),sIx_some (by decide)]
  have e1 : min (2 : Int).toNat (a :: b :: c :: d :: r).length = 2 := by simp only [List.length_cons]; omega
  have e2 : min (4 : Int).toNat (a :: b :: c :: d :: r).length = 4 := by simp only [List.length_cons]; omega
  rw [e1,e2]
  rfl
theorem cut23 (a b c : V) (r : List V) : cutV (a :: b :: c :: r) (some 2) (some 3) = [c] := by
  unfold cutV
  rw [sIx_some (by decide),sIx_some (by decide)]
  have e1 : min (2 : Int).toNat (a :: b :: c :: r).length = 2 := by simp only [List.length_cons]; omega
  have e2 : min (3 : Int).toNat (a :: b :: c :: r).length = 3 := by simp only [List.length_cons]; omega
  rw [e1,e2]
  rfl
theorem not_all2 (xs : List V) (h : 2 ≤ xs.length) (hi : Option Int) : ¬ (HT.sIx xs.length 0 (some 2) = 0 ∧ HT.sIx xs.length xs.length hi = xs.length) := fun ⟨q,_⟩ => by
  rw [sIx_some (by decide)] at q
  have : min (2 : Int).toNat xs.length = 2 := by omega
  omega
def spBad : Sp := fun vs H Q _ => ∃ x r,vs = [x] ∧ Says H x r ∧ ∀ H' p,Same H H' → H' p = some (.tup [.bl r.isSome,r.getD .non]) → Q (.ref p) H'
theorem fil_fed {kvs : List (Key × V)} : ∀ {fs : List V},(∀ v ∈ fs,∃ f,v = V.str f) → (List.map (fun x => x) (List.filter (fun v => !inB kvs v) fs)).isEmpty = (fs.map (inB kvs)).all id
  | [],_ => rfl
  | v :: r,h => by
    have ih := fil_fed (kvs := kvs) (fs := r) fun x hx => h x (List.mem_cons_of_mem _ hx)
    rw [List.filter_cons,List.map_cons,List.all_cons]
    cases q : inB kvs v with
    | true => simpa using ih
    | false => simp
theorem ok_bad (T : Tx w K mg ad) : FnOk P w K mg base CX0 3 ad.a_ubad ad.d_ubad ["_law_plan_here"] spBad := by
  have G_uis_step := ok_law_is_step (P := P) (w := w) (base := base) T
  have G_uwide := ok_wideX (P := P) (w := w) (base := base) T
  refine T.F_ubad.ok sc_ubad (fun vs H Q E h => ?_) (fun cdv A outer s H vs Q E hr h => ?_)
  · obtain ⟨x,r,rfl,_⟩ := h
    rfl
  · obtain ⟨x,r,rfl,hx,k⟩ := h
    have nd := sc_ubad.nd
    refine ⟨_,(pss_cons (ps_if (PW.pt (pw_or (pt_not (pt_val (pe_callB (call_isinst (K := K)) (by rfl) T.z_isinstance PyProof.Rows.boot_isinstance (pa_cons (pv 0) (pa_cons (pe_bltn (v := .ty "list") (by rfl) T.z_list PyProof.Rows.boot_list rfl) pa_nil))))) (pw_or1 (pt_cmpR op_gt (pe_callB (call_len_seqK (K := K)) (by rfl) T.z_len PySem.boot_len (pa_cons (pv 0) pa_nil)) pe_int (nomark _)))))
        (pss_one (ps_ret (pe_tup (pa_cons pe_bl (pa_cons pe_non pa_nil)))))
        pss_nil)
        (pss_cons (ps_set (i := 1) nd rfl (Or.inr rfl) pe_dnewK)
        (pss_cons (ps_set (i := 2) nd rfl (Or.inl rfl) (pe_lst pa_nil))
        (pss_cons (ps_for PassesOwn.never rfl (pi_enum (K := K) (by rfl) T.z_enumerate (pv 0)) (pg_tup rfl (pgs_cons (pg_name (i := 3) nd rfl (Or.inl rfl)) (pgs_cons (pg_name (i := 4) nd rfl (Or.inl rfl)) pgs_nil)))
        (pss_cons (ps_if (PW.pt (pw_or (pt_not (pt_val (pe_call G_uis_step (hr.mono (by decide)) (by rfl) T.m_uis_step T.F_uis_step.kp T.b_uis_step .nil pass0 (pa_cons (pv 4) pa_nil)))) (pw_or1 (pt_cmpR (op_in_seqK (K := K)) (pe_ix (ix_tupK (K := K)) (pv 4) pe_int (fun _ _ => rfl)) (pv 2) (by with_unfolding_all rfl)))))
        (pss_one (ps_ret (pe_tup (pa_cons pe_bl (pa_cons (pv 3) pa_nil)))))
        pss_nil)
        (pss_cons (ps_cut (ps_set (i := 5) nd rfl (Or.inl rfl) (pe_ifExp (pt_cmpR (op_in_seqK (K := K)) (pe_ix (ix_tupK (K := K)) (pv 4) pe_int (fun _ _ => rfl)) (pe_tup (pa_cons pe_str (pa_cons pe_str pa_nil))) (by with_unfolding_all rfl)) (pe_slice (sl_tupK (K := K)) (pv 4) (po_some pe_int) (po_some pe_int)) (pe_slice (sl_tupK (K := K)) (pv 4) (po_some pe_int) (po_some pe_int)))))
        (pss_cons (ps_cut (ps_if (PW.pt (pw_and (pt_cmpR op_ne (pe_ix (ix_tupK (K := K)) (pv 4) pe_int (fun _ _ => rfl)) pe_str (nomark _)) (pw_and1 (pt_cmpR (op_neNil (K := K) hr.units0) (pe_comp1 (osc := defScope s_ubad) [("_law_widths", 1)] rfl (pi_tupK (K := K) (pv 5)) rfl rfl (by decide +kernel) (by decide +kernel) (by decide +kernel) ⟨rfl,rfl,trivial⟩ rfl (by decide +kernel) (fun _ _ _ _ => pts_one (pt_cmp (pc_dnotin hr.u1 (pv 0) (pv 1)))) (fun _ _ _ _ => (pv 0))) (pe_lst pa_nil) (nomark _)))))
        (pss_one (ps_ret (pe_tup (pa_cons pe_bl (pa_cons (pv 3) pa_nil)))))
        pss_nil))
        (pss_cons (ps_expr (pe_bmK (K := K) F.plainAttrs_list F.slot_list_append F.type_list_append mt_append (pv 2) (pa_cons (pe_ix (ix_tupK (K := K)) (pv 4) pe_int (fun _ _ => rfl)) pa_nil)))
        (pss_cons (ps_if (pt_cmpR op_gt (pe_call G_uwide (hr.mono (by decide)) (by rfl) T.m_uwide T.F_uwide.kp T.b_uwide .nil pass0 (pa_cons (pv 4) (pa_cons (pv 1) pa_nil))) pe_int (nomark _))
        (pss_one (ps_ret (pe_tup (pa_cons pe_bl (pa_cons (pv 3) pa_nil)))))
        pss_nil)
        (pss_one (ps_if (PW.pt (pw_and (pt_cmpR op_ne (pe_ix (ix_tupK (K := K)) (pv 4) pe_int (fun _ _ => rfl)) pe_str (nomark _)) (pw_and1 (pt_cmpR op_ne (pe_ix (ix_tupK (K := K)) (pv 4) pe_int (fun _ _ => rfl)) pe_str (nomark _)))))
        (pss_one (ps_dput hr.u1 (pv 1) (pe_ix (ix_tupK (K := K)) (pv 4) pe_int (fun _ _ => rfl)) (pe_call G_uwide (hr.mono (by decide)) (by rfl) T.m_uwide T.F_uwide.kp T.b_uwide .nil pass0 (pa_cons (pv 4) (pa_cons (pv 1) pa_nil))) rfl))
        pss_nil))))))))
        (pss_one (ps_ret (pe_tup (pa_cons pe_bl (pa_cons pe_non pa_nil))))))))),?_⟩
    have sz : sizeLine = 16777216 := sizeLine_eq
    have bad : ∀ v,r = some v → ∀ H1,Same H H1 → ∀ p,H1 p = none → Q (.ref p) (upd H1 p (.tup [.bl true,v])) := fun v e H1 s1 p hp => k _ p (s1.upd hp) (by rw [upd_same,e]; rfl)
    have two : ([V.bl true,V.non] : List V).length ≤ sizeLine := by show 2 ≤ sizeLine; omega
    cases hx with
    | oth h hg =>
      rename_i g
      refine ⟨_,rfl,x, "list", _,_,rfl,h.ty,kit_list _ g,_,rfl,?_⟩
      have : isL g = false := by cases g <;> first | rfl | exact absurd rfl hg
      rw [this]
      exact iteT ⟨two,fun p hp => bad _ rfl H (Same.refl H) p hp⟩
    | long e l l2 =>
      refine ⟨_,rfl,_, "list", _,true,rfl,.lst e,rfl,_,rfl,iteF ⟨_,rfl,_,_,rfl,.inl (SqL.of e),_,_,rfl,rfl,_,rfl,iteB (fun _ => ⟨two,fun p hp => bad _ rfl H (Same.refl H) p hp⟩) fun q => ?_⟩⟩
      have q := of_decide_eq_false q
      omega
    | lst e l h =>
      rename_i lp ps os
      refine ⟨_,rfl,_, "list", _,true,rfl,.lst e,rfl,_,rfl,iteF ⟨_,rfl,_,_,rfl,.inl (SqL.of e),_,_,rfl,rfl,_,rfl,iteB (fun q => ?_) fun q => ?_⟩⟩
      · have q := of_decide_eq_true q
        omega
      intro a2 h2
      have s2 := Same.upd' (o := .dK []) h2
      have e2 : (upd H a2 (.dK [])) a2 = some (.dK []) := upd_same
      generalize upd H a2 (.dK []) = H1 at s2 e2 ⊢
      refine ⟨by show 0 ≤ sizeLine; omega,fun a1 h1 => ?_⟩
      have s1 := Same.upd' (o := .lst []) h1
      have e1 : (upd H1 a1 (.lst [])) a1 = some (.lst []) := upd_same
      generalize upd H1 a1 (.lst []) = H2 at s1 e1 ⊢
      have n12 : a2 ≠ a1 := ne_of_none e2 h1
      have h1' : H a1 = none := same_none s2 h1
      have s02 := s2.trans s1
      refine ⟨_,rfl,lp,rfl,⟨_,SqL.of (s02 _ _ e)⟩,for_enum (K := K) (xs := ps) (fun i σ H' => ∃ (o3 o4 o5 : Option V) (ns : List Str) (kvs : List (Key × V)),σ = [some (.ref lp),some (.ref a2),some (.ref a1),o3,o4,o5] ∧ Same H H' ∧ H' a1 = some (.lst (ns.map V.str)) ∧ H' a2 = some (.dK kvs) ∧ WdP kvs ∧ ns.length ≤ i ∧ kvs.length ≤ i ∧ badV os 0 [] [] = badV (os.drop i) i ns kvs)
        ⟨none,none,none,[],[],rfl,s02,e1,s1 _ _ e2,fun q hq => absurd hq (by simp),Nat.le_refl _,Nat.le_refl _,rfl⟩ (fun i σ H' _ ⟨_,_,_,_,_,_,sx,_⟩ => SqL.of (sx _ _ e)) ?_ ?_⟩
      · rintro i x σ H3 pe hx ⟨o3,o4,o5,ns,kvs,rfl,s3,en,ew,hw,ln,lw,eb⟩ hpe
        obtain ⟨o,ho,st⟩ := h.2 i x hx
        have hi : i < ps.length := (List.getElem?_eq_some_iff.mp hx).1
        rw [drop_at ho] at eb
        refine ⟨pe,_,rfl,SqT.of upd_same,rfl,_,_,rfl,_,_,rfl,rfl,?_⟩
        have s4 : Same H3 (upd H3 pe (.tup [.int (i : Int),x])) := Same.upd' hpe
        generalize upd H3 pe (.tup [.int (i : Int),x]) = H4 at s4 ⊢
        have st4 := (st.mono s3).mono s4
        have s34 := s3.trans s4
        refine ⟨_,rfl,x,o,rfl,st4,fun H5 s5 => ⟨_,rfl,?_⟩⟩
        have s35 := s34.trans s5
        cases o with
        | none =>
          refine iteT ⟨_,rfl,two,fun p hp => bad (.int (i : Int)) ?_ H5 s35 p hp⟩
          rw [eb]
          rfl
        | some xs =>
          cases st4 with
          | tup ep hth lth =>
            rename_i p
            refine iteB (fun q => ?_) fun q => ?_
            · have q : stepV xs = false := by simpa [onX] using q
              refine ⟨_,rfl,two,fun p hp => bad (.int (i : Int)) ?_ H5 s35 p hp⟩
              rw [eb]
              unfold badV
              rw [q,Bool.false_and,if_neg Bool.false_ne_true]
              rfl
            have hs : stepV xs = true := by simpa [onX] using q
            have ep5 := s5 _ _ ep
            have en5 := (s4.trans s5) _ _ en
            have ew5 := (s4.trans s5) _ _ ew
            have fn := step_feed hs
            have f2 := feed_two hs
            have shp := shape hs
            obtain ⟨z,n,b,r,rfl,hn,enm⟩ := step_nm hs
            have i0 : atI (V.str z :: .str n :: b :: r) 0 = some (.str z) := atI_nat (j := 0) rfl
            have i1 : atI (V.str z :: .str n :: b :: r) 1 = some (.str n) := atI_nat (j := 1) rfl
            have eb0 : badV (some (V.str z :: .str n :: b :: r) :: os.drop (i + 1)) i ns kvs = if fitV ns kvs (V.str z :: .str n :: b :: r) = true then badV (os.drop (i + 1)) (i + 1) (ns ++ [n]) (nxW kvs (V.str z :: .str n :: b :: r)) else some i := by
              conv => lhs; unfold badV
              rw [hs,Bool.true_and,enm]
            rw [eb0] at eb
            have fit : fitV ns kvs (V.str z :: .str n :: b :: r) = ((!decide (n ∈ ns)) && (fedV kvs (V.str z :: .str n :: b :: r) && decide (widV kvs (V.str z :: .str n :: b :: r) ≤ 32))) := by
              unfold fitV
              rw [enm]
            rw [fit] at eb
            have no : ∀ H6,Same H H6 → ((!decide (n ∈ ns)) && (fedV kvs (V.str z :: .str n :: b :: r) && decide (widV kvs (V.str z :: .str n :: b :: r) ≤ 32))) = false → ∀ p,H6 p = none → Q (.ref p) (upd H6 p (.tup [.bl true,.int (i : Int)])) := fun H6 s6 q p hp => bad (.int (i : Int)) (by rw [eb,q,if_neg Bool.false_ne_true]; rfl) H6 s6 p hp
            refine ⟨_,rfl,p,_,_,_,rfl,rfl,SqT.of ep5,i1,_,rfl,a1,ns.map V.str,rfl,.inl (SqL.of en5),rfl,strs_flat ns,_,rfl,?_⟩
            rw [if_neg Bool.false_ne_true,in_strs]
            refine iteB (fun q => ?_) fun q => ?_
            · exact ⟨_,rfl,two,fun p hp => no H5 s35 (by rw [q]; rfl) p hp⟩
            rw [q,Bool.not_false,Bool.true_and] at no eb
            have nin : n ∉ ns := of_decide_eq_false q
            refine cutBy (fun σ' H' => ∃ (q2 : Addr) (fs : List V),σ' = [some (.ref lp),some (.ref a2),some (.ref a1),some (.int (i : Int)),some (.ref p),some (.ref q2)] ∧ Same H5 H' ∧ H' q2 = some (.tup fs) ∧ fs.length ≤ 2 ∧ (z ≠ "take" → fs = feedV (V.str z :: .str n :: b :: r)) ∧ (z = "take" → feedV (V.str z :: .str n :: b :: r) = [])) ?_ ?_
            · refine ⟨_,rfl,p,_,_,_,rfl,rfl,SqT.of ep5,i0,by show 2 ≤ sizeLine; omega,fun q1 hq1 => ?_⟩
              have s6 := Same.upd' (o := .tup [V.str "both", V.str "join"]) hq1
              have e6 : (upd H5 q1 (.tup [V.str "both", V.str "join"])) q1 = some (.tup [V.str "both", V.str "join"]) := upd_same
              generalize upd H5 q1 (.tup [V.str "both", V.str "join"]) = H6 at s6 e6 ⊢
              refine ⟨q1,_,rfl,.inr (SqT.of e6),rfl,rfl,_,rfl,?_⟩
              rw [if_neg Bool.false_ne_true,in_pai]
              obtain ⟨z',n',b',r',ee,sh⟩ := shp
              injection ee with e1 ee
              injection e1 with e1
              injection ee with e2 ee
              injection ee with e3 e4
              subst e1 e3 e4
              refine iteB (fun q => ?_) fun q => ?_
              · have q := of_decide_eq_true q
                rcases sh with ⟨hz,_⟩ | ⟨_,h2,h3,_⟩ | ⟨h1,_,c,r',rfl,ef⟩
                · rw [hz] at q
                  exact absurd q (by decide)
                · exact absurd q (fun q => q.elim h2 h3)
                · refine ⟨_,rfl,_,rfl,_,rfl,p,_,rfl,SqT.of (s6 _ _ ep5),not_all2 _ (by simp) _,fun p2 hp2 => ⟨p2,_,rfl,s6.upd hp2,upd_same,by rw [cut24]; exact Nat.le_refl _,fun _ => by rw [cut24]; exact ef.symm,fun hz => absurd hz h1⟩⟩
              · have q := of_decide_eq_false q
                refine ⟨_,rfl,_,rfl,_,rfl,p,_,rfl,SqT.of (s6 _ _ ep5),not_all2 _ (by simp) _,fun p2 hp2 => ⟨p2,_,rfl,s6.upd hp2,upd_same,by rw [cut23]; exact Nat.le_succ _,fun hz => ?_,fun hz => ?_⟩⟩
                · rw [cut23]
                  rcases sh with ⟨hz',_⟩ | ⟨_,_,_,ef⟩ | ⟨_,h2,_⟩
                  · exact absurd hz' hz
                  · exact ef.symm
                  · exact absurd h2 q
                · rcases sh with ⟨_,ef⟩ | ⟨h1,_⟩ | ⟨h1,_⟩
                  · exact ef
                  · exact absurd hz h1
                  · exact absurd hz h1
            rintro σ' H6 ⟨q2,fs,rfl,s6,e6,l6,f6,t6⟩
            have s36 := s35.trans s6
            have ep6 := s6 _ _ ep5
            have ew6 := s6 _ _ ew5
            have en6 := s6 _ _ en5
            refine cutBy (fun σ' H' => ∃ o5,σ' = [some (.ref lp),some (.ref a2),some (.ref a1),some (.int (i : Int)),some (.ref p),o5] ∧ Same H6 H' ∧ fedV kvs (V.str z :: .str n :: b :: r) = true) ?_ ?_
            · refine ⟨_,rfl,p,_,_,_,rfl,rfl,SqT.of ep6,i0,rfl,_,rfl,?_⟩
              by_cases hz : z = "take"
              · refine iteNS (by rw [hz]) ⟨_,rfl,Same.refl H6,?_⟩
                unfold fedV
                rw [t6 hz]
                rfl
              · refine iteNSn (fun q => hz (V.str.inj q)) ⟨_,rfl,q2,rfl,⟨_,SqT.of e6⟩,comp_pure_tup (K := K) (fun v => !inB kvs v) (fun x => x) (SqT.of e6) (by omega) (fun x R hx q => ?_) (fun x R _ _ q => ⟨_,rfl,q⟩) fun D hD => ?_⟩
                · rw [f6 hz] at hx
                  obtain ⟨f,rfl,_⟩ := fn x hx
                  exact ⟨_,rfl,_,rfl,a2,valV kvs (.inr f),rfl,.inl ⟨kvs,.inr f,.inl ew6,rfl,rfl⟩,_,rfl,q⟩
                · rw [f6 hz]
                  have s7 := Same.upd' (o := .lst (List.map (fun x => x) (List.filter (fun v => !inB kvs v) (feedV (V.str z :: .str n :: b :: r))))) hD
                  have e7 : (upd H6 D (.lst (List.map (fun x => x) (List.filter (fun v => !inB kvs v) (feedV (V.str z :: .str n :: b :: r)))))) D = some (.lst (List.map (fun x => x) (List.filter (fun v => !inB kvs v) (feedV (V.str z :: .str n :: b :: r))))) := upd_same
                  generalize upd H6 D (.lst (List.map (fun x => x) (List.filter (fun v => !inB kvs v) (feedV (V.str z :: .str n :: b :: r))))) = H7 at s7 e7 ⊢
                  refine ⟨by show 0 ≤ sizeLine; omega,fun D2 hD2 => ?_⟩
                  have s8 := Same.upd' (o := .lst []) hD2
                  have e8 : (upd H7 D2 (.lst [])) D2 = some (.lst []) := upd_same
                  generalize upd H7 D2 (.lst []) = H8 at s8 e8 ⊢
                  refine ⟨D,D2,_,rfl,rfl,SqL.of (s8 _ _ e7),SqL.of e8,_,rfl,?_⟩
                  rw [fil_fed (fun v hv => (fn v hv).imp fun f q => q.1)]
                  refine iteB (fun q => ?_) fun q => ?_
                  · have q : fedV kvs (V.str z :: .str n :: b :: r) = false := by simpa [fedV] using q
                    exact ⟨_,rfl,two,fun p hp => no H8 ((s36.trans s7).trans s8) (by rw [q]; rfl) p hp⟩
                  · have q : fedV kvs (V.str z :: .str n :: b :: r) = true := by simpa [fedV] using q
                    exact ⟨_,rfl,s7.trans s8,q⟩
            rintro σ' H7 ⟨o5,rfl,s7,hfed⟩
            rw [hfed,Bool.true_and] at no eb
            have s37 := s36.trans s7
            have ep7 := s7 _ _ ep6
            have ew7 := s7 _ _ ew6
            have en7 := s7 _ _ en6
            have hw' := nxW_wdp hs hw hfed
            have nl := nxW_len kvs (V.str z :: .str n :: b :: r)
            refine ⟨_,rfl,.inl ⟨rfl,_,SqL.of en7⟩,_,rfl,p,_,_,_,rfl,rfl,SqT.of ep7,i1,a1,_,_,rfl,rfl,en7,by rw [List.length_map]; omega,?_⟩
            have en8 : (upd H7 a1 (.lst (ns.map V.str ++ [.str n]))) a1 = some (.lst ((ns ++ [n]).map V.str)) := by rw [upd_same,List.map_append]; rfl
            have ew8 : (upd H7 a1 (.lst (ns.map V.str ++ [.str n]))) a2 = some (.dK kvs) := by rw [upd_ne n12]; exact ew7
            have ep8 : (upd H7 a1 (.lst (ns.map V.str ++ [.str n]))) p = some (.tup (.str z :: .str n :: b :: r)) := by
              rw [upd_ne (fun q => by rw [q,en7] at ep7; cases ep7)]
              exact ep7
            have s8 : Same H (upd H7 a1 (.lst (ns.map V.str ++ [.str n]))) := s37.updN h1'
            generalize upd H7 a1 (.lst (ns.map V.str ++ [.str n])) = H8 at s8 en8 ew8 ep8 ⊢
            have ll : (ns ++ [n]).length ≤ i + 1 := by rw [List.length_append,List.length_singleton]; omega
            refine ⟨_,rfl,_,rfl,p,_,a2,kvs,rfl,ep8,hs,ew8,hw,hfed,_,_,rfl,rfl,_,rfl,iteB (fun q => ?_) fun q => ?_⟩
            · have q := of_decide_eq_true q
              exact ⟨_,rfl,two,fun p hp => no H8 s8 (decide_eq_false (by omega)) p hp⟩
            have q := of_decide_eq_false q
            rw [if_pos (decide_eq_true (by omega))] at eb
            refine ⟨_,rfl,p,_,_,_,rfl,rfl,SqT.of ep8,i0,rfl,_,rfl,?_⟩
            by_cases z1 : z = "each"
            · refine iteNS (by rw [z1]) ?_
              have enx : nxW kvs (V.str z :: .str n :: b :: r) = kvs := by
                unfold nxW
                rw [show telV (V.str z :: .str n :: b :: r) = true by show inV (.str z) TEL = true; rw [in_tel]; exact decide_eq_true (.inl z1),if_pos rfl]
              rw [enx] at eb
              exact ⟨_,_,_,ns ++ [n],kvs,rfl,s8,en8,ew8,hw,ll,by omega,eb⟩
            refine iteNSn (fun q => z1 (V.str.inj q)) ⟨_,rfl,p,_,_,_,rfl,rfl,SqT.of ep8,i0,rfl,_,rfl,?_⟩
            by_cases z2 : z = "gap"
            · refine iteNS (by rw [z2]) ?_
              have enx : nxW kvs (V.str z :: .str n :: b :: r) = kvs := by
                unfold nxW
                rw [show telV (V.str z :: .str n :: b :: r) = true by show inV (.str z) TEL = true; rw [in_tel]; exact decide_eq_true (.inr z2),if_pos rfl]
              rw [enx] at eb
              exact ⟨_,_,_,ns ++ [n],kvs,rfl,s8,en8,ew8,hw,ll,by omega,eb⟩
            have enx : nxW kvs (V.str z :: .str n :: b :: r) = putK kvs (.inr n) (.int (widV kvs (V.str z :: .str n :: b :: r))) := by
              unfold nxW
              rw [show telV (V.str z :: .str n :: b :: r) = false by show inV (.str z) TEL = false; rw [in_tel]; exact decide_eq_false (fun q => q.elim z1 z2),if_neg Bool.false_ne_true,enm]
            refine iteNSn (fun q => z2 (V.str.inj q)) ⟨_,rfl,_,rfl,p,_,a2,kvs,rfl,ep8,hs,ew8,hw,hfed,_,rfl,_,rfl,p,_,_,_,rfl,rfl,SqT.of ep8,i1,a2,_,rfl,.inl ⟨kvs,.inr n,ew8,rfl,by omega,rfl⟩,?_⟩
            have h2' : H a2 = none := h2
            refine ⟨_,_,_,ns ++ [n],_,rfl,s8.updN h2',?_,upd_same,by rw [← enx]; exact hw',ll,by rw [← enx]; omega,by rw [← enx]; exact eb⟩
            rw [upd_ne n12.symm]
            exact en8
      · rintro σ H3 ⟨o3,o4,o5,ns,kvs,rfl,s3,en,ew,hw,ln,lw,eb⟩
        rw [h.1,List.drop_of_length_le (Nat.le_refl _)] at eb
        refine ⟨two,fun p hp => k _ p (s3.upd hp) ?_⟩
        rw [upd_same,eb]
        rfl
def spSaid : Sp := fun vs H Q _ => ∃ x r,vs = [x] ∧ Says H x r ∧ ∀ H' p,Same H H' → H' p = some (.tup (match r with | none => [.str "fine", .bl true] | some v => [.str "bad", v])) → Q (.ref p) H'
theorem ok_said (T : Tx w K mg ad) : FnOk P w K mg base CX0 8 ad.a_usaid ad.d_usaid ["_law_plan_here"] spSaid := by
  have G_checked := ok_checked (P := P) (w := w) (base := base) T
  refine T.F_usaid.ok sc_usaid (fun vs H Q E h => ?_) (fun cdv A outer s H vs Q E hr h => ?_)
  · obtain ⟨x,r,rfl,_⟩ := h
    rfl
  · obtain ⟨x,r,rfl,hx,k⟩ := h
    have nd := sc_usaid.nd
    refine ⟨_,(pss_one (ps_tryR (i := 1) rfl rfl rfl rfl (pex_tup (pax_cons (pex_of pe_str) (pax_cons (pex_call G_checked (hr.mono (by decide)) (by rfl) T.m_checked T.F_checked.kp T.b_checked (pa_cons (pv 0) pa_nil)) pax_nil))) (by rfl) T.mc_FlowError nd rfl rfl (.inl rfl) (fun _ => (pss_cons (ps_set (i := 2) nd rfl (Or.inl rfl) (pe_callB (call_isExcT (K := K)) (by rfl) T.z_isinstance PyProof.Rows.boot_isinstance (pa_cons (pv 1) (pa_cons (pe_tup (pa_cons (pe_glob (v := .ref ad.c_BadSlack) (by rfl) T.mc_BadSlack rfl) (pa_cons (pe_glob (v := .ref ad.c_Broken) (by rfl) T.mc_Broken rfl) (pa_cons (pe_glob (v := .ref ad.c_BadEvent) (by rfl) T.mc_BadEvent rfl) (pa_cons (pe_glob (v := .ref ad.c_BadLine) (by rfl) T.mc_BadLine rfl) (pa_cons (pe_glob (v := .ref ad.c_BadKeep) (by rfl) T.mc_BadKeep rfl) pa_nil)))))) pa_nil))))
        (pss_cons (ps_if (PW.pt (pw_or (pt_val (pv 2)) (pw_or (pt_not (pt_val (pe_callB (call_isExc (K := K)) (by rfl) T.z_isinstance PyProof.Rows.boot_isinstance (pa_cons (pv 1) (pa_cons (pe_bltn (v := .ty "ValueError") (by rfl) T.z_ValueError (by decide +kernel : bootBuiltins "ValueError" = some (.type "ValueError")) rfl) pa_nil))))) (pw_or1 (pt_not (pt_val (pe_callB (call_isExc (K := K)) (by rfl) T.z_isinstance PyProof.Rows.boot_isinstance (pa_cons (pv 1) (pa_cons (pe_glob (v := .ref ad.c_BadStep) (by rfl) T.mc_BadStep rfl) pa_nil)))))))))
        (pss_one (ps_ret (pe_tup (pa_cons pe_str (pa_cons pe_non pa_nil)))))
        pss_nil)
        (pss_one (ps_ret (pe_tup (pa_cons pe_str (pa_cons (pe_xfld (pv 1) rfl) pa_nil)))))))))),?_⟩
    have sz : sizeLine = 16777216 := sizeLine_eq
    have two : ([V.bl true,V.non] : List V).length ≤ sizeLine := by show 2 ≤ sizeLine; omega
    refine ⟨_,rfl,x,r,rfl,hx,fun er H1 s1 => ⟨two,fun p hp => k _ p (s1.upd hp) (by rw [upd_same,er])⟩,fun v er H1 dx s1 edx => ⟨T.e_BadStep_FlowError,fun e he => ?_⟩⟩
    have s2 := Same.upd' (o := ExcO e (.ref ad.c_BadStep) (some dx)) he
    have ee : (upd H1 e (ExcO e (.ref ad.c_BadStep) (some dx))) e = some (ExcO e (.ref ad.c_BadStep) (some dx)) := upd_same
    have edx2 := s2 _ _ edx
    generalize upd H1 e (ExcO e (.ref ad.c_BadStep) (some dx)) = H2 at s2 ee edx2 ⊢
    refine ⟨_,rfl,by show 5 ≤ sizeLine; omega,fun p hp => ?_⟩
    have s3 := Same.upd' (o := .tup [.ref ad.c_BadSlack,.ref ad.c_Broken,.ref ad.c_BadEvent,.ref ad.c_BadLine,.ref ad.c_BadKeep]) hp
    have e3 : (upd H2 p (.tup [.ref ad.c_BadSlack,.ref ad.c_Broken,.ref ad.c_BadEvent,.ref ad.c_BadLine,.ref ad.c_BadKeep])) p = some (.tup [.ref ad.c_BadSlack,.ref ad.c_Broken,.ref ad.c_BadEvent,.ref ad.c_BadLine,.ref ad.c_BadKeep]) := upd_same
    have ee3 := s3 _ _ ee
    have edx3 := s3 _ _ edx2
    generalize upd H2 p (.tup [.ref ad.c_BadSlack,.ref ad.c_Broken,.ref ad.c_BadEvent,.ref ad.c_BadLine,.ref ad.c_BadKeep]) = H3 at s3 e3 ee3 edx3 ⊢
    refine ⟨e,ad.c_BadStep,p,_,_,[.ref ad.c_BadSlack,.ref ad.c_Broken,.ref ad.c_BadEvent,.ref ad.c_BadLine,.ref ad.c_BadKeep],false,rfl,e3,rfl,ee3,T.ex_BadStep,?_,?_⟩
    · simp only [W.kitAny,T.i_BadStep_BadSlack,T.i_BadStep_Broken,T.i_BadStep_BadEvent,T.i_BadStep_BadLine,T.i_BadStep_BadKeep]
    refine ⟨_,rfl,_,rfl,iteF ⟨_,rfl,e,_,_,_,_,_,rfl,rfl,ee3,T.ex_BadStep,T.i_BadStep_ValueError,_,rfl,iteF ⟨_,rfl,e,_,_,_,_,_,rfl,rfl,ee3,T.ex_BadStep,T.i_BadStep_BadStep,_,rfl,iteF ?_⟩⟩⟩
    refine ⟨_,rfl,e,_,dx,_,v,rfl,ee3,edx3,T.xp_BadStep.fl,rfl,two,fun p2 hp2 => k _ p2 (((s1.trans s2).trans s3).upd hp2) (by rw [upd_same,er])⟩
def flB : V → Bool
  | .int _ => true
  | .str z => PyData.strOk z && decide (z.length ≤ 1000)
  | _ => false
theorem fl_ok {v : V} (h : flB v = true) : OkV v := by
  cases v with
  | int i => exact .inl ⟨i,rfl⟩
  | str z => exact .inr ⟨z,rfl,(Bool.and_eq_true _ _ ▸ h).1⟩
  | _ => exact absurd h Bool.false_ne_true
theorem fl_th {H : Hp} {v : V} (h : flB v = true) : ∃ g,Th H v g := by
  cases v with
  | int i => exact ⟨_,.int i⟩
  | str z => exact ⟨_,.str z (of_decide_eq_true (Bool.and_eq_true _ _ ▸ h).2)⟩
  | _ => exact absurd h Bool.false_ne_true
inductive El (H : Hp) : V → Prop where
  | nil {p : Addr} (e : H p = some (.tup [])) : El H (.ref p)
  | tup {p : Addr} {z : V} {n : Str} {r : List V} (e : H p = some (.tup (z :: .str n :: r))) (h : (z :: V.str n :: r).all flB = true) (l : r.length ≤ 4) : El H (.ref p)
  | lst {a : Addr} {xs : List V} (e : H a = some (.lst xs)) (h : xs.all flB = true) : El H (.ref a)
  | non : El H .non
  | int (i : Int) : El H (.int i)
theorem El.mono {H H' : Hp} {v : V} (h : El H v) (s : Same H H') : El H' v := by
  cases h with
  | nil e => exact .nil (s _ _ e)
  | tup e h l => exact .tup (s _ _ e) h l
  | lst e h => exact .lst (s _ _ e) h
  | non => exact .non
  | int i => exact .int i
theorem El.upd {H : Hp} {v : V} {l : Addr} {o : HO} (h : El H v) (hn : v ≠ .ref l) : El (upd H l o) v := by
  have ne : ∀ {p : Addr},V.ref p ≠ V.ref l → p ≠ l := fun h z => h (by rw [z])
  cases h with
  | nil e => exact .nil (by rw [upd_ne (ne hn)]; exact e)
  | tup e h l => exact .tup (by rw [upd_ne (ne hn)]; exact e) h l
  | lst e h => exact .lst (by rw [upd_ne (ne hn)]; exact e) h
  | non => exact .non
  | int i => exact .int i
theorem El.ne {H : Hp} {v : V} {l : Addr} (h : El H v) (hl : H l = none) : v ≠ .ref l := by
  intro z
  cases h with
  | nil e => cases z; rw [hl] at e; cases e
  | tup e h l => cases z; rw [hl] at e; cases e
  | lst e h => cases z; rw [hl] at e; cases e
  | non => cases z
  | int i => cases z
theorem El.st {H : Hp} {v : V} (h : El H v) : ∃ o,St1 H v o := by
  cases h with
  | nil e => exact ⟨_,.tup e (fun y hy => absurd hy (by simp)) (by simp)⟩
  | tup e h l => exact ⟨_,.tup e (fun y hy => fl_th (List.all_eq_true.mp h y hy)) (by simp only [List.length_cons]; omega)⟩
  | lst e h => exact ⟨_,.oth (.lst e) (fun h => nomatch h)⟩
  | non => exact ⟨_,.oth .non (fun h => nomatch h)⟩
  | int i => exact ⟨_,.oth (.int i) (fun h => nomatch h)⟩
theorem all_ok {xs : List V} (h : xs.all flB = true) : ∀ v ∈ xs,OkV v := fun v hv => fl_ok (List.all_eq_true.mp h v hv)
theorem El.dv {K : W.Frag} {H : Hp} {v : V} (h : El H v) : ∃ d,Dv K H v d ∧ d.canLay0 = true ∧ d.depth ≤ 1 := by
  cases h with
  | nil e => exact ⟨.tuple [],.tup (SqT.of e) .nil,rfl,by decide⟩
  | tup e h l =>
    obtain ⟨a,b⟩ := lay_ok (all_ok h)
    refine ⟨_,.tup (SqT.of e) (dvs_ok (all_ok h)),?_,?_⟩
    · exact a
    · show PyData.depthAll _ + 1 ≤ 1
      rw [b]
      exact Nat.le_refl _
  | lst e h =>
    obtain ⟨a,b⟩ := lay_ok (all_ok h)
    refine ⟨_,.lst (SqL.of e) (dvs_ok (all_ok h)),?_,?_⟩
    · exact a
    · show PyData.depthAll _ + 1 ≤ 1
      rw [b]
      exact Nat.le_refl _
  | non => exact ⟨_,.non,rfl,by decide⟩
  | int i => exact ⟨_,.int i,rfl,by show 0 ≤ 1; decide⟩
theorem els_dv {K : W.Frag} {H : Hp} : ∀ {vs : List V},(∀ v ∈ vs,El H v) → ∃ ds,Dvs K H vs ds ∧ PyData.canLayAll0 ds = true ∧ PyData.depthAll ds ≤ 1
  | [],_ => ⟨[],.nil,rfl,Nat.zero_le _⟩
  | v :: r,h => by
    obtain ⟨d,d1,d2,d3⟩ := (h v List.mem_cons_self).dv (K := K)
    obtain ⟨ds,e1,e2,e3⟩ := els_dv (K := K) fun x hx => h x (List.mem_cons_of_mem _ hx)
    refine ⟨d :: ds,.cons d1 e1,?_,?_⟩
    · simp only [PyData.canLayAll0,d2,e2]
      rfl
    · simp only [PyData.depthAll]
      omega
theorem els_st {H : Hp} : ∀ {vs : List V},(∀ v ∈ vs,El H v) → ∃ os,Sts H vs os
  | [],_ => ⟨[],rfl,fun i x e => by cases e⟩
  | v :: r,h => by
    obtain ⟨o,ho⟩ := (h v List.mem_cons_self).st
    obtain ⟨os,l,hs⟩ := els_st fun x hx => h x (List.mem_cons_of_mem _ hx)
    refine ⟨o :: os,by rw [List.length_cons,List.length_cons,l],fun i x e => ?_⟩
    cases i with
    | zero => cases e; exact ⟨o,rfl,ho⟩
    | succ i => exact hs i x e
def NmF (v : V) : Prop := ∃ y,v = .str y ∧ flB (.str y) = true
def spSpoilt : Sp := fun vs H Q _ => ∃ (lp : Addr) (ps : List V) (c m : Int),vs = [.ref lp,.int c,.int m] ∧ H lp = some (.lst ps) ∧ ps.length ≤ 100 ∧ (∀ v ∈ ps,El H v) ∧
  ∀ H' l qs,Same H H' → H' l = some (.lst qs) → qs.length ≤ ps.length + 10 → (∀ v ∈ qs,El H' v) → Q (.ref l) H'
theorem add_el {H : Hp} {l p : Addr} {qs : List V} {o : HO} (el : H l = some (.lst qs)) (hp : H p = none) (h : El (upd H p o) (.ref p)) : Same H (upd H p o) ∧ El (upd H p o) (.ref p) ∧ V.ref p ≠ .ref l :=
  ⟨Same.upd' hp,h,fun z => by injection z with z; rw [z,el] at hp; cases hp⟩
theorem tel_no : ∀ d ∈ [PyData.tuple [.str "each"],PyData.tuple [.str "gap"]],PyData.eqv d (.tuple []) = false := by decide
theorem tup_shaped {xs : List V} (h : xs.all flB = true) : SeqAt.shaped (.tuple (xs.map vD)) = true := by
  obtain ⟨a,b⟩ := lay_ok (all_ok h)
  have d : (PyData.tuple (xs.map vD)).depth ≤ 64 := by
    show PyData.depthAll (xs.map vD) + 1 ≤ 64
    omega
  unfold SeqAt.shaped
  rw [decide_eq_true d]
  show (PyData.canLayAll0 (xs.map vD) && true) = true
  rw [a]
  rfl
theorem cut01 (a b : V) (r : List V) : cutV (a :: b :: r) none (some 1) = [a] := by
  unfold cutV
  rw [sIx_some (by decide)]
  have e1 : min (1 : Int).toNat (a :: b :: r).length = 1 := by simp only [List.length_cons]; omega
  have e0 : HT.sIx (a :: b :: r).length 0 none = 0 := rfl
  rw [e1,e0]
  rfl
theorem not_all1 (xs : List V) (h : 2 ≤ xs.length) : ¬ (HT.sIx xs.length 0 none = 0 ∧ HT.sIx xs.length xs.length (some 1) = xs.length) := fun ⟨_,q⟩ => by
  rw [sIx_some (by decide)] at q
  have : min (1 : Int).toNat xs.length = 1 := by omega
  omega
theorem ok_spoilt (T : Tx w K mg ad) : FnOk P w K mg base CX0 1 ad.a_uspoilt ad.d_uspoilt ["_law_plan_here", "_law_cell", "_law_more"] spSpoilt := by
  refine T.F_uspoilt.ok sc_uspoilt (fun vs H Q E h => ?_) (fun cdv A outer s H vs Q E hr h => ?_)
  · obtain ⟨lp,ps,c,m,rfl,_⟩ := h
    rfl
  · obtain ⟨lp,ps,c,m,rfl,elp,hl,hps,k⟩ := h
    have nd := sc_uspoilt.nd
    refine ⟨_,(pss_cons (ps_set (i := 0) nd rfl (Or.inl rfl) (pe_callTy (call_list_ofK (K := K)) (by rfl) T.z_list PyProof.Rows.boot_list (pa_cons (pv 0) pa_nil)))
        (pss_cons (ps_set (i := 3) nd rfl (Or.inl rfl) (pe_op op_mod (pe_op op_fdiv (pv 1) pe_int) (pe_op op_add (pe_callB (call_len_seqK (K := K)) (by rfl) T.z_len PySem.boot_len (pa_cons (pv 0) pa_nil)) pe_int)))
        (pss_cons (ps_cut (ps_if (pt_cmpR op_eq (pe_op op_mod (pe_op op_fdiv (pv 1) pe_int) pe_int) pe_int (nomark _))
        (pss_one (ps_set (i := 3) nd rfl (Or.inl rfl) (pe_callB (call_len_seqK (K := K)) (by rfl) T.z_len PySem.boot_len (pa_cons (pv 0) pa_nil))))
        pss_nil))
        (pss_cons (ps_set (i := 4) nd rfl (Or.inl rfl) (pe_op op_cat (pe_comp1 (osc := defScope s_uspoilt) [] rfl (pi_listK (K := K) (pv 0)) rfl rfl (by decide +kernel) (by decide +kernel) (by decide +kernel) trivial rfl (by decide +kernel) (fun _ _ _ _ => pts_one (PW.pt (pw_and (pt_val (pe_callB (call_isinst (K := K)) (by rfl) T.z_isinstance PyProof.Rows.boot_isinstance (pa_cons (pv 0) (pa_cons (pe_bltn (v := .ty "tuple") (by rfl) T.z_tuple PyProof.Rows.boot_tuple rfl) pa_nil)))) (pw_and1 (pt_cmpR (op_neD (K := K) hr.units) (pv 0) (pe_tup pa_nil) (nomark _)))))) (fun _ _ _ _ => (pe_ix (ix_seqK (K := K)) (pv 0) pe_int (fun _ _ => rfl)))) (pe_lst (pa_cons pe_str pa_nil))))
        (pss_cons (ps_cut (ps_if (pt_cmpR op_gt (pe_op op_mod (pv 2) pe_int) pe_int (nomark _))
        (pss_one (ps_set (i := 4) nd rfl (Or.inl rfl) (pe_op op_cat (pe_comp1 (osc := defScope s_uspoilt) [] rfl (pi_listK (K := K) (pe_slice (sl_listK (K := K)) (pv 0) po_none (po_some (pv 3)))) rfl rfl (by decide +kernel) (by decide +kernel) (by decide +kernel) trivial rfl (by decide +kernel) (fun _ _ _ _ => pts_one (PW.pt (pw_and (pt_val (pe_callB (call_isinst (K := K)) (by rfl) T.z_isinstance PyProof.Rows.boot_isinstance (pa_cons (pv 0) (pa_cons (pe_bltn (v := .ty "tuple") (by rfl) T.z_tuple PyProof.Rows.boot_tuple rfl) pa_nil)))) (pw_and1 (pt_cmpR (op_neD (K := K) hr.units) (pv 0) (pe_tup pa_nil) (nomark _)))))) (fun _ _ _ _ => (pe_ix (ix_seqK (K := K)) (pv 0) pe_int (fun _ _ => rfl)))) (pe_lst (pa_cons pe_str pa_nil)))))
        pss_nil))
        (pss_cons (ps_set (i := 5) nd rfl (Or.inl rfl) (pe_ix (ix_listK (K := K)) (pv 4) (pe_op op_mod (pe_op op_fdiv (pv 1) pe_int) (pe_callB (call_len_seqK (K := K)) (by rfl) T.z_len PySem.boot_len (pa_cons (pv 4) pa_nil))) (fun _ _ => rfl)))
        (pss_cons (ps_set (i := 6) nd rfl (Or.inl rfl) (pe_ix (ix_listK (K := K)) (pv 4) (pe_op op_mod (pe_op op_fdiv (pv 2) pe_int) (pe_callB (call_len_seqK (K := K)) (by rfl) T.z_len PySem.boot_len (pa_cons (pv 4) pa_nil))) (fun _ _ => rfl)))
        (pss_cons (ps_set (i := 7) nd rfl (Or.inl rfl) (pe_lst (pa_cons (pe_tup (pa_cons pe_str (pa_cons pe_str (pa_cons pe_str pa_nil)))) (pa_cons (pe_lst (pa_cons pe_str (pa_cons pe_str (pa_cons pe_str pa_nil)))) (pa_cons (pe_tup (pa_cons pe_str (pa_cons (pv 6) (pa_cons pe_str pa_nil)))) (pa_cons (pe_tup (pa_cons pe_str (pa_cons pe_str (pa_cons (pv 6) (pa_cons pe_int (pa_cons pe_int pa_nil)))))) pa_nil))))))
        (pss_cons (ps_set (i := 7) nd rfl (Or.inl rfl) (pe_op op_cat (pv 7) (pe_lst (pa_cons (pe_tup (pa_cons pe_str (pa_cons pe_str (pa_cons pe_str (pa_cons pe_str (pa_cons pe_int pa_nil)))))) (pa_cons (pe_tup (pa_cons pe_str (pa_cons pe_str (pa_cons (pv 6) (pa_cons (pv 5) (pa_cons pe_int pa_nil)))))) (pa_cons (pe_tup (pa_cons pe_str (pa_cons pe_str (pa_cons (pv 5) (pa_cons (pv 6) pa_nil))))) pa_nil))))))
        (pss_cons (ps_set (i := 8) nd rfl (Or.inl rfl) (pe_lst (pa_cons (pe_tup (pa_cons pe_str (pa_cons pe_str (pa_cons (pv 6) (pa_cons pe_str (pa_cons pe_int (pa_cons pe_int pa_nil))))))) (pa_cons (pe_tup (pa_cons pe_str (pa_cons pe_str (pa_cons (pv 6) (pa_cons pe_str (pa_cons pe_int (pa_cons pe_int pa_nil))))))) pa_nil))))
        (pss_cons (ps_set (i := 7) nd rfl (Or.inl rfl) (pe_op op_cat (pv 7) (pe_lst (pa_cons (pe_ix (ix_listK (K := K)) (pv 8) (pe_op op_mod (pe_op op_fdiv (pv 2) pe_int) pe_int) (fun _ _ => rfl)) (pa_cons (pe_tup (pa_cons pe_str (pa_cons pe_str (pa_cons pe_str (pa_cons pe_int (pa_cons pe_int pa_nil)))))) (pa_cons pe_non (pa_cons (pe_ix (ix_listK (K := K)) (pe_lst (pa_cons pe_int (pa_cons (pe_tup pa_nil) pa_nil))) (pe_op op_mod (pe_op op_fdiv (pv 2) pe_int) pe_int) (fun _ _ => rfl)) pa_nil)))))))
        (pss_cons (ps_set (i := 9) nd rfl (Or.inl rfl) (pe_op op_mod (pv 1) pe_int))
        (pss_cons (ps_setC (i := 10) (osc := defScope s_uspoilt) [] nd rfl (Or.inl rfl) rfl (pi_listK (K := K) (pe_slice (sl_listK (K := K)) (pv 0) po_none (po_some (pv 3)))) rfl rfl (by decide +kernel) (by decide +kernel) (by decide +kernel) trivial rfl (by decide +kernel) (fun _ _ _ _ => pts_one (PW.pt (pw_and (pt_val (pe_callB (call_isinst (K := K)) (by rfl) T.z_isinstance PyProof.Rows.boot_isinstance (pa_cons (pv 0) (pa_cons (pe_bltn (v := .ty "tuple") (by rfl) T.z_tuple PyProof.Rows.boot_tuple rfl) pa_nil)))) (pw_and1 (pt_cmpR (op_inW (K := K) (Room.units1 hr)) (pe_slice (sl_any (K := K)) (pv 0) po_none (po_some pe_int)) (pe_tup (pa_cons (pe_tup (pa_cons pe_str pa_nil)) (pa_cons (pe_tup (pa_cons pe_str pa_nil)) pa_nil))) (by with_unfolding_all rfl)))))) (fun _ _ _ _ => (pe_ix (ix_seqK (K := K)) (pv 0) pe_int (fun _ _ => rfl))))
        (pss_cons (ps_cut (ps_if (PW.pt (pw_and (pt_cmpR op_eq (pv 9) pe_int (nomark _)) (pw_and1 (pt_cmpR (op_neNil (K := K) hr.units0) (pv 10) (pe_lst pa_nil) (nomark _)))))
        (pss_cons (ps_expr (pe_bmK (K := K) F.plainAttrs_list F.slot_list_insert F.type_list_insert mt_insert (pv 0) (pa_cons (pv 3) (pa_cons (pe_tup (pa_cons pe_str (pa_cons (pe_ix (ix_listK (K := K)) (pv 10) (pe_op op_mod (pv 2) (pe_callB (call_len_seqK (K := K)) (by rfl) T.z_len PySem.boot_len (pa_cons (pv 10) pa_nil))) (fun _ _ => rfl)) (pa_cons pe_str pa_nil)))) pa_nil))))
        (pss_one (ps_ret (pv 0))))
        pss_nil))
        (pss_cons (ps_cut (ps_if (pt_cmpR op_lt (pv 9) pe_int (nomark _))
        (pss_cons (ps_cutput (pv 0) (po_some (pv 3)) (po_some (pe_op op_add (pv 3) (pe_op op_mod (pe_op op_fdiv (pv 2) pe_int) pe_int))) (pe_lst (pa_cons (pe_ix (ix_listK (K := K)) (pv 7) (pv 9) (fun _ _ => rfl)) pa_nil)) rfl)
        (pss_one (ps_ret (pv 0))))
        pss_nil))
        (pss_cons (ps_for PassesOwn.never rfl (pi_range1 (by rfl) T.z_range (pa_cons (pe_ix (ix_listK (K := K)) (pe_lst (pa_cons pe_int (pa_cons pe_int (pa_cons pe_int (pa_cons pe_int (pa_cons pe_int (pa_cons pe_int (pa_cons pe_int pa_nil)))))))) (pe_op op_mod (pe_op op_fdiv (pv 2) pe_int) pe_int) (fun _ _ => rfl)) pa_nil)) (pg_name (i := 11) nd rfl (Or.inl rfl))
        (pss_cons (ps_set (i := 12) nd rfl (Or.inl rfl) (pe_ix (ix_listK (K := K)) (pe_lst (pa_cons (pe_op op_add_str pe_str (pe_ix ix_str pe_str (pv 11) (fun _ _ => rfl))) (pa_cons (pv 5) pa_nil))) (pe_callTy call_int1 (by rfl) T.z_int PyProof.Rows.boot_int (pa_cons (pe_cmpR op_eq (pv 11) pe_int (nomark _)) pa_nil)) (fun _ _ => rfl)))
        (pss_cons (ps_set (i := 13) nd rfl (Or.inl rfl) (pe_tup (pa_cons pe_str (pa_cons (pe_op op_add_str pe_str (pe_ix ix_str pe_str (pv 11) (fun _ _ => rfl))) (pa_cons (pv 12) (pa_cons (pv 12) pa_nil))))))
        (pss_cons (ps_cut (ps_if (PW.pt (pw_and (pt_cmpR op_eq (pe_op op_mod (pe_op op_fdiv (pv 2) pe_int) pe_int) pe_int (nomark _)) (pw_and1 (pt_cmpR op_gt (pv 11) pe_int (nomark _)))))
        (pss_one (ps_set (i := 13) nd rfl (Or.inl rfl) (pe_tup (pa_cons pe_str (pa_cons (pe_op op_add_str pe_str (pe_ix ix_str pe_str (pv 11) (fun _ _ => rfl))) (pa_cons (pv 12) (pa_cons (pv 12) (pa_cons pe_int pa_nil))))))))
        pss_nil))
        (pss_one (ps_expr (pe_bmK (K := K) F.plainAttrs_list F.slot_list_insert F.type_list_insert mt_insert (pv 0) (pa_cons (pe_op op_add (pv 3) (pv 11)) (pa_cons (pv 13) pa_nil)))))))))
        (pss_one (ps_ret (pv 0))))))))))))))))))),?_⟩
    have sz : sizeLine = 16777216 := sizeLine_eq
    refine ⟨_,rfl,lp,ps,rfl,.inl (SqL.of elp),fun l hl0 => ?_⟩
    have s0 := Same.upd' (o := .lst ps) hl0
    have el : (upd H l (.lst ps)) l = some (.lst ps) := upd_same
    generalize upd H l (.lst ps) = H0 at s0 el ⊢
    have hp0 : ∀ v ∈ ps,El H0 v ∧ v ≠ .ref l := fun v hv => ⟨(hps v hv).mono s0,(hps v hv).ne hl0⟩
    have NC : (0 : Int) < (ps.length : Int) + 1 := by omega
    refine ⟨_,rfl,_,_,rfl,rfl,⟨by decide,by decide⟩,_,rfl,l,ps,rfl,.inl (SqL.of el),_,_,rfl,rfl,_,_,rfl,rfl,NC,?_⟩
    have a0 := Int.emod_nonneg (c / 14) (show (ps.length : Int) + 1 ≠ 0 by omega)
    have a1 := Int.emod_lt_of_pos (c / 14) NC
    refine cutBy (fun σ' H' => ∃ (j : Nat),σ' = [some (.ref l),some (.int c),some (.int m),some (.int (j : Int)),none,none,none,none,none,none,none,none,none,none] ∧ H0 = H' ∧ j ≤ ps.length) ?_ ?_
    · refine ⟨_,rfl,_,_,rfl,rfl,⟨by decide,by decide⟩,_,_,rfl,rfl,(by decide : (0 : Int) < 2),rfl,_,rfl,iteB (fun _ => ?_) fun _ => ?_⟩
      · exact ⟨_,rfl,l,ps,rfl,.inl (SqL.of el),ps.length,rfl,rfl,Nat.le_refl _⟩
      · refine ⟨(c / 14 % ((ps.length : Int) + 1)).toNat,?_,rfl,by omega⟩
        rw [Int.toNat_of_nonneg a0]
        rfl
    rintro σ' H' ⟨j,rfl,rfl,hj⟩
    refine ⟨_,rfl,l,rfl,⟨_,SqL.of el⟩,comp_list (K := K) (xs := ps) (fun i τ acc H1 => (∃ o,τ = [o]) ∧ Same H0 H1 ∧ ∀ v ∈ acc,NmF v) (by omega) ⟨⟨none,rfl⟩,Same.refl _,fun v hv => absurd hv (by simp)⟩ (fun i τ acc H1 q => SqL.of (q.2.1 _ _ el)) ?_ ?_⟩
    · rintro i x τ acc H1 R1 R0 hx hi ⟨⟨o,rfl⟩,s1,ha⟩ k1 k0
      have ex : El H1 x := ((hp0 x (List.mem_of_getElem? hx)).1).mono s1
      cases ex with
      | nil e =>
        refine ⟨_,rfl,_, "tuple", _,true,rfl,.tup e,rfl,_,rfl,iteT ?_⟩
        refine ⟨_,rfl,by show 0 ≤ sizeLine; omega,fun q hq => ?_⟩
        have s2 := Same.upd' (o := .tup []) hq
        have e2 : (upd H1 q (.tup [])) q = some (.tup []) := upd_same
        generalize upd H1 q (.tup []) = H2 at s2 e2 ⊢
        exact ⟨.tuple [],.tuple [],.tup (SqT.of (s2 _ _ e)) .nil,.tup (SqT.of e2) .nil,rfl,rfl,_,rfl,iteF (k0 _ _ ⟨⟨_,rfl⟩,s1.trans s2,ha⟩)⟩
      | tup e h l4 =>
        refine ⟨_,rfl,_, "tuple", _,true,rfl,.tup e,rfl,_,rfl,iteT ?_⟩
        rename_i p z n r
        refine ⟨_,rfl,by show 0 ≤ sizeLine; omega,fun q hq => ?_⟩
        have s2 := Same.upd' (o := .tup []) hq
        have e2 : (upd H1 q (.tup [])) q = some (.tup []) := upd_same
        generalize upd H1 q (.tup []) = H2 at s2 e2 ⊢
        have fn : flB (.str n) = true := List.all_eq_true.mp h _ (List.mem_cons_of_mem _ List.mem_cons_self)
        refine ⟨_,.tuple [],.tup (SqT.of (s2 _ _ e)) (dvs_ok (all_ok h)),.tup (SqT.of e2) .nil,tup_shaped h,rfl,_,rfl,iteT ?_⟩
        refine ⟨_,rfl,.inr (.inl ⟨p,_,_,_,rfl,rfl,SqT.of (s2 _ _ e),atI_nat (j := 1) rfl,k1 _ _ _ ⟨⟨_,rfl⟩,s1.trans s2,fun v hv => ?_⟩⟩)⟩
        rcases List.mem_append.mp hv with hv | hv
        · exact ha v hv
        · rw [List.mem_singleton.mp hv]; exact ⟨n,rfl,fn⟩
      | lst e h => exact ⟨_,rfl,_, "tuple", _,false,rfl,.lst e,rfl,_,rfl,iteF (iteF (k0 _ _ ⟨⟨_,rfl⟩,s1,ha⟩))⟩
      | non => exact ⟨_,rfl,_, "tuple", _,false,rfl,.non,rfl,_,rfl,iteF (iteF (k0 _ _ ⟨⟨_,rfl⟩,s1,ha⟩))⟩
      | int n => exact ⟨_,rfl,_, "tuple", _,false,rfl,.int n,rfl,_,rfl,iteF (iteF (k0 _ _ ⟨⟨_,rfl⟩,s1,ha⟩))⟩
    rintro τ acc H1 lacc ⟨_,s1,ha⟩ D hD
    have s2 := Same.upd' (o := .lst acc) hD
    have e2 : (upd H1 D (.lst acc)) D = some (.lst acc) := upd_same
    generalize upd H1 D (.lst acc) = H2 at s2 e2 ⊢
    refine ⟨by show 1 ≤ sizeLine; omega,fun D1 hD1 => ?_⟩
    have s3 := Same.upd' (o := .lst [.str "q"]) hD1
    have e3 : (upd H2 D1 (.lst [.str "q"])) D1 = some (.lst [.str "q"]) := upd_same
    generalize upd H2 D1 (.lst [.str "q"]) = H3 at s3 e3 ⊢
    refine ⟨D,D1,_,_,rfl,rfl,s3 _ _ e2,e3,by rw [List.length_singleton]; omega,fun D2 hD2 => ?_⟩
    have s4 := Same.upd' (o := .lst (acc ++ [.str "q"])) hD2
    have e4 : (upd H3 D2 (.lst (acc ++ [.str "q"]))) D2 = some (.lst (acc ++ [.str "q"])) := upd_same
    generalize upd H3 D2 (.lst (acc ++ [.str "q"])) = H4 at s4 e4 ⊢
    have s04 := ((s1.trans s2).trans s3).trans s4
    have fq : NmF (.str "q") := ⟨"q", rfl,by decide +kernel⟩
    refine cutBy (fun σ' H' => ∃ (dn : Addr) (ns : List V),σ' = [some (.ref l),some (.int c),some (.int m),some (.int (j : Int)),some (.ref dn),none,none,none,none,none,none,none,none,none] ∧ Same H0 H' ∧ H' dn = some (.lst ns) ∧ (∀ v ∈ ns,NmF v) ∧ 0 < ns.length ∧ ns.length ≤ 1000) ?_ ?_
    · refine ⟨_,rfl,_,_,rfl,rfl,(by decide : (0 : Int) < 4),_,_,rfl,rfl,_,rfl,iteB (fun _ => ?_) fun _ => ?_⟩
      · refine ⟨_,rfl,_,rfl,_,rfl,l,ps,rfl,SqL.of (s04 _ _ el),fun b hb => ?_⟩
        have s5 := Same.upd' (o := .lst (cutV ps none (some (j : Int)))) hb
        have e5 : (upd H4 b (.lst (cutV ps none (some (j : Int))))) b = some (.lst (cutV ps none (some (j : Int)))) := upd_same
        generalize upd H4 b (.lst (cutV ps none (some (j : Int)))) = H5 at s5 e5 ⊢
        have s05 := s04.trans s5
        have lc := cutV_length ps none (some (j : Int))
        refine ⟨b,rfl,⟨_,SqL.of e5⟩,comp_list (K := K) (xs := cutV ps none (some (j : Int))) (fun i τ acc H1 => (∃ o,τ = [o]) ∧ Same H5 H1 ∧ ∀ v ∈ acc,NmF v) (by omega) ⟨⟨none,rfl⟩,Same.refl _,fun v hv => absurd hv (by simp)⟩ (fun i τ acc H1 q => SqL.of (q.2.1 _ _ e5)) ?_ ?_⟩
        · rintro i x τ acc H1 R1 R0 hx hi ⟨⟨o,rfl⟩,s1,ha⟩ k1 k0
          have ex : El H1 x := ((hp0 x (mem_cut (List.mem_of_getElem? hx))).1.mono s05).mono s1
          cases ex with
          | nil e =>
            refine ⟨_,rfl,_, "tuple", _,true,rfl,.tup e,rfl,_,rfl,iteT ?_⟩
            refine ⟨_,rfl,by show 0 ≤ sizeLine; omega,fun q hq => ?_⟩
            have s2 := Same.upd' (o := .tup []) hq
            have e2 : (upd H1 q (.tup [])) q = some (.tup []) := upd_same
            generalize upd H1 q (.tup []) = H2 at s2 e2 ⊢
            exact ⟨.tuple [],.tuple [],.tup (SqT.of (s2 _ _ e)) .nil,.tup (SqT.of e2) .nil,rfl,rfl,_,rfl,iteF (k0 _ _ ⟨⟨_,rfl⟩,s1.trans s2,ha⟩)⟩
          | tup e h l4 =>
            refine ⟨_,rfl,_, "tuple", _,true,rfl,.tup e,rfl,_,rfl,iteT ?_⟩
            rename_i p z n r
            refine ⟨_,rfl,by show 0 ≤ sizeLine; omega,fun q hq => ?_⟩
            have s2 := Same.upd' (o := .tup []) hq
            have e2 : (upd H1 q (.tup [])) q = some (.tup []) := upd_same
            generalize upd H1 q (.tup []) = H2 at s2 e2 ⊢
            have fn : flB (.str n) = true := List.all_eq_true.mp h _ (List.mem_cons_of_mem _ List.mem_cons_self)
            refine ⟨_,.tuple [],.tup (SqT.of (s2 _ _ e)) (dvs_ok (all_ok h)),.tup (SqT.of e2) .nil,tup_shaped h,rfl,_,rfl,iteT ?_⟩
            refine ⟨_,rfl,.inr (.inl ⟨p,_,_,_,rfl,rfl,SqT.of (s2 _ _ e),atI_nat (j := 1) rfl,k1 _ _ _ ⟨⟨_,rfl⟩,s1.trans s2,fun v hv => ?_⟩⟩)⟩
            rcases List.mem_append.mp hv with hv | hv
            · exact ha v hv
            · rw [List.mem_singleton.mp hv]; exact ⟨n,rfl,fn⟩
          | lst e h => exact ⟨_,rfl,_, "tuple", _,false,rfl,.lst e,rfl,_,rfl,iteF (iteF (k0 _ _ ⟨⟨_,rfl⟩,s1,ha⟩))⟩
          | non => exact ⟨_,rfl,_, "tuple", _,false,rfl,.non,rfl,_,rfl,iteF (iteF (k0 _ _ ⟨⟨_,rfl⟩,s1,ha⟩))⟩
          | int n => exact ⟨_,rfl,_, "tuple", _,false,rfl,.int n,rfl,_,rfl,iteF (iteF (k0 _ _ ⟨⟨_,rfl⟩,s1,ha⟩))⟩
        rintro τ acc H6 lacc ⟨_,s6,ha⟩ D hD
        have s7 := Same.upd' (o := .lst acc) hD
        have e7 : (upd H6 D (.lst acc)) D = some (.lst acc) := upd_same
        generalize upd H6 D (.lst acc) = H7 at s7 e7 ⊢
        refine ⟨by show 1 ≤ sizeLine; omega,fun D1 hD1 => ?_⟩
        have s8 := Same.upd' (o := .lst [.str "q"]) hD1
        have e8 : (upd H7 D1 (.lst [.str "q"])) D1 = some (.lst [.str "q"]) := upd_same
        generalize upd H7 D1 (.lst [.str "q"]) = H8 at s8 e8 ⊢
        refine ⟨D,D1,_,_,rfl,rfl,s8 _ _ e7,e8,by rw [List.length_singleton]; omega,fun D2 hD2 => ?_⟩
        refine ⟨D2,_,rfl,(((s05.trans s6).trans s7).trans s8).upd hD2,upd_same,fun v hv => ?_,by rw [List.length_append,List.length_singleton]; omega,by rw [List.length_append,List.length_singleton]; omega⟩
        rcases List.mem_append.mp hv with hv | hv
        · exact ha v hv
        · rw [List.mem_singleton.mp hv]; exact fq
      · refine ⟨D2,_,rfl,s04,e4,fun v hv => ?_,by rw [List.length_append,List.length_singleton]; omega,by rw [List.length_append,List.length_singleton]; omega⟩
        rcases List.mem_append.mp hv with hv | hv
        · exact ha v hv
        · rw [List.mem_singleton.mp hv]; exact fq
    rintro σ' H1 ⟨dn,ns,rfl,s1,en,hns,ln0,ln1⟩
    have NN : (0 : Int) < (ns.length : Int) := by omega
    obtain ⟨vn,hvn,mvn⟩ := atI_mod ns (ns.length : Int) rfl NN (c / 28)
    obtain ⟨vo,hvo,mvo⟩ := atI_mod ns (ns.length : Int) rfl NN (m / 4)
    obtain ⟨nm,rfl,fnm⟩ := hns vn mvn
    obtain ⟨ot,rfl,fot⟩ := hns vo mvo
    refine ⟨_,rfl,_,rfl,_,_,rfl,rfl,⟨by decide,by decide⟩,_,rfl,dn,ns,rfl,.inl (SqL.of en),_,_,rfl,rfl,NN,dn,_,_,_,rfl,rfl,SqL.of en,hvn,?_⟩
    refine ⟨_,rfl,_,rfl,_,_,rfl,rfl,⟨by decide,by decide⟩,_,rfl,dn,ns,rfl,.inl (SqL.of en),_,_,rfl,rfl,NN,dn,_,_,_,rfl,rfl,SqL.of en,hvo,?_⟩
    have el1 := s1 _ _ el
    refine ⟨by show 3 ≤ sizeLine; omega,fun p1 hp1 => ?_⟩
    have s2 := Same.upd' (o := .tup [.str "take", .str "new", .str ""]) hp1
    have xp1 : El (upd H1 p1 (.tup [.str "take", .str "new", .str ""])) (.ref p1) ∧ V.ref p1 ≠ .ref l := (add_el el1 hp1 (.tup upd_same (by simp only [List.all_cons,List.all_nil,fnm,fot]; decide +kernel) (by simp only [List.length_cons,List.length_nil]; omega))).2
    generalize upd H1 p1 (.tup [.str "take", .str "new", .str ""]) = H2 at s2 xp1 ⊢
    have el2 := s2 _ _ el1
    refine ⟨by show 3 ≤ sizeLine; omega,fun p2 hp2 => ?_⟩
    have s3 := Same.upd' (o := .lst [.str "take", .str "new", .str "k"]) hp2
    have xp2 : El (upd H2 p2 (.lst [.str "take", .str "new", .str "k"])) (.ref p2) ∧ V.ref p2 ≠ .ref l := (add_el el2 hp2 (.lst upd_same (by decide +kernel))).2
    generalize upd H2 p2 (.lst [.str "take", .str "new", .str "k"]) = H3 at s3 xp2 ⊢
    have el3 := s3 _ _ el2
    refine ⟨_,rfl,by show 3 ≤ sizeLine; omega,fun p3 hp3 => ?_⟩
    have s4 := Same.upd' (o := .tup [.str "take", .str ot,.str "k"]) hp3
    have xp3 : El (upd H3 p3 (.tup [.str "take", .str ot,.str "k"])) (.ref p3) ∧ V.ref p3 ≠ .ref l := (add_el el3 hp3 (.tup upd_same (by simp only [List.all_cons,List.all_nil,fnm,fot]; decide +kernel) (by simp only [List.length_cons,List.length_nil]; omega))).2
    generalize upd H3 p3 (.tup [.str "take", .str ot,.str "k"]) = H4 at s4 xp3 ⊢
    have el4 := s4 _ _ el3
    refine ⟨_,rfl,by show 5 ≤ sizeLine; omega,fun p4 hp4 => ?_⟩
    have s5 := Same.upd' (o := .tup [.str "only", .str "new", .str ot,.int 0,.int 9]) hp4
    have xp4 : El (upd H4 p4 (.tup [.str "only", .str "new", .str ot,.int 0,.int 9])) (.ref p4) ∧ V.ref p4 ≠ .ref l := (add_el el4 hp4 (.tup upd_same (by simp only [List.all_cons,List.all_nil,fnm,fot]; decide +kernel) (by simp only [List.length_cons,List.length_nil]; omega))).2
    generalize upd H4 p4 (.tup [.str "only", .str "new", .str ot,.int 0,.int 9]) = H5 at s5 xp4 ⊢
    have el5 := s5 _ _ el4
    refine ⟨by show 4 ≤ sizeLine; omega,fun l1 hl1 => ?_⟩
    have s6 := Same.upd' (o := .lst [.ref p1,.ref p2,.ref p3,.ref p4]) hl1
    have el1 : (upd H5 l1 (.lst [.ref p1,.ref p2,.ref p3,.ref p4])) l1 = some (.lst [.ref p1,.ref p2,.ref p3,.ref p4]) := upd_same
    generalize upd H5 l1 (.lst [.ref p1,.ref p2,.ref p3,.ref p4]) = H6 at s6 el1 ⊢
    have el6 := s6 _ _ el5
    refine ⟨_,rfl,by show 5 ≤ sizeLine; omega,fun p5 hp5 => ?_⟩
    have s7 := Same.upd' (o := .tup [.str "gap", .str "new", .str "unknown", .str "sum", .int 3]) hp5
    have xp5 : El (upd H6 p5 (.tup [.str "gap", .str "new", .str "unknown", .str "sum", .int 3])) (.ref p5) ∧ V.ref p5 ≠ .ref l := (add_el el6 hp5 (.tup upd_same (by simp only [List.all_cons,List.all_nil,fnm,fot]; decide +kernel) (by simp only [List.length_cons,List.length_nil]; omega))).2
    generalize upd H6 p5 (.tup [.str "gap", .str "new", .str "unknown", .str "sum", .int 3]) = H7 at s7 xp5 ⊢
    have el7 := s7 _ _ el6
    refine ⟨_,rfl,_,rfl,by show 5 ≤ sizeLine; omega,fun p6 hp6 => ?_⟩
    have s8 := Same.upd' (o := .tup [.str "join", .str "new", .str ot,.str nm,.int 3]) hp6
    have xp6 : El (upd H7 p6 (.tup [.str "join", .str "new", .str ot,.str nm,.int 3])) (.ref p6) ∧ V.ref p6 ≠ .ref l := (add_el el7 hp6 (.tup upd_same (by simp only [List.all_cons,List.all_nil,fnm,fot]; decide +kernel) (by simp only [List.length_cons,List.length_nil]; omega))).2
    generalize upd H7 p6 (.tup [.str "join", .str "new", .str ot,.str nm,.int 3]) = H8 at s8 xp6 ⊢
    have el8 := s8 _ _ el7
    refine ⟨_,rfl,_,rfl,by show 4 ≤ sizeLine; omega,fun p7 hp7 => ?_⟩
    have s9 := Same.upd' (o := .tup [.str "both", .str "new", .str nm,.str ot]) hp7
    have xp7 : El (upd H8 p7 (.tup [.str "both", .str "new", .str nm,.str ot])) (.ref p7) ∧ V.ref p7 ≠ .ref l := (add_el el8 hp7 (.tup upd_same (by simp only [List.all_cons,List.all_nil,fnm,fot]; decide +kernel) (by simp only [List.length_cons,List.length_nil]; omega))).2
    generalize upd H8 p7 (.tup [.str "both", .str "new", .str nm,.str ot]) = H9 at s9 xp7 ⊢
    have el9 := s9 _ _ el8
    refine ⟨by show 3 ≤ sizeLine; omega,fun l2 hl2 => ?_⟩
    have s10 := Same.upd' (o := .lst [.ref p5,.ref p6,.ref p7]) hl2
    have el2 : (upd H9 l2 (.lst [.ref p5,.ref p6,.ref p7])) l2 = some (.lst [.ref p5,.ref p6,.ref p7]) := upd_same
    generalize upd H9 l2 (.lst [.ref p5,.ref p6,.ref p7]) = H10 at s10 el2 ⊢
    have el10 := s10 _ _ el9
    refine ⟨l1,l2,_,_,rfl,rfl,(s10 _ _ (s9 _ _ (s8 _ _ (s7 _ _ el1)))),el2,by simp only [List.length_cons,List.length_nil]; omega,fun l3 hl3 => ?_⟩
    have s11 := Same.upd' (o := .lst ([.ref p1,.ref p2,.ref p3,.ref p4] ++ [.ref p5,.ref p6,.ref p7])) hl3
    have el3 : (upd H10 l3 (.lst ([.ref p1,.ref p2,.ref p3,.ref p4] ++ [.ref p5,.ref p6,.ref p7]))) l3 = some (.lst [.ref p1,.ref p2,.ref p3,.ref p4,.ref p5,.ref p6,.ref p7]) := upd_same
    generalize upd H10 l3 (.lst ([.ref p1,.ref p2,.ref p3,.ref p4] ++ [.ref p5,.ref p6,.ref p7])) = H11 at s11 el3 ⊢
    have el11 := s11 _ _ el10
    refine ⟨_,rfl,by show 6 ≤ sizeLine; omega,fun p8 hp8 => ?_⟩
    have s12 := Same.upd' (o := .tup [.str "each", .str "new", .str ot,.str "count", .int 4,.int 2]) hp8
    have xp8 : El (upd H11 p8 (.tup [.str "each", .str "new", .str ot,.str "count", .int 4,.int 2])) (.ref p8) ∧ V.ref p8 ≠ .ref l := (add_el el11 hp8 (.tup upd_same (by simp only [List.all_cons,List.all_nil,fnm,fot]; decide +kernel) (by simp only [List.length_cons,List.length_nil]; omega))).2
    generalize upd H11 p8 (.tup [.str "each", .str "new", .str ot,.str "count", .int 4,.int 2]) = H12 at s12 xp8 ⊢
    have el12 := s12 _ _ el11
    refine ⟨_,rfl,by show 6 ≤ sizeLine; omega,fun p9 hp9 => ?_⟩
    have s13 := Same.upd' (o := .tup [.str "each", .str "new", .str ot,.str "sum", .int 1000001,.int 1000001]) hp9
    have xp9 : El (upd H12 p9 (.tup [.str "each", .str "new", .str ot,.str "sum", .int 1000001,.int 1000001])) (.ref p9) ∧ V.ref p9 ≠ .ref l := (add_el el12 hp9 (.tup upd_same (by simp only [List.all_cons,List.all_nil,fnm,fot]; decide +kernel) (by simp only [List.length_cons,List.length_nil]; omega))).2
    generalize upd H12 p9 (.tup [.str "each", .str "new", .str ot,.str "sum", .int 1000001,.int 1000001]) = H13 at s13 xp9 ⊢
    have el13 := s13 _ _ el12
    refine ⟨by show 2 ≤ sizeLine; omega,fun l4 hl4 => ?_⟩
    have s14 := Same.upd' (o := .lst [.ref p8,.ref p9]) hl4
    have el4 : (upd H13 l4 (.lst [.ref p8,.ref p9])) l4 = some (.lst [.ref p8,.ref p9]) := upd_same
    generalize upd H13 l4 (.lst [.ref p8,.ref p9]) = H14 at s14 el4 ⊢
    have el14 := s14 _ _ el13
    obtain ⟨g8,hg8,mg8⟩ := atI_mod [V.ref p8,V.ref p9] 2 rfl (by decide) (m / 8)
    refine ⟨_,rfl,_,rfl,_,rfl,_,_,rfl,rfl,⟨by decide,by decide⟩,_,_,rfl,rfl,(by decide : (0 : Int) < 2),l4,_,_,g8,rfl,rfl,SqL.of el4,hg8,by show 5 ≤ sizeLine; omega,fun p10 hp10 => ?_⟩
    have s15 := Same.upd' (o := .tup [.str "turn", .str "new", .str "", .int 1,.int 1]) hp10
    have xp10 : El (upd H14 p10 (.tup [.str "turn", .str "new", .str "", .int 1,.int 1])) (.ref p10) ∧ V.ref p10 ≠ .ref l := (add_el el14 hp10 (.tup upd_same (by simp only [List.all_cons,List.all_nil,fnm,fot]; decide +kernel) (by simp only [List.length_cons,List.length_nil]; omega))).2
    generalize upd H14 p10 (.tup [.str "turn", .str "new", .str "", .int 1,.int 1]) = H15 at s15 xp10 ⊢
    have el15 := s15 _ _ el14
    refine ⟨by show 0 ≤ sizeLine; omega,fun p11 hp11 => ?_⟩
    have s16 := Same.upd' (o := .tup []) hp11
    have xp11 : El (upd H15 p11 (.tup [])) (.ref p11) ∧ V.ref p11 ≠ .ref l := (add_el el15 hp11 (.nil upd_same)).2
    generalize upd H15 p11 (.tup []) = H16 at s16 xp11 ⊢
    have el16 := s16 _ _ el15
    refine ⟨by show 2 ≤ sizeLine; omega,fun l5 hl5 => ?_⟩
    have s17 := Same.upd' (o := .lst [.int 5,.ref p11]) hl5
    have el5 : (upd H16 l5 (.lst [.int 5,.ref p11])) l5 = some (.lst [.int 5,.ref p11]) := upd_same
    generalize upd H16 l5 (.lst [.int 5,.ref p11]) = H17 at s17 el5 ⊢
    have el17 := s17 _ _ el16
    obtain ⟨g5,hg5,mg5⟩ := atI_mod [V.int 5,V.ref p11] 2 rfl (by decide) (m / 8)
    refine ⟨_,rfl,_,_,rfl,rfl,⟨by decide,by decide⟩,_,_,rfl,rfl,(by decide : (0 : Int) < 2),l5,_,_,g5,rfl,rfl,SqL.of el5,hg5,by show 4 ≤ sizeLine; omega,fun l6 hl6 => ?_⟩
    have s18 := Same.upd' (o := .lst [g8,.ref p10,.non,g5]) hl6
    have el6 : (upd H17 l6 (.lst [g8,.ref p10,.non,g5])) l6 = some (.lst [g8,.ref p10,.non,g5]) := upd_same
    generalize upd H17 l6 (.lst [g8,.ref p10,.non,g5]) = H18 at s18 el6 ⊢
    have el18 := s18 _ _ el17
    refine ⟨l3,l6,_,_,rfl,rfl,(s18 _ _ (s17 _ _ (s16 _ _ (s15 _ _ (s14 _ _ (s13 _ _ (s12 _ _ el3))))))),el6,by simp only [List.length_cons,List.length_nil]; omega,fun l7 hl7 => ?_⟩
    have s19 := Same.upd' (o := .lst ([.ref p1,.ref p2,.ref p3,.ref p4,.ref p5,.ref p6,.ref p7] ++ [g8,.ref p10,.non,g5])) hl7
    have el7 : (upd H18 l7 (.lst ([.ref p1,.ref p2,.ref p3,.ref p4,.ref p5,.ref p6,.ref p7] ++ [g8,.ref p10,.non,g5]))) l7 = some (.lst [.ref p1,.ref p2,.ref p3,.ref p4,.ref p5,.ref p6,.ref p7,g8,.ref p10,.non,g5]) := upd_same
    generalize upd H18 l7 (.lst ([.ref p1,.ref p2,.ref p3,.ref p4,.ref p5,.ref p6,.ref p7] ++ [g8,.ref p10,.non,g5])) = H19 at s19 el7 ⊢
    have el19 := s19 _ _ el18
    have s1N : Same H0 H19 := (s1.trans (((((((((((((((((s2.trans s3).trans s4).trans s5).trans s6).trans s7).trans s8).trans s9).trans s10).trans s11).trans s12).trans s13).trans s14).trans s15).trans s16).trans s17).trans s18).trans s19))
    have yp1 : El H19 (.ref p1) ∧ V.ref p1 ≠ .ref l := ⟨xp1.1.mono ((((((((((((((((s3.trans s4).trans s5).trans s6).trans s7).trans s8).trans s9).trans s10).trans s11).trans s12).trans s13).trans s14).trans s15).trans s16).trans s17).trans s18).trans s19),xp1.2⟩
    have yp2 : El H19 (.ref p2) ∧ V.ref p2 ≠ .ref l := ⟨xp2.1.mono (((((((((((((((s4.trans s5).trans s6).trans s7).trans s8).trans s9).trans s10).trans s11).trans s12).trans s13).trans s14).trans s15).trans s16).trans s17).trans s18).trans s19),xp2.2⟩
    have yp3 : El H19 (.ref p3) ∧ V.ref p3 ≠ .ref l := ⟨xp3.1.mono ((((((((((((((s5.trans s6).trans s7).trans s8).trans s9).trans s10).trans s11).trans s12).trans s13).trans s14).trans s15).trans s16).trans s17).trans s18).trans s19),xp3.2⟩
    have yp4 : El H19 (.ref p4) ∧ V.ref p4 ≠ .ref l := ⟨xp4.1.mono (((((((((((((s6.trans s7).trans s8).trans s9).trans s10).trans s11).trans s12).trans s13).trans s14).trans s15).trans s16).trans s17).trans s18).trans s19),xp4.2⟩
    have yp5 : El H19 (.ref p5) ∧ V.ref p5 ≠ .ref l := ⟨xp5.1.mono (((((((((((s8.trans s9).trans s10).trans s11).trans s12).trans s13).trans s14).trans s15).trans s16).trans s17).trans s18).trans s19),xp5.2⟩
    have yp6 : El H19 (.ref p6) ∧ V.ref p6 ≠ .ref l := ⟨xp6.1.mono ((((((((((s9.trans s10).trans s11).trans s12).trans s13).trans s14).trans s15).trans s16).trans s17).trans s18).trans s19),xp6.2⟩
    have yp7 : El H19 (.ref p7) ∧ V.ref p7 ≠ .ref l := ⟨xp7.1.mono (((((((((s10.trans s11).trans s12).trans s13).trans s14).trans s15).trans s16).trans s17).trans s18).trans s19),xp7.2⟩
    have yp8 : El H19 (.ref p8) ∧ V.ref p8 ≠ .ref l := ⟨xp8.1.mono ((((((s13.trans s14).trans s15).trans s16).trans s17).trans s18).trans s19),xp8.2⟩
    have yp9 : El H19 (.ref p9) ∧ V.ref p9 ≠ .ref l := ⟨xp9.1.mono (((((s14.trans s15).trans s16).trans s17).trans s18).trans s19),xp9.2⟩
    have yp10 : El H19 (.ref p10) ∧ V.ref p10 ≠ .ref l := ⟨xp10.1.mono (((s16.trans s17).trans s18).trans s19),xp10.2⟩
    have yp11 : El H19 (.ref p11) ∧ V.ref p11 ≠ .ref l := ⟨xp11.1.mono ((s17.trans s18).trans s19),xp11.2⟩
    have y8 : El H19 g8 ∧ g8 ≠ .ref l := by
      simp only [List.mem_cons,List.not_mem_nil,or_false] at mg8
      rcases mg8 with rfl | rfl
      · exact yp8
      · exact yp9
    have y5 : El H19 g5 ∧ g5 ≠ .ref l := by
      simp only [List.mem_cons,List.not_mem_nil,or_false] at mg5
      rcases mg5 with rfl | rfl
      · exact ⟨.int 5,by simp⟩
      · exact yp11
    have yall : ∀ v ∈ [V.ref p1,.ref p2,.ref p3,.ref p4,.ref p5,.ref p6,.ref p7,g8,.ref p10,.non,g5],El H19 v ∧ v ≠ .ref l := by
      intro v hv
      simp only [List.mem_cons,List.not_mem_nil,or_false] at hv
      rcases hv with rfl | rfl | rfl | rfl | rfl | rfl | rfl | rfl | rfl | rfl | rfl
      · exact yp1
      · exact yp2
      · exact yp3
      · exact yp4
      · exact yp5
      · exact yp6
      · exact yp7
      · exact y8
      · exact yp10
      · exact ⟨.non,by simp⟩
      · exact y5
    obtain ⟨xs,exs,lxs,axs⟩ : ∃ xs,H19 l7 = some (.lst xs) ∧ xs.length = 11 ∧ ∀ v ∈ xs,El H19 v ∧ v ≠ .ref l := ⟨_,el7,rfl,yall⟩
    have elN := el19
    clear yall
    generalize H19 = HN at *
    have hpN : ∀ v ∈ ps,El HN v ∧ v ≠ .ref l := fun v hv => ⟨(hp0 v hv).1.mono s1N,(hp0 v hv).2⟩
    have s0N := s0.trans s1N
    have W14 : (0 : Int) < 14 := by decide
    refine ⟨_,rfl,_,_,rfl,rfl,W14,?_⟩
    have w0 := Int.emod_nonneg c (show (14 : Int) ≠ 0 by decide)
    have w1 := Int.emod_lt_of_pos c W14
    refine ⟨_,rfl,_,rfl,_,rfl,l,ps,rfl,SqL.of elN,fun b hb => ?_⟩
    have sA := Same.upd' (o := .lst (cutV ps none (some (j : Int)))) hb
    have eA : (upd HN b (.lst (cutV ps none (some (j : Int))))) b = some (.lst (cutV ps none (some (j : Int)))) := upd_same
    generalize upd HN b (.lst (cutV ps none (some (j : Int)))) = HA at sA eA ⊢
    have lc := cutV_length ps none (some (j : Int))
    refine ⟨b,rfl,⟨_,SqL.of eA⟩,comp_list (K := K) (xs := cutV ps none (some (j : Int))) (fun i τ acc H1 => (∃ o,τ = [o]) ∧ Same HA H1 ∧ ∀ v ∈ acc,NmF v) (by omega) ⟨⟨none,rfl⟩,Same.refl _,fun v hv => absurd hv (by simp)⟩ (fun i τ acc H1 q => SqL.of (q.2.1 _ _ eA)) ?_ ?_⟩
    · rintro i x τ acc H1 R1 R0 hx hi ⟨⟨o,rfl⟩,s1,ha⟩ k1 k0
      have ex : El H1 x := ((hpN x (mem_cut (List.mem_of_getElem? hx))).1.mono sA).mono s1
      cases ex with
      | nil e =>
        refine ⟨_,rfl,_, "tuple", _,true,rfl,.tup e,rfl,_,rfl,iteT ?_⟩
        rename_i p
        refine ⟨_,rfl,_,rfl,.inl ⟨p,[],rfl,SqT.of e,rfl,rfl,?_⟩⟩
        refine ⟨by show 1 ≤ sizeLine; omega,fun q1 hq1 => ?_⟩
        have t1 := Same.upd' (o := .tup [.str "each"]) hq1
        have f1 : (upd H1 q1 (.tup [.str "each"])) q1 = some (.tup [.str "each"]) := upd_same
        generalize upd H1 q1 (.tup [.str "each"]) = G1 at t1 f1 ⊢
        refine ⟨by show 1 ≤ sizeLine; omega,fun q2 hq2 => ?_⟩
        have t2 := Same.upd' (o := .tup [.str "gap"]) hq2
        have f2 : (upd G1 q2 (.tup [.str "gap"])) q2 = some (.tup [.str "gap"]) := upd_same
        generalize upd G1 q2 (.tup [.str "gap"]) = G2 at t2 f2 ⊢
        refine ⟨by show 2 ≤ sizeLine; omega,fun q3 hq3 => ?_⟩
        have t3 := Same.upd' (o := .tup [.ref q1,.ref q2]) hq3
        have f3 : (upd G2 q3 (.tup [.ref q1,.ref q2])) q3 = some (.tup [.ref q1,.ref q2]) := upd_same
        generalize upd G2 q3 (.tup [.ref q1,.ref q2]) = G3 at t3 f3 ⊢
        have tt := (t1.trans t2).trans t3
        have dvs : Dvs K G3 [.ref q1,.ref q2] [.tuple [.str "each"],.tuple [.str "gap"]] := .cons (.tup (SqT.of ((t2.trans t3) _ _ f1)) (.cons (.str _) .nil)) (.cons (.tup (SqT.of (t3 _ _ f2)) (.cons (.str _) .nil)) .nil)
        have shs : ∀ d ∈ [PyData.tuple [.str "each"],PyData.tuple [.str "gap"]],SeqAt.shaped d = true := by decide +kernel
        refine ⟨q3,_,_,.tuple [],rfl,SqT.of f3,dvs,.tup (SqT.of (tt _ _ e)) .nil,shs,rfl,fun b hb => ⟨_,rfl,?_⟩⟩
        cases b with
        | true =>
          obtain ⟨d,hd,q⟩ := hb rfl
          rw [tel_no d hd] at q
          cases q
        | false => exact iteF (k0 _ _ ⟨⟨_,rfl⟩,s1.trans tt,ha⟩)
      | tup e h l4 =>
        refine ⟨_,rfl,_, "tuple", _,true,rfl,.tup e,rfl,_,rfl,iteT ?_⟩
        rename_i p z n r
        have fn : flB (.str n) = true := List.all_eq_true.mp h _ (List.mem_cons_of_mem _ List.mem_cons_self)
        have fz : flB z = true := List.all_eq_true.mp h _ List.mem_cons_self
        refine ⟨_,rfl,_,rfl,.inr ⟨p,_,rfl,SqT.of e,not_all1 _ (by simp),fun q0 hq0 => ?_⟩⟩
        have t0 := Same.upd' (o := .tup (cutV (z :: .str n :: r) none (some 1))) hq0
        have f0 : (upd H1 q0 (.tup (cutV (z :: .str n :: r) none (some 1)))) q0 = some (.tup [z]) := by rw [upd_same,cut01]
        generalize upd H1 q0 (.tup (cutV (z :: .str n :: r) none (some 1))) = G0 at t0 f0 ⊢
        refine ⟨by show 1 ≤ sizeLine; omega,fun q1 hq1 => ?_⟩
        have t1 := Same.upd' (o := .tup [.str "each"]) hq1
        have f1 : (upd G0 q1 (.tup [.str "each"])) q1 = some (.tup [.str "each"]) := upd_same
        generalize upd G0 q1 (.tup [.str "each"]) = G1 at t1 f1 ⊢
        refine ⟨by show 1 ≤ sizeLine; omega,fun q2 hq2 => ?_⟩
        have t2 := Same.upd' (o := .tup [.str "gap"]) hq2
        have f2 : (upd G1 q2 (.tup [.str "gap"])) q2 = some (.tup [.str "gap"]) := upd_same
        generalize upd G1 q2 (.tup [.str "gap"]) = G2 at t2 f2 ⊢
        refine ⟨by show 2 ≤ sizeLine; omega,fun q3 hq3 => ?_⟩
        have t3 := Same.upd' (o := .tup [.ref q1,.ref q2]) hq3
        have f3 : (upd G2 q3 (.tup [.ref q1,.ref q2])) q3 = some (.tup [.ref q1,.ref q2]) := upd_same
        generalize upd G2 q3 (.tup [.ref q1,.ref q2]) = G3 at t3 f3 ⊢
        have tt := (t1.trans t2).trans t3
        have dvs : Dvs K G3 [.ref q1,.ref q2] [.tuple [.str "each"],.tuple [.str "gap"]] := .cons (.tup (SqT.of ((t2.trans t3) _ _ f1)) (.cons (.str _) .nil)) (.cons (.tup (SqT.of (t3 _ _ f2)) (.cons (.str _) .nil)) .nil)
        have shs : ∀ d ∈ [PyData.tuple [.str "each"],PyData.tuple [.str "gap"]],SeqAt.shaped d = true := by decide +kernel
        have fz1 : ([z] : List V).all flB = true := by rw [List.all_cons,fz]; rfl
        refine ⟨q3,_,_,.tuple ([z].map vD),rfl,SqT.of f3,dvs,.tup (SqT.of (tt _ _ f0)) (dvs_ok (all_ok fz1)),shs,tup_shaped fz1,fun b hb => ⟨_,rfl,?_⟩⟩
        cases b with
        | true =>
          refine iteT ⟨_,rfl,.inr (.inl ⟨p,_,_,_,rfl,rfl,SqT.of (tt _ _ (t0 _ _ e)),atI_nat (j := 1) rfl,k1 _ _ _ ⟨⟨_,rfl⟩,(s1.trans t0).trans tt,fun v hv => ?_⟩⟩)⟩
          rcases List.mem_append.mp hv with hv | hv
          · exact ha v hv
          · rw [List.mem_singleton.mp hv]; exact ⟨n,rfl,fn⟩
        | false => exact iteF (k0 _ _ ⟨⟨_,rfl⟩,(s1.trans t0).trans tt,ha⟩)
      | lst e h => exact ⟨_,rfl,_, "tuple", _,false,rfl,.lst e,rfl,_,rfl,iteF (iteF (k0 _ _ ⟨⟨_,rfl⟩,s1,ha⟩))⟩
      | non => exact ⟨_,rfl,_, "tuple", _,false,rfl,.non,rfl,_,rfl,iteF (iteF (k0 _ _ ⟨⟨_,rfl⟩,s1,ha⟩))⟩
      | int n => exact ⟨_,rfl,_, "tuple", _,false,rfl,.int n,rfl,_,rfl,iteF (iteF (k0 _ _ ⟨⟨_,rfl⟩,s1,ha⟩))⟩
    rintro τ acc HB lacc ⟨_,sB,hacc⟩ D hD
    have sC := Same.upd' (o := .lst acc) hD
    have eC : (upd HB D (.lst acc)) D = some (.lst acc) := upd_same
    generalize upd HB D (.lst acc) = HC at sC eC ⊢
    have sNC := (sA.trans sB).trans sC
    have elC := sNC _ _ elN
    have exC := sNC _ _ exs
    have s0C := s0N.trans sNC
    have hpC : ∀ v ∈ ps,El HC v ∧ v ≠ .ref l := fun v hv => ⟨(hpN v hv).1.mono sNC,(hpN v hv).2⟩
    have hxC : ∀ v ∈ xs,El HC v ∧ v ≠ .ref l := fun v hv => ⟨(axs v hv).1.mono sNC,(axs v hv).2⟩
    have fin : ∀ {H1 : Hp} {i d : Nat} {ys : List V},i ≤ d → Same HC H1 → (∀ v ∈ ys,El H1 v ∧ v ≠ .ref l) → ys.length ≤ 1 → Q (.ref l) (upd H1 l (.lst (ps.take i ++ ys ++ ps.drop d))) := by
      intro H1 i d ys hid sx hy ly
      refine k _ l _ ((s0C.trans sx).updN hl0) upd_same ?_ fun v hv => ?_
      · rw [List.length_append,List.length_append,List.length_take,List.length_drop]
        omega
      · have : El H1 v ∧ v ≠ .ref l := by
          rcases List.mem_append.mp hv with hv | hv
          · rcases List.mem_append.mp hv with hv | hv
            · have := hpC v (List.mem_of_mem_take hv)
              exact ⟨this.1.mono sx,this.2⟩
            · exact hy v hv
          · have := hpC v (List.mem_of_mem_drop hv)
            exact ⟨this.1.mono sx,this.2⟩
        exact this.1.upd this.2
    refine cutBy (fun σ' H' => ∃ o11 o12 o13 : Option V,σ' = [some (.ref l),some (.int c),some (.int m),some (.int (j : Int)),some (.ref dn),some (.str nm),some (.str ot),some (.ref l7),some (.ref l4),some (.int (c % 14)),some (.ref D),none,none,none] ∧ Same HC H') ?_ ?_
    · refine ⟨_,rfl,rfl,_,rfl,iteB (fun _ => ?_) fun _ => iteF ⟨none,none,none,rfl,Same.refl HC⟩⟩
      refine ⟨_,rfl,by show 0 ≤ sizeLine; omega,fun D2 hD2 => ?_⟩
      have s2 := Same.upd' (o := .lst []) hD2
      have e2 : (upd HC D2 (.lst [])) D2 = some (.lst []) := upd_same
      generalize upd HC D2 (.lst []) = H2 at s2 e2 ⊢
      refine ⟨D,D2,acc,rfl,rfl,SqL.of (s2 _ _ eC),SqL.of e2,_,rfl,?_⟩
      cases acc with
      | nil => exact iteF ⟨none,none,none,rfl,s2⟩
      | cons v0 r0 =>
        have L0 : (0 : Int) < ((v0 :: r0).length : Int) := by rw [List.length_cons]; omega
        obtain ⟨vt,hvt,mvt⟩ := atI_mod (v0 :: r0) ((v0 :: r0).length : Int) rfl L0 m
        obtain ⟨yt,rfl,fyt⟩ := hacc vt mvt
        refine iteT ⟨_,rfl,.inl ⟨rfl,_,SqL.of (s2 _ _ elC)⟩,_,rfl,_,rfl,_,rfl,_,rfl,D,_,rfl,.inl (SqL.of (s2 _ _ eC)),_,_,rfl,rfl,L0,D,_,_,_,rfl,rfl,SqL.of (s2 _ _ eC),hvt,by show 3 ≤ sizeLine; omega,fun p hp => ?_⟩
        have s3 := Same.upd' (o := .tup [.str "take", .str yt,.str "k"]) hp
        have x3 := (add_el (s2 _ _ elC) hp (.tup upd_same (by simp only [List.all_cons,List.all_nil,fyt]; decide +kernel) (by simp only [List.length_cons,List.length_nil]; omega) : El (upd H2 p (.tup [.str "take", .str yt,.str "k"])) (.ref p))).2
        generalize upd H2 p (.tup [.str "take", .str yt,.str "k"]) = H3 at s3 x3 ⊢
        refine ⟨l,ps,j,_,rfl,rfl,(s2.trans s3) _ _ elC,hj,by omega,_,rfl,fin (Nat.le_refl _) (s2.trans s3) (fun v hv => by rw [List.mem_singleton.mp hv]; exact x3) (by simp)⟩
    rintro σ' H1 ⟨o11,o12,o13,rfl,s1'⟩
    have elD := s1' _ _ elC
    refine cutBy (fun σ' H' => σ' = [some (.ref l),some (.int c),some (.int m),some (.int (j : Int)),some (.ref dn),some (.str nm),some (.str ot),some (.ref l7),some (.ref l4),some (.int (c % 14)),some (.ref D),none,none,none] ∧ H1 = H') ?_ ?_
    · refine ⟨_,rfl,_,_,rfl,rfl,_,rfl,iteB (fun q => ?_) fun _ => ⟨rfl,rfl⟩⟩
      have q := of_decide_eq_true q
      obtain ⟨wn,hwn⟩ : ∃ wn : Nat,c % 14 = (wn : Int) := ⟨(c % 14).toNat,by omega⟩
      have q : c % 14 < 11 := q
      have hw : wn < xs.length := by omega
      have hat : atI xs (c % 14) = some xs[wn] := by
        rw [hwn]
        exact atI_nat (List.getElem?_eq_getElem hw)
      refine ⟨_,rfl,_,rfl,l7,_,_,_,rfl,rfl,SqL.of (s1' _ _ exC),hat,by show 1 ≤ sizeLine; omega,fun b2 hb2 => ?_⟩
      have s2 := Same.upd' (o := .lst [xs[wn]]) hb2
      have e2 : (upd H1 b2 (.lst [xs[wn]])) b2 = some (.lst [xs[wn]]) := upd_same
      have nb : l ≠ b2 := ne_of_none elD hb2
      generalize upd H1 b2 (.lst [xs[wn]]) = H2 at s2 e2 ⊢
      have m0 := Int.emod_nonneg (m / 64) (show (2 : Int) ≠ 0 by decide)
      have m1 := Int.emod_lt_of_pos (m / 64) (show (0 : Int) < 2 by decide)
      refine ⟨_,rfl,_,rfl,_,rfl,_,rfl,_,rfl,_,_,rfl,rfl,⟨by decide,by decide⟩,_,_,rfl,rfl,(by decide : (0 : Int) < 2),_,_,rfl,rfl,_,rfl,l,b2,ps,[xs[wn]],j,j + (m / 64 % 2).toNat,rfl,rfl,rfl,?_,s2 _ _ elD,e2,nb,by omega,hj,by rw [List.length_singleton]; omega,_,rfl,?_⟩
      · congr 1
        omega
      · exact fin (by omega) (s1'.trans s2) (fun v hv => by rw [List.mem_singleton.mp hv]; have z := hxC _ (List.getElem_mem hw); exact ⟨(z.1.mono s1').mono s2,z.2⟩) (by simp)
    rintro σ' H' ⟨rfl,rfl⟩
    refine ⟨by show 7 ≤ sizeLine; omega,fun b3 hb3 => ?_⟩
    have s2 := Same.upd' (o := .lst [V.int 3,.int 4,.int 5,.int 5,.int 1,.int 6,.int 5]) hb3
    have e2 : (upd H1 b3 (.lst [V.int 3,.int 4,.int 5,.int 5,.int 1,.int 6,.int 5])) b3 = some (.lst [V.int 3,.int 4,.int 5,.int 5,.int 1,.int 6,.int 5]) := upd_same
    generalize upd H1 b3 (.lst [V.int 3,.int 4,.int 5,.int 5,.int 1,.int 6,.int 5]) = H2 at s2 e2 ⊢
    obtain ⟨vc,hvc,mvc⟩ := atI_mod [V.int 3,.int 4,.int 5,.int 5,.int 1,.int 6,.int 5] 7 rfl (by decide) (m / 4)
    obtain ⟨cn,rfl,c0,c1⟩ : ∃ cn : Int,vc = .int cn ∧ 1 ≤ cn ∧ cn ≤ 6 := by
      simp only [List.mem_cons,List.not_mem_nil,or_false] at mvc
      rcases mvc with rfl | rfl | rfl | rfl | rfl | rfl | rfl <;> exact ⟨_,rfl,by decide,by decide⟩
    refine ⟨_,rfl,_,_,rfl,rfl,⟨by decide,by decide⟩,_,_,rfl,rfl,(by decide : (0 : Int) < 7),b3,_,_,_,rfl,rfl,SqL.of e2,hvc,cn,rfl,by omega,by omega,for_range (fun i σ H' => ∃ (o11 o12 o13 : Option V) (qs : List V),σ = [some (.ref l),some (.int c),some (.int m),some (.int (j : Int)),some (.ref dn),some (.str nm),some (.str ot),some (.ref l7),some (.ref l4),some (.int (c % 14)),some (.ref D),o11,o12,o13] ∧ Same H H' ∧ H' l = some (.lst qs) ∧ qs.length = ps.length + i ∧ ∀ v ∈ qs,El H' v ∧ v ≠ .ref l)
      ⟨none,none,none,ps,rfl,(s0C.trans s1').trans s2,s2 _ _ elD,rfl,fun v hv => ⟨((hpC v hv).1.mono s1').mono s2,(hpC v hv).2⟩⟩ ?_ ?_⟩
    · rintro i σ H3 hi ⟨o11,o12,o13,qs,rfl,s3,el3,lq,hq⟩
      have hi7 : i < 6 := by omega
      have ez : (0 : Int) + (i : Int) = (i : Int) := Int.zero_add _
      rw [ez]
      have ch : ∀ z : Str,z.length = 8 ∨ z.length = 7 → z.length ≤ sizeLine ∧ ∃ cc,atI z.cps.toList (i : Int) = some cc ∧ cc ∈ z.cps.toList := fun z hz => by
        refine ⟨by omega,?_⟩
        have : i < z.cps.toList.length := by rw [← len_cps]; omega
        exact ⟨_,atI_nat (List.getElem?_eq_getElem this),List.getElem_mem this⟩
      obtain ⟨l8,c8,h8,m8⟩ := ch "zabcdefg" (.inl rfl)
      obtain ⟨l7',c7,h7,m7⟩ := ch "abcdefg" (.inr rfl)
      have all8 : ∀ cc ∈ ("zabcdefg" : Str).cps.toList,flB (.str (("w" : Str) ++ ⟨#[cc]⟩)) = true := by decide +kernel
      have f8 := all8 c8 m8
      have all7 : ∀ cc ∈ ("abcdefg" : Str).cps.toList,flB (.str (("w" : Str) ++ ⟨#[cc]⟩)) = true := by decide +kernel
      have f7 := all7 c7 m7
      have l3 : ∀ a b : Str,(a ++ b).length = a.length + b.length := fun a b => PySem.Str.length_append a b
      refine ⟨_,rfl,_,_,_,rfl,rfl,l8,h8,_,_,rfl,rfl,by rw [show (("w" : Str)).length = 1 from rfl]; show 1 + 1 ≤ sizeLine; omega,_,rfl,by show 2 ≤ sizeLine; omega,fun la hla => ?_⟩
      have s4 := Same.upd' (o := .lst [.str (("w" : Str) ++ ⟨#[c8]⟩),.str nm]) hla
      have e4 : (upd H3 la (.lst [.str (("w" : Str) ++ ⟨#[c8]⟩),.str nm])) la = some (.lst [.str (("w" : Str) ++ ⟨#[c8]⟩),.str nm]) := upd_same
      generalize upd H3 la (.lst [.str (("w" : Str) ++ ⟨#[c8]⟩),.str nm]) = H4 at s4 e4 ⊢
      obtain ⟨va,hva,fva⟩ : ∃ a : Str,atI [V.str (("w" : Str) ++ ⟨#[c8]⟩),.str nm] (if decide (V.int (i : Int) = V.int 0) = true then 1 else 0) = some (.str a) ∧ flB (.str a) = true := by
        by_cases q : decide (V.int (i : Int) = V.int 0) = true
        · rw [if_pos q]
          exact ⟨nm,atI_nat (j := 1) rfl,fnm⟩
        · rw [if_neg q]
          exact ⟨_,atI_nat (j := 0) rfl,f8⟩
      refine ⟨_,rfl,rfl,.inr ⟨_,rfl,la,_,_,_,rfl,rfl,SqL.of e4,hva,?_⟩⟩
      have el4' := s4 _ _ el3
      refine ⟨_,rfl,_,_,_,rfl,rfl,l7',h7,_,_,rfl,rfl,by show 1 + 1 ≤ sizeLine; omega,_,rfl,_,rfl,by show 4 ≤ sizeLine; omega,fun p hp => ?_⟩
      have s5 := Same.upd' (o := .tup [.str "both", .str (("w" : Str) ++ ⟨#[c7]⟩),.str va,.str va]) hp
      have x5 := (add_el el4' hp (.tup upd_same (by simp only [List.all_cons,List.all_nil,f7,fva]; decide +kernel) (by simp only [List.length_cons,List.length_nil]; omega) : El (upd H4 p (.tup [.str "both", .str (("w" : Str) ++ ⟨#[c7]⟩),.str va,.str va])) (.ref p))).2
      generalize upd H4 p (.tup [.str "both", .str (("w" : Str) ++ ⟨#[c7]⟩),.str va,.str va]) = H5 at s5 x5 ⊢
      have el5' := s5 _ _ el4'
      refine cutBy (fun σ' H' => ∃ (p : Addr),σ' = [some (.ref l),some (.int c),some (.int m),some (.int (j : Int)),some (.ref dn),some (.str nm),some (.str ot),some (.ref l7),some (.ref l4),some (.int (c % 14)),some (.ref D),some (.int (i : Int)),some (.str va),some (.ref p)] ∧ Same H5 H' ∧ El H' (.ref p) ∧ V.ref p ≠ .ref l) ?_ ?_
      · refine ⟨_,rfl,_,_,rfl,rfl,⟨by decide,by decide⟩,_,_,rfl,rfl,(by decide : (0 : Int) < 2),rfl,_,rfl,iteB (fun _ => ?_) fun _ => iteF ⟨p,rfl,Same.refl H5,x5⟩⟩
        refine ⟨_,rfl,_,_,rfl,rfl,_,rfl,iteB (fun _ => ?_) fun _ => ⟨p,rfl,Same.refl H5,x5⟩⟩
        refine ⟨_,rfl,_,_,_,rfl,rfl,l7',h7,_,_,rfl,rfl,by show 1 + 1 ≤ sizeLine; omega,_,rfl,_,rfl,by show 5 ≤ sizeLine; omega,fun p2 hp2 => ?_⟩
        exact ⟨p2,rfl,Same.upd' hp2,(add_el el5' hp2 (.tup upd_same (by simp only [List.all_cons,List.all_nil,f7,fva]; decide +kernel) (by simp only [List.length_cons,List.length_nil]; omega) : El (upd H5 p2 (.tup [.str "join", .str (("w" : Str) ++ ⟨#[c7]⟩),.str va,.str va,.int 1])) (.ref p2))).2⟩
      rintro σ' H6 ⟨p2,rfl,s6,x6⟩
      have el6' := s6 _ _ el5'
      have s36 := (s4.trans s5).trans s6
      refine ⟨_,rfl,.inl ⟨rfl,_,SqL.of el6'⟩,_,rfl,_,rfl,_,_,rfl,rfl,_,rfl,l,qs,j + i,.ref p2,rfl,rfl,el6',by omega,by omega,?_⟩
      refine ⟨_,_,_,_,rfl,(s3.trans s36).updN hl0,upd_same,?_,fun v hv => ?_⟩
      · rw [List.length_append,List.length_append,List.length_take,List.length_drop,List.length_singleton]
        omega
      · have : El H6 v ∧ v ≠ .ref l := by
          rcases List.mem_append.mp hv with hv | hv
          · rcases List.mem_append.mp hv with hv | hv
            · have := hq v (List.mem_of_mem_take hv)
              exact ⟨this.1.mono s36,this.2⟩
            · rw [List.mem_singleton.mp hv]; exact x6
          · have := hq v (List.mem_of_mem_drop hv)
            exact ⟨this.1.mono s36,this.2⟩
        exact ⟨this.1.upd this.2,this.2⟩
    · rintro σ H3 ⟨o11,o12,o13,qs,rfl,s3,el3,lq,hq⟩
      refine ⟨_,rfl,k H3 l qs s3 el3 (by omega) fun v hv => (hq v hv).1⟩
def spWhole : Sp := fun vs H Q _ => (∃ n : Int,vs = [.int n] ∧ Q (.bl true) H) ∨ (vs = [.non] ∧ Q (.bl false) H)
theorem ok_whole (T : Tx w K mg ad) : FnOk P w K mg base CX0 1 ad.a_uwhole ad.d_uwhole ["_law_thing"] spWhole := by
  refine T.F_uwhole.ok sc_uwhole (fun vs H Q E h => ?_) (fun cdv A outer s H vs Q E hr h => ?_)
  · rcases h with ⟨n,rfl,_⟩ | ⟨rfl,_⟩ <;> rfl
  · refine ⟨_,pss_one (ps_ret (pe_and (pe_callB (call_isinst (K := K)) (by rfl) T.z_isinstance PyProof.Rows.boot_isinstance (pa_cons (pv 0) (pa_cons (pe_bltn (v := .ty "int") (by rfl) T.z_int PyProof.Rows.boot_int rfl) pa_nil)))
      (pe_one (pe_not (pe_callB (call_isinst (K := K)) (by rfl) T.z_isinstance PyProof.Rows.boot_isinstance (pa_cons (pv 0) (pa_cons (pe_bltn (v := .ty "bool") (by rfl) T.z_bool PyProof.Rows.boot_bool rfl) pa_nil))))))),?_⟩
    rcases h with ⟨n,rfl,q⟩ | ⟨rfl,q⟩
    · exact ⟨_,rfl,_, "int", _,true,rfl,.int n,rfl,_,rfl,iteT ⟨_,rfl,_, "bool", _,false,rfl,.int n,rfl,_,rfl,q⟩⟩
    · exact ⟨_,rfl,_, "int", _,false,rfl,.non,rfl,_,rfl,iteF q⟩
theorem pn_els {H : Hp} {ps : List V} {xss : List (List V)} (h : Pn H ps xss) : ∀ v ∈ ps,El H v := by
  intro v hv
  obtain ⟨i,hi,ei⟩ := List.mem_iff_getElem.mp hv
  obtain ⟨p,xs,rfl,hxs,ep,g⟩ := pn_at h (i := i) (x := v) (by rw [← ei]; exact List.getElem?_eq_getElem hi)
  have ok := step_ok g.1
  obtain ⟨z0,r0,ex0,_,l6⟩ := form_head (step_is_form g.1)
  obtain ⟨z,n,b,r,rfl,_,_⟩ := step_nm g.1
  refine .tup ep (List.all_eq_true.mpr fun y hy => ?_) (by simp only [List.length_cons] at l6 ⊢; omega)
  have q1 := ok y hy
  rcases g.2 y hy with ⟨i,rfl⟩ | ⟨z,rfl,hz⟩
  · rfl
  · rcases q1 with ⟨i,e⟩ | ⟨z',e,hz'⟩
    · cases e
    · cases e
      show (PyData.strOk _ && decide _) = true
      rw [hz',decide_eq_true hz]
      rfl
inductive Pz (H : Hp) : V → Prop where
  | lst {l : Addr} {qs : List V} (e : H l = some (.lst qs)) (h : qs.length ≤ 100) (a : ∀ v ∈ qs,El H v) : Pz H (.ref l)
  | tup {p : Addr} {qs : List V} (e : H p = some (.tup qs)) (h : qs.length ≤ 100) (a : ∀ v ∈ qs,El H v) : Pz H (.ref p)
  | non : Pz H .non
theorem Pz.mono {H H' : Hp} {v : V} (h : Pz H v) (s : Same H H') : Pz H' v := by
  cases h with
  | lst e h a => exact .lst (s _ _ e) h fun v hv => (a v hv).mono s
  | tup e h a => exact .tup (s _ _ e) h fun v hv => (a v hv).mono s
  | non => exact .non
theorem lst_says {H : Hp} {l : Addr} {qs : List V} (e : H l = some (.lst qs)) (h : qs.length ≤ 100) (a : ∀ v ∈ qs,El H v) : ∃ r,∀ H' l',Same H H' → H' l' = some (.lst qs) → Says H' (.ref l') r := by
  by_cases hl : qs.length ≤ 30
  · obtain ⟨os,hs⟩ := els_st a
    exact ⟨_,fun H' l' s e' => .lst e' hl (hs.mono s)⟩
  · exact ⟨_,fun H' l' s e' => .long e' (by omega) (by omega)⟩
theorem els_shaped {ds : List PyData} (h1 : PyData.canLayAll0 ds = true) (h2 : PyData.depthAll ds ≤ 1) : SeqAt.shaped (.list ds) = true ∧ SeqAt.shaped (.tuple ds) = true := by
  have d1 : (PyData.list ds).depth ≤ 64 := by show PyData.depthAll ds + 1 ≤ 64; omega
  have d2 : (PyData.tuple ds).depth ≤ 64 := by show PyData.depthAll ds + 1 ≤ 64; omega
  unfold SeqAt.shaped
  rw [decide_eq_true d1,decide_eq_true d2]
  constructor
  · show (PyData.canLayAll0 ds && true) = true
    rw [h1]; rfl
  · show (PyData.canLayAll0 ds && true) = true
    rw [h1]; rfl
theorem Pz.both {K : W.Frag} {H : Hp} {x : V} (h : Pz H x) : ∃ r,(∀ H',Same H H' → Says H' x r) ∧
    ((∃ g,Th H x g ∧ isL g = false ∧ (∀ H',Same H H' → ∃ d,Dv K H' x d ∧ SeqAt.shaped d = true)) ∨
     (∃ l qs,x = .ref l ∧ H l = some (.lst qs) ∧ ∀ H' l',Same H H' → H' l' = some (.lst qs) → Says H' (.ref l') r ∧ ∃ d,Dv K H' x d ∧ Dv K H' (.ref l') d ∧ SeqAt.shaped d = true)) := by
  cases h with
  | lst e h a =>
    obtain ⟨r,hr⟩ := lst_says e h a
    refine ⟨r,fun H' s => hr H' _ s (s _ _ e),.inr ⟨_,_,rfl,e,fun H' l' s e' => ⟨hr H' l' s e',?_⟩⟩⟩
    obtain ⟨ds,d1,d2,d3⟩ := els_dv (K := K) fun v hv => (a v hv).mono s
    exact ⟨_,.lst (SqL.of (s _ _ e)) d1,.lst (SqL.of e') d1,(els_shaped d2 d3).1⟩
  | tup e h a =>
    refine ⟨_,fun H' s => .oth (.tup (s _ _ e)) (fun h => nomatch h),.inl ⟨_,.tup e,rfl,fun H' s => ?_⟩⟩
    obtain ⟨ds,d1,d2,d3⟩ := els_dv (K := K) fun v hv => (a v hv).mono s
    exact ⟨_,.tup (SqT.of (s _ _ e)) d1,(els_shaped d2 d3).2⟩
  | non => exact ⟨_,fun H' s => .oth .non (fun h => nomatch h),.inl ⟨_,.non,rfl,fun H' s => ⟨_,.non,rfl⟩⟩⟩
theorem ok_law (T : Tx w K mg ad) : FnOk P w K mg base CX0 depth ad.a_law ad.d_law ["_law_script"] (sp_law K) := by
  have G_uat := ok_at (P := P) (w := w) (base := base) T
  have G_uplan := ok_plan (P := P) (w := w) (base := base) T
  have G_uspoilt := ok_spoilt (P := P) (w := w) (base := base) T
  have G_ubad := ok_bad (P := P) (w := w) (base := base) T
  have G_usaid := ok_said (P := P) (w := w) (base := base) T
  have G_uwhole := ok_whole (P := P) (w := w) (base := base) T
  refine T.F_law.ok sc_law (fun vs H Q E h => ?_) (fun cdv A outer s H vs Q E hr h => ?_)
  · obtain ⟨a,ns,rfl,_⟩ := h
    rfl
  · obtain ⟨a,ns,rfl,hS,hlen,k⟩ := h
    obtain ⟨t_MOST_STEPS,h_MOST_STEPS⟩ := T.g_MOST_STEPS
    obtain ⟨t_MOST_WIDE,h_MOST_WIDE⟩ := T.g_MOST_WIDE
    have nd := sc_law.nd
    refine ⟨_,(pss_cons (ps_if (PW.pt (pw_or (pt_cmpR op_ne (pe_glob (v := .int 30) (by rfl) h_MOST_STEPS ⟨t_MOST_STEPS,rfl⟩) pe_int (nomark _)) (pw_or1 (pt_cmpR op_ne (pe_glob (v := .int 32) (by rfl) h_MOST_WIDE ⟨t_MOST_WIDE,rfl⟩) pe_int (nomark _)))))
        (pss_one (ps_ret pe_bl))
        pss_nil)
        (pss_cons (ps_set (i := 1) nd rfl (Or.inl rfl) pe_int)
        (pss_cons (ps_cut (ps_if (pt_cmpR op_eq (pe_op op_mod (pe_call G_uat (hr.mono (by decide)) (by rfl) T.m_uat T.F_uat.kp T.b_uat .nil pass0 (pa_cons (pv 0) (pa_cons pe_int pa_nil))) pe_int) pe_int (nomark _))
        (pss_one (ps_set (i := 1) nd rfl (Or.inl rfl) pe_int))
        pss_nil))
        (pss_cons (ps_set (i := 2) nd rfl (Or.inl rfl) (pe_call G_uplan (hr.mono (by decide)) (by rfl) T.m_uplan T.F_uplan.kp T.b_uplan .nil pass0 (pa_cons (pv 0) (pa_cons pe_int (pa_cons (pv 1) pa_nil)))))
        (pss_cons (ps_set (i := 3) nd rfl (Or.inl rfl) (pe_op op_fdiv (pe_call G_uat (hr.mono (by decide)) (by rfl) T.m_uat T.F_uat.kp T.b_uat .nil pass0 (pa_cons (pv 0) (pa_cons pe_int pa_nil))) pe_int))
        (pss_cons (ps_cut (ps_if (pt_cmpR op_gt (pe_op op_mod (pv 3) pe_int) pe_int (nomark _))
        (pss_one (ps_set (i := 2) nd rfl (Or.inl rfl) (pe_call G_uspoilt (hr.mono (by decide)) (by rfl) T.m_uspoilt T.F_uspoilt.kp T.b_uspoilt .nil pass0 (pa_cons (pv 2) (pa_cons (pe_call G_uat (hr.mono (by decide)) (by rfl) T.m_uat T.F_uat.kp T.b_uat .nil pass0 (pa_cons (pv 0) (pa_cons pe_int pa_nil))) (pa_cons (pe_call G_uat (hr.mono (by decide)) (by rfl) T.m_uat T.F_uat.kp T.b_uat .nil pass0 (pa_cons (pv 0) (pa_cons pe_int pa_nil))) pa_nil))))))
        pss_nil))
        (pss_cons (ps_cut (ps_if (PW.pt (pw_and (pt_cmpR op_eq (pe_op op_mod (pv 3) pe_int) pe_int (nomark _)) (pw_and1 (pt_cmpR op_lt (pe_callB (call_len_seqK (K := K)) (by rfl) T.z_len PySem.boot_len (pa_cons (pv 2) pa_nil)) pe_int (nomark _)))))
        (pss_one (ps_set (i := 2) nd rfl (Or.inl rfl) (pe_call G_uspoilt (hr.mono (by decide)) (by rfl) T.m_uspoilt T.F_uspoilt.kp T.b_uspoilt .nil pass0 (pa_cons (pv 2) (pa_cons (pe_call G_uat (hr.mono (by decide)) (by rfl) T.m_uat T.F_uat.kp T.b_uat .nil pass0 (pa_cons (pv 0) (pa_cons pe_int pa_nil))) (pa_cons (pe_call G_uat (hr.mono (by decide)) (by rfl) T.m_uat T.F_uat.kp T.b_uat .nil pass0 (pa_cons (pv 0) (pa_cons pe_int pa_nil))) pa_nil))))))
        pss_nil))
        (pss_cons (ps_cut (ps_if (pt_cmpR op_eq (pe_op op_mod (pv 3) pe_int) pe_int (nomark _))
        (pss_cons (ps_set (i := 4) nd rfl (Or.inl rfl) (pe_op op_add pe_int (pe_op op_mod (pe_op op_fdiv (pv 3) pe_int) pe_int)))
        (pss_cons (ps_setC (i := 5) (osc := defScope s_law) [] nd rfl (Or.inl rfl) rfl (pi_range1 (by rfl) T.z_range (pa_cons (pv 4) pa_nil)) rfl rfl (by decide +kernel) (by decide +kernel) (by decide +kernel) trivial rfl (by decide +kernel) (fun _ _ _ _ => pts_nil) (fun _ _ _ _ => (pe_tup (pa_cons pe_str (pa_cons (pe_op op_add_str (pe_op op_add_str pe_str (pe_ix ix_str pe_str (pe_op op_mod (pv 0) pe_int) (fun _ _ => rfl))) (pe_ix ix_str pe_str (pe_op op_fdiv (pv 0) pe_int) (fun _ _ => rfl))) (pa_cons pe_str pa_nil))))))
        (pss_one (ps_set (i := 2) nd rfl (Or.inl rfl) (pe_ix (ix_listK (K := K)) (pe_lst (pa_cons (pe_callTy call_tuple_of (by rfl) T.z_tuple PyProof.Rows.boot_tuple (pa_cons (pv 2) pa_nil)) (pa_cons pe_non (pa_cons (pv 5) pa_nil)))) (pe_op op_mod (pe_op op_fdiv (pv 3) pe_int) pe_int) (fun _ _ => rfl))))))
        pss_nil))
        (pss_cons (ps_cut (ps_set (i := 6) nd rfl (Or.inl rfl) (pe_ifExp (pt_val (pe_callB (call_isinst (K := K)) (by rfl) T.z_isinstance PyProof.Rows.boot_isinstance (pa_cons (pv 2) (pa_cons (pe_bltn (v := .ty "list") (by rfl) T.z_list PyProof.Rows.boot_list rfl) pa_nil)))) (pe_callTy (call_list_ofK (K := K)) (by rfl) T.z_list PyProof.Rows.boot_list (pa_cons (pv 2) pa_nil)) (pv 2))))
        (pss_cons (ps_asg (pe_call G_ubad (hr.mono (by decide)) (by rfl) T.m_ubad T.F_ubad.kp T.b_ubad .nil pass0 (pa_cons (pv 2) pa_nil)) (pg_tup rfl (pgs_cons (pg_name (i := 7) nd rfl (Or.inl rfl)) (pgs_cons (pg_name (i := 8) nd rfl (Or.inl rfl)) pgs_nil))))
        (pss_cons (ps_set (i := 9) nd rfl (Or.inl rfl) (pe_call G_usaid (hr.mono (by decide)) (by rfl) T.m_usaid T.F_usaid.kp T.b_usaid .nil pass0 (pa_cons (pv 6) pa_nil)))
        (pss_cons (ps_if (PW.pt (pw_or (pt_cmpR (op_neD (K := K) hr.units) (pv 6) (pv 2) (nomark _)) (pw_or1 (pt_cmpR op_ne (pe_ix (ix_tupK (K := K)) (pv 9) pe_int (fun _ _ => rfl)) (pe_ix (ix_listK (K := K)) (pe_lst (pa_cons pe_str (pa_cons pe_str pa_nil))) (pe_callTy call_int1 (by rfl) T.z_int PyProof.Rows.boot_int (pa_cons (pv 7) pa_nil)) (fun _ _ => rfl)) (nomark _)))))
        (pss_one (ps_ret pe_bl))
        pss_nil)
        (pss_cons (ps_if (pt_not (pt_val (pv 7)))
        (pss_one (ps_ret (pe_cmpR op_isB (pe_ix (ix_tupK (K := K)) (pv 9) pe_int (fun _ _ => rfl)) pe_bl (nomark _))))
        pss_nil)
        (pss_cons (ps_if (pt_cmpR op_isN (pv 8) pe_non (nomark _))
        (pss_one (ps_ret (pe_cmpR op_isN (pe_ix (ix_tupK (K := K)) (pv 9) pe_int (fun _ _ => rfl)) pe_non (nomark _))))
        pss_nil)
        (pss_one (ps_ret (pe_and (pe_call G_uwhole (hr.mono (by decide)) (by rfl) T.m_uwhole T.F_uwhole.kp T.b_uwhole .nil pass0 (pa_cons (pe_ix (ix_tupK (K := K)) (pv 9) pe_int (fun _ _ => rfl)) pa_nil)) (pe_one (pe_cmpR op_eq (pe_ix (ix_tupK (K := K)) (pv 9) pe_int (fun _ _ => rfl)) (pv 8) (nomark _)))))))))))))))))))),?_⟩
    have sz : sizeLine = 16777216 := sizeLine_eq
    refine ⟨rfl,_,rfl,iteNS rfl ⟨rfl,_,rfl,iteNS rfl ?_⟩⟩
    refine cutBy (fun σ' H' => ∃ most : Int,σ' = [some (.ref a),some (.int most),none,none,none,none,none,none,none,none] ∧ H = H' ∧ (most = 12 ∨ most = 30)) ?_ ?_
    · refine ⟨_,rfl,a,ns,_,rfl,hS,hlen,by decide,fun c0 => ⟨_,_,rfl,rfl,(by decide : (0 : Int) < 9),rfl,_,rfl,iteB (fun _ => ⟨30,rfl,rfl,.inr rfl⟩) fun _ => ⟨12,rfl,rfl,.inl rfl⟩⟩⟩
    rintro σ' H' ⟨most,rfl,rfl,hm⟩
    refine ⟨_,rfl,_,rfl,a,ns,_,_,rfl,hS,hlen,by decide,hm,fun H1 l ps xss b s1 el hp _ hx => ?_⟩
    refine ⟨_,rfl,a,ns,_,rfl,s1.seq hS,hlen,by decide,fun c1 => ⟨_,_,rfl,rfl,⟨by decide,by decide⟩,?_⟩⟩
    have lp := hp.1
    have els := pn_els hp
    refine cutBy (fun σ' H' => ∃ (l : Addr) (qs : List V),σ' = [some (.ref a),some (.int most),some (.ref l),some (.int (c1 / 9)),none,none,none,none,none,none] ∧ Same H H' ∧ H' l = some (.lst qs) ∧ qs.length ≤ 40 ∧ ∀ v ∈ qs,El H' v) ?_ ?_
    · refine ⟨_,rfl,_,_,rfl,rfl,(by decide : (0 : Int) < 5),_,_,rfl,rfl,_,rfl,iteB (fun _ => ?_) fun _ => ⟨l,ps,rfl,s1,el,by omega,els⟩⟩
      refine ⟨_,rfl,_,rfl,a,ns,_,rfl,s1.seq hS,hlen,by decide,fun x1 => ⟨_,rfl,a,ns,_,rfl,s1.seq hS,hlen,by decide,fun x2 => ⟨l,ps,x1,x2,rfl,el,by omega,els,fun H2 l2 qs s2 e2 lq hq => ⟨l2,qs,rfl,s1.trans s2,e2,by omega,hq⟩⟩⟩⟩
    clear el els hp lp hx
    rintro σ' H2 ⟨l,qs,rfl,s2,el,lq,els⟩
    refine cutBy (fun σ' H' => ∃ (l : Addr) (qs : List V),σ' = [some (.ref a),some (.int most),some (.ref l),some (.int (c1 / 9)),none,none,none,none,none,none] ∧ Same H H' ∧ H' l = some (.lst qs) ∧ qs.length ≤ 50 ∧ ∀ v ∈ qs,El H' v) ?_ ?_
    · refine ⟨_,rfl,_,_,rfl,rfl,(by decide : (0 : Int) < 5),rfl,_,rfl,iteB (fun _ => ?_) fun _ => iteF ⟨l,qs,rfl,s2,el,by omega,els⟩⟩
      refine ⟨_,rfl,l,qs,rfl,.inl (SqL.of el),_,_,rfl,rfl,_,rfl,iteB (fun _ => ?_) fun _ => ⟨l,qs,rfl,s2,el,by omega,els⟩⟩
      refine ⟨_,rfl,_,rfl,a,ns,_,rfl,s2.seq hS,hlen,by decide,fun x1 => ⟨_,rfl,a,ns,_,rfl,s2.seq hS,hlen,by decide,fun x2 => ⟨l,qs,x1,x2,rfl,el,by omega,els,fun H3 l2 qs2 s3 e3 lq3 hq => ⟨l2,qs2,rfl,s2.trans s3,e3,by omega,hq⟩⟩⟩⟩
    clear el els lq
    rintro σ' H3 ⟨l,qs,rfl,s3,el,lq,els⟩
    refine cutBy (fun σ' H' => ∃ (x : V) (o4 o5 : Option V),σ' = [some (.ref a),some (.int most),some x,some (.int (c1 / 9)),o4,o5,none,none,none,none] ∧ Same H H' ∧ Pz H' x) ?_ ?_
    · refine ⟨_,rfl,_,_,rfl,rfl,(by decide : (0 : Int) < 15),rfl,_,rfl,iteB (fun _ => ?_) fun _ => ⟨_,_,_,rfl,s3,.lst el (by omega) els⟩⟩
      refine ⟨_,rfl,_,_,rfl,rfl,⟨by decide,by decide⟩,_,_,rfl,rfl,(by decide : (0 : Int) < 2),_,_,rfl,rfl,?_⟩
      have m0 := Int.emod_nonneg (c1 / 9 / 15) (show (2 : Int) ≠ 0 by decide)
      have m1 := Int.emod_lt_of_pos (c1 / 9 / 15) (show (0 : Int) < 2 by decide)
      refine ⟨_,rfl,30 + c1 / 9 / 15 % 2,rfl,by omega,by omega,comp_rangeN (fun i τ acc H1 => (∃ o,τ = [o]) ∧ Same H3 H1 ∧ ∀ v ∈ acc,El H1 v) (by omega) ⟨⟨none,rfl⟩,Same.refl _,fun v hv => absurd hv (by simp)⟩ ?_ ?_⟩
      · rintro i τ acc H4 R1 hi ha ⟨⟨o,rfl⟩,s4,hacc⟩ k1
        have hi31 : i < 31 := by omega
        have ez : (0 : Int) + (i : Int) = (i : Int) := Int.zero_add _
        rw [ez]
        obtain ⟨c8,h8,m8⟩ := atI_mod ("abcdefgh" : Str).cps.toList 8 (by decide +kernel) (by decide) (i : Int)
        have h4 : ∃ cc,atI ("abcd" : Str).cps.toList ((i : Int) / 8) = some cc ∧ cc ∈ ("abcd" : Str).cps.toList := by
          have l4 : ("abcd" : Str).cps.toList.length = 4 := by decide +kernel
          have hq : (i / 8 : Nat) < ("abcd" : Str).cps.toList.length := by omega
          rw [show (i : Int) / 8 = ((i / 8 : Nat) : Int) by omega]
          exact ⟨_,atI_nat (List.getElem?_eq_getElem hq),List.getElem_mem hq⟩
        obtain ⟨c4,h4,m4⟩ := h4
        have fl : ∀ x ∈ ("abcdefgh" : Str).cps.toList,∀ y ∈ ("abcd" : Str).cps.toList,flB (.str ((("n" : Str) ++ ⟨#[x]⟩) ++ ⟨#[y]⟩)) = true := by decide +kernel
        have f48 := fl c8 m8 c4 m4
        refine ⟨_,rfl,_,_,rfl,rfl,(by decide : (0 : Int) < 8),_,_,_,rfl,rfl,by decide +kernel,h8,_,_,rfl,rfl,by show 1 + 1 ≤ sizeLine; omega,_,rfl,_,_,rfl,rfl,⟨by decide,by decide⟩,_,_,_,rfl,rfl,by decide +kernel,h4,_,_,rfl,rfl,by show 2 + 1 ≤ sizeLine; omega,by show 3 ≤ sizeLine; omega,fun p hp => ?_⟩
        have s5 := Same.upd' (o := .tup [.str "take", .str ((("n" : Str) ++ ⟨#[c8]⟩) ++ ⟨#[c4]⟩),.str "k"]) hp
        have x5 : El (upd H4 p (.tup [.str "take", .str ((("n" : Str) ++ ⟨#[c8]⟩) ++ ⟨#[c4]⟩),.str "k"])) (.ref p) := .tup upd_same (by simp only [List.all_cons,List.all_nil,f48]; decide +kernel) (by simp only [List.length_cons,List.length_nil]; omega)
        generalize upd H4 p (.tup [.str "take", .str ((("n" : Str) ++ ⟨#[c8]⟩) ++ ⟨#[c4]⟩),.str "k"]) = H5 at s5 x5 ⊢
        refine k1 _ _ _ ⟨⟨_,rfl⟩,s4.trans s5,fun v hv => ?_⟩
        rcases List.mem_append.mp hv with hv | hv
        · exact (hacc v hv).mono s5
        · rw [List.mem_singleton.mp hv]; exact x5
      · rintro τ acc H4 lacc ⟨_,s4,hacc⟩ D hD
        have s5 := Same.upd' (o := .lst acc) hD
        have e5 : (upd H4 D (.lst acc)) D = some (.lst acc) := upd_same
        generalize upd H4 D (.lst acc) = H5 at s5 e5 ⊢
        have s35 := s4.trans s5
        refine ⟨_,rfl,l,qs,rfl,.inl ⟨SqL.of (s35 _ _ el),fun p hp => ?_⟩⟩
        have s6 := Same.upd' (o := .tup qs) hp
        have e6 : (upd H5 p (.tup qs)) p = some (.tup qs) := upd_same
        generalize upd H5 p (.tup qs) = H6 at s6 e6 ⊢
        refine ⟨_,rfl,by show 3 ≤ sizeLine; omega,fun b hb => ?_⟩
        have s7 := Same.upd' (o := .lst [.ref p,.non,.ref D]) hb
        have e7 : (upd H6 b (.lst [.ref p,.non,.ref D])) b = some (.lst [.ref p,.non,.ref D]) := upd_same
        generalize upd H6 b (.lst [.ref p,.non,.ref D]) = H7 at s7 e7 ⊢
        obtain ⟨v,hv,mv⟩ := atI_mod [V.ref p,.non,.ref D] 3 rfl (by decide) (c1 / 9 / 30)
        refine ⟨_,rfl,_,_,rfl,rfl,⟨by decide,by decide⟩,_,_,rfl,rfl,(by decide : (0 : Int) < 3),b,_,_,v,rfl,rfl,SqL.of e7,hv,?_⟩
        have s37 := (s35.trans s6).trans s7
        refine ⟨v,_,_,rfl,s3.trans s37,?_⟩
        simp only [List.mem_cons,List.not_mem_nil,or_false] at mv
        rcases mv with rfl | rfl | rfl
        · exact .tup (s7 _ _ e6) (by omega) fun v hv => (els v hv).mono s37
        · exact .non
        · exact .lst ((s6.trans s7) _ _ e5) (by omega) fun v hv => (hacc v hv).mono ((s5.trans s6).trans s7)
    clear el els lq
    rintro σ' H4 ⟨x,o4,o5,rfl,s4,pz⟩
    obtain ⟨r,says,both⟩ := pz.both (K := K)
    refine cutBy (fun σ' H' => ∃ y : V,σ' = [some (.ref a),some (.int most),some x,some (.int (c1 / 9)),o4,o5,some y,none,none,none] ∧ Same H4 H' ∧ (∀ H2,Same H' H2 → Says H2 y r ∧ ∃ d,Dv K H2 x d ∧ Dv K H2 y d ∧ SeqAt.shaped d = true)) ?_ ?_
    · rcases both with ⟨g,th,hg,dv⟩ | ⟨l,qs,rfl,el,hh⟩
      · refine ⟨_,rfl,x, "list", _,_,rfl,th.ty,kit_list _ g,_,rfl,?_⟩
        rw [hg]
        refine iteF ⟨_,rfl,x,rfl,Same.refl H4,fun H2 s2 => ⟨says H2 s2,?_⟩⟩
        obtain ⟨d,d1,d2⟩ := dv H2 s2
        exact ⟨d,d1,d1,d2⟩
      · refine ⟨_,rfl,_, "list", _,true,rfl,.lst el,rfl,_,rfl,iteT ⟨_,rfl,l,qs,rfl,.inl (SqL.of el),fun l' hl' => ?_⟩⟩
        exact ⟨.ref l',rfl,Same.upd' hl',fun H2 s2 => hh H2 l' ((Same.upd' hl').trans s2) (s2 _ _ upd_same)⟩
    rintro σ' H5 ⟨y,rfl,s5,hy⟩
    refine ⟨_,rfl,x,r,rfl,says H5 s5,fun H6 p s6 ep => ?_⟩
    refine ⟨p,_,rfl,SqT.of ep,rfl,_,_,rfl,_,_,rfl,rfl,?_⟩
    refine ⟨_,rfl,y,r,rfl,(hy H6 s6).1,fun H7 q s7 eq => ?_⟩
    obtain ⟨_,d,dx,dy,sd⟩ := hy H7 (s6.trans s7)
    refine ⟨_,rfl,_,rfl,neD_same dy dx sd ⟨_,rfl,iteF ?_⟩⟩
    cases r with
    | none =>
      have i0 : atI ([.str "fine", .bl true] : List V) 0 = some (.str "fine") := atI_nat (j := 0) rfl
      have i1 : atI ([.str "fine", .bl true] : List V) 1 = some (.bl true) := atI_nat (j := 1) rfl
      refine ⟨_,rfl,q,_,_,_,rfl,rfl,SqT.of eq,i0,by show 2 ≤ sizeLine; omega,fun b hb => ⟨_,rfl,.inr ⟨_,rfl,b,_,_,_,rfl,rfl,SqL.of upd_same,atI_nat (j := 0) rfl,rfl,_,rfl,iteNS rfl ?_⟩⟩⟩
      have s8 := Same.upd' (o := .lst [V.str "fine", .str "bad"]) hb
      refine ⟨_,rfl,_,rfl,iteT ⟨_,rfl,q,_,_,_,rfl,rfl,SqT.of (s8 _ _ eq),i1,?_⟩⟩
      exact ⟨_,_,rfl,rfl,k _⟩
    | some v =>
      have i0 : atI ([.str "bad", v] : List V) 0 = some (.str "bad") := atI_nat (j := 0) rfl
      have i1 : atI ([.str "bad", v] : List V) 1 = some v := atI_nat (j := 1) rfl
      refine ⟨_,rfl,q,_,_,_,rfl,rfl,SqT.of eq,i0,by show 2 ≤ sizeLine; omega,fun b hb => ⟨_,rfl,.inr ⟨_,rfl,b,_,_,_,rfl,rfl,SqL.of upd_same,atI_nat (j := 1) rfl,rfl,_,rfl,iteNS rfl ?_⟩⟩⟩
      have s8 := Same.upd' (o := .lst [V.str "fine", .str "bad"]) hb
      have eq8 := s8 _ _ eq
      refine ⟨_,rfl,_,rfl,iteF ?_⟩
      have hv : v = .non ∨ ∃ n : Int,v = .int n := by
        have z := (hy H5 (Same.refl _)).1
        generalize hr : some v = r at z
        cases z with
        | oth h hg => left; exact Option.some.inj hr
        | long e l l2 => left; exact Option.some.inj hr
        | lst e l h =>
          right
          rename_i a1 ps1 os1 hh1
          cases hb : badV os1 0 [] [] with
          | none => rw [hb] at hr; cases hr
          | some i => rw [hb] at hr; exact ⟨_,Option.some.inj hr⟩
      rcases hv with rfl | ⟨n,rfl⟩
      · refine ⟨_,rfl,rfl,_,rfl,iteT ⟨_,rfl,q,_,_,_,rfl,rfl,SqT.of eq8,i1,rfl,k _⟩⟩
      · refine ⟨_,rfl,rfl,_,rfl,iteF ⟨_,rfl,q,_,_,_,rfl,rfl,SqT.of eq8,i1,.inl ⟨n,rfl,_,rfl,iteT ⟨_,rfl,q,_,_,_,rfl,rfl,SqT.of eq8,i1,_,rfl,rfl,?_⟩⟩⟩⟩
        have ed : decide (V.int n = (some (V.int n)).getD V.non) = true := decide_eq_true rfl
        rw [ed]
        exact k _
theorem all_mk {l : W.OpenLaw} {w : World} {K : W.Frag} {mg : Str → Option Value} {fa : Addr} {ad : Ad} (hfa : mg "law" = some (.ref fa)) (T : Tx w K mg ad)
    : ∃ fd : FuncData,(∀ (s : Shared) (v : Value),BindsTo s fd ⟨[v],[]⟩ [("_law_script", v)]) ∧ ∀ base : Heap,K.In base → base.Ns mainGlobals mg → FnOk l.prog w K mg base CX0 depth fa fd ["_law_script"] (sp_law K) := by
  have e := hfa.symm.trans T.m_law
  cases e
  obtain ⟨_,_,_,_,_,_,_,_,_,e,_,_⟩ := T.F_law.ex
  exact ⟨ad.d_law,fun s v => by rw [e]; exact .of_eq rfl,fun base _ _ => ok_law T⟩
end K05
def PySem.W.Fast.tw10818610416522917647:Unit:=()
def PySem.W.Fast.tw9772707661537828270:Unit:=()
def PySem.W.Fast.tw11498008906064732466:Unit:=()
def PySem.W.Fast.tw8967802466603402704:Unit:=()
def PySem.W.Fast.tw18005091198904393163:Unit:=()
def PySem.W.Fast.tw9691334324534423190:Unit:=()
def PySem.W.Fast.tw14071112275692744796:Unit:=()
def PySem.W.Fast.tw7491769105261255447:Unit:=()
def PySem.W.Fast.tw8982309503601013775:Unit:=()
def PySem.W.Fast.tw13671934698824459103:Unit:=()
def PySem.W.Fast.tw1859489647210794793:Unit:=()
def PySem.W.Fast.tw15212072864210155340:Unit:=()
def PySem.W.Fast.tw10835806354280863797:Unit:=()
def PySem.W.Fast.tw10124599673686387104:Unit:=()
def PySem.W.Fast.tw10148926994974893706:Unit:=()
def PySem.W.Fast.tw796079131665839998:Unit:=()
def PySem.W.Fast.tw7735432317557474889:Unit:=()
def PySem.W.Fast.tw2358413282798056070:Unit:=()
def PySem.W.Fast.tw6941206584634727087:Unit:=()
def PySem.W.Fast.tw17043929684115555153:Unit:=()
def PySem.W.Fast.tw6291343301819373913:Unit:=()
def PySem.W.Fast.tw2087072123310471780:Unit:=()
def PySem.W.Fast.tw17114625091000671522:Unit:=()
def PySem.W.Fast.tw11280973010359174567:Unit:=()
def PySem.W.Fast.tw12099871742239714621:Unit:=()
def PySem.W.Fast.tw13860090416878034628:Unit:=()
def PySem.W.Fast.tw17757635629650061690:Unit:=()
def PySem.W.Fast.tw1937195773509332372:Unit:=()
def PySem.W.Fast.tw5678812231880228821:Unit:=()
def PySem.W.Fast.tw2340996306232651695:Unit:=()
def PySem.W.Fast.tw3116908639767965908:Unit:=()
def PySem.W.Fast.tw13969247973232777232:Unit:=()
def PySem.W.Fast.tw16022328234968267215:Unit:=()
def PySem.W.Fast.tw17291327048651383865:Unit:=()
def PySem.W.Fast.tw553156520989155428:Unit:=()
def PySem.W.Fast.tw16451887560036162341:Unit:=()
def PySem.W.Fast.tw97641228904122800:Unit:=()
def PySem.W.Fast.tw12850314194400084234:Unit:=()
def PySem.W.Fast.tw5318891228954154288:Unit:=()
def PySem.W.Fast.tw3267244863793938130:Unit:=()
def PySem.W.Fast.tw13064516078870911259:Unit:=()
def PySem.W.Fast.tw15810735773624379568:Unit:=()
def PySem.W.Fast.tw11506768104384316965:Unit:=()
def PySem.W.Fast.tw5047286800372528202:Unit:=()
def PySem.W.Fast.tw9761547613617436365:Unit:=()
def PySem.W.Fast.tw125480656479213722:Unit:=()
def PySem.W.Fast.tw14706047224917088061:Unit:=()
def PySem.W.Fast.tw5723800486089658999:Unit:=()
def PySem.W.Fast.tw11144096241419880220:Unit:=()
def PySem.W.Fast.tw910673596668525422:Unit:=()
def PySem.W.Fast.tw5320133021742412580:Unit:=()
def PySem.W.Fast.tw6584992324386476783:Unit:=()
def PySem.W.Fast.tw14084391853129488141:Unit:=()
def PySem.W.Fast.tw11272796285167506418:Unit:=()
def PySem.W.Fast.tw14628110741431655027:Unit:=()
def PySem.W.Fast.tw13787303993939598134:Unit:=()
def PySem.W.Fast.tw9894150616826860099:Unit:=()
def PySem.W.Fast.tw650926004934505830:Unit:=()
def PySem.W.Fast.tw13600389980974969068:Unit:=()
def PySem.W.Fast.tw1930434289206493542:Unit:=()
def PySem.W.Fast.tw17424921138010797365:Unit:=()
def PySem.W.Fast.tw6550953067452205847:Unit:=()
def PySem.W.Fast.tw16796857555292368241:Unit:=()
def PySem.W.Fast.tw1990814714971814626:Unit:=()
def PySem.W.Fast.tw4879588511543505213:Unit:=()
def PySem.W.Fast.tw9420990661174506196:Unit:=()
def PySem.W.Fast.tw17066479076888931780:Unit:=()
def PySem.W.Fast.tw14288737187269033004:Unit:=()
def PySem.W.Fast.tw1083749703883927720:Unit:=()
def PySem.W.Fast.tw15001193970870286131:Unit:=()
def PySem.W.Fast.tw17348239781663097670:Unit:=()
def PySem.W.Fast.tw10283999283582988361:Unit:=()
def PySem.W.Fast.tw14669356258878467101:Unit:=()
def PySem.W.Fast.tw1725374744070402661:Unit:=()
def PySem.W.Fast.tw14993813133887036612:Unit:=()
def PySem.W.Fast.tw14499657962696659539:Unit:=()
def PySem.W.Fast.tw3441870318591277610:Unit:=()
def PySem.W.Fast.tw14988261889412568650:Unit:=()
def PySem.W.Fast.tw12218395734829676085:Unit:=()
def PySem.W.Fast.tw2847218367721447759:Unit:=()
def PySem.W.Fast.tw895891450612597372:Unit:=()
def PySem.W.Fast.tw12770486372349658523:Unit:=()
def PySem.W.Fast.tw9235319743963974773:Unit:=()
def PySem.W.Fast.tw5884477812142005263:Unit:=()
def PySem.W.Fast.tw12229456729497449616:Unit:=()
def PySem.W.Fast.tw9700919486519502990:Unit:=()
def PySem.W.Fast.tw13563279717531667605:Unit:=()
def PySem.W.Fast.tw8521359553727088677:Unit:=()
def PySem.W.Fast.tw13083967456509076987:Unit:=()
def PySem.W.Fast.tw13384692001012302481:Unit:=()
def PySem.W.Fast.tw12380233250361698353:Unit:=()
def PySem.W.Fast.tw10948660621393028534:Unit:=()
def PySem.W.Fast.tw1350783391714096732:Unit:=()
def PySem.W.Fast.tw17773583057662155754:Unit:=()
def PySem.W.Fast.tw11080950817217410378:Unit:=()
open PySem PySem.W PyProof.Rows
set_option maxRecDepth 100000 in
set_option maxHeartbeats 0 in
theorem PySem.Challenge.cw_brooktally_k05_plans_looked_at_holds : PySem.Challenge.rw_brooktally_k05_plans_looked_at.Holds := by
  w_on; o_law; k_head; (case hw => w_witness2)
  k_fill
  refine L2.walk_ofK (l := PySem.Challenge.rw_brooktally_k05_plans_looked_at) (n := 63) (k := K05.depth) (x := "_law_script") (CX := L2.CX0) (sp := K05.sp_law) rfl (by decide) rfl ⟨rfl,by decide,by decide⟩ (fun w h Y => PySem.W.kIn_of Y) ?F K05.law_sp (fun _ _ _ _ z => z)
  case F =>
    intro w mg fa h KX G hmg
    refine' K05.all_mk hmg (K05.tx_mk KX G ?a_BadStep ?a_BadStep___init__ ?F_BadStep___init__ ?a_is_whole ?F_is_whole ?a_is_among ?F_is_among ?a_is_amount ?F_is_amount ?a_is_made_of ?F_is_made_of ?a_is_name ?F_is_name ?a_has_form ?F_has_form ?a_names_end ?F_names_end ?a_is_tally ?F_is_tally ?a_is_ticks ?F_is_ticks ?a_are_bounds ?F_are_bounds ?a_are_windows ?F_are_windows ?a_are_good ?F_are_good ?a_is_step ?F_is_step ?a_name_of ?F_name_of ?a_feeders ?F_feeders ?a_is_teller ?F_is_teller ?a_is_fed ?F_is_fed ?a_width_of ?F_width_of ?a_fits ?F_fits ?a_checked ?F_checked ?a_uat ?F_uat ?a_uwhole ?F_uwhole ?a_uis_name ?F_uis_name ?a_uis_among ?F_uis_among ?a_ucalled ?F_ucalled ?a_uis_step ?F_uis_step ?a_unumber ?F_unumber ?a_ustep ?F_ustep ?a_uwide ?F_uwide ?a_ustep_name ?F_ustep_name ?a_uplan ?F_uplan ?a_ubad ?F_ubad ?a_uspoilt ?F_uspoilt ?a_usaid ?F_usaid ?a_law ?F_law ?a_FlowError ?x_FlowError ?a_BadEvent ?x_BadEvent ?a_BadSlack ?x_BadSlack ?a_Broken ?x_Broken ?a_BadLine ?a_BadKeep ?ga_BadStep ?gt_BadStep ?ck_BadStep ?sb_BadStep ?so_BadStep ?cl_BadStep ?lk_BadStep ?xfn_BadStep ?xhd_BadStep ?xna_BadStep ?xsa_BadStep ?i_BadStep_ValueError ?i_BadStep_FlowError ?e_BadStep_FlowError ?i_BadStep_BadEvent ?i_BadStep_BadSlack ?i_BadStep_Broken ?i_BadStep_BadStep ?e_BadStep_BadStep ?i_BadStep_BadLine ?i_BadStep_BadKeep ?g_LETTERS ?g_MOST_LETTERS ?g_MOST_AMOUNT ?g_LENGTHS ?l_LENGTHS ?y_LENGTHS ?g_PAIRED ?l_PAIRED ?g_TELLERS ?l_TELLERS ?g_TALLIES ?l_TALLIES ?g_MOST_TIMES ?g_MOST_TICKS ?g_MOST_WINDOWS ?g_MOST_STEPS ?g_MOST_WIDE ?z_ValueError ?z_all ?z_bool ?z_enumerate ?z_int ?z_isinstance ?z_len ?z_list ?z_max ?z_min ?z_range ?z_str ?z_sum ?z_tuple)
    (case a_BadStep | a_BadStep___init__ | a_is_whole | a_is_among | a_is_amount | a_is_made_of | a_is_name | a_has_form | a_names_end | a_is_tally | a_is_ticks | a_are_bounds | a_are_windows | a_are_good | a_is_step | a_name_of | a_feeders | a_is_teller | a_is_fed | a_width_of | a_fits | a_checked | a_uat | a_uwhole | a_uis_name | a_uis_among | a_ucalled | a_uis_step | a_unumber | a_ustep | a_uwide | a_ustep_name | a_uplan | a_ubad | a_uspoilt | a_usaid | a_law | a_FlowError | a_BadEvent | a_BadSlack | a_Broken | a_BadLine | a_BadKeep | ga_BadStep | gt_BadStep | ck_BadStep | sb_BadStep | so_BadStep | cl_BadStep | lk_BadStep | xfn_BadStep | xhd_BadStep | xna_BadStep | xsa_BadStep | g_LETTERS | g_MOST_LETTERS | g_MOST_AMOUNT | g_LENGTHS | l_LENGTHS | g_PAIRED | l_PAIRED | g_TELLERS | l_TELLERS | g_TALLIES | l_TALLIES | g_MOST_TIMES | g_MOST_TICKS | g_MOST_WINDOWS | g_MOST_STEPS | g_MOST_WIDE | z_ValueError | z_all | z_bool | z_enumerate | z_int | z_isinstance | z_len | z_list | z_max | z_min | z_range | z_str | z_sum | z_tuple => k_is)
    (case x_FlowError | x_BadEvent | x_BadSlack | x_Broken => k_exc)
    (case i_BadStep_ValueError | i_BadStep_FlowError | i_BadStep_BadEvent | i_BadStep_BadSlack | i_BadStep_Broken | i_BadStep_BadStep | i_BadStep_BadLine | i_BadStep_BadKeep => kit_is)
    (case e_BadStep_FlowError | e_BadStep_BadStep => kts_exm)
    (case y_LENGTHS => decide)
    (case F_BadStep___init__ | F_is_whole | F_is_among | F_is_amount | F_is_made_of | F_is_name | F_has_form | F_names_end | F_is_tally | F_is_ticks | F_are_bounds | F_are_windows | F_are_good | F_is_step | F_name_of | F_feeders | F_is_teller | F_is_fed | F_width_of | F_fits | F_checked | F_uat | F_uwhole | F_uis_name | F_uis_among | F_ucalled | F_uis_step | F_unumber | F_ustep | F_uwide | F_ustep_name | F_uplan | F_ubad | F_uspoilt | F_usaid | F_law => refine' L2.fun_mk ?l ?c ?k; (case l => k_is); (case c => k_is); (case k => k_is))
