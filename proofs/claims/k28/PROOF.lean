import PyProof.Rows.All
import Wide.All
import OpenK.AllK
import Wide.FinOn
import Lean
import PyProof.EqAt
import PyProof.EqKinds
import PyProof.TupleCall
import PySem.Challenge.RW_brooktally_k28_streams_by_sets
set_option Elab.async false
set_option linter.all false
set_option maxRecDepth 100000
set_option maxHeartbeats 4000000
namespace L2
open PySem PySem.Spec PyProof.Rows
abbrev Key:=Sum Int Str
def DZ:Key→Value→Bool
 | .inl k,v=>Value.isInt k v
 | .inr x,v=>Value.isStrOf x v
def SM (w:World):Key→Int
 | .inl k=>hashInt k
 | .inr x=>hashStr w x
theorem Ax:∀{k:Key}{v:Value},DZ k v=true→(∃i t,k=Sum.inl i/\v=Value.int i t)\/(∃x t,k=Sum.inr x/\v=Value.str x t)
 | .inl i,v,h=>by
  obtain ⟨t,e⟩:=Value.isInt_shape (k:=i) (v:=v) h
  exact .inl ⟨i,t,rfl,e⟩
 | .inr x,v,h=>by
  obtain ⟨t,e⟩:=Value.isStrOf_shape (x:=x) (v:=v) h
  exact .inr ⟨x,t,rfl,e⟩
theorem GG (i:Int) (t:Tok):DZ (.inl i) (.int i t)=true:=by simp [DZ,Value.isInt]
theorem GF (x:Str) (t:Tok):DZ (.inr x) (.str x t)=true:=by simp [DZ,Value.isStrOf]
theorem Qw (a b:Int):decide ((Sum.inl a:Key)=Sum.inl b)=(a==b):=by
 by_cases e:a=b
 ·subst e;simp
 ·have h:¬ (Sum.inl a:Key)=Sum.inl b:=fun q=>e (Sum.inl.inj q)
  rw [decide_eq_false h]
  exact (beq_eq_false_iff_ne.mpr e).symm
theorem Qt (a b:Str):decide ((Sum.inr a:Key)=Sum.inr b)=decide (a=b):=by
 by_cases e:a=b
 ·subst e;simp
 ·have h:¬ (Sum.inr a:Key)=Sum.inr b:=fun q=>e (Sum.inr.inj q)
  rw [decide_eq_false h,decide_eq_false e]
theorem Qv (a:Int) (b:Str):decide ((Sum.inl a:Key)=Sum.inr b)=false:=decide_eq_false (fun q=>nomatch q)
theorem Qu (a:Str) (b:Int):decide ((Sum.inr a:Key)=Sum.inl b)=false:=decide_eq_false (fun q=>nomatch q)
def Af (prog:Program) (w:World):PySem.KeyKind prog w Key where
 is:=DZ
 hash:=SM w
 inj:=fun v a b ha hb=>by
  rcases Ax ha with ⟨i,t,rfl,rfl⟩|⟨x,t,rfl,rfl⟩
  ·rcases Ax hb with ⟨j,u,rfl,e⟩|⟨y,u,rfl,e⟩
   ·injection e with e1 _;rw [e1]
   ·exact nomatch e
  ·rcases Ax hb with ⟨j,u,rfl,e⟩|⟨y,u,rfl,e⟩
   ·exact nomatch e
   ·injection e with e1 _;rw [e1]
 byValue:=fun k v h=>by
  rcases Ax h with ⟨i,t,rfl,rfl⟩|⟨x,t,rfl,rfl⟩ <;> rfl
 pyHash:=fun hv h=>by
  rcases Ax hv with ⟨i,t,rfl,rfl⟩|⟨x,t,rfl,rfl⟩
  ·exact wpAny_pyHash_int h
  ·exact wpAny_pyHash_str h
 eqBool:=fun hu hv h=>by
  rcases Ax hu with ⟨i,t,rfl,rfl⟩|⟨x,t,rfl,rfl⟩
  ·rcases Ax hv with ⟨j,u,rfl,rfl⟩|⟨y,u,rfl,rfl⟩
   ·rw [Qw] at h;exact wpAny_eqBool_int h
   ·rw [Qv] at h;exact SeqAt.EqAt.int_str i t y u _ _ _ _ h
  ·rcases Ax hv with ⟨j,u,rfl,rfl⟩|⟨y,u,rfl,rfl⟩
   ·rw [Qu] at h;exact SeqAt.EqAt.str_int x t j u _ _ _ _ h
   ·rw [Qt] at h;exact wpAny_eqBool_str h
 «strs»:=fun k x t v h=>by
  rcases Ax h with ⟨i,u,rfl,e⟩|⟨y,u,rfl,e⟩
  ·exact nomatch e
  ·injection e with e1 _
   subst e1
   cases v <;> rfl
theorem KP (prog:Program) (w:World) (i:Int) (t:Tok):(Af prog w).is (.inl i) (.int i t)=true:=GG i t
theorem KO (prog:Program) (w:World) (x:Str) (t:Tok):(Af prog w).is (.inr x) (.str x t)=true:=GF x t
end L2
namespace L2
open PySem PySem.Spec PyProof.Rows
inductive V where
 | non|bl (b:Bool)|int (i:Int)|str (x:Str)|byt (b:Array UInt8)|flt (b:UInt64)|ref (a:Addr)|ty (n:String)
 deriving DecidableEq
def RelV:V→Value→Prop
 | .non,u=>u=Value.none
 | .bl b,u=>u=Value.bool b
 | .int i,u=>∃t,u=Value.int i t
 | .str x,u=>∃t,u=Value.str x t
 | .byt b,u=>∃t,u=Value.bytes b t
 | .flt b,u=>∃t,u=Value.float b t
 | .ref a,u=>u=Value.ref a
 | .ty n,u=>u=Value.type n
abbrev Vals:List V→List Value→Prop:=Paired RelV
theorem Vals.length {xs:List V}{us:List Value}(r:Vals xs us):xs.length=us.length:=Paired.length r
theorem Vals.get:∀{xs:List V}{us:List Value}{i:Nat}{x:V},Vals xs us→xs[i]?=some x→∃u,us[i]?=some u/\RelV x u
 | _,_,_,_,.nil,e=>by simp at e
 | _,_,0,_,.cons r _,e=>by simp at e;subst e;exact ⟨_,rfl,r⟩
 | _,_,i+1,x,.cons _ t,e=>by
  obtain ⟨u,h1,h2⟩:=Vals.get (i:=i) (x:=x) t (by simpa using e)
  exact ⟨u,by simpa using h1,h2⟩
theorem Vals.append:∀{xs ys:List V}{us ws:List Value},Vals xs us→Vals ys ws→Vals (xs++ys) (us++ws)
 | _,_,_,_,.nil,s=>s
 | _,_,_,_,.cons r t,s=>.cons r (Vals.append t s)
theorem Vals.take:∀{xs:List V}{us:List Value}(n:Nat),Vals xs us→Vals (xs.take n) (us.take n)
 | _,_,0,_=>.nil
 | _,_,_+1,.nil=>.nil
 | _,_,n+1,.cons r t=>.cons r (Vals.take n t)
theorem Vals.drop:∀{xs:List V}{us:List Value}(n:Nat),Vals xs us→Vals (xs.drop n) (us.drop n)
 | _,_,0,r=>r
 | _,_,_+1,.nil=>.nil
 | _,_,n+1,.cons _ t=>Vals.drop n t
def EX:Option V→Option Value→Prop
 | some v,some u=>RelV v u
 | none,none=>True
 | _,_=>False
def KV {κ:Type}:List (κ×V)→List (κ×Value)→Prop:=Paired fun (p:κ×V) (q:κ×Value)=>p.1=q.1/\RelV p.2 q.2
def kV:Key→V
 | .inl i=>.int i
 | .inr x=>.str x
inductive HO where
 | lst (xs:List V)
 | tup (xs:List V)
 | dK (kvs:List (Key×V))|dT (kvs:List (List Key×V))
 | set (S:Int→Bool) (n:Nat)
 | ins (C dx:Addr) (fs:List (Str×V))
 | own (x:Addr)
 | xd (fs:List (Str×V))
 | met (f x:Addr)
 | rng (lo hi:Int)
 | frz (o:Obj) (u:HO)
 | tbl (ps:Array Value)
 | ext (φ:Heap→Prop)
abbrev Hp:=Addr→Option HO
def upd (H:Hp) (a:Addr) (o:HO):Hp:=fun b=>if b=a then some o else H b
theorem AD {H:Hp}{a:Addr}{o:HO}:upd H a o a=some o:=by unfold upd;rw [if_pos rfl]
theorem AV {H:Hp}{a b:Addr}{o:HO}(h:b≠a):upd H a o b=H b:=by unfold upd;rw [if_neg h]
theorem Ra {H:Hp}{a b:Addr}{o u:HO}(h:H a=some o) (h':H b=some u) (d:o≠u):a≠b:=by
 intro e;subst e;rw [h] at h';exact d (Option.some.inj h')
theorem AS {H:Hp}{a b:Addr}{o:HO}(h:H a=some o) (h':H b=none):a≠b:=by
 intro e;subst e;rw [h] at h';cases h'
section
variable (P:Program) (w:World)
def BC (H:Hp) (h:Heap) (a:Addr):HO→Prop
 | .lst xs=>xs.length≤sizeLine/\∃(its:List Value) (n:Nat),Vals xs its/\h.get? a=some { cls:=.type "list", data:=.seq its.toArray n }
 | .tup xs=>xs.length≤sizeLine/\∃its:List Value,Vals xs its/\IsTup h a its.toArray
 | .dK kvs=>kvs.length≤sizeLine/\(a==sysModules)=false/\∃vs,KV kvs vs/\h.DictOf (Af P w) a vs
 | .dT kvs=>kvs.length≤sizeLine/\(a==sysModules)=false/\∃xs:List (List Key×Addr×Value),
   Paired (fun (p:List Key×V) (q:List Key×Addr×Value)=>p.1=q.1/\H q.2.1=some (.tup (p.1.map kV))/\RelV p.2 q.2.2) kvs xs /\
   ∃o es ep,h.get? a=some o/\o.ExactDict/\o.data=.dict es ep/\es.toList=xs.map (entryOfKey (tupleKind (Af P w)))/\(xs.map (·.1)).Nodup
 | .set S n=>h.SetOf (intKind P w) a S n
 | .ins C dx fs=>H dx=some (.own a)/\fs.length≤1000/\dx≠a/\h.get? a=some (PySem.W.instObj C dx) /\
   ∃mA,h.Ns1 dx mA/\(∀f,EX (fs.lookup f) (mA f))/\PySem.Within mA (fs.map (·.1))
 | .own _=>∃o,h.get? a=some o
 | .xd fs=>∃mA,h.Ns1 a mA/\∀f,EX (fs.lookup f) (mA f)
 | .rng lo hi=>∃t u v,h.get? a=some { cls:=.type "range", data:=.fields #[.int lo t,.int hi u,.int 1 v] }
 | .frz o u=>h.get? a=some o/\BC H h a u
 | .tbl ps=>h.get? a=some { cls:=.none,data:=.fields ps }
 | .met f x=>h.get? a=some (PySem.W.methodObj (.ref f) (.ref x))
 | .ext φ=>φ h/\(∃o,h.get? a=some o)/\∀h1 h2:Heap,φ h1→(∀o,h1.get? a=some o→h2.get? a=some o)→φ h2
def HOk (H:Hp) (h:Heap):Prop:=∀a o,H a=some o→BC P w H h a o
end
section
variable {P:Program}{w:World}{H H':Hp}{h h':Heap}{a:Addr}{o:HO}
theorem BC.lt (x:BC P w H h a o):a<h.objs.size:=by
 cases o with
 | lst xs=>obtain ⟨_,_,_,_,e⟩:=x;exact Heap.lt_size e
 | tup xs=>obtain ⟨_,_,_,p⟩:=x;exact p.lt
 | dK kvs=>obtain ⟨_,_,_,_,o,_,_,e,_⟩:=x;exact Heap.lt_size e
 | dT kvs=>obtain ⟨_,_,_,_,o,_,_,e,_⟩:=x;exact Heap.lt_size e
 | set S n=>obtain ⟨o,_,_,_,e,_⟩:=x;exact Heap.lt_size e
 | ins C dx fs=>obtain ⟨_,_,_,e,_⟩:=x;exact Heap.lt_size e
 | own y=>obtain ⟨_,e⟩:=x;exact Heap.lt_size e
 | xd fs=>obtain ⟨_,⟨_,_,_,e,_⟩,_⟩:=x;exact Heap.lt_size e
 | rng lo hi=>obtain ⟨_,_,_,e⟩:=x;exact Heap.lt_size e
 | frz ob u=>obtain ⟨e,_⟩:=x;exact Heap.lt_size e
 | tbl ps=>exact Heap.lt_size (show h.get? a=some _ from x)
 | met f y=>exact Heap.lt_size (show h.get? a=some _ from x)
 | ext φ=>obtain ⟨_,⟨_,e⟩,_⟩:=x;exact Heap.lt_size e
theorem Paired.Qp {α β:Type}{F G:α→β→Prop}:∀{l₁:List α}{l₂:List β},Paired F l₁ l₂→(∀a b,F a b→G a b)→Paired G l₁ l₂
 | _,_,.nil,_=>.nil
 | _,_,.cons r t,f=>.cons (f _ _ r) (Paired.Qp t f)
theorem BC.Gr (x:BC P w H h a o) (k:∀b u,(b=a\/H b=some (.own a))→h.get? b=some u→h'.get? b=some u)
  (ho:∀b,H b=some (.own a)→H' b=some (.own a)) (ht:∀b xs,H b=some (.tup xs)→H' b=some (.tup xs)):BC P w H' h' a o:=by
 induction o with
 | lst xs=>obtain ⟨z,its,n,r,e⟩:=x;exact ⟨z,its,n,r,k _ _ (.inl rfl) e⟩
 | tup xs=>obtain ⟨z,its,r,ob,e,c⟩:=x;exact ⟨z,its,r,ob,k _ _ (.inl rfl) e,c⟩
 | dK kvs=>obtain ⟨z,y,vs,r,ob,es,ep,e,c⟩:=x;exact ⟨z,y,vs,r,ob,es,ep,k _ _ (.inl rfl) e,c⟩
 | dT kvs =>
  obtain ⟨z,y,xs,r,ob,es,ep,e,c⟩:=x
  exact ⟨z,y,xs,Paired.Qp r fun p q z=>⟨z.1,ht _ _ z.2.1,z.2.2⟩,ob,es,ep,k _ _ (.inl rfl) e,c⟩
 | set S n=>obtain ⟨ob,es,ep,t,e,c⟩:=x;exact ⟨ob,es,ep,t,k _ _ (.inl rfl) e,c⟩
 | ins C dx fs =>
  obtain ⟨d,z,ne,e,mA,⟨od,es,ep,e2,c⟩,r⟩:=x
  exact ⟨ho _ d,z,ne,k _ _ (.inl rfl) e,mA,⟨od,es,ep,k _ _ (.inr d) e2,c⟩,r⟩
 | own y=>obtain ⟨ob,e⟩:=x;exact ⟨ob,k _ _ (.inl rfl) e⟩
 | xd fs=>obtain ⟨mA,⟨od,es,ep,e,c⟩,r⟩:=x;exact ⟨mA,⟨od,es,ep,k _ _ (.inl rfl) e,c⟩,r⟩
 | rng lo hi=>obtain ⟨t,u,v,e⟩:=x;exact ⟨t,u,v,k _ _ (.inl rfl) e⟩
 | frz ob u ih=>obtain ⟨e,q⟩:=x;exact ⟨k _ _ (.inl rfl) e,ih q⟩
 | tbl ps =>
  have e:h.get? a=some { cls:=.none,data:=.fields ps }:=x
  show h'.get? a=some { cls:=.none,data:=.fields ps }
  exact k a _ (.inl rfl) e
 | met f y =>
  have e:h.get? a=some (PySem.W.methodObj (.ref f) (.ref y)):=x
  show h'.get? a=some (PySem.W.methodObj (.ref f) (.ref y))
  exact k a _ (.inl rfl) e
 | ext φ=>obtain ⟨p,⟨o,e⟩,st⟩:=x;exact ⟨st _ _ p fun o q=>k _ _ (.inl rfl) q,⟨o,k _ _ (.inl rfl) e⟩,st⟩
theorem HOk.lt (x:HOk P w H h) (e:H a=some o):a<h.objs.size:=(x a o e).lt
theorem HOk.fresh (x:HOk P w H h) (e:h.objs.size≤a):H a=none:=by
 cases q:H a with
 | none=>rfl
 | some u=>exact absurd (Nat.lt_of_lt_of_le (x.lt q) e) (Nat.lt_irrefl _)
theorem HOk.kept (x:HOk P w H h) (k:∀b u,h.get? b=some u→h'.get? b=some u):HOk P w H h':=fun a o e =>
 (x a o e).Gr (fun b u _ q=>k b u q) (fun _ q=>q) fun _ _ q=>q
theorem HOk.laid (x:HOk P w H h) (k:∀b u,h.get? b=some u→h'.get? b=some u) (hp:h.objs.size≤a) (new:BC P w (upd H a o) h' a o):HOk P w (upd H a o) h':=fun b u e=>by
 have hn:=x.fresh hp
 by_cases hb:b=a
 ·subst hb;rw [AD] at e;cases e;exact new
 ·rw [AV hb] at e
  exact (x b u e).Gr (fun c v _ q=>k c v q) (fun c q=>by rw [AV (AS q hn)];exact q) fun c xs q=>by rw [AV (AS q hn)];exact q
end
def Rd (H:Hp) (a:Addr) (u:HO):Prop:=H a=some u\/∃o,H a=some (.frz o u)
theorem Rd.ok {P:Program}{w:World}{H:Hp}{h:Heap}{a:Addr}{u:HO}(r:Rd H a u) (x:HOk P w H h):BC P w H h a u:=by
 rcases r with r|⟨o,r⟩
 ·exact x a u r
 ·obtain ⟨_,q⟩:=x a _ r
  exact q
def Mut:Option HO→Prop
 | some (.lst _)=>True
 | some (.dK _)=>True
 | some (.dT _)=>True
 | some (.set _ _)=>True
 | some (.ins _ _ _)=>True
 | some (.ext _)=>True
 | _=>False
section
variable {P:Program}{w:World}{H:Hp}{h h':Heap}{x e:Addr}{o':HO}
theorem HOk.write (ok:HOk P w H h) (mu:Mut (H x)) (he:e=x\/H e=some (.own x)) (k:∀b u,b≠e→h.get? b=some u→h'.get? b=some u) (heo:∃u,h'.get? e=some u)
  (new:BC P w (upd H x o') h' x o'):HOk P w (upd H x o') h':=fun b u q=>by
 have nown:∀c y,H c=some (.own y)→c≠x:=fun c y r z=>by subst z;rw [r] at mu;exact mu
 have ntup:∀c xs,H c=some (.tup xs)→c≠x:=fun c xs r z=>by subst z;rw [r] at mu;exact mu
 by_cases hb:b=x
 ·subst hb;rw [AD] at q;cases q;exact new
 ·rw [AV hb] at q
  by_cases hbe:b=e
  ·have q':H b=some (.own x):=by
    rcases he with z|z
    ·exact absurd (hbe.trans z) hb
    ·rw [hbe];exact z
   rw [q] at q';cases q'
   obtain ⟨v,hv⟩:=heo
   exact ⟨v,by rw [hbe];exact hv⟩
  ·refine (ok b u q).Gr (fun c v hc r=>k c v ?_ r) (fun c r=>by rw [AV (nown c b r)];exact r) fun c xs r=>by rw [AV (ntup c xs r)];exact r
   rcases hc with rfl|hc
   ·exact hbe
   ·rintro rfl
    rcases he with z|z
    ·exact nown c b hc z
    ·rw [hc] at z;cases z;exact hb rfl
end
structure Un (fs ex:List Addr) (H H':Hp) (h h':Heap):Prop where
 keep:∀b o,h.get? b=some o→H b=none→b∉fs→b∉ex→h'.get? b=some o
 slot:∀b o,h.get? b=some o→H b=none→b∈fs→b∉ex→∃sl,h'.get? b=some { o with slots:=sl }
 free:∀b o,h.get? b=some o→H b=none→b∉ex→H' b=none
 there:∀b o,h.get? b=some o→b∉ex→∃o',h'.get? b=some o'
 Hm:∀b xs,H b=some (.tup xs)→H' b=some (.tup xs)
 HP:∀b o u,H b=some (.frz o u)→H' b=some (.frz o u)
 Hn:∀b ps,H b=some (.tbl ps)→∃more,H' b=some (.tbl (ps++more))
section
variable {fs fs' ex ex':List Addr}{H H1 H2:Hp}{h h1 h2 h':Heap}{a x e:Addr}{o:HO}
theorem Un.any (u:Un fs ex H H1 h h1) {b:Addr} {ob:Obj} (q:h.get? b=some ob) (n:H b=none) (hx:b∉ex):∃sl,h1.get? b=some { ob with slots:=sl }:=by
 by_cases hb:b∈fs
 ·exact u.slot b ob q n hb hx
 ·exact ⟨ob.slots,u.keep b ob q n hb hx⟩
theorem Un.kept (k:∀b u,h.get? b=some u→h'.get? b=some u):Un fs ex H H h h' :=
 ⟨fun b ob q _ _ _=>k b ob q,fun b ob q _ _ _=>⟨ob.slots,k b ob q⟩,fun _ _ _ n _=>n,fun b ob q _=>⟨ob,k b ob q⟩,fun _ _ q=>q,fun _ _ _ q=>q,fun _ ps q=>⟨#[],by rw [q];simp⟩⟩
theorem Un.refl:Un fs ex H H h h:=Un.kept fun _ _ q=>q
theorem Un.laid (k:∀b u,h.get? b=some u→h'.get? b=some u) (hp:h.objs.size≤a) (hn:H a=none):Un fs ex H (upd H a o) h h' where
 keep:=fun b u q _ _ _=>k b u q
 slot:=fun b u q _ _ _=>⟨u.slots,k b u q⟩
 free:=fun b u q n _=>by rw [AV (Nat.ne_of_lt (Nat.lt_of_lt_of_le (Heap.lt_size q) hp))];exact n
 there:=fun b u q _=>⟨u,k b u q⟩
 Hm:=fun b xs q=>by rw [AV (AS q hn)];exact q
 HP:=fun b u xs q=>by rw [AV (AS q hn)];exact q
 Hn:=fun b ps q=>⟨#[],by rw [AV (AS q hn),q];simp⟩
theorem Un.write (mu:Mut (H x)) (he:e=x\/H e=some (.own x)) (k:∀b u,b≠e→h.get? b=some u→h'.get? b=some u) (heo:∃u,h'.get? e=some u):Un fs ex H (upd H x o) h h':=by
 have hx:∀b,H b=none→b≠x:=fun b n z=>by subst z;rw [n] at mu;exact mu
 have hb:∀b,H b=none→b≠e:=fun b n z=>by
  subst z
  rcases he with r|r
  ·exact hx b n r
  ·rw [n] at r;cases r
 have hm:∀b u,H b=some u→¬ Mut (some u)→b≠x:=fun b u q nm z=>by subst z;rw [q] at mu;exact nm mu
 refine ⟨fun b u q n _ _=>k b u (hb b n) q,fun b u q n _ _=>⟨u.slots,k b u (hb b n) q⟩,fun b u q n _=>by rw [AV (hx b n)];exact n,fun b u q _=>?_,
  fun b xs q=>by rw [AV (hm b _ q fun z=>z)];exact q,fun b u xs q=>by rw [AV (hm b _ q fun z=>z)];exact q,fun b ps q=>⟨#[],by rw [AV (hm b _ q fun z=>z),q];simp⟩⟩
 by_cases hbe:b=e
 ·subst hbe;exact heo
 ·exact ⟨u,k b u hbe q⟩
end
def trk (h:Heap) (H:Hp):List Addr:=(List.range h.objs.size).filter fun a=>(H a).isSome
def JV (h:Heap) (H:Hp):Heap:=PySem.W.hideAll h (trk h H)
theorem M6 (h:Heap) (H:Hp):(JV h H).objs.size=h.objs.size:=PySem.W.hideAll_size _ _
theorem Oa {h:Heap}{H:Hp}{b:Addr}{o:Obj}(e:h.get? b=some o) (n:H b=none):(JV h H).get? b=some o :=
 PySem.W.hideAll_get _ e fun hm=>by
  have q:(H b).isSome=true:=(List.mem_filter.mp hm).2
  rw [n] at q;simp at q
theorem Ph {h:Heap}{H:Hp}{b:Addr}{o:Obj}(e:(JV h H).get? b=some o):h.get? b=some o/\H b=none:=by
 have e':h.get? b=some o:=PySem.W.of_hideAll (trk h H) e
 refine ⟨e',?_⟩
 cases q:H b with
 | none=>rfl
 | some x =>
  have hm:b∈trk h H:=List.mem_filter.mpr ⟨List.mem_range.mpr (Heap.lt_size e'),by simp [q]⟩
  have z:(JV h H).get? b=none:=PySem.W.hideAll_none (trk h H) hm
  rw [z] at e;cases e
def Pz (g h:Heap) (L:Addr):List (Addr×Obj):=(List.range h.objs.size).filterMap fun a=>if a=L\/(g.get? a).isSome=true then none else (h.get? a).map fun o=>(a,o)
def rest (g h:Heap) (L d:Addr):List (Addr×Obj):=(Pz g h L).filter fun p=>decide (p.1≠d)
end L2
namespace L2
open PySem PySem.Spec PyProof.Rows
structure Mod (K:PySem.W.Frag) (mg:Str→Option Value) (base:Heap):Prop where
 kin:K.In base
 glob:base.Ns mainGlobals mg
 blt:∃mb,base.Ns builtinsNs mb/\∀x:Str,x ≠ "__name__" → mb x=bootBuiltins x
 nolimit:base.NoLimit
structure Cx where
 prog:Program
 w:World
 K:PySem.W.Frag
 mg:Str→Option Value
 base:Heap
 A:Around
 N:List Str
 s₀:Shared
 H₀:Hp
 env:Env
 outer:List Env
 stack:List Env
 ex:List Addr
 fn:Str→Bool
 calm:Bool
 pn:List (Addr×Obj)
 xe:Value→Shared→Prop
def frs (l:List Env):List Addr:=l.filterMap (·.frame)
abbrev Cx.fs (X:Cx):List Addr:=frs X.outer
def Vis (sc:Scope) (x:Str):Prop:=sc.names.lookup x=some .local\/sc.names.lookup x=some .cell\/sc.names.lookup x=some .free
def Loc (sc:Scope) (x:Str):Prop:=sc.names.lookup x=some .local\/sc.names.lookup x=some .cell
def Look (env:Env) (h:Heap) (m:Str→Option Value) (x:Str) (u:Value):Prop :=
 (env.kindOf x=some .local/\m x=some u)\/((env.kindOf x=some .cell\/env.kindOf x=some .free)/\∃c,env.cells.lookup x=some c/\h.IsCell c (some u))
structure Cx.Ok (X:Cx):Prop where
 mod:Mod X.K X.mg X.base
 kind:X.env.scope.kind=.function
 glob:X.env.globals=mainGlobals
 blt:X.env.builtins=builtinsNs
 above:X.s₀.heap.objs.size≤X.env.locals
 inj:∀x y c,X.env.cells.lookup x=some c→X.env.cells.lookup y=some c→x=y
 has:∀x,(X.env.kindOf x=some .cell\/X.env.kindOf x=some .free)→∃c,X.env.cells.lookup x=some c
 cab:∀x c,X.fn x=true→X.env.cells.lookup x=some c→X.s₀.heap.objs.size≤c
 hd:X.calm=true→X.A.handled=none
 frames:X.A.frames=some X.stack
 stk:X.stack=X.outer\/(X.stack=X.env::X.outer/\X.env.frame=some X.env.locals)
 exf:∀b∈X.ex,b≠X.env.locals/\∀x c,X.env.cells.lookup x=some c→c≠b
 bs:∀b o,X.base.get? b=some o→X.s₀.heap.get? b=some o/\X.H₀ b=none
 bsz:X.base.objs.size≤X.s₀.heap.objs.size
 Mo:∀b o,X.base.get? b=some o→b∉X.ex
 M8:∀b∈X.ex,b∉X.fs
 GI:X.s₀.heap.FunFrames X.base X.outer
 frf:∀b∈X.fs,X.H₀ b=none
structure Inv (X:Cx) (pins:List (Addr×Obj)) (σ:List (Option V)) (H:Hp) (s:Shared):Prop where
 ok:X.Ok
 os:s.os=X.s₀.os
 bare:AllBare s.gens
 base:Un X.fs X.ex X.H₀ H X.s₀.heap s.heap
 loc:∃m,s.heap.Ns X.env.locals m/\∀(i:Nat) (x:Str) (v:V),X.N[i]?=some x→σ[i]?=some (some v)→Vis X.env.scope x→∃u,RelV v u/\Look X.env s.heap m x u
 cell:∀x c,X.env.cells.lookup x=some c→∃v,s.heap.IsCell c v
 free:H X.env.locals=none
 El:∀x c,X.env.cells.lookup x=some c→H c=none
 pin:∀p∈X.pn++pins,s.heap.get? p.1=some p.2/\H p.1=none/\p.1≠X.env.locals/\p.1∉X.fs/\∀v,p.2.data≠.cell v
 hok:HOk X.prog X.w H s.heap
 len:σ.length=X.N.length
section
variable {X:Cx}{pins:List (Addr×Obj)}{σ:List (Option V)}{H H':Hp}{s:Shared}{h':Heap}
theorem Cx.Ok.SI (ok:X.Ok) {b:Addr}{o:Obj}(e:X.base.get? b=some o):b∉X.fs:=fun hb=>by
 have:=(ok.GI.mem hb).1
 rw [e] at this;cases this
theorem Inv.bs (I:Inv X pins σ H s):∀b o,X.base.get? b=some o→s.heap.get? b=some o/\H b=none:=fun b o e =>
 ⟨I.base.keep b o (I.ok.bs b o e).1 (I.ok.bs b o e).2 (I.ok.SI e) (I.ok.Mo b o e),I.base.free b o (I.ok.bs b o e).1 (I.ok.bs b o e).2 (I.ok.Mo b o e)⟩
theorem Inv.bk (I:Inv X pins σ H s):∀b o,X.base.get? b=some o→s.heap.get? b=some o:=fun b o e=>(I.bs b o e).1
theorem Inv.mod (I:Inv X pins σ H s):Mod X.K X.mg X.base:=I.ok.mod
theorem Inv.kIn (I:Inv X pins σ H s):X.K.In s.heap:=I.ok.mod.kin.keeps I.bk
theorem Inv.lt (I:Inv X pins σ H s):X.env.locals<s.heap.objs.size:=let ⟨_,hn,_⟩:=I.loc;hn.lt
theorem Inv.sz (I:Inv X pins σ H s):X.s₀.heap.objs.size≤s.heap.objs.size:=Nat.le_trans I.ok.above (Nat.le_of_lt I.lt)
theorem Inv.SH (I:Inv X pins σ H s) {a:Addr}(h:s.heap.objs.size≤a):a∉X.fs:=fun hb=>by
 obtain ⟨_,o,ho,_⟩:=I.ok.GI.mem hb
 exact absurd (Nat.lt_of_lt_of_le (Heap.lt_size ho) (Nat.le_trans I.sz h)) (Nat.lt_irrefl _)
theorem Inv.cne (I:Inv X pins σ H s):∀x c,X.env.cells.lookup x=some c→c≠X.env.locals:=fun x c e z=>by
 obtain ⟨v,o,ho,hd⟩:=I.cell x c e
 obtain ⟨m,⟨o',es,ep,ho',hd',_⟩,_⟩:=I.loc
 rw [z,ho'] at ho;cases ho;rw [hd'] at hd;cases hd
theorem Inv.GI (I:Inv X pins σ H s):s.heap.FunFrames X.base X.outer:=by
 have all:∀(l:List Env),(∀b∈frs l,b∈X.fs)→X.s₀.heap.FunFrames X.base l→s.heap.FunFrames X.base l:=by
  intro l
  induction l with
  | nil=>intro _ _;trivial
  | cons env r ih =>
   intro hs hl
   obtain ⟨hk,⟨L,o,hf,hn,ho,hd⟩,hr⟩:=hl
   have hL:L∈X.fs:=hs L (by unfold frs;rw [List.filterMap_cons,hf];exact List.mem_cons_self)
   obtain ⟨sl,e⟩:=I.base.slot L o ho (I.ok.frf L hL) hL fun z=>I.ok.M8 L z hL
   exact ⟨hk,⟨L,_,hf,hn,e,hd⟩,ih (fun b hb=>hs b (by unfold frs;rw [List.filterMap_cons,hf];exact List.mem_cons_of_mem _ hb)) hr⟩
 exact all X.outer (fun _ hb=>hb) I.ok.GI
theorem Inv.stack (I:Inv X pins σ H s):s.heap.FunFrames X.base X.stack:=by
 rcases I.ok.stk with e|⟨e,hf⟩
 ·rw [e];exact I.GI
 ·rw [e]
  obtain ⟨m,hn,_⟩:=I.loc
  refine .cons (by rw [I.ok.kind];decide) hf hn ?_ I.GI
  exact Heap.get?_none_of_le (Nat.le_trans I.ok.bsz I.ok.above)
theorem Inv.Fz (I:Inv X pins σ H s):∀b∈frs X.stack,b∈X.env.locals::X.fs:=fun b hb=>by
 rcases I.ok.stk with e|⟨e,hf⟩
 ·rw [e] at hb;exact List.mem_cons_of_mem _ hb
 ·rw [e] at hb
  unfold frs at hb
  rw [List.filterMap_cons,hf] at hb
  exact hb
theorem Inv.Iu (I:Inv X pins σ H s):∀b∈frs X.stack,H b=none:=fun b hb=>by
 rcases List.mem_cons.mp (I.Fz b hb) with e|hb
 ·rw [e];exact I.free
 ·obtain ⟨_,o,ho,_⟩:=I.ok.GI.mem hb
  exact I.base.free b o ho (I.ok.frf b hb) fun z=>I.ok.M8 b z hb
theorem Inv.step {g':Array GenState}{t':Nat}{d':Drawn}{ch:List Addr}(I:Inv X pins σ H s)
  (hch:∀b∈ch,(b∈X.ex\/X.s₀.heap.objs.size≤b)/\b≠X.env.locals/\(∀x c,X.env.cells.lookup x=some c→c≠b)/\∀p∈X.pn++pins,p.1≠b)
  (keep:∀b o,b≠X.env.locals→b∉X.fs→b∉ch→s.heap.get? b=some o→H b=none→h'.get? b=some o)
  (slot:∀b o,b≠X.env.locals→b∈X.fs→b∉ch→s.heap.get? b=some o→H b=none→∃sl,h'.get? b=some { o with slots:=sl }) (free:∀b o,b∉ch→s.heap.get? b=some o→H b=none→H' b=none)
  (there:∀b o,b∉ch→s.heap.get? b=some o→∃o',h'.get? b=some o')
  (Hm:∀b xs,H b=some (.tup xs)→H' b=some (.tup xs)) (HP:∀b o u,H b=some (.frz o u)→H' b=some (.frz o u)) (Hn:∀b ps,H b=some (.tbl ps)→∃more,H' b=some (.tbl (ps++more)))
  (ns:∀m,s.heap.Ns X.env.locals m→h'.Ns X.env.locals m) (hok:HOk X.prog X.w H' h') (hg:AllBare g') :
  Inv X pins σ H' { s with heap:=h',gens:=g',drawn:=d',toks:=t' }:=by
 have neL:∀b o,X.s₀.heap.get? b=some o→b≠X.env.locals:=fun b o e=>Nat.ne_of_lt (Nat.lt_of_lt_of_le (Heap.lt_size e) I.ok.above)
 have neC:∀b o,X.s₀.heap.get? b=some o→b∉X.ex→b∉ch:=fun b o e hx hb=>by
  rcases (hch b hb).1 with z|z
  ·exact hx z
  ·exact absurd (Nat.lt_of_lt_of_le (Heap.lt_size e) z) (Nat.lt_irrefl _)
 have cellK:∀x c,X.env.cells.lookup x=some c→∀v,s.heap.IsCell c v→h'.IsCell c v:=fun x c e v ⟨o,ho,hd⟩=>by
  have nch:c∉ch:=fun z=>(hch c z).2.2.1 x c e rfl
  by_cases hc:c∈X.fs
  ·obtain ⟨sl,q⟩:=slot c o (I.cne x c e) hc nch ho (I.El x c e)
   exact ⟨_,q,hd⟩
  ·exact ⟨o,keep c o (I.cne x c e) hc nch ho (I.El x c e),hd⟩
 refine ⟨I.ok,I.os,hg,⟨fun b o e n hb hx=>?_,fun b o e n hb hx=>?_,fun b o e n hx=>?_,fun b o e hx=>?_,fun b xs e=>Hm b xs (I.base.Hm b xs e),fun b o xs e=>HP b o xs (I.base.HP b o xs e),fun b ps e=>?_⟩,?_,fun x c e=>?_,?_,fun x c e=>?_,fun p hp=>?_,hok,I.len⟩
 ·exact keep b o (neL b o e) hb (neC b o e hx) (I.base.keep b o e n hb hx) (I.base.free b o e n hx)
 ·obtain ⟨sl,e1⟩:=I.base.slot b o e n hb hx
  obtain ⟨sl',e2⟩:=slot b _ (neL b o e) hb (neC b o e hx) e1 (I.base.free b o e n hx)
  exact ⟨sl',e2⟩
 ·obtain ⟨o',e1⟩:=I.base.there b o e hx
  exact free b o' (neC b o e hx) e1 (I.base.free b o e n hx)
 ·obtain ⟨o',e1⟩:=I.base.there b o e hx
  exact there b o' (neC b o e hx) e1
 ·obtain ⟨m1,e1⟩:=I.base.Hn b ps e
  obtain ⟨m2,e2⟩:=Hn b _ e1
  exact ⟨m1++m2,by rw [e2,Array.append_assoc]⟩
 ·obtain ⟨m,hn,hl⟩:=I.loc
  refine ⟨m,ns m hn,fun i x v e1 e2 e3=>?_⟩
  obtain ⟨u,r,l⟩:=hl i x v e1 e2 e3
  refine ⟨u,r,?_⟩
  rcases l with l|⟨k,c,e,z⟩
  ·exact .inl l
  ·exact .inr ⟨k,c,e,cellK x c e _ z⟩
 ·obtain ⟨v,z⟩:=I.cell x c e
  exact ⟨v,cellK x c e v z⟩
 ·obtain ⟨m,⟨o,_,_,ho,_⟩,_⟩:=I.loc
  exact free _ o (fun z=>(hch _ z).2.1 rfl) ho I.free
 ·obtain ⟨v,o,ho,hd⟩:=I.cell x c e
  exact free c o (fun z=>(hch c z).2.2.1 x c e rfl) ho (I.El x c e)
 ·obtain ⟨e,n,ne,nf,d⟩:=I.pin p hp
  have nch:p.1∉ch:=fun z=>(hch p.1 z).2.2.2 p hp rfl
  exact ⟨keep p.1 p.2 ne nf nch e n,free p.1 p.2 nch e n,ne,nf,d⟩
theorem Inv.un {t':Nat} (I:Inv X pins σ H s) (u:Un X.fs [] H H' s.heap h') (hok:HOk X.prog X.w H' h'):Inv X pins σ H' { s with heap:=h',toks:=t' }:=by
 obtain ⟨m,⟨o,es,ep,ho,r⟩,_⟩:=id I.loc
 obtain ⟨sl,hL⟩:=u.any ho I.free (by simp)
 exact I.step (g':=s.gens) (d':=s.drawn) (ch:=[]) (fun _ z=>nomatch z) (fun b o _ hb _ e n=>u.keep b o e n hb (by simp)) (fun b o _ hb _ e n=>u.slot b o e n hb (by simp)) (fun b o _ e n=>u.free b o e n (by simp)) (fun b o _ e=>u.there b o e (by simp)) u.Hm u.HP u.Hn (fun m' hm=>by
  obtain ⟨o',es',ep',ho',r'⟩:=hm
  rw [ho] at ho';cases ho'
  exact ⟨_,es',ep',hL,r'⟩) hok I.bare
theorem Inv.call {g':Array GenState}{t':Nat}{d':Drawn}{ch:List Addr}(I:Inv X pins σ H s) (u:Un (frs X.stack) ch H H' s.heap h') (hok:HOk X.prog X.w H' h') (hg:AllBare g')
  (hch:∀b∈ch,(b∈X.ex\/X.s₀.heap.objs.size≤b)/\b≠X.env.locals/\(∀x c,X.env.cells.lookup x=some c→c≠b)/\∀p∈X.pn++pins,p.1≠b) :
  Inv X pins σ H' { s with heap:=h',gens:=g',drawn:=d',toks:=t' }:=by
 obtain ⟨m,⟨o,es,ep,ho,r⟩,_⟩:=id I.loc
 obtain ⟨sl,hL⟩:=u.any ho I.free fun z=>(hch _ z).2.1 rfl
 exact I.step (ch:=ch) hch (fun b o hL hb hc e n=>u.keep b o e n (fun z=>(List.mem_cons.mp (I.Fz b z)).elim hL hb) hc) (fun b o _ _ hc e n=>u.any e n hc) (fun b o hc e n=>u.free b o e n hc) (fun b o hc e=>u.there b o e hc) u.Hm u.HP u.Hn (fun m' hm=>by
  obtain ⟨o',es',ep',ho',r'⟩:=hm
  rw [ho] at ho';cases ho'
  exact ⟨_,es',ep',hL,r'⟩) hok hg
theorem Inv.turned {t':Nat}{it:Addr}(I:Inv X pins σ H s) (k:∀b o,b≠it→s.heap.get? b=some o→h'.get? b=some o) (hn:H it=none) (hL:it≠X.env.locals)
  (h1:it∈X.ex\/X.s₀.heap.objs.size≤it) (h2:∀x c,X.env.cells.lookup x=some c→c≠it) (h3:∀p∈X.pn++pins,p.1≠it):Inv X pins σ H { s with heap:=h',toks:=t' }:=by
 have nit:∀b u,H b=some u→b≠it:=fun b u e z=>by rw [z,hn] at e;cases e
 refine I.step (g':=s.gens) (d':=s.drawn) (ch:=[it]) (fun b hb=>?_) (fun b o _ _ hc e _=>k b o (fun z=>hc (by simp [z])) e) (fun b o _ _ hc e _=>⟨o.slots,k b o (fun z=>hc (by simp [z])) e⟩) (fun _ _ _ _ n=>n)
  (fun b o hc e=>⟨o,k b o (fun z=>hc (by simp [z])) e⟩) (fun _ _ e=>e) (fun _ _ _ e=>e) (fun b ps e=>⟨#[],by rw [e];simp⟩) (fun m hm=>?_) (fun b u e=>?_) I.bare
 ·have e:b=it:=by simpa using hb
  subst e
  exact ⟨h1,hL,h2,h3⟩
 ·obtain ⟨o,es,ep,ho,r⟩:=hm
  exact ⟨o,es,ep,k _ o (Ne.symm hL) ho,r⟩
 ·refine (I.hok b u e).Gr (fun c v hc q=>k c v ?_ q) (fun _ q=>q) fun _ _ q=>q
  rcases hc with z|z
  ·rw [z];exact nit b u e
  ·exact nit c _ z
theorem Inv.tok (I:Inv X pins σ H s) (t:Nat):Inv X pins σ H { s with toks:=t }:=I.un (h':=s.heap) (t':=t) Un.refl I.hok
theorem Inv.kept {t':Nat} (I:Inv X pins σ H s) (k:∀b u,s.heap.get? b=some u→h'.get? b=some u):Inv X pins σ H { s with heap:=h',toks:=t' }:=I.un (Un.kept k) (I.hok.kept k)
theorem Inv.laid {a:Addr}{o:HO}{t':Nat}(I:Inv X pins σ H s) (k:∀b u,s.heap.get? b=some u→h'.get? b=some u) (hp:s.heap.objs.size≤a) (new:BC X.prog X.w (upd H a o) h' a o) :
  Inv X pins σ (upd H a o) { s with heap:=h',toks:=t' }:=I.un (Un.laid k hp (I.hok.fresh hp)) (I.hok.laid k hp new)
theorem Inv.write {x e:Addr}{o:HO}{t':Nat}(I:Inv X pins σ H s) (mu:Mut (H x)) (he:e=x\/H e=some (.own x)) (k:∀b u,b≠e→s.heap.get? b=some u→h'.get? b=some u) (heo:∃u,h'.get? e=some u)
  (new:BC X.prog X.w (upd H x o) h' x o):Inv X pins σ (upd H x o) { s with heap:=h',toks:=t' }:=I.un (Un.write mu he k heo) (I.hok.write mu he k heo new)
theorem Inv.DX {pins':List (Addr×Obj)}(I:Inv X pins σ H s) (h:∀p∈pins',s.heap.get? p.1=some p.2/\H p.1=none/\p.1≠X.env.locals/\p.1∉X.fs/\∀v,p.2.data≠.cell v):Inv X pins' σ H s :=
 ⟨I.ok,I.os,I.bare,I.base,I.loc,I.cell,I.free,I.El,fun p hp=>(List.mem_append.mp hp).elim (fun z=>I.pin p (List.mem_append_left _ z)) (h p),I.hok,I.len⟩
theorem KJ {N:List Str}(hN:N.Nodup) {i j:Nat}{x:Str}(a:N[i]?=some x) (b:N[j]?=some x):i=j:=by
 obtain ⟨h1,e1⟩:=List.getElem?_eq_some_iff.mp a
 obtain ⟨h2,e2⟩:=List.getElem?_eq_some_iff.mp b
 exact (List.getElem_inj hN).mp (e1.trans e2.symm)
theorem IG {M:Model}{A:Around}{E:Value→Shared→Prop}{i:Nat}{x:Str}{v:V}{u:Value}{Q:Unit→Shared→Prop}(I:Inv X pins σ H s) (hN:X.N.Nodup) (hi:X.N[i]?=some x) (hx:Loc X.env.scope x) (r:RelV v u)
  (h:∀s',Inv X pins (σ.set i (some v)) H s'→(∃a,Heap.SameBut a s.heap s'.heap/\(a=X.env.locals\/X.env.cells.lookup x=some a))→Q () s') (hf:X.fn x=true\/X.env.scope.names.lookup x=some .local:=by first|exact .inl rfl|exact .inr rfl|assumption):wpAny M A (storeName X.env x u) Q E s:=by
 obtain ⟨m,hn,hl⟩:=id I.loc
 have hcls:(X.env.scope.kind==.class||(X.env.scope.kind==.module&&X.env.locals != X.env.globals))=false:=by rw [I.ok.kind];rfl
 have hiσ:i < σ.length:=by rw [I.len];exact (List.getElem?_eq_some_iff.mp hi).1
 have cne:=I.cne
 have tracked:∀{a:Addr} {h':Heap},(∃o,s.heap.get? a=some o/\H a=none)→Heap.SameBut a s.heap h'→HOk X.prog X.w H h':=fun {a h'} ha hs b ob e=>by
  obtain ⟨_,_,hfree⟩:=ha
  refine (I.hok b ob e).Gr (fun c w' hc q=>(hs.2 c ?_).trans q) (fun _ q=>q) fun _ _ q=>q
  rintro rfl
  rcases hc with rfl|hc
  ·rw [hfree] at e;cases e
  ·rw [hfree] at hc;cases hc
 rcases hx with hk|hk
 ·refine wpAny_storeName_local hk hn (fun h' hn' hs=>?_) hcls
  obtain ⟨oL,_,_,hoL,_⟩:=id hn
  refine h _ ⟨I.ok,I.os,I.bare,⟨fun b o e n hb hx=>?_,fun b o e n hb hx=>?_,I.base.free,fun b o e hx=>?_,I.base.Hm,I.base.HP,I.base.Hn⟩,⟨_,hn',fun j y v' e1 e2 e3=>?_⟩,fun y c e=>?_,I.free,I.El,fun p hp=>?_,tracked ⟨oL,hoL,I.free⟩ hs,by simpa using I.len⟩ ⟨_,hs,.inl rfl⟩
  ·exact (hs.2 b (Nat.ne_of_lt (Nat.lt_of_lt_of_le (Heap.lt_size e) I.ok.above))).trans (I.base.keep b o e n hb hx)
  ·obtain ⟨sl,e1⟩:=I.base.slot b o e n hb hx
   exact ⟨sl,(hs.2 b (Nat.ne_of_lt (Nat.lt_of_lt_of_le (Heap.lt_size e) I.ok.above))).trans e1⟩
  ·obtain ⟨o',e1⟩:=I.base.there b o e hx
   exact ⟨o',(hs.2 b (Nat.ne_of_lt (Nat.lt_of_lt_of_le (Heap.lt_size e) I.ok.above))).trans e1⟩
  ·by_cases hj:j=i
   ·subst hj
    rw [hi] at e1;cases e1
    rw [List.getElem?_set_self hiσ] at e2
    cases e2
    exact ⟨u,r,.inl ⟨hk,by simp⟩⟩
   ·rw [List.getElem?_set_ne (Ne.symm hj)] at e2
    obtain ⟨u',r',q⟩:=hl j y v' e1 e2 e3
    refine ⟨u',r',?_⟩
    rcases q with ⟨k,e⟩|⟨k,c,e,z⟩
    ·refine .inl ⟨k,?_⟩
     have:y≠x:=fun e=>hj (KJ hN e1 (e ▸ hi))
     simp [this,e]
    ·exact .inr ⟨k,c,e,z.sameBut hs (cne y c e)⟩
  ·obtain ⟨w',z⟩:=I.cell y c e
   exact ⟨w',z.sameBut hs (cne y c e)⟩
  ·obtain ⟨e,n,ne,nf,d⟩:=I.pin p hp
   exact ⟨(hs.2 p.1 ne).trans e,n,ne,nf,d⟩
 ·have hfn:X.fn x=true:=by
   rcases hf with z|z
   ·exact z
   ·rw [z] at hk;cases hk
  obtain ⟨c,hc⟩:=I.ok.has x (.inl hk)
  obtain ⟨w',z⟩:=I.cell x c hc
  refine wpAny_storeName_cell I.ok.kind hk hc z (fun h' hc' hs=>?_)
  obtain ⟨oc,hoc,hocd⟩:=id z
  refine h { s with heap:=h' } ⟨I.ok,I.os,I.bare,⟨fun b o e n hb hx=>?_,fun b o e n hb hx=>?_,I.base.free,fun b o e hx=>?_,I.base.Hm,I.base.HP,I.base.Hn⟩,⟨m,hn.sameBut hs (Ne.symm (cne x c hc)),fun j y v' e1 e2 e3=>?_⟩,fun y c' e=>?_,I.free,I.El,fun p hp=>?_,tracked ⟨oc,hoc,I.El x c hc⟩ hs,by simpa using I.len⟩ ⟨c,hs,.inr hc⟩
  ·exact (hs.2 b (Nat.ne_of_lt (Nat.lt_of_lt_of_le (Heap.lt_size e) (I.ok.cab x c hfn hc)))).trans (I.base.keep b o e n hb hx)
  ·obtain ⟨sl,e1⟩:=I.base.slot b o e n hb hx
   exact ⟨sl,(hs.2 b (Nat.ne_of_lt (Nat.lt_of_lt_of_le (Heap.lt_size e) (I.ok.cab x c hfn hc)))).trans e1⟩
  ·obtain ⟨o',e1⟩:=I.base.there b o e hx
   exact ⟨o',(hs.2 b (Nat.ne_of_lt (Nat.lt_of_lt_of_le (Heap.lt_size e) (I.ok.cab x c hfn hc)))).trans e1⟩
  ·by_cases hj:j=i
   ·subst hj
    rw [hi] at e1;cases e1
    rw [List.getElem?_set_self hiσ] at e2
    cases e2
    exact ⟨u,r,.inr ⟨.inl hk,c,hc,hc'⟩⟩
   ·rw [List.getElem?_set_ne (Ne.symm hj)] at e2
    obtain ⟨u',r',q⟩:=hl j y v' e1 e2 e3
    refine ⟨u',r',?_⟩
    rcases q with q|⟨k,c',e,z'⟩
    ·exact .inl q
    ·refine .inr ⟨k,c',e,z'.sameBut hs ?_⟩
     rintro rfl
     exact hj (KJ hN e1 (I.ok.inj _ _ _ e hc ▸ hi))
  ·by_cases hcc:c'=c
   ·subst hcc;exact ⟨_,hc'⟩
   ·obtain ⟨w2,z2⟩:=I.cell y c' e
    exact ⟨w2,z2.sameBut hs hcc⟩
  ·obtain ⟨e,n,ne,nf,d⟩:=I.pin p hp
   refine ⟨(hs.2 p.1 ?_).trans e,n,ne,nf,d⟩
   intro q
   rw [q,hoc] at e
   have q':oc=p.2:=Option.some.inj e
   exact d w' (by rw [←q'];exact hocd)
theorem FY {M:Model}{A:Around}{E:Value→Shared→Prop}{i:Nat}{x:Str}{v:V}{u:Value}{Q:Unit→Shared→Prop}(I:Inv X pins σ H s) (hN:X.N.Nodup) (hi:X.N[i]?=some x) (hx:Loc X.env.scope x) (r:RelV v u)
  (h:∀s',Inv X pins (σ.set i (some v)) H s'→Q () s') (hf:X.fn x=true\/X.env.scope.names.lookup x=some .local:=by first|exact .inl rfl|exact .inr rfl|assumption):wpAny M A (storeName X.env x u) Q E s :=
 IG I hN hi hx r (fun s' I' _=>h s' I') hf
theorem Inv.Ou {s':Shared}{ch:List Addr}(I:Inv X pins σ H s) (ho:s'.os=s.os) (u:Un (frs X.stack) ch H H' s.heap s'.heap) (hok:HOk X.prog X.w H' s'.heap) (hg:AllBare s'.gens)
  (hch:∀b∈ch,(b∈X.ex\/X.s₀.heap.objs.size≤b)/\b≠X.env.locals/\(∀x c,X.env.cells.lookup x=some c→c≠b)/\∀p∈X.pn++pins,p.1≠b):Inv X pins σ H' s':=by
 obtain ⟨h',g',d',t',o'⟩:=s'
 have e:o'=s.os:=ho
 subst e
 exact I.call (g':=g') (t':=t') (d':=d') u hok hg hch
end
abbrev XK:=Value→Option Addr→Hp→Prop
abbrev St:=List (Option V)
abbrev VK:=V→Hp→Prop
abbrev TE:=St→Hp→VK→Prop
abbrev TT:=St→Hp→(Bool→Hp→Prop)→Prop
abbrev TA:=St→Hp→(List V→Hp→Prop)→Prop
structure Ends where
 nx:St→Hp→Prop
 rt:VK
 bk:St→Hp→Prop:=fun _ _=>False
 ct:St→Hp→Prop:=fun _ _=>False
abbrev TS:=Ends→St→Hp→Prop
def EP (X:Cx) (pins:List (Addr×Obj)) (σ:St) (Q:VK) (u:Value) (s':Shared):Prop:=∃v H',Inv X pins σ H' s'/\RelV v u/\Q v H'
def TP (X:Cx) (pins:List (Addr×Obj)) (σ:St) (Q:Bool→Hp→Prop) (b:Bool) (s':Shared):Prop:=∃H',Inv X pins σ H' s'/\Q b H'
def AP (X:Cx) (pins:List (Addr×Obj)) (σ:St) (Q:List V→Hp→Prop) (us:List Value) (s':Shared):Prop:=∃vs H',Inv X pins σ H' s'/\Vals vs us/\Q vs H'
def SP (X:Cx) (pins:List (Addr×Obj)) (D:Ends) (f:Flow) (s':Shared):Prop :=
 match f with
 | .next=>∃σ' H',Inv X pins σ' H' s'/\D.nx σ' H'
 | .brk=>∃σ' H',Inv X pins σ' H' s'/\D.bk σ' H'
 | .cont=>∃σ' H',Inv X pins σ' H' s'/\D.ct σ' H'
 | .ret u=>∃v σ' H',Inv X pins σ' H' s'/\RelV v u/\D.rt v H'
def PE (X:Cx) (e:Expr) (t:TE):Prop :=
 ∀(pins:List (Addr×Obj)) (s:Shared) (σ:St) (H:Hp) (Q:VK),Inv X pins σ H s→t σ H Q→wpAny (model X.prog X.w) X.A (eval e X.env) (EP X pins σ Q) X.xe s
def PT (X:Cx) (e:Expr) (t:TT):Prop :=
 ∀(pins:List (Addr×Obj)) (s:Shared) (σ:St) (H:Hp) (Q:Bool→Hp→Prop),Inv X pins σ H s→t σ H Q→wpAny (model X.prog X.w) X.A (isTrue e X.env (eval e X.env)) (TP X pins σ Q) X.xe s
def PW (X:Cx) (e:Expr) (t:TT):Prop :=
 ∀(whole:Sem Value) (pins:List (Addr×Obj)) (s:Shared) (σ:St) (H:Hp) (Q:Bool→Hp→Prop),Inv X pins σ H s→t σ H Q→wpAny (model X.prog X.w) X.A (isTrue e X.env whole) (TP X pins σ Q) X.xe s
theorem PW.pt {X:Cx}{e:Expr}{t:TT}(h:PW X e t):PT X e t:=h _
def PA (X:Cx) (es:List Expr) (t:TA):Prop :=
 ∀(pos:Pos) (pins:List (Addr×Obj)) (s:Shared) (σ:St) (H:Hp) (Q:List V→Hp→Prop),Inv X pins σ H s→t σ H Q→wpAny (model X.prog X.w) X.A (spliced (backTo pos (starEach es X.env))) (AP X pins σ Q) X.xe s
def PS (X:Cx) (st:Stmt) (t:TS):Prop :=
 ∀(pins:List (Addr×Obj)) (s:Shared) (σ:St) (H:Hp) (D:Ends),Inv X pins σ H s→t D σ H→wpAny (model X.prog X.w) X.A (exec st X.env) (SP X pins D) X.xe s
def PSs (X:Cx) (st:List Stmt) (t:TS):Prop :=
 ∀(pins:List (Addr×Obj)) (s:Shared) (σ:St) (H:Hp) (D:Ends),Inv X pins σ H s→t D σ H→wpAny (model X.prog X.w) X.A (execs st X.env) (SP X pins D) X.xe s
theorem thn {α:Type}{t:Sem α}{Q Q':α→Shared→Prop}{M:Model}{A:Around}{E:Value→Shared→Prop}{s:Shared}(h:wpAny M A t Q E s) (hQ:∀a s,Q a s→Q' a s):wpAny M A t Q' E s:=wpAny_mono h hQ fun _ _ x=>x
end L2
namespace L2
open PySem PySem.Spec PyProof.Rows
section
variable {X:Cx}
def Gq (i:Nat):TE:=fun σ H Q=>∃v,σ[i]?=some (some v)/\Q v H
def tC (v:V):TE:=fun _ H Q=>Q v H
theorem Qd {i:Nat}{x:Str}{pos:Pos}(hN:X.N[i]?=some x) (hv:Vis X.env.scope x) (hd:(x==("__debug__" : Str))=false:=by decide) (hcd:(x==("__classdict__" : Str))=false:=by decide):PE X (.Name x pos) (Gq i):=by
 intro pins s σ H Q I h
 obtain ⟨v,e,h⟩:=h
 obtain ⟨m,hn,hl⟩:=I.loc
 obtain ⟨u,r,l⟩:=hl i x v hN e hv
 have fin:EP X pins σ Q u s:=⟨v,H,I,r,h⟩
 rcases l with ⟨hk,hm⟩|⟨hk,c,hc,hcell⟩
 ·exact wpAny_Name (wpAny_loadName_local I.ok.kind hk hn hm fin) hd
 ·rcases hk with hk|hk
  ·exact wpAny_Name (wpAny_loadName_cell I.ok.kind hk hc hcell fin) hd
  ·exact wpAny_Name (wpAny_loadName_free I.ok.kind hk hc hcell fin hcd) hd
theorem AB {i j pos}:PE X (.Constant (.int i) j pos) (tC (.int i)):=fun _ _ _ H _ I h=>wpAny_Constant_int ⟨.int i,H,I.tok _,⟨_,rfl⟩,h⟩
theorem IQ {b j pos}:PE X (.Constant (.bool b) j pos) (tC (.bl b)):=fun _ _ _ H _ I h=>Constant_bool ⟨.bl b,H,I,rfl,h⟩
theorem AO {x j pos}:PE X (.Constant (.str x) j pos) (tC (.str x)):=fun _ _ _ H _ I h=>Calls.Constant_str ⟨.str x,H,I.tok _,⟨_,rfl⟩,h⟩
def Gl (X:Cx) (x:Str):Prop:=X.env.kindOf x=some .globalImplicit
theorem L0 {E:Value→Shared→Prop}{pins:List (Addr×Obj)}{s:Shared}{σ:St}{H:Hp}{x:Str}{u:Value}{pos:Pos}{Q:Value→Shared→Prop}(I:Inv X pins σ H s) (hg:Gl X x) (hm:X.mg x=some u) (h:Q u s)
  (hd:(x==("__debug__" : Str))=false:=by decide):wpAny (model X.prog X.w) X.A (eval (.Name x pos) X.env) Q E s :=
 Calls.Name_function_global I.ok.kind hg (Calls.loadGlobal_global (by rw [I.ok.glob];exact I.mod.glob.keeps I.bk) hm h) hd
theorem FP {E:Value→Shared→Prop}{pins:List (Addr×Obj)}{s:Shared}{σ:St}{H:Hp}{x:Str}{u:Value}{pos:Pos}{Q:Value→Shared→Prop}(I:Inv X pins σ H s) (hg:Gl X x) (hm:X.mg x=none) (hv:bootBuiltins x=some u) (h:Q u s)
  (hn:x ≠ "__name__" := by decide) (hd:(x==("__debug__" : Str))=false:=by decide):wpAny (model X.prog X.w) X.A (eval (.Name x pos) X.env) Q E s:=by
 obtain ⟨mb,h1,h2⟩:=I.mod.blt
 exact Calls.Name_function_global I.ok.kind hg (Calls.loadGlobal_builtin (by rw [I.ok.glob];exact I.mod.glob.keeps I.bk) hm (by rw [I.ok.blt];exact h1.keeps I.bk) ((h2 x hn).trans hv) h) hd
theorem Pc {x:Str}{v:V}{u:Value}{pos:Pos}(hg:Gl X x) (hm:X.mg x=some u) (r:RelV v u) (hd:(x==("__debug__" : Str))=false:=by decide):PE X (.Name x pos) (tC v) :=
 fun _ _ _ H _ I h=>L0 I hg hm ⟨v,H,I,r,h⟩ hd
theorem Fh {x:Str}{v:V}{u:Value}{pos:Pos}(hg:Gl X x) (hm:X.mg x=none) (hv:bootBuiltins x=some u) (r:RelV v u) (hn:x ≠ "__name__" := by decide) (hd:(x==("__debug__" : Str))=false:=by decide):PE X (.Name x pos) (tC v) :=
 fun _ _ _ H _ I h=>FP I hg hm hv ⟨v,H,I,r,h⟩ hn hd
variable {a b:Expr}{ta tb:TE}{pos:Pos}
def PC (X:Cx) (op:CmpOp) (a b:Expr) (t:TE):Prop :=
 ∀(pins:List (Addr×Obj)) (s:Shared) (σ:St) (H:Hp) (Q:VK),Inv X pins σ H s→t σ H Q →
  wpAny (model X.prog X.w) X.A (eval a X.env) (fun v s₁=>wpAny (model X.prog X.w) X.A (eval b X.env) (fun u s₂=>wpAny (model X.prog X.w) X.A (compareOp op v u) (EP X pins σ Q) X.xe s₂) X.xe s₁) X.xe s
def tB (t:TE):TT:=fun σ H Q=>t σ H fun x H1=>∃c,x=.bl c/\Q c H1
theorem FJ {e:Expr}{t:TE}(h:PE X e t) (he:∀whole,isTrue e X.env whole=(do let v ← whole;standAt e.pos;holding [v] (truthy v)):=by intro _;rfl):PT X e (tB t):=by
 intro pins s σ H Q I hw
 refine isTrue_plain (thn (h pins s σ H _ I hw) fun v s1 ⟨x,H1,I1,r1,q1⟩=>?_) (he _)
 obtain ⟨d,rfl,q⟩:=q1
 cases r1
 exact wpAny_truthy_bool ⟨H1,I1,q⟩
variable {tA tB':TT}{rest:List Expr}
def R5 (t u:TT):TT:=fun σ H Q=>t σ H fun c H1=>if c=true then u σ H1 Q else Q false H1
def tOr (t u:TT):TT:=fun σ H Q=>t σ H fun c H1=>if c=true then Q true H1 else u σ H1 Q
def Ry (t:TT):TT:=fun σ H Q=>t σ H fun c H1=>Q (!c) H1
theorem Es (ha:PT X a tA):PW X (.BoolOp .And [a] pos) tA:=by
 intro wh pins s σ H Q I h
 refine isTrue_and (thn (ha pins s σ H Q I h) fun c s1 e=>?_)
 cases c with
 | true=>exact isTrue_and_nil e
 | false=>exact e
theorem JE (ha:PT X a tA):PW X (.BoolOp .Or [a] pos) tA:=by
 intro wh pins s σ H Q I h
 refine isTrue_or (thn (ha pins s σ H Q I h) fun c s1 e=>?_)
 cases c with
 | false=>exact isTrue_or_nil e
 | true=>exact e
theorem GA (ha:PT X a tA) (hb:PW X (.BoolOp .And (b::rest) pos) tB'):PW X (.BoolOp .And (a::b::rest) pos) (R5 tA tB'):=by
 intro wh pins s σ H Q I h
 refine isTrue_and (thn (ha pins s σ H _ I h) fun c s1 ⟨H1,I1,q1⟩=>?_)
 cases c with
 | true=>exact hb wh pins s1 σ H1 Q I1 q1
 | false=>exact ⟨H1,I1,q1⟩
theorem Lk (ha:PT X a tA) (hb:PW X (.BoolOp .Or (b::rest) pos) tB'):PW X (.BoolOp .Or (a::b::rest) pos) (tOr tA tB'):=by
 intro wh pins s σ H Q I h
 refine isTrue_or (thn (ha pins s σ H _ I h) fun c s1 ⟨H1,I1,q1⟩=>?_)
 cases c with
 | true=>exact ⟨H1,I1,q1⟩
 | false=>exact hb wh pins s1 σ H1 Q I1 q1
theorem FK (ha:PT X a tA):PT X (.UnaryOp .Not a pos) (Ry tA):=by
 intro pins s σ H Q I h
 exact isTrue_not (ha pins s σ H (fun c H1=>Q (!c) H1) I h)
def RI (ta tb:TE):TE:=fun σ H Q=>ta σ H fun x H1=>∃c,x=.bl c/\if c=true then tb σ H1 Q else Q (.bl false) H1
def RC (ta:TE):TE:=fun σ H Q=>ta σ H fun x H1=>∃c,x=.bl c/\Q (.bl (!c)) H1
theorem Qf {op}{t:TE}(h:PE X a t):PE X (.BoolOp op [a] pos) t:=fun pins s σ H Q I hw=>BoolOp_one (h pins s σ H Q I hw)
theorem Qh (ha:PE X a ta) (hb:PE X (.BoolOp .And (b::rest) pos) tb):PE X (.BoolOp .And (a::b::rest) pos) (RI ta tb):=by
 intro pins s σ H Q I h
 refine BoolOp_and (thn (ha pins s σ H _ I h) fun v s1 ⟨x,H1,I1,r1,q1⟩=>?_)
 obtain ⟨c,rfl,q1⟩:=q1
 cases r1
 refine wpAny_truthy_bool ?_
 cases c with
 | true=>exact hb pins s1 σ H1 Q I1 q1
 | false=>exact ⟨.bl false,H1,I1,rfl,q1⟩
theorem Qg (ha:PE X a ta):PE X (.UnaryOp .Not a pos) (RC ta):=by
 intro pins s σ H Q I h
 refine UnaryOp_ (thn (ha pins s σ H _ I h) fun v s1 ⟨x,H1,I1,r1,q1⟩=>?_)
 obtain ⟨c,rfl,q1⟩:=q1
 cases r1
 exact not_of (wpAny_truthy_bool ⟨.bl (!c),H1,I1,rfl,q1⟩)
def tIf (t:TT) (ta tb:TE):TE:=fun σ H Q=>t σ H fun c H1=>if c=true then ta σ H1 Q else tb σ H1 Q
theorem Fg {c:Expr}(hc:PT X c tA) (ha:PE X a ta) (hb:PE X b tb):PE X (.IfExp c a b pos) (tIf tA ta tb):=by
 intro pins s σ H Q I h
 refine wpAny_IfExp (thn (hc pins s σ H _ I h) fun d s1 ⟨H1,I1,q1⟩=>?_)
 cases d with
 | true=>exact ha pins s1 σ H1 Q I1 q1
 | false=>exact hb pins s1 σ H1 Q I1 q1
end
end L2
namespace L2
open PySem PySem.Spec PyProof.Rows
def SqL (K:PySem.W.Frag) (H:Hp) (a:Addr) (xs:List V):Prop :=
 Rd H a (.lst xs) \/
  ∃(o:Obj) (its:Array Value) (n:Nat),K.lookup a=some o/\o.cls=.type "list" /\ o.dict=none/\o.data=.seq its n/\its.size≤sizeLine/\Vals xs its.toList
def SqT (K:PySem.W.Frag) (H:Hp) (a:Addr) (xs:List V):Prop :=
 Rd H a (.tup xs) \/
  ∃(o:Obj) (its:Array Value) (n:Nat),K.lookup a=some o/\o.cls=.type "tuple" /\ o.data=.seq its n/\its.size≤sizeLine/\Vals xs its.toList
def SQ:Value→Option V
 | .none=>some .non
 | .bool b=>some (.bl b)
 | .int i _=>some (.int i)
 | .str x _=>some (.str x)
 | .bytes b _=>some (.byt b)
 | .float b _=>some (.flt b)
 | .ref a=>some (.ref a)
 | .type n=>some (.ty n)
 | _=>none
theorem RelV.abs {x:V}{u:Value}(r:RelV x u):SQ u=some x:=by
 cases x with
 | non=>cases r;rfl
 | bl _=>cases r;rfl
 | int _=>obtain ⟨t,rfl⟩:=r;rfl
 | str _=>obtain ⟨t,rfl⟩:=r;rfl
 | byt _=>obtain ⟨t,rfl⟩:=r;rfl
 | flt _=>obtain ⟨t,rfl⟩:=r;rfl
 | ref _=>cases r;rfl
 | ty _=>cases r;rfl
theorem RelV.inj {x y:V}{u:Value}(r:RelV x u) (q:RelV y u):x=y:=Option.some.inj (r.abs.symm.trans q.abs)
theorem Vals.inj:∀{xs ys:List V}{us:List Value},Vals xs us→Vals ys us→xs=ys
 | _,_,_,.nil,.nil=>rfl
 | _,_,_,.cons r t,.cons r' t'=>by rw [r.inj r',Vals.inj t t']
section
variable {X:Cx}{pins:List (Addr×Obj)}{σ:St}{H:Hp}{s:Shared}{a:Addr}{xs ys:List V}
theorem SqL.of {K:PySem.W.Frag}(h:H a=some (.lst xs)):SqL K H a xs:=.inl (.inl h)
theorem SqT.of {K:PySem.W.Frag}(h:H a=some (.tup xs)):SqT K H a xs:=.inl (.inl h)
theorem Inv.list (I:Inv X pins σ H s) (h:SqL X.K H a xs):∃its:List Value,Vals xs its/\PlainL s.heap a its.toArray/\xs.length≤sizeLine:=by
 rcases h with h|⟨o,its,n,hk,hc,hd,hs,hz,r⟩
 ·obtain ⟨z,its,n,r,e⟩:=h.ok I.hok
  exact ⟨its,r,⟨_,n,e,rfl,rfl,rfl⟩,z⟩
 ·refine ⟨its.toList,r,⟨o,n,I.kIn a o hk,hc,hd,by simpa using hs⟩,?_⟩
  have e:=r.length
  simp only [Array.length_toList] at e
  omega
theorem Inv.tuple (I:Inv X pins σ H s) (h:SqT X.K H a xs):∃its:List Value,Vals xs its/\IsTup s.heap a its.toArray/\xs.length≤sizeLine:=by
 rcases h with h|⟨o,its,n,hk,hc,hs,hz,r⟩
 ·obtain ⟨z,its,r,p⟩:=h.ok I.hok
  exact ⟨its,r,p,z⟩
 ·refine ⟨its.toList,r,⟨o,I.kIn a o hk,hc,n,by simpa using hs⟩,?_⟩
  have e:=r.length
  simp only [Array.length_toList] at e
  omega
theorem Inv.KW (I:Inv X pins σ H s) (h:SqL X.K H a xs) (h':SqL X.K H a ys):xs=ys:=by
 obtain ⟨its,r,⟨o,n,e,_,_,d⟩,_⟩:=I.list h
 obtain ⟨its',r',⟨o',n',e',_,_,d'⟩,_⟩:=I.list h'
 rw [e] at e';cases e'
 rw [d] at d'
 injection d' with d1 _
 have:its=its':=by simpa using congrArg Array.toList d1
 subst this
 exact r.inj r'
end
abbrev Cx.Hl (X:Cx) (E:Value→Shared→Prop):Cx:={ X with xe:=E }
abbrev Cx.nox (X:Cx):Cx:=X.Hl fun _ _=>False
theorem Cx.Ok.Hl {X:Cx}(ok:X.Ok) (E:Value→Shared→Prop):(X.Hl E).Ok :=
 ⟨ok.mod,ok.kind,ok.glob,ok.blt,ok.above,ok.inj,ok.has,ok.cab,ok.hd,ok.frames,ok.stk,ok.exf,ok.bs,ok.bsz,ok.Mo,ok.M8,ok.GI,ok.frf⟩
theorem Cx.Ok.EZ {X:Cx}{E:Value→Shared→Prop}(ok:(X.Hl E).Ok):X.Ok :=
 ⟨ok.mod,ok.kind,ok.glob,ok.blt,ok.above,ok.inj,ok.has,ok.cab,ok.hd,ok.frames,ok.stk,ok.exf,ok.bs,ok.bsz,ok.Mo,ok.M8,ok.GI,ok.frf⟩
section
variable {X:Cx}{pins:List (Addr×Obj)}{σ:St}{H:Hp}{s:Shared}{E:Value→Shared→Prop}
theorem Inv.Hl (I:Inv X pins σ H s) (E:Value→Shared→Prop):Inv (X.Hl E) pins σ H s:=⟨I.ok.Hl E,I.os,I.bare,I.base,I.loc,I.cell,I.free,I.El,I.pin,I.hok,I.len⟩
theorem Inv.EZ (I:Inv (X.Hl E) pins σ H s):Inv X pins σ H s:=⟨I.ok.EZ,I.os,I.bare,I.base,I.loc,I.cell,I.free,I.El,I.pin,I.hok,I.len⟩
theorem SP.EZ {D:Ends}{f:Flow}{s':Shared}(h:SP (X.Hl E) pins D f s'):SP X pins D f s':=by
 cases f with
 | next=>obtain ⟨σ',H',I,q⟩:=h;exact ⟨σ',H',I.EZ,q⟩
 | brk=>obtain ⟨σ',H',I,q⟩:=h;exact ⟨σ',H',I.EZ,q⟩
 | cont=>obtain ⟨σ',H',I,q⟩:=h;exact ⟨σ',H',I.EZ,q⟩
 | ret u=>obtain ⟨v,σ',H',I,r,q⟩:=h;exact ⟨v,σ',H',I.EZ,r,q⟩
theorem PSs.nox {st:List Stmt}{t:TS}(h:PSs X.nox st t):PSs X st t:=fun pins s σ H D I hw =>
 wpAny_mono (h pins s σ H D (I.Hl _) hw) (fun _ _ q=>q.EZ) fun _ _ z=>False.elim z
end
section
variable {X:Cx}{st:Stmt}{rest:List Stmt}{t u:TS}{e:Expr}{te:TE}{pos:Pos}
def Lf:TS:=fun D σ H=>D.nx σ H
def RA (t u:TS):TS:=fun D σ H=>t { D with nx:=u D } σ H
theorem Aa:PSs X [] Lf:=fun _ _ σ H _ I h=>wpAny_execs_nil ⟨σ,H,I,h⟩
theorem AF (h1:PS X st t) (h2:PSs X rest u):PSs X (st::rest) (RA t u):=by
 intro pins s σ H D I h
 refine wpAny_execs_cons (thn (h1 pins s σ H { D with nx:=u D } I h) fun f s1 q=>?_)
 cases f with
 | next =>
  obtain ⟨σ',H',I',q⟩:=q
  exact h2 pins s1 σ' H' D I' q
 | ret v=>exact q
 | brk=>exact q
 | cont=>exact q
theorem AH (h1:PS X st t):PSs X [st] t:=by
 intro pins s σ H D I h
 refine wpAny_execs_cons (thn (h1 pins s σ H D I h) fun f s1 q=>?_)
 cases f with
 | next=>exact wpAny_execs_nil q
 | ret v=>exact q
 | brk=>exact q
 | cont=>exact q
theorem Inv.quiet {pins:List (Addr×Obj)}{σ:St}{H:Hp}{s:Shared}(I:Inv X pins σ H s):interactive X.env=false:=by simp [interactive,I.ok.kind]
def RE (te:TE):TS:=fun D σ H=>te σ H fun _ H1=>D.nx σ H1
theorem CD (he:PE X e te) (hs:swapsWith e none pos.line X.env=pure false:=by rfl):PS X (.Expr e pos) (RE te):=by
 intro pins s σ H D I h
 exact wpAny_Expr_any (thn (he pins s σ H _ I h) fun v s1 ⟨x,H1,I1,r1,q1⟩=>⟨σ,H1,I1,q1⟩) I.quiet hs
def Rw (te:TE):TS:=fun D σ H=>te σ H D.rt
theorem AW (he:PE X e te):PS X (.Return (some e) pos) (Rw te):=by
 intro pins s σ H D I h
 exact wpAny_Return_some (thn (he pins s σ H _ I h) fun v s1 ⟨x,H1,I1,r1,q1⟩=>⟨x,σ,H1,I1,r1,q1⟩)
def O8 (c:TT) (t u:TS):TS:=fun D σ H=>c σ H fun b H1=>if b=true then t D σ H1 else u D σ H1
theorem Aq {c:Expr}{a b:List Stmt}{tc:TT}(hc:PT X c tc) (ha:PSs X a t) (hb:PSs X b u):PS X (.If c a b pos) (O8 tc t u):=by
 intro pins s σ H D I h
 refine wpAny_If (thn (hc pins s σ H _ I h) fun d s1 ⟨H1,I1,q1⟩=>?_)
 cases d with
 | true=>exact ha pins s1 σ H1 D I1 q1
 | false=>exact hb pins s1 σ H1 D I1 q1
end
abbrev TG:=V→St→Hp→(St→Hp→Prop)→Prop
abbrev TGs:=List V→St→Hp→(St→Hp→Prop)→Prop
def PG (X:Cx) (target:Expr) (t:TG):Prop :=
 ∀(pins:List (Addr×Obj)) (s:Shared) (σ:St) (H:Hp) (v:V) (u:Value) (Q:St→Hp→Prop),Inv X pins σ H s→RelV v u→t v σ H Q →
  wpAny (model X.prog X.w) X.A (assign target X.env u) (fun _ s'=>∃σ' H',Inv X pins σ' H' s'/\Q σ' H') X.xe s
def PGs (X:Cx) (ts:List Expr) (t:TGs):Prop :=
 ∀(pins:List (Addr×Obj)) (s:Shared) (σ:St) (H:Hp) (vs:List V) (us:List Value) (Q:St→Hp→Prop),Inv X pins σ H s→Vals vs us→t vs σ H Q →
  wpAny (model X.prog X.w) X.A (assignInOrder ((assignEach ts X.env).map (·.2)) us) (fun _ s'=>∃σ' H',Inv X pins σ' H' s'/\Q σ' H') X.xe s
section
variable {X:Cx}{pos:Pos}
def DI (i:Nat):TG:=fun v σ H Q=>Q (σ.set i (some v)) H
theorem Au {i:Nat}{x:Str}(hN:X.N.Nodup) (hi:X.N[i]?=some x) (hx:Loc X.env.scope x) (hf:X.fn x=true\/X.env.scope.names.lookup x=some .local:=by first|exact .inl rfl|exact .inr rfl|assumption):PG X (.Name x pos) (DI i):=by
 intro pins s σ H v u Q I r h
 exact wpAny_assign_Name (FY I hN hi hx r (fun s' I'=>⟨_,H,I',h⟩) hf)
def Rm:TGs:=fun vs σ H Q=>vs=[]/\Q σ H
def L5 (t:TG) (u:TGs):TGs:=fun vs σ H Q=>∃v r,vs=v::r/\t v σ H fun σ' H'=>u r σ' H' Q
theorem Ff:PGs X [] Rm:=by
 intro pins s σ H vs us Q I r h
 obtain ⟨e,h⟩:=h
 subst e
 cases r
 exact assignInOrder_nil ⟨σ,H,I,h⟩
theorem BA {e:Expr}{es:List Expr}{t:TG}{u:TGs}(h1:PG X e t) (h2:PGs X es u)
  (hs:(assignEach (e::es) X.env).map (·.2)=assign e X.env::(assignEach es X.env).map (·.2):=by rfl):PGs X (e::es) (L5 t u):=by
 intro pins s σ H vs us Q I r h
 obtain ⟨v,vr,e1,h⟩:=h
 subst e1
 cases r with
 | cons r rr =>
  rw [hs]
  refine assignInOrder_cons (thn (h1 pins s σ H _ _ _ I r h) fun _ s1 ⟨σ1,H1,I1,q1⟩=>?_)
  exact h2 pins s1 σ1 H1 _ _ Q I1 rr q1
def Rk (K:PySem.W.Frag) (n:Nat) (t:TGs):TG:=fun v σ H Q=>∃a xs,v=.ref a/\SqT K H a xs/\xs.length=n/\t xs σ H Q
theorem G9 {es:List Expr}{k:Nat}{t:TGs}{n:Nat}(hc:X.calm=true) (h:PGs X es t)
  (hn:(assignEach es X.env).length=n:=by rfl) (hst:(assignEach es X.env).findIdx? (·.1)=none:=by rfl):PG X (.Tuple es k pos) (Rk X.K n t):=by
 intro pins s σ H v u Q I r hw
 obtain ⟨a,xs,e1,hq,hl,hw⟩:=hw
 subst e1
 cases r
 obtain ⟨its,rv,ht,hz⟩:=I.tuple hq
 refine assign_Tuple_tuple (I.ok.hd hc) ht (by simp [hn,←hl,rv.length]) hst fun h' hx=>?_
 have I1:Inv X pins σ H { s with heap:=h' }:=I.kept (t':=s.toks) fun b o e=>hx b o (Nat.ne_of_lt (Heap.lt_size e)) e
 exact h pins _ σ H xs _ Q I1 (by simpa using rv) hw
def K4 (te:TE) (g:TG):TS:=fun D σ H=>te σ H fun x H1=>g x σ H1 D.nx
theorem AQ {i:Nat}{x:Str}{e:Expr}{te:TE}{pos':Pos}(hN:X.N.Nodup) (hi:X.N[i]?=some x) (hx:Loc X.env.scope x) (he:PE X e te) (hs:swapsWith e (some (.Name x pos')) pos.line X.env=pure false:=by rfl) (hf:X.fn x=true\/X.env.scope.names.lookup x=some .local:=by first|exact .inl rfl|exact .inr rfl|assumption) :
  PS X (.Assign [.Name x pos'] e pos) (K4 te (DI i)):=by
 intro pins s σ H D I h
 refine wpAny_Assign_Name (thn (he pins s σ H _ I h) fun v s1 ⟨y,H1,I1,r1,q1⟩=>?_) hs
 exact FY I1 hN hi hx r1 (fun s2 I2=>⟨_,H1,I2,q1⟩) hf
def Rx (i j:Nat) (ta:TA):TS:=fun D σ H=>ta σ H fun vs H1=>∃v w,vs=[v,w]/\D.nx ((σ.set i (some v)).set j (some w)) H1
theorem Qc {i j:Nat}{x y:Str}{a b:Expr}{ta:TA}{px py pt:Pos}{kt k2 pt2}(hc:X.calm=true) (hN:X.N.Nodup) (hi:X.N[i]?=some x) (hj:X.N[j]?=some y) (hij:i≠j)
  (hx:X.env.scope.names.lookup x=some .local) (hy:X.env.scope.names.lookup y=some .local) (ha:PA X [a,b] ta)
  (hw:swappedStores [.Tuple [.Name x px,.Name y py] kt pt] (.Tuple [a,b] k2 pt2) X.env=pure (some [x,y]))
  (hs:swapsWithSole [.Tuple [.Name x px,.Name y py] kt pt] (.Tuple [a,b] k2 pt2) pos.line X.env=pure false:=by rfl) :
  PS X (.Assign [.Tuple [.Name x px,.Name y py] kt pt] (.Tuple [a,b] k2 pt2) pos) (Rx i j ta):=by
 intro pins s σ H D I h
 rw [exec_Assign_arm]
 refine wpAny_bind (wpAny_standAt ?_)
 rw [hs]
 refine wpAny_bind (wpAny_pure ?_)
 rw [if_neg (by decide)]
 refine wpAny_bind (Tuple_ (thn (ha _ pins s σ H _ I h) fun us s1 ⟨vs,H1,I1,r1,q1⟩=>?_))
 obtain ⟨v,w,e1,q1⟩:=q1
 subst e1
 obtain ⟨u1,u2,rfl,rv,rw'⟩:∃u1 u2,us=[u1,u2]/\RelV v u1/\RelV w u2:=by
  cases r1 with
  | cons p q =>
   cases q with
   | cons p' q' =>
    cases q'
    exact ⟨_,_,rfl,p,p'⟩
 refine wpAny_newObj_type ?_ (by show 2≤sizeLine;decide)
 have I2:Inv X pins σ H1 { s1 with heap:=s1.heap.push { cls:=.type "tuple", data:=.seq [u1,u2].toArray } }:=I1.kept (t':=s1.toks) fun b o e=>Heap.get?_push_of_some _ e
 rw [hw]
 refine wpAny_bind (wpAny_pure ?_)
 show wpAny (model X.prog X.w) X.A (do rule "assign.swapped-stores";let items ← unpackItems (.ref s1.heap.objs.size) 2 none;assignInOrder [fun v=>bindName X.env y v,fun v=>bindName X.env x v] items.reverse;pure Flow.next) _ _ _
 refine wpAny_bind (wpAny_rule (wpAny_bind (unpackItems_tuple (items:=#[u1,u2]) (I.ok.hd hc) (IsTup.new s1.heap _) fun h' hx'=>?_)))
 have I3:=I2.kept (h':=h') (t':=s1.toks) fun b o e=>hx' b o (Nat.ne_of_lt (Heap.lt_size e)) e
 show wpAny _ _ (assignInOrder [fun v=>bindName X.env y v,fun v=>bindName X.env x v] [u2,u1] >>= fun _=>pure Flow.next) _ _ _
 refine wpAny_bind (assignInOrder_cons (wpAny_bindName (FY I3 hN hj (.inl hy) rw' (fun s2 I4=>?_) (.inr hy))))
 refine assignInOrder_cons (wpAny_bindName (FY I4 hN hi (.inl hx) rv (fun s3 I5=>assignInOrder_nil (wpAny_pure ?_)) (.inr hx)))
 rw [List.set_comm _ _ (Ne.symm hij)] at I5
 exact ⟨_,H1,I5,q1⟩
end
section
variable {X:Cx}{pos:Pos}
def Na (c:TT) (tb:TS):TS:=fun D σ H=>∃W:Nat→St→Hp→Prop,(∃m,W m σ H)/\∀m σ H,W m σ H →
 c σ H fun b H1=>if b=true then ∃N:St→Hp→Prop,(∀σ' H',N σ' H'→∃m',m'<m/\W m' σ' H')/\tb { D with nx:=N,ct:=N,bk:=D.nx } σ H1 else D.nx σ H1
theorem Ny {c:Expr}{body:List Stmt}{tc:TT}{tb:TS}(hp:PassesOwn (model X.prog X.w) X.A X.env X.xe) (hc:PT X c tc) (hb:PSs X body tb):PS X (.While c body [] pos) (Na tc tb):=by
 intro pins s σ H D I h
 obtain ⟨W,⟨m0,w0⟩,turn⟩:=h
 refine wpAny_While (codeAny_whileLoop (fun n s'=>∃σ' H',Inv X pins σ' H' s'/\W n σ' H') ?_ m0 ⟨σ,H,I,w0⟩)
 rintro n s1 ⟨σ1,H1,I1,w1⟩
 refine wpAny_passesOwn hp (thn (hc pins s1 σ1 H1 _ I1 (turn n σ1 H1 w1)) fun b s2 ⟨H2,I2,q2⟩=>?_)
 cases b with
 | true =>
  obtain ⟨N,hN,q2⟩:=q2
  rw [if_pos rfl]
  refine wpAny_passesOwn hp (thn (hb pins s2 σ1 H2 _ I2 q2) fun f s3 q3=>?_)
  cases f with
  | next =>
   obtain ⟨σ3,H3,I3,n3⟩:=q3
   obtain ⟨m',hm,w3⟩:=hN σ3 H3 n3
   exact ⟨m',hm,σ3,H3,I3,w3⟩
  | cont =>
   obtain ⟨σ3,H3,I3,n3⟩:=q3
   obtain ⟨m',hm,w3⟩:=hN σ3 H3 n3
   exact ⟨m',hm,σ3,H3,I3,w3⟩
  | brk=>exact q3
  | ret v=>exact q3
 | false =>
  rw [if_neg Bool.false_ne_true]
  exact wpAny_execs_nil ⟨σ1,H2,I2,q2⟩
end
structure It where
 go:Nat→Hp→Prop
 yld:Nat→Hp→V→Hp→Prop
 stop:Nat→Hp→Prop
def Kw (X:Cx) (pins:List (Addr×Obj)) (H:Hp) (b:Addr):Prop :=
 H b=none/\b≠X.env.locals/\b∉X.fs/\(b∈X.ex\/X.s₀.heap.objs.size≤b)/\(∀x c,X.env.cells.lookup x=some c→c≠b)/\∀p∈X.pn++pins,p.1≠b
theorem Inv.Pw {X:Cx}{pins:List (Addr×Obj)}{σ:St}{H H':Hp}{s:Shared}{b:Addr}(I:Inv X pins σ H s) (hb:s.heap.objs.size≤b) (hn:H' b=none):Kw X pins H' b:=by
 refine ⟨hn,Nat.ne_of_gt (Nat.lt_of_lt_of_le I.lt hb),I.SH hb,.inr (Nat.le_trans I.sz hb),fun x c e z=>?_,fun p hp z=>?_⟩
 ·obtain ⟨v,q⟩:=I.cell x c e
  exact absurd (Nat.lt_of_lt_of_le q.lt (by rw [z];exact hb)) (Nat.lt_irrefl _)
 ·exact absurd (Nat.lt_of_lt_of_le (Heap.lt_size (I.pin p hp).1) (by rw [z];exact hb)) (Nat.lt_irrefl _)
structure Turn (P:Program) (w:World) (K:PySem.W.Frag) (tg:Expr) (J:It) (fp:List Addr) (it:Addr) (tn:Nat→Heap→Prop):Prop where
 mem:it∈fp
 obj:∀i h,tn i h→∀b∈fp,∃o,h.get? b=some o/\∀v,o.data≠.cell v
 keep:∀i h h',tn i h→(∀b∈fp,∀o,h.get? b=some o→h'.get? b=some o)→tn i h'
 item:∀(X:Cx),X.prog=P→X.w=w→X.K=K→X.calm=true→∀(i:Nat) (pins:List (Addr×Obj)) (s:Shared) (σ:St) (H:Hp) (E:Value→Shared→Prop),Inv X pins σ H s→(∀b∈fp,Kw X pins H b)→tn i s.heap→J.go i H →
  wpAny (model P w) X.A (pyNext (.ref it)) (fun r s1=>∃u,r=some u /\
   wpAny (model P w) X.A (letOwnedTupleGo tg (.ref it) u) (fun _ s2=>∃x H',Inv X pins σ H' s2/\RelV x u/\J.yld i H x H'/\tn (i+1) s2.heap/\∀b∈fp,H' b=none) E s1) E s
 done:∀(X:Cx),X.prog=P→X.w=w→X.K=K→X.calm=true→∀(i:Nat) (pins:List (Addr×Obj)) (s:Shared) (σ:St) (H:Hp) (E:Value→Shared→Prop),Inv X pins σ H s→(∀b∈fp,Kw X pins H b)→tn i s.heap→J.stop i H →
  wpAny (model P w) X.A (pyNext (.ref it)) (fun r s1=>r=none/\Inv X pins σ H s1) E s
 self:∀(A:Around) (i:Nat) (s:Shared) (Q:Value→Shared→Prop) (E:Value→Shared→Prop),tn i s.heap→Q (.ref it) s→wpAny (model P w) A (pyIter (.ref it)) Q E s
abbrev TI:=St→Hp→(It→Hp→Prop)→Prop
def PIE (X:Cx) (pins:List (Addr×Obj)) (σ:St) (tg:Expr) (R:It→Hp→Prop) (itv:Value) (s2:Shared):Prop :=
 ∃(it:Addr) (fp:List Addr) (tn:Nat→Heap→Prop) (J:It) (H':Hp),itv=.ref it/\Inv X pins σ H' s2/\Turn X.prog X.w X.K tg J fp it tn/\tn 0 s2.heap/\(∀b∈fp,Kw X pins H' b)/\R J H'
def PI (X:Cx) (tg iter:Expr) (wi:TI):Prop :=
 ∀(pins:List (Addr×Obj)) (s:Shared) (σ:St) (H:Hp) (R:It→Hp→Prop),Inv X pins σ H s→wi σ H R →
  wpAny (model X.prog X.w) X.A (eval iter X.env) (fun v s1=>wpAny (model X.prog X.w) X.A (pyIter v) (PIE X pins σ tg R) X.xe s1) X.xe s
theorem QI {M:Model}{A:Around}{E:Value→Shared→Prop}{s:Shared}{tg:Expr}{it:Addr}{u:Value}{o:Obj}{n:String}{vs:Array Value}{Q:Unit→Shared→Prop}(ho:s.heap.get? it=some o) (hc:o.cls=.type n) (hd:o.data=.fields vs)
    (hn:["enumerate", "zip", "dict_itemiterator", "dict_reverseitemiterator", "odict_iterator", "itertools.zip_longest", "itertools.pairwise"].contains n=false) (hQ:Q () s):wpAny M A (letOwnedTupleGo tg (.ref it) u) Q E s:=by
  unfold letOwnedTupleGo
  cases tg <;> first
    | exact wpAny_pure hQ
    | (cases u <;> first
        | exact wpAny_pure hQ
        | (refine wpAny_bind (wpAny_load ho ?_)
           rw [hc,hd]
           show wpAny M A (if (["enumerate", "zip", "dict_itemiterator", "dict_reverseitemiterator", "odict_iterator", "itertools.zip_longest", "itertools.pairwise"].contains n&&vs[0]?==some (rawInt _))=true then _ else _) Q E s
           rw [if_neg (by intro h;rw [hn,Bool.false_and] at h;cases h)]
           exact wpAny_pure hQ))
def Itl (K:PySem.W.Frag) (a:Addr):It :=
 ⟨fun i H=>∃xs x,SqL K H a xs/\xs[i]?=some x,fun i H x H'=>H'=H/\∀xs,SqL K H a xs→xs[i]?=some x,fun i H=>∃xs,SqL K H a xs/\xs.length≤i⟩
def Itr (lo:Int) (n:Nat):It:=⟨fun i _=>i<n,fun i H x H'=>H'=H/\x=.int (lo+i),fun i _=>n≤i⟩
theorem MT {P:Program}{w:World}{K:PySem.W.Frag}{tg:Expr}(a it:Addr):Turn P w K tg (Itl K a) [it] it (fun i h=>h.IsListIter it a i) where
 mem:=by simp
 obj:=fun i h st b hb=>by
  have e:b=it:=by simpa using hb
  subst e
  obtain ⟨o,e,c,d⟩:=st
  exact ⟨o,e,fun v z=>by rw [d] at z;cases z⟩
 keep:=fun i h h' st k=>st.at fun o e=>k it (by simp) o e
 item:=by
  intro X hP hw hK hc i pins s σ H E I hf st hg
  subst hP hw hK
  obtain ⟨xs,x,hq,hx⟩:=hg
  obtain ⟨its,rv,p,hz⟩:=I.list hq
  obtain ⟨u,hu,ru⟩:=rv.get hx
  obtain ⟨f0,f1,f2,f3,f4,f5⟩:=hf it (by simp)
  refine wpAny_pyNext_list_item st p.isList (x:=u) (by simpa using hu) fun h' st' sb=>?_
  have I1:Inv X pins σ H { s with heap:=h' }:=I.turned (t':=s.toks) (fun b o hb e=>(sb.2 b hb).trans e) f0 f1 f3 f4 f5
  obtain ⟨o,e,c,d⟩:=id st'
  exact ⟨u,rfl,QI (s:={ s with heap:=h' }) e c d (by decide) ⟨x,H,I1,ru,⟨rfl,fun ys hy=>by rw [I.KW hy hq];exact hx⟩,st',fun b hb=>(hf b hb).1⟩⟩
 done:=by
  intro X hP hw hK hc i pins s σ H E I hf st hg
  subst hP hw hK
  obtain ⟨xs,hq,hx⟩:=hg
  obtain ⟨its,rv,p,hz⟩:=I.list hq
  obtain ⟨f0,f1,f2,f3,f4,f5⟩:=hf it (by simp)
  have hl:=rv.length
  exact wpAny_pyNext_list_end (I.ok.hd hc) st p.isList (by simp;omega) fun h' eb=>⟨rfl,I.turned (t':=s.toks) (fun b o hb e=>eb b o hb e) f0 f1 f3 f4 f5⟩
 self:=fun _ _ _ _ _ st h=>wpAny_pyIter_listiter st h
theorem Kz {P:Program}{w:World}{K:PySem.W.Frag}{tg:Expr}(it:Addr) (lo:Int) (n:Nat):Turn P w K tg (Itr lo n) [it] it (fun i h=>IsRangeIter h it (lo+(i:Nat) * 1) ((n:Int)-(i:Nat)) 1) where
 mem:=by simp
 obj:=fun i h st b hb=>by
  have e:b=it:=by simpa using hb
  subst e
  exact ⟨_,st,fun v z=>by
   have z':Data.fields _=Data.cell v:=z
   cases z'⟩
 keep:=fun i h h' st k=>k it (by simp) _ st
 item:=by
  intro X hP hw hK hc i pins s σ H E I hf st hg
  subst hP hw hK
  obtain ⟨f0,f1,f2,f3,f4,f5⟩:=hf it (by simp)
  have W:=Walks.range (prog:=X.prog) (w:=X.w) (I.ok.hd hc) it lo 1 n
  refine W.item i s _ _ hg st fun v h' tk hv st' kk=>?_
  obtain ⟨t,rfl⟩:=hv
  have I1:Inv X pins σ H { s with heap:=h',toks:=tk }:=I.turned (fun b o hb e=>kk b o (by simpa using hb) e) f0 f1 f3 f4 f5
  refine ⟨_,rfl,QI (s:={ s with heap:=h',toks:=tk }) (n := "range_iterator") st' rfl rfl (by decide) ⟨.int (lo+i),H,I1,⟨t,?_⟩,⟨rfl,rfl⟩,st',fun b hb=>(hf b hb).1⟩⟩
  rw [Int.mul_one]
 done:=by
  intro X hP hw hK hc i pins s σ H E I hf st hg
  subst hP hw hK
  obtain ⟨f0,f1,f2,f3,f4,f5⟩:=hf it (by simp)
  exact wpAny_pyNext_range_end (I.ok.hd hc) st (by have:n≤i:=hg;omega) fun h' eb=>⟨rfl,I.turned (t':=s.toks) (fun b o hb e=>eb b o hb e) f0 f1 f3 f4 f5⟩
 self:=fun _ _ _ _ _ st h=>wpAny_pyIter_rangeiter st h
end L2
namespace L2
open PySem PySem.Spec PyProof.Rows
section
variable {X:Cx}{tg:Expr}
def QH (K:PySem.W.Frag) (tl:TE):TI:=fun σ H R=>tl σ H fun x H1=>∃a,x=.ref a/\(∃xs,SqL K H1 a xs)/\R (Itl K a) H1
theorem Pb {l:Expr}{tl:TE}(hl:PE X l tl):PI X tg l (QH X.K tl):=by
 intro pins s σ H R I h
 refine thn (hl pins s σ H _ I h) fun v s1 ⟨x,H1,I1,r1,q1⟩=>?_
 obtain ⟨a,e,⟨xs,hq⟩,q⟩:=q1
 subst e
 cases r1
 obtain ⟨its,rv,p,hz⟩:=I1.list hq
 refine wpAny_pyIter_list p.isList ?_
 refine ⟨s1.heap.objs.size,[s1.heap.objs.size],_,_,H1,rfl,I1.kept (t':=s1.toks) fun b o e=>Heap.get?_push_of_some _ e,MT a _,⟨_,Heap.get?_push_size _ rfl,rfl,rfl⟩,fun b hb=>?_,q⟩
 have e:b=s1.heap.objs.size:=by simpa using hb
 subst e
 exact I1.Pw (Nat.le_refl _) (I1.hok.fresh (Nat.le_refl _))
theorem Nr {pins:List (Addr×Obj)}{σ:St}{H:Hp}{s:Shared}{R:It→Hp→Prop}{E:Value→Shared→Prop}{lo hi:Int}{t u v:Tok}{tk:Nat}(I:Inv X pins σ H s) (h1:-(2 ^ 62)≤lo) (h2:lo<2 ^ 62) (h3:-(2 ^ 62)≤hi) (h4:hi<2 ^ 62)
  (q:R (Itr lo (hi-lo).toNat) H):wpAny (model X.prog X.w) X.A (pyIter (.ref s.heap.objs.size)) (PIE X pins σ tg R) E { s with heap:=s.heap.push { cls:=.type "range", data:=.fields #[.int lo t,.int hi u,.int 1 v] },toks:=tk }:=by
 refine wpAny_pyIter_range (IsRange.new ..) (small_one h1 h2 h3 h4) ?_
 have I1:Inv X pins σ H { s with heap:=s.heap.push { cls:=.type "range", data:=.fields #[.int lo t,.int hi u,.int 1 v] },toks:=tk }:=I.kept fun b o e=>Heap.get?_push_of_some _ e
 refine ⟨(s.heap.push { cls:=.type "range", data:=.fields #[.int lo t,.int hi u,.int 1 v] }).objs.size,[(s.heap.push { cls:=.type "range", data:=.fields #[.int lo t,.int hi u,.int 1 v] }).objs.size],_,_,H,rfl,
  I1.kept (t':=tk) fun b o e=>Heap.get?_push_of_some _ e,Kz _ lo (hi-lo).toNat,?_,fun b hb=>?_,q⟩
 ·have e1:lo+((0:Nat):Int) * 1=lo:=by simp
  have e2:(((hi-lo).toNat:Nat):Int)-((0:Nat):Int)=Builtin.Range.rangeSize lo hi 1:=by rw [rangeSize_one];split <;> omega
  show IsRangeIter _ _ (lo+((0:Nat):Int) * 1) ((((hi-lo).toNat:Nat):Int)-((0:Nat):Int)) 1
  rw [e1,e2]
  exact Heap.get?_push_size _ rfl
 ·have e:b=(s.heap.push { cls:=.type "range", data:=.fields #[.int lo t,.int hi u,.int 1 v] }).objs.size:=by simpa using hb
  subst e
  exact I1.Pw (Nat.le_refl _) (I1.hok.fresh (Nat.le_refl _))
def Ri (ta:TA):TI:=fun σ H R=>ta σ H fun vs H1=>∃j:Int,vs=[.int j]/\-(2 ^ 62)≤j/\j<2 ^ 62/\R (Itr 0 j.toNat) H1
theorem Dr {a:Expr}{ta:TA}{p pos:Pos}(hg:Gl X "range") (hm:X.mg "range" = none) (ha:PA X [a] ta) (hs:starEach [a] X.env=[(false,eval a X.env)]:=by rfl):PI X tg (.Call (.Name "range" p) [a] [] pos) (Ri ta):=by
 intro pins s σ H R I h
 refine Call_ (FP I hg hm boot_range (PyProof.Rows.callWith_type1 (thn (ha pos pins s σ H _ I h) fun us s1 ⟨vs,H1,I1,r1,q1⟩=>?_) hs rfl))
 obtain ⟨j,e,q1,q2,q⟩:=q1
 subst e
 cases r1 with
 | cons r rr =>
  cases rr
  obtain ⟨t,rfl⟩:=r
  exact call_range_1 (Nr I1 (by omega) (by omega) q1 q2 (by simpa using q))
def R4 (wi:TI) (g:TG) (tb:TS):TS:=fun D σ H=>wi σ H fun J H1=>∃W:Nat→Nat→St→Hp→Prop,(∃m,W 0 m σ H1)/\∀i m σ H,W i m σ H →
 (J.stop i H/\D.nx σ H)\/(J.go i H/\∃N:St→Hp→Prop,(∀σ' H',N σ' H'→∃m',m'<m/\W (i+1) m' σ' H')/\∀x H',J.yld i H x H'→g x σ H' fun σ2 H2=>tb { D with nx:=N,ct:=N,bk:=D.nx } σ2 H2)
def GB (fp:List Addr) (h:Heap):List (Addr×Obj):=fp.filterMap fun b=>(h.get? b).map fun o=>(b,o)
theorem EC {fp:List Addr}{h:Heap}{b:Addr}{o:Obj}(hb:b∈fp) (e:h.get? b=some o):(b,o)∈GB fp h:=List.mem_filterMap.mpr ⟨b,hb,by rw [e];rfl⟩
theorem Mn {fp:List Addr}{h:Heap}{p:Addr×Obj}(hp:p∈GB fp h):p.1∈fp/\h.get? p.1=some p.2:=by
 obtain ⟨b,hb,e⟩:=List.mem_filterMap.mp hp
 cases q:h.get? b with
 | none=>rw [q] at e;cases e
 | some o =>
  rw [q] at e
  have e':(b,o)=p:=Option.some.inj e
  subst e'
  exact ⟨hb,q⟩
theorem Inv.pinned {pins:List (Addr×Obj)}{σ:St}{H:Hp}{s:Shared}{fp:List Addr}(I:Inv X pins σ H s) (hf:∀b∈fp,Kw X pins H b) (ho:∀b∈fp,∃o,s.heap.get? b=some o/\∀v,o.data≠.cell v):Inv X (pins++GB fp s.heap) σ H s :=
 I.DX fun p hp=>(List.mem_append.mp hp).elim (fun z=>I.pin p (List.mem_append_right _ z)) fun z=>by
  obtain ⟨hb,e⟩:=Mn z
  obtain ⟨f0,f1,f2,_⟩:=hf p.1 hb
  obtain ⟨o,e',d⟩:=ho p.1 hb
  rw [e] at e';cases e'
  exact ⟨e,f0,f1,f2,d⟩
theorem Inv.Gn {pins pl:List (Addr×Obj)}{σ:St}{H:Hp}{s:Shared}(I:Inv X (pins++pl) σ H s):Inv X pins σ H s:=I.DX fun p hp=>I.pin p (List.mem_append_right _ (List.mem_append_left _ hp))
theorem Cs {iter:Expr}{body:List Stmt}{wi:TI}{g:TG}{tb:TS}{pos:Pos}(hp:PassesOwn (model X.prog X.w) X.A X.env X.xe) (hc:X.calm=true) (hi:PI X tg iter wi) (hg:PG X tg g) (hb:PSs X body tb)
  (hs:∀x,foldedSetIterable iter X.env x=pure x:=by intro _;rfl):PS X (.For tg iter body [] pos) (R4 wi g tb):=by
 intro pins s σ H D I h
 refine wpAny_For (thn (hi pins s σ H _ I h) fun v s1 h1=>thn h1 fun itv s2 h2=>?_) hs
 obtain ⟨it,fp,tn,J,H2,e,I2,T,st2,f2,W,⟨m0,w0⟩,turn⟩:=h2
 subst e
 have stat:∀{H':Hp},(∀b∈fp,H' b=none)→∀b∈fp,Kw X pins H' b:=fun hn b hb=>⟨hn b hb,(f2 b hb).2⟩
 refine codeAny_forLoop_any (fun n s'=>∃i σ' H',Inv X pins σ' H' s'/\tn i s'.heap/\(∀b∈fp,H' b=none)/\W i n σ' H') ?_ m0 ⟨0,σ,H2,I2,st2,fun b hb=>(f2 b hb).1,w0⟩
 rintro n s3 ⟨i,σ3,H3,I3,st3,fr3,w3⟩
 rcases turn i n σ3 H3 w3 with ⟨stop,qn⟩|⟨go,N,hN,step⟩
 ·refine wpAny_passesOwn hp (thn (T.done X rfl rfl rfl hc i pins s3 σ3 H3 X.xe I3 (stat fr3) st3 stop) fun r s4 ⟨hr,I4⟩=>?_)
  subst hr
  exact wpAny_execs_nil ⟨σ3,H3,I4,qn⟩
 ·refine wpAny_passesOwn hp (thn (T.item X rfl rfl rfl hc i pins s3 σ3 H3 X.xe I3 (stat fr3) st3 go) fun r s4 ⟨u,hr,h4⟩=>?_)
  subst hr
  refine wpAny_passesOwn hp (thn h4 fun _ s5 ⟨x,H5,I5,r5,y5,st5,fr5⟩=>?_)
  have I5':=I5.pinned (stat fr5) (T.obj _ _ st5)
  refine wpAny_passesOwn hp (thn (hg _ s5 σ3 H5 x u _ I5' r5 (step x H5 y5)) fun _ s6 ⟨σ6,H6,I6,q6⟩=>?_)
  refine wpAny_passesOwn hp (thn (hb _ s6 σ6 H6 _ I6 q6) fun f s7 q7=>?_)
  have again:∀{σ7:St} {H7:Hp},Inv X (pins++GB fp s5.heap) σ7 H7 s7→N σ7 H7→∃m,m<n/\∃i σ' H',Inv X pins σ' H' s7/\tn i s7.heap/\(∀b∈fp,H' b=none)/\W i m σ' H':=fun {σ7 H7} I7 n7=>by
   obtain ⟨m',hm,w7⟩:=hN σ7 H7 n7
   refine ⟨m',hm,i+1,σ7,H7,I7.Gn,T.keep _ _ _ st5 fun b hb o e=>(I7.pin (b,o) (List.mem_append_right _ (List.mem_append_right _ (EC hb e)))).1,fun b hb=>?_,w7⟩
   obtain ⟨o,e,d⟩:=T.obj _ _ st5 b hb
   exact (I7.pin (b,o) (List.mem_append_right _ (List.mem_append_right _ (EC hb e)))).2.1
  cases f with
  | next=>obtain ⟨σ7,H7,I7,n7⟩:=q7;exact again I7 n7
  | cont=>obtain ⟨σ7,H7,I7,n7⟩:=q7;exact again I7 n7
  | brk=>obtain ⟨σ7,H7,I7,q7⟩:=q7;exact ⟨σ7,H7,I7.Gn,q7⟩
  | ret v=>obtain ⟨x7,σ7,H7,I7,r7,q7⟩:=q7;exact ⟨x7,σ7,H7,I7.Gn,r7,q7⟩
end
theorem DJ {K:PySem.W.Frag}{a:Addr}{xs:List V}{g:TG}{tb:TS}{D:Ends}{σ:St}{H:Hp}(Pv:Nat→St→Hp→Prop) (h0:Pv 0 σ H) (hl:∀i σ H,i≤xs.length→Pv i σ H→SqL K H a xs)
  (hs:∀i x σ H,xs[i]?=some x→Pv i σ H→g x σ H fun σ2 H2=>tb { D with nx:=Pv (i+1),ct:=Pv (i+1),bk:=D.nx } σ2 H2) (hd:∀σ H,Pv xs.length σ H→D.nx σ H) :
  ∃W:Nat→Nat→St→Hp→Prop,(∃m,W 0 m σ H)/\∀i m σ H,W i m σ H →
   ((Itl K a).stop i H/\D.nx σ H)\/((Itl K a).go i H/\∃N:St→Hp→Prop,(∀σ' H',N σ' H'→∃m',m'<m/\W (i+1) m' σ' H')/\∀x H',(Itl K a).yld i H x H'→g x σ H' fun σ2 H2=>tb { D with nx:=N,ct:=N,bk:=D.nx } σ2 H2):=by
 refine ⟨fun i m σ H=>m=xs.length-i/\i≤xs.length/\Pv i σ H,⟨xs.length,by simp,Nat.zero_le _,h0⟩,?_⟩
 rintro i m σ H ⟨rfl,hi,p⟩
 have q:=hl i σ H hi p
 by_cases hlt:i<xs.length
 ·refine .inr ⟨⟨xs,xs[i],q,by simp [hlt]⟩,Pv (i+1),fun σ' H' p'=>⟨xs.length-(i+1),by omega,rfl,hlt,p'⟩,fun x H' y=>?_⟩
  obtain ⟨e,y⟩:=y
  subst e
  exact hs i x σ _ (y xs q) p
 ·have e:i=xs.length:=by omega
  subst e
  exact .inl ⟨⟨xs,q,Nat.le_refl _⟩,hd σ H p⟩
theorem GJ {lo:Int}{n:Nat}{g:TG}{tb:TS}{D:Ends}{σ:St}{H:Hp}(Pv:Nat→St→Hp→Prop) (h0:Pv 0 σ H)
  (hs:∀i σ H,i<n→Pv i σ H→g (.int (lo+i)) σ H fun σ2 H2=>tb { D with nx:=Pv (i+1),ct:=Pv (i+1),bk:=D.nx } σ2 H2) (hd:∀σ H,Pv n σ H→D.nx σ H) :
  ∃W:Nat→Nat→St→Hp→Prop,(∃m,W 0 m σ H)/\∀i m σ H,W i m σ H →
   ((Itr lo n).stop i H/\D.nx σ H)\/((Itr lo n).go i H/\∃N:St→Hp→Prop,(∀σ' H',N σ' H'→∃m',m'<m/\W (i+1) m' σ' H')/\∀x H',(Itr lo n).yld i H x H'→g x σ H' fun σ2 H2=>tb { D with nx:=N,ct:=N,bk:=D.nx } σ2 H2):=by
 refine ⟨fun i m σ H=>m=n-i/\i≤n/\Pv i σ H,⟨n,by simp,Nat.zero_le _,h0⟩,?_⟩
 rintro i m σ H ⟨rfl,hi,p⟩
 by_cases hlt:i<n
 ·refine .inr ⟨hlt,Pv (i+1),fun σ' H' p'=>⟨n-(i+1),by omega,rfl,hlt,p'⟩,fun x H' y=>?_⟩
  obtain ⟨e,y⟩:=y
  subst e y
  exact hs i σ _ hlt p
 ·have e:i=n:=by omega
  subst e
  exact .inl ⟨Nat.le_refl _,hd σ H p⟩
theorem NR {c:TT}{tb:TS}{D:Ends}{σ:St}{H:Hp}(Pv:St→Hp→Prop) (μ:St→Hp→Nat) (h0:Pv σ H)
  (hs:∀σ H,Pv σ H→c σ H fun b H1=>if b=true then tb { D with nx:=fun σ' H'=>Pv σ' H'/\μ σ' H' < μ σ H,ct:=fun σ' H'=>Pv σ' H'/\μ σ' H' < μ σ H,bk:=D.nx } σ H1 else D.nx σ H1)
  (mono:∀σ H Q Q',(∀b H1,Q b H1→Q' b H1)→c σ H Q→c σ H Q'):Na c tb D σ H:=by
 refine ⟨fun m σ H=>m=μ σ H/\Pv σ H,⟨_,rfl,h0⟩,?_⟩
 rintro m σ H ⟨rfl,p⟩
 refine mono σ H _ _ (fun b H1 q=>?_) (hs σ H p)
 cases b with
 | true=>exact ⟨_,fun σ' H' ⟨p',l⟩=>⟨_,l,rfl,p'⟩,q⟩
 | false=>exact q
end L2
namespace L2
open PySem PySem.Spec PyProof.Rows
abbrev R2:=V→V→Hp→VK→Prop
def OpR (X:Cx) (f:Value→Value→Sem Value) (r:R2):Prop :=
 ∀(pins:List (Addr×Obj)) (s:Shared) (σ:St) (H:Hp) (x y:V) (v u:Value) (Q:VK),Inv X pins σ H s→RelV x v→RelV y u→r x y H Q →
  wpAny (model X.prog X.w) X.A (f v u) (EP X pins σ Q) X.xe s
def UnR (X:Cx) (f:Value→Sem Value) (r:V→Hp→VK→Prop):Prop :=
 ∀(pins:List (Addr×Obj)) (s:Shared) (σ:St) (H:Hp) (x:V) (v:Value) (Q:VK),Inv X pins σ H s→RelV x v→r x H Q →
  wpAny (model X.prog X.w) X.A (f v) (EP X pins σ Q) X.xe s
def Cy (X:Cx) (f:Value) (r:List V→Hp→VK→Prop):Prop :=
 ∀(pins:List (Addr×Obj)) (s:Shared) (σ:St) (H:Hp) (xs:List V) (us:List Value) (Q:VK),Inv X pins σ H s→Vals xs us→r xs H Q →
  wpAny (model X.prog X.w) X.A (call f us) (EP X pins σ Q) X.xe s
def SR (X:Cx) (r:V→Hp→(Bool→Hp→Prop)→Prop):Prop :=
 ∀(pins:List (Addr×Obj)) (s:Shared) (σ:St) (H:Hp) (x:V) (v:Value) (Q:Bool→Hp→Prop),Inv X pins σ H s→RelV x v→r x H Q →
  wpAny (model X.prog X.w) X.A (truthy v) (TP X pins σ Q) X.xe s
def tOp (r:R2) (ta tb:TE):TE:=fun σ H Q=>ta σ H fun x H1=>tb σ H1 fun y H2=>r x y H2 Q
def tUn (r:V→Hp→VK→Prop) (ta:TE):TE:=fun σ H Q=>ta σ H fun x H1=>r x H1 Q
def rI (C:Int→Int→Prop) (g:Int→Int→V):R2:=fun x y H Q=>∃i j,x=.int i/\y=.int j/\C i j/\Q (g i j) H
def rI0 (g:Int→Int→V):R2:=fun x y H Q=>∃i j,x=.int i/\y=.int j/\Q (g i j) H
def rU (g:Int→V):V→Hp→VK→Prop:=fun x H Q=>∃i,x=.int i/\Q (g i) H
section
variable {X:Cx}{a b c:Expr}{ta tb tc:TE}{pos:Pos}
theorem Q4 (ha:PE X a ta) (hb:PE X b tb) {pins:List (Addr×Obj)}{s:Shared}{σ:St}{H:Hp}{R:V→V→Hp→Prop}(I:Inv X pins σ H s)
  (h:ta σ H fun x H1=>tb σ H1 fun y H2=>R x y H2) {Q:Value→Shared→Prop} {f:Value→Value→Sem Value}
  (hf:∀v u s2 x y H2,Inv X pins σ H2 s2→RelV x v→RelV y u→R x y H2→wpAny (model X.prog X.w) X.A (f v u) Q X.xe s2) :
  wpAny (model X.prog X.w) X.A (eval a X.env) (fun v s₁=>wpAny (model X.prog X.w) X.A (eval b X.env) (fun u s₂=>wpAny (model X.prog X.w) X.A (f v u) Q X.xe s₂) X.xe s₁) X.xe s:=by
 refine thn (ha pins s σ H _ I h) fun v s1 ⟨x,H1,I1,r1,q1⟩=>?_
 refine thn (hb pins s1 σ H1 _ I1 q1) fun u s2 ⟨y,H2,I2,r2,q2⟩=>?_
 exact hf v u s2 x y H2 I2 r1 r2 q2
theorem AG {op:Operator}{r:R2}(ho:OpR X (binaryOp op) r) (ha:PE X a ta) (hb:PE X b tb):PE X (.BinOp a op b pos) (tOp r ta tb):=by
 intro pins s σ H Q I h
 exact wpAny_BinOp (Q4 ha hb I h fun v u s2 x y H2 I2 rx ry q=>ho pins s2 σ H2 x y v u Q I2 rx ry q)
theorem RX {op:UnaryOp}{r:V→Hp→VK→Prop}(ho:UnR X (unaryOp op) r) (ha:PE X a ta):PE X (.UnaryOp op a pos) (tUn r ta):=by
 intro pins s σ H Q I h
 exact UnaryOp_ (thn (ha pins s σ H _ I h) fun v s1 ⟨x,H1,I1,r1,q1⟩=>ho pins s1 σ H1 x v Q I1 r1 q1)
theorem opI {f:Value→Value→Sem Value}{C:Int→Int→Prop}{g:Int→Int→Int}
  (rule:∀(i j:Int) (t u:Tok) (s:Shared) (Q:Value→Shared→Prop) (E:Value→Shared→Prop),C i j→Q (.int (g i j) s.toks) { s with toks:=s.toks+1 }→wpAny (model X.prog X.w) X.A (f (.int i t) (.int j u)) Q E s) :
  OpR X f (rI C fun i j=>.int (g i j)):=by
 intro pins s σ H x y v u Q I rx ry h
 obtain ⟨i,j,rfl,rfl,hc,q⟩:=h
 obtain ⟨t,rfl⟩:=rx
 obtain ⟨t',rfl⟩:=ry
 exact rule i j t t' s _ _ hc ⟨.int (g i j),H,I.tok _,⟨_,rfl⟩,q⟩
theorem RZ {f:Value→Value→Sem Value}{g:Int→Int→Int}
  (rule:∀(i j:Int) (t u:Tok) (s:Shared) (Q:Value→Shared→Prop) (E:Value→Shared→Prop),Q (.int (g i j) s.toks) { s with toks:=s.toks+1 }→wpAny (model X.prog X.w) X.A (f (.int i t) (.int j u)) Q E s) :
  OpR X f (rI0 fun i j=>.int (g i j)):=by
 intro pins s σ H x y v u Q I rx ry h
 obtain ⟨i,j,rfl,rfl,q⟩:=h
 obtain ⟨t,rfl⟩:=rx
 obtain ⟨t',rfl⟩:=ry
 exact rule i j t t' s _ _ ⟨.int (g i j),H,I.tok _,⟨_,rfl⟩,q⟩
theorem Qm {f:Value→Value→Sem Value}{g:Int→Int→Bool}
  (rule:∀(i j:Int) (t u:Tok) (s:Shared) (Q:Value→Shared→Prop) (E:Value→Shared→Prop),Q (.bool (g i j)) s→wpAny (model X.prog X.w) X.A (f (.int i t) (.int j u)) Q E s) :
  OpR X f (rI0 fun i j=>.bl (g i j)):=by
 intro pins s σ H x y v u Q I rx ry h
 obtain ⟨i,j,rfl,rfl,q⟩:=h
 obtain ⟨t,rfl⟩:=rx
 obtain ⟨t',rfl⟩:=ry
 exact rule i j t t' s _ _ ⟨.bl (g i j),H,I,rfl,q⟩
def Ld (i j:Int):Prop:=0<j/\j<1073741824
def SX (i j:Int):Prop:=0≤j/\j≤1000000/\i.natAbs<2 ^ 64
def Q8 (i j:Int):Prop:=(-(2 ^ 64)<i/\i<2 ^ 64)\/(-(2 ^ 64)<j/\j<2 ^ 64)
theorem Q8.ok {i j:Int}(h:Q8 i j):IntMulOk i j:=by
 rcases h with ⟨h1,h2⟩|⟨h1,h2⟩
 ·exact .of_left (intBits_le_64 h1 h2)
 ·exact .of_right (intBits_le_64 h1 h2)
theorem Ah:OpR X (binaryOp .Add) (rI0 fun i j=>.int (i+j)):=RZ fun _ _ _ _ _ _ _ q=>add_int q
theorem CI:OpR X (binaryOp .Sub) (rI0 fun i j=>.int (i-j)):=RZ fun _ _ _ _ _ _ _ q=>sub_int q
theorem BE:OpR X (binaryOp .Mult) (rI Q8 fun i j=>.int (i * j)):=opI fun _ _ _ _ _ _ _ hc q=>mul_int q hc.ok
theorem AY:OpR X (binaryOp .FloorDiv) (rI Ld fun i j=>.int (i / j)):=opI fun i j _ _ _ _ _ hc q=>by
 have h1:(0:Int)<j:=hc.1
 have h2:j<1073741824:=hc.2
 exact floordiv_int (by omega) (by rw [Int.fdiv_eq_ediv_of_nonneg i (by omega)];exact q) (.inl (PyProof.noPylong_small (by omega)))
theorem AX:OpR X (binaryOp .Mod) (rI (fun _ j=>0<j) fun i j=>.int (i % j)):=opI fun i j _ _ _ _ _ hc q=>by
 have h1:(0:Int)<j:=hc
 exact mod_int' (by omega) (by rw [Int.fmod_eq_emod_of_nonneg i (by omega)];exact q)
theorem Qi:OpR X (binaryOp .Pow) (rI SX fun i j=>.int (i ^ j.toNat)):=opI fun _ _ _ _ _ _ _ hc q=>pow_int_small hc.1 hc.2.1 hc.2.2 q
theorem unI {f:Value→Sem Value}{g:Int→Int}
  (rule:∀(i:Int) (t:Tok) (s:Shared) (Q:Value→Shared→Prop) (E:Value→Shared→Prop),Q (.int (g i) s.toks) { s with toks:=s.toks+1 }→wpAny (model X.prog X.w) X.A (f (.int i t)) Q E s) :
  UnR X f (rU fun i=>.int (g i)):=by
 intro pins s σ H x v Q I rx h
 obtain ⟨i,rfl,q⟩:=h
 obtain ⟨t,rfl⟩:=rx
 exact rule i t s _ _ ⟨.int (g i),H,I.tok _,⟨_,rfl⟩,q⟩
theorem QK:UnR X (unaryOp .USub) (rU fun i=>.int (-i)):=unI fun _ _ _ _ _ q=>neg_int q
end
def RM:V→V→Bool
 | .non,.non=>true|.non,.int _=>true|.int _,.non=>true|.non,.bl _=>true|.bl _,.non=>true|.non,.str _=>true|.str _,.non=>true
 | .int _,.int _=>true|.bl _,.bl _=>true|.str _,.str _=>true|.byt _,.byt _=>true
 | .int _,.str _=>true|.str _,.int _=>true|.bl _,.str _=>true|.str _,.bl _=>true
 | _,_=>false
def rEq:R2:=fun x y H Q=>RM x y=true/\Q (.bl (decide (x=y))) H
def rNe:R2:=fun x y H Q=>RM x y=true/\Q (.bl (!decide (x=y))) H
theorem MC {i j:Int}:decide (V.int i=V.int j)=(i==j):=by
 rw [Bool.eq_iff_iff]
 simp
theorem Ol {i j:Bool}:decide (V.bl i=V.bl j)=(i==j):=by
 rw [Bool.eq_iff_iff]
 simp
theorem L9 {i j:Str}:decide (V.str i=V.str j)=(i==j):=by
 rw [Bool.eq_iff_iff]
 simp
theorem MD {i j:Array UInt8}:decide (V.byt i=V.byt j)=(i.toList==j.toList):=by
 rw [Bool.eq_iff_iff]
 cases i
 cases j
 simp
section
variable {X:Cx}{a b c:Expr}{ta tb tc:TE}{pos:Pos}
theorem Av {pins:List (Addr×Obj)}{σ:St}{H:Hp}{s:Shared}{Q:VK}{k k':Bool}(I:Inv X pins σ H s) (q:Q (.bl k) H) (e:k=k'):EP X pins σ Q (.bool k') s:=by
 subst e
 exact ⟨.bl k,H,I,rfl,q⟩
theorem A0:OpR X (compareOp .Eq) rEq:=by
 intro pins s σ H x y v u Q I rx ry h
 obtain ⟨hs,q⟩:=h
 cases x with
 | non =>
  cases rx
  cases y with
  | non=>cases ry;exact PySem.EqNone.eq_none_none (Av I q (by simp))
  | bl j=>cases ry;exact PySem.EqNone.eq_none_bool (Av I q (by simp))
  | int j=>obtain ⟨t',rfl⟩:=ry;exact PySem.EqNone.eq_none_int (Av I q (by simp))
  | str j=>obtain ⟨t',rfl⟩:=ry;exact PySem.EqNone.eq_none_str (Av I q (by simp))
  | _=>exact absurd (show false=true from hs) Bool.false_ne_true
 | bl i =>
  cases rx
  cases y with
  | non=>cases ry;exact PySem.EqNone.eq_bool_none (Av I q (by simp))
  | bl j=>cases ry;exact eq_bool (Av I q Ol)
  | str j=>obtain ⟨t',rfl⟩:=ry;exact PySem.EqMixed.eq_bool_str (Av I q (by simp))
  | _=>exact absurd (show false=true from hs) Bool.false_ne_true
 | int i =>
  obtain ⟨t,rfl⟩:=rx
  cases y with
  | non=>cases ry;exact PySem.EqNone.eq_int_none (Av I q (by simp))
  | int j=>obtain ⟨t',rfl⟩:=ry;exact eq_int (Av I q MC)
  | str j=>obtain ⟨t',rfl⟩:=ry;exact PySem.EqMixed.eq_int_str (Av I q (by simp))
  | _=>exact absurd (show false=true from hs) Bool.false_ne_true
 | str i =>
  obtain ⟨t,rfl⟩:=rx
  cases y with
  | non=>cases ry;exact PySem.EqNone.eq_str_none (Av I q (by simp))
  | bl j=>cases ry;exact PySem.EqMixed.eq_str_bool (Av I q (by simp))
  | int j=>obtain ⟨t',rfl⟩:=ry;exact PySem.EqMixed.eq_str_int (Av I q (by simp))
  | str j=>obtain ⟨t',rfl⟩:=ry;exact eq_str (Av I q L9)
  | _=>exact absurd (show false=true from hs) Bool.false_ne_true
 | byt i =>
  obtain ⟨t,rfl⟩:=rx
  cases y with
  | byt j=>obtain ⟨t',rfl⟩:=ry;exact PySem.W.eq_bytes (Av I q MD)
  | _=>exact absurd (show false=true from hs) Bool.false_ne_true
 | _=>cases y <;> exact absurd (show false=true from hs) Bool.false_ne_true
theorem J9:OpR X (compareOp .NotEq) rNe:=by
 intro pins s σ H x y v u Q I rx ry h
 obtain ⟨hs,q⟩:=h
 cases x with
 | non =>
  cases rx
  cases y with
  | non=>cases ry;exact PySem.EqNone.ne_none_none (Av I q (by simp))
  | bl j=>cases ry;exact PySem.EqNone.ne_none_bool (Av I q (by simp))
  | int j=>obtain ⟨t',rfl⟩:=ry;exact PySem.EqNone.ne_none_int (Av I q (by simp))
  | str j=>obtain ⟨t',rfl⟩:=ry;exact PySem.EqNone.ne_none_str (Av I q (by simp))
  | _=>exact absurd (show false=true from hs) Bool.false_ne_true
 | bl i =>
  cases rx
  cases y with
  | non=>cases ry;exact PySem.EqNone.ne_bool_none (Av I q (by simp))
  | bl j=>cases ry;exact ne_bool (Av I q (congrArg not Ol))
  | str j=>obtain ⟨t',rfl⟩:=ry;exact PySem.EqMixed.ne_bool_str (Av I q (by simp))
  | _=>exact absurd (show false=true from hs) Bool.false_ne_true
 | int i =>
  obtain ⟨t,rfl⟩:=rx
  cases y with
  | non=>cases ry;exact PySem.EqNone.ne_int_none (Av I q (by simp))
  | int j=>obtain ⟨t',rfl⟩:=ry;exact ne_int (Av I q (congrArg not MC))
  | str j=>obtain ⟨t',rfl⟩:=ry;exact PySem.EqMixed.ne_int_str (Av I q (by simp))
  | _=>exact absurd (show false=true from hs) Bool.false_ne_true
 | str i =>
  obtain ⟨t,rfl⟩:=rx
  cases y with
  | non=>cases ry;exact PySem.EqNone.ne_str_none (Av I q (by simp))
  | bl j=>cases ry;exact PySem.EqMixed.ne_str_bool (Av I q (by simp))
  | int j=>obtain ⟨t',rfl⟩:=ry;exact PySem.EqMixed.ne_str_int (Av I q (by simp))
  | str j=>obtain ⟨t',rfl⟩:=ry;exact ne_str (Av I q (congrArg not L9))
  | _=>exact absurd (show false=true from hs) Bool.false_ne_true
 | byt i =>
  obtain ⟨t,rfl⟩:=rx
  cases y with
  | byt j=>obtain ⟨t',rfl⟩:=ry;exact PySem.W.ne_bytes (Av I q (congrArg not MD))
  | _=>exact absurd (show false=true from hs) Bool.false_ne_true
 | _=>cases y <;> exact absurd (show false=true from hs) Bool.false_ne_true
theorem KA:OpR X (compareOp .Lt) (rI0 fun i j=>.bl (decide (i<j))):=Qm fun _ _ _ _ _ _ _ q=>lt_int q
theorem KC:OpR X (compareOp .LtE) (rI0 fun i j=>.bl (decide (i≤j))):=Qm fun _ _ _ _ _ _ _ q=>le_int q
theorem QG:OpR X (compareOp .Gt) (rI0 fun i j=>.bl (decide (j<i))):=Qm fun _ _ _ _ _ _ _ q=>gt_int q
theorem AZ (b:Expr) {op:CmpOp}(h:op≠.In:=by decide) (h2:op≠.NotIn:=by decide):behindInMarks op b=false:=by
 have e1:(op==CmpOp.In)=false:=by cases op <;> first|rfl|exact absurd rfl h
 have e2:(op==CmpOp.NotIn)=false:=by cases op <;> first|rfl|exact absurd rfl h2
 cases b <;> simp [behindInMarks,e1,e2]
theorem Lp {op:CmpOp}{r:R2}(ho:OpR X (compareOp op) r) (ha:PE X a ta) (hb:PE X b tb) (hm:behindInMarks op b=false):PE X (.Compare a [op] [b] pos) (tOp r ta tb):=by
 intro pins s σ H Q I h
 exact wpAny_Compare1 (Q4 ha hb I h fun v u s2 x y H2 I2 rx ry q=>ho pins s2 σ H2 x y v u Q I2 rx ry q) hm
def Js (t:TE):TT:=fun σ H Q=>t σ H fun x H'=>∃k,x=.bl k/\Q k H'
theorem AU {op:CmpOp}{r:R2}(ho:OpR X (compareOp op) r) (ha:PE X a ta) (hb:PE X b tb) (hm:behindInMarks op b=false):PT X (.Compare a [op] [b] pos) (Js (tOp r ta tb)):=by
 intro pins s σ H Q I h
 refine wpAny_isTrue_Compare1 (thn (ha pins s σ H _ I h) fun v s1 ⟨x,H1,I1,r1,q1⟩=>thn (hb pins s1 σ H1 _ I1 q1) fun u s2 ⟨y,H2,I2,r2,q2⟩ =>
  thn (ho pins s2 σ H2 x y v u _ I2 r1 r2 q2) fun c s3 ⟨z,H3,I3,r3,k,e,q3⟩=>?_) hm
 subst e
 cases r3
 exact wpAny_truthy_bool ⟨H3,I3,q3⟩
def QR (r r':R2) (ta tb tc:TE):TE:=fun σ H Q=>ta σ H fun x H1=>tb σ H1 fun y H2=>r x y H2 fun z H3=>∃k,z=.bl k /\
 (if k=true then tc σ H3 fun w' H4=>r' y w' H4 Q else Q (.bl false) H3)
theorem J5 {op op':CmpOp}{r r':R2}(ho:OpR X (compareOp op) r) (ho':OpR X (compareOp op') r') (ha:PE X a ta) (hb:PE X b tb) (hc:PE X c tc)
  (hm:lastMarks [op,op'] [b,c]=false:=by with_unfolding_all rfl):PT X (.Compare a [op,op'] [b,c] pos) (Js (QR r r' ta tb tc)):=by
 intro pins s σ H Q I h
 refine isTrue_chain (thn (ha pins s σ H _ I h) fun v s1 ⟨x,H1,I1,r1,q1⟩=>test_link (thn (hb pins s1 σ H1 _ I1 q1) fun u s2 ⟨y,H2,I2,r2,q2⟩ =>
  thn (ho pins s2 σ H2 x y v u _ I2 r1 r2 q2) fun d s3 ⟨z,H3,I3,r3,k,e,q3⟩=>?_)) hm
 subst e
 cases r3
 refine wpAny_truthy_bool ?_
 cases k with
 | false =>
  obtain ⟨k',e',q'⟩:=q3
  cases e'
  exact ite_ff ⟨H3,I3,q'⟩
 | true =>
  refine ite_tt (test_last (thn (hc pins s3 σ H3 _ I3 q3) fun w' s4 ⟨z',H4,I4,r4,q4⟩=>thn (ho' pins s4 σ H4 y z' u w' _ I4 r2 r4 q4) fun d' s5 ⟨z2,H5,I5,r5,k2,e2,q5⟩=>?_))
  subst e2
  cases r5
  exact wpAny_truthy_bool ⟨H5,I5,q5⟩
theorem HN:(sizeLine:Nat)<2 ^ 63:=by rw [sizeLine_eq];decide
theorem DH:OpR X (binaryOp .Add) (fun x y H Q=>∃i j,x=.str i/\y=.str j/\i.length+j.length≤sizeLine/\Q (.str (i++j)) H):=by
 intro pins s σ H x y v u Q I rx ry h
 obtain ⟨i,j,rfl,rfl,hz,q⟩:=h
 obtain ⟨t,rfl⟩:=rx
 obtain ⟨t',rfl⟩:=ry
 exact add_str (fun t' tk=>⟨.str (i++j),H,I.tok _,⟨_,rfl⟩,q⟩) hz
theorem vals1 {x:V}{us:List Value}(r:Vals [x] us):∃u,us=[u]/\RelV x u:=by
 cases r with
 | cons r1 r2=>cases r2;exact ⟨_,rfl,r1⟩
theorem vals2 {x y:V}{us:List Value}(r:Vals [x,y] us):∃u w',us=[u,w']/\RelV x u/\RelV y w':=by
 cases r with
 | cons r1 r2 =>
  cases r2 with
  | cons r3 r4=>cases r4;exact ⟨_,_,rfl,r1,r3⟩
theorem E3 (hc:X.calm=true):Cy X (.builtin "max") (fun xs H Q=>∃i j,xs=[.int i,.int j]/\Q (.int (if j > i then j else i)) H):=by
 intro pins s σ H xs us Q I r h
 obtain ⟨i,j,rfl,q⟩:=h
 obtain ⟨u,w',rfl,⟨t,rfl⟩,⟨t',rfl⟩⟩:=vals2 r
 refine max_two_ints (I.ok.hd hc) fun h' tk k=>⟨_,H,I.kept k,?_,q⟩
 by_cases hj:j > i
 ·rw [if_pos hj,if_pos hj];exact ⟨_,rfl⟩
 ·rw [if_neg hj,if_neg hj];exact ⟨_,rfl⟩
theorem DC (hc:X.calm=true):Cy X (.builtin "min") (fun xs H Q=>∃i j,xs=[.int i,.int j]/\Q (.int (if j<i then j else i)) H):=by
 intro pins s σ H xs us Q I r h
 obtain ⟨i,j,rfl,q⟩:=h
 obtain ⟨u,w',rfl,⟨t,rfl⟩,⟨t',rfl⟩⟩:=vals2 r
 refine min_two_ints (I.ok.hd hc) fun h' tk k=>⟨_,H,I.kept k,?_,q⟩
 by_cases hj:j<i
 ·rw [if_pos hj,if_pos hj];exact ⟨_,rfl⟩
 ·rw [if_neg hj,if_neg hj];exact ⟨_,rfl⟩
theorem NJ:Cy X (.type "int") (fun xs H Q=>(∃i,xs=[.int i]/\Q (.int i) H)\/∃k,xs=[.bl k]/\Q (.int (if k then 1 else 0)) H):=by
 intro pins s σ H xs us Q I r h
 rcases h with ⟨i,rfl,q⟩|⟨k,rfl,q⟩
 ·obtain ⟨u,rfl,t,rfl⟩:=vals1 r
  exact call_int_int ⟨.int i,H,I,⟨_,rfl⟩,q⟩
 ·obtain ⟨u,rfl,r1⟩:=vals1 r
  cases r1
  exact call_int_bool ⟨.int (if k then 1 else 0),H,I.tok _,⟨_,rfl⟩,q⟩
end
end L2
namespace L2
open PySem PySem.Spec PyProof.Rows
structure Q7 (h:Heap) (x dx C:Addr) (mA:Str→Option Value):Prop where
 obj:h.get? x=some (PySem.W.instObj C dx)
 ns:h.Ns1 dx mA
 ne:dx≠x
theorem Mx {h:Heap}{dx:Addr}{mA:Str→Option Value}(n:h.Ns1 dx mA):∃od,h.get? dx=some od/\∀name,PySem.W.lookIn name od=some (mA name):=by
 obtain ⟨o,es,ep,ho,hd,hk,_,hm⟩:=n
 refine ⟨o,ho,fun name=>?_⟩
 have e:=hm name
 unfold nsFind findBy at e
 rw [←Array.find?_toList] at e
 unfold PySem.W.lookIn
 rw [hd]
 dsimp only
 split
 ·rename_i y q
  rw [q] at e
  exact congrArg some e
 ·rename_i q
  rw [q] at e
  have a:es.toList.any (·.refKey)=false:=by
   rw [List.any_eq_false]
   intro y hy
   obtain ⟨z,t,hkey⟩:=hk y (Array.mem_toList_iff.mp hy)
   simp [DictEntry.refKey,hkey]
  have a':¬ es.toList.any (·.refKey)=true:=by rw [a];exact Bool.false_ne_true
  rw [if_neg a']
  exact congrArg some e
theorem Q7.look {h:Heap}{x dx C:Addr}{mA:Str→Option Value}(I:Q7 h x dx C mA):∃od,PySem.W.InstAt h x (PySem.W.instObj C dx) C (some od)/\∀name,PySem.W.lookIn name od=some (mA name) :=
 let ⟨od,ho,hl⟩:=Mx I.ns
 ⟨od,⟨I.obj,rfl,rfl,ho⟩,hl⟩
section
variable {prog:Program}{w:World}{A:Around}{E:Value→Shared→Prop}{s:Shared}{K:PySem.W.Frag}{x dx C f:Addr}{mA:Str→Option Value}{name:Str}{v:Value}
end
theorem EX.some_of {v:V}{o:Option Value}(r:EX (some v) o):∃u,o=some u/\RelV v u:=by
 cases o with
 | none=>exact (show False from r).elim
 | some u=>exact ⟨u,rfl,r⟩
theorem EX.none_of {o:Option Value}(r:EX none o):o=none:=by
 cases o with
 | none=>rfl
 | some u=>exact (show False from r).elim
section
variable {P:Program}{w:World}{H H':Hp}{h h':Heap}{a C dx:Addr}{fs fs':List (Str×V)}
theorem Pt (hok:HOk P w H h) (e:H a=some (.ins C dx fs)):∃mA,Q7 h a dx C mA/\(∀f,EX (fs.lookup f) (mA f))/\PySem.Within mA (fs.map (·.1))/\fs.length≤1000/\H dx=some (.own a):=by
 obtain ⟨d,z,ne,ob,mA,n,r,q⟩:=(show BC P w H h a (.ins C dx fs) from hok a _ e)
 exact ⟨mA,⟨ob,n,ne⟩,r,q,z,d⟩
end
structure Cls (K:PySem.W.Frag) (C:Addr):Prop where
 pg:PySem.W.plainGet K C Str.empty=true
 hd:PySem.W.hasDictIn K C=true
 po:PySem.W.plainOver K C=true
 sa:PySem.W.findIn K (.ref C) "__setattr__" = some (some (.builtin "object.__setattr__"))
theorem Cls.get {K:PySem.W.Frag}{C:Addr}(c:Cls K C) (f:Str):PySem.W.plainGet K C f=true:=c.pg
structure Con (K:PySem.W.Frag) (C:Addr) (f:Str) (v:V) (u:Value):Prop where
 at_:PySem.W.findIn K (.ref C) f=some (some u)
 rel:RelV v u
 get:PySem.W.specialIn K u "__get__" = some none
 cp:PySem.W.copiedNames.contains f=false
structure Meth (K:PySem.W.Frag) (C:Addr) (m:Str) (f:Addr):Prop where
 at_:PySem.W.findIn K (.ref C) m=some (some (.ref f))
 fn:PySem.W.isFn K (.ref f)=true
 kp:PySem.W.keepIn K (.ref f)=true
section
variable {X:Cx}{pins:List (Addr×Obj)}{σ:St}{H:Hp}{s:Shared}{a C dx:Addr}{fs:List (Str×V)}{f:Str}{v:V}{A:Around}{E:Value→Shared→Prop}
end
section
variable {X:Cx}{o e value:Expr}{f:Str}{pos pos' tpos:Pos}{ta tv:TE}
end
section
variable {X:Cx}{pins:List (Addr×Obj)}{σ:St}{H:Hp}{s:Shared}{A:Around}{E:Value→Shared→Prop}{Q:Value→Shared→Prop}{c:Value}{b:Bool}
inductive GN (K:PySem.W.Frag) (H:Hp):V→Value→Prop where
 | non:GN K H .non (.type "NoneType")
 | bl (x:Bool):GN K H (.bl x) (.type "bool")
 | int (i:Int):GN K H (.int i) (.type "int")
 | str (x:Str):GN K H (.str x) (.type "str")
 | flt (x:UInt64):GN K H (.flt x) (.type "float")
 | lst {a:Addr} {xs:List V} (e:H a=some (.lst xs)):GN K H (.ref a) (.type "list")
 | frz {a:Addr} {o:Obj} {xs:List V} (e:H a=some (.frz o (.lst xs))):GN K H (.ref a) (.type "list")
 | tup {a:Addr} {xs:List V} (e:H a=some (.tup xs)):GN K H (.ref a) (.type "tuple")
 | dK {a:Addr} {kvs:List (Key×V)} (e:H a=some (.dK kvs)):GN K H (.ref a) (.type "dict")
 | dT {a:Addr} {kvs:List (List Key×V)} (e:H a=some (.dT kvs)):GN K H (.ref a) (.type "dict")
 | ins {a C dx:Addr} {fs:List (Str×V)} (e:H a=some (.ins C dx fs)) (cl:Cls K C) (ha:PySem.W.findIn K (.ref C) "__class__" = some (some (.builtin "object.__class__")))
   (hn:PySem.W.specialIn K (.builtin "object.__class__") "__get__" = some (some (.builtin "getset_descriptor.__get__"))) (htk:PySem.W.takesIn K (.builtin "object.__class__")=some true)
   (hm:PySem.W.mroIn K C (.type "object")=some true):GN K H (.ref a) (.ref C)
theorem M3 {x:V} {u t:Value} (I:Inv X pins σ H s) (rx:RelV x u) (ty:GN X.K H x t) (e:PySem.W.kitOne X.K t c=some b) (h:∀tk,Q (.bool b) { s with toks:=tk }) :
  wpAny (model X.prog X.w) A (call (.builtin "isinstance") [u,c]) Q E s:=by
 cases ty with
 | non=>cases (show u=Value.none from rx);exact PySem.W.kia_one PySem.W.kitx_none I.kIn True.intro e (fun z=>nomatch z) h
 | bl y=>cases (show u=Value.bool y from rx);exact PySem.W.kia_one PySem.W.kitx_bool I.kIn True.intro e (fun z=>nomatch z) h
 | int i=>obtain ⟨t,q⟩:=(show ∃t,u=Value.int i t from rx);cases q;exact PySem.W.kia_one PySem.W.kitx_int I.kIn True.intro e (fun z=>nomatch z) h
 | str y=>obtain ⟨t,q⟩:=(show ∃t,u=Value.str y t from rx);cases q;exact PySem.W.kia_one PySem.W.kitx_str I.kIn True.intro e (fun z=>nomatch z) h
 | flt y=>obtain ⟨t,q⟩:=(show ∃t,u=Value.float y t from rx);cases q;exact PySem.W.kia_one PySem.W.kitx_float I.kIn True.intro e (fun z=>nomatch z) h
 | @lst a xs ea =>
  cases (show u=Value.ref a from rx)
  obtain ⟨_,_,n,_,h1⟩:=(show BC X.prog X.w H s.heap a (.lst xs) from I.hok a _ ea)
  exact PySem.W.kia_one PySem.W.kitx_list I.kIn ⟨_,h1,rfl⟩ e (fun z=>nomatch z) h
 | @frz a ob xs ea =>
  cases (show u=Value.ref a from rx)
  obtain ⟨_,_,_,n,_,h1⟩:=(show BC X.prog X.w H s.heap a (.frz ob (.lst xs)) from I.hok a _ ea)
  exact PySem.W.kia_one PySem.W.kitx_list I.kIn ⟨_,h1,rfl⟩ e (fun z=>nomatch z) h
 | @tup a xs ea =>
  cases (show u=Value.ref a from rx)
  obtain ⟨_,_,_,p⟩:=(show BC X.prog X.w H s.heap a (.tup xs) from I.hok a _ ea)
  obtain ⟨o,h1,h2,_⟩:=p
  exact PySem.W.kia_one PySem.W.kitx_tuple I.kIn ⟨o,h1,h2⟩ e (fun z=>nomatch z) h
 | @dK a kvs ea =>
  cases (show u=Value.ref a from rx)
  obtain ⟨_,_,vs,_,p⟩:=(show BC X.prog X.w H s.heap a (.dK kvs) from I.hok a _ ea)
  obtain ⟨o,es,ep,h1,h2,_⟩:=p
  exact PySem.W.kia_one PySem.W.kitx_dict I.kIn ⟨o,h1,h2.1⟩ e (fun z=>nomatch z) h
 | @dT a kvs ea =>
  cases (show u=Value.ref a from rx)
  obtain ⟨_,_,xs,_,o,es,ep,h1,h2,_⟩:=(show BC X.prog X.w H s.heap a (.dT kvs) from I.hok a _ ea)
  exact PySem.W.kia_one PySem.W.kitx_dict I.kIn ⟨o,h1,h2.1⟩ e (fun z=>nomatch z) h
 | @ins a C dx fs ea cl ha hn htk hm =>
  cases (show u=Value.ref a from rx)
  obtain ⟨mA,O,_⟩:=Pt I.hok ea
  obtain ⟨od,J,_⟩:=O.look
  exact PySem.W.kia_one (PySem.W.kitx_own (cl.get _) cl.hd ha hn htk hm) I.kIn J e (fun z=>nomatch z) h
end
end L2
namespace L2
open PySem PySem.Spec PyProof.Rows
structure DQ (k:Nat) (A:Around):Prop where
 hd:A.handled=none
 dp:A.depth+3 * k+5<recursionLimit
 un:A.units+16 * k+200<cLine
theorem DQ.mono {j k:Nat}{A:Around}(r:DQ k A) (h:j≤k):DQ j A:=⟨r.hd,by have:=r.dp;omega,by have:=r.un;omega⟩
theorem DQ.deeper {k:Nat}{A:Around}(r:DQ (k+1) A) (env:Env):DQ k (A.deeper env) :=
 ⟨r.hd,by have:=r.dp;show A.depth+1+3 * k+5<_;omega,by have:=r.un;show A.units+3+16 * k+200<_;omega⟩
theorem DQ.depth {k:Nat}{A:Around}(r:DQ k A):A.depth<recursionLimit:=by have:=r.dp;omega
theorem DQ.units {k:Nat}{A:Around}(r:DQ k A):A.units+64<cLine:=by have:=r.un;omega
theorem DQ.Gp {k:Nat}{A:Around}(r:DQ k A):A.units<cLine:=by have:=r.un;omega
def RD:TA:=fun _ H Q=>Q [] H
def Nc (ta:TE) (tr:TA):TA:=fun σ H Q=>ta σ H fun x H1=>tr σ H1 fun xs H2=>Q (x::xs) H2
section
variable {X:Cx}{e:Expr}{es:List Expr}{te:TE}{t:TA}{pos:Pos}
theorem AE:PA X [] RD:=fun _ _ _ _ H Q I h=>Calls.spliced_nil ⟨[],H,I,.nil,h⟩
theorem AA (ha:PE X e te) (hr:PA X es t) (hs:starEach (e::es) X.env=(false,eval e X.env)::starEach es X.env:=by rfl):PA X (e::es) (Nc te t):=by
 intro pos pins s σ H Q I h
 rw [hs]
 show wpAny _ _ (spliced ((false,eval e X.env)::backTo pos (starEach es X.env))) _ _ s
 refine Calls.spliced_cons (thn (ha pins s σ H _ I h) fun u s1 ⟨x,H1,I1,r1,q1⟩=>?_)
 exact thn (hr pos pins s1 σ H1 _ I1 q1) fun us s2 ⟨xs,H2,I2,r2,q2⟩=>⟨x::xs,H2,I2,.cons r1 r2,q2⟩
def Ru (t:TA):TE:=fun σ H Q=>t σ H fun xs H1=>xs.length≤sizeLine/\∀p,H1 p=none→Q (.ref p) (upd H1 p (.tup xs))
def Rz (t:TA):TE:=fun σ H Q=>t σ H fun xs H1=>xs.length≤sizeLine/\∀p,H1 p=none→Q (.ref p) (upd H1 p (.lst xs))
theorem Ar {x1}(h:PA X es t):PE X (.Tuple es x1 pos) (Ru t):=by
 intro pins s σ H Q I hq
 refine wpAny_Tuple_spliced (thn (h pos pins s σ H _ I hq) fun us s1 ⟨xs,H1,I1,r,z,q⟩=>⟨by rw [←r.length];exact z,?_⟩)
 have hf:H1 s1.heap.objs.size=none:=I1.hok.fresh (Nat.le_refl _)
 refine ⟨.ref s1.heap.objs.size,upd H1 s1.heap.objs.size (.tup xs),I1.laid (t':=s1.toks) (fun b u e=>Heap.get?_push_of_some _ e) (Nat.le_refl _) ?_,rfl,q _ hf⟩
 exact ⟨z,us,r,⟨_,Heap.get?_push_size _ rfl,rfl,_,rfl⟩⟩
theorem As (h:PA X es t):PE X (.List es pos) (Rz t):=by
 intro pins s σ H Q I hq
 refine wpAny_List_spliced (thn (h pos pins s σ H _ I hq) fun us s1 ⟨xs,H1,I1,r,z,q⟩=>⟨by rw [←r.length];exact z,?_⟩)
 have hf:H1 s1.heap.objs.size=none:=I1.hok.fresh (Nat.le_refl _)
 refine ⟨.ref s1.heap.objs.size,upd H1 s1.heap.objs.size (.lst xs),I1.laid (t':=s1.toks) (fun b u e=>Heap.get?_push_of_some _ e) (Nat.le_refl _) ?_,rfl,q _ hf⟩
 exact ⟨z,us,0,r,Heap.get?_push_size _ rfl⟩
end
abbrev Sp:=List V→Hp→VK→XK→Prop
abbrev CXT:=List Env→Hp→Shared→XK→Value→Shared→Prop
structure P2 (P:Program) (w:World) (K:PySem.W.Frag) (mg:Str→Option Value) (base:Heap) (A:Around) (outer:List Env) (s:Shared) (H:Hp):Prop where
 frames:A.frames=some outer
 mod:Mod K mg base
 bs:∀b o,base.get? b=some o→s.heap.get? b=some o/\H b=none
 bsz:base.objs.size≤s.heap.objs.size
 GI:s.heap.FunFrames base outer
 frf:∀b∈frs outer,H b=none
 hok:HOk P w H s.heap
 bare:AllBare s.gens
def CE (outer:List Env) (P:Program) (w:World) (H:Hp) (s:Shared) (Q:VK) (u:Value) (s':Shared):Prop :=
 ∃v H',s'.os=s.os/\AllBare s'.gens/\Un (frs outer) [] H H' s.heap s'.heap/\HOk P w H' s'.heap/\RelV v u/\Q v H'
def CR (CX:CXT) (outer:List Env) (P:Program) (w:World) (H:Hp) (s:Shared) (Q:VK) (E:XK) (r:Result) (s':Shared):Prop :=
 match r with
 | .ok (.ret u)=>CE outer P w H s Q u s'
 | .ok _=>False
 | .error e=>CX outer H s E e s'
structure Ba (P:Program) (w:World) (K:PySem.W.Frag) (mg:Str→Option Value) (base:Heap) (CX:CXT) (k:Nat) (f:Addr) (fd:FuncData) (ps:List Str) (sp:Sp):Prop where
 len:∀vs H Q E,sp vs H Q E→vs.length=ps.length
 run:∀(A:Around) (outer:List Env) (s:Shared) (H:Hp) (args:Args) (us:List Value) (vs:List V) (Q:VK) (E:XK),DQ k A→P2 P w K mg base A outer s H→BindsTo s fd args (ps.zip us)→Vals vs us→sp vs H Q E →
  codeAny (model P w) A (.call (.ref f) args) (CR CX outer P w H s Q E) s
section
variable {X:Cx}{pins:List (Addr×Obj)}{σ:St}{H:Hp}{s s':Shared}
theorem Inv.SO (I:Inv X pins σ H s):P2 X.prog X.w X.K X.mg X.base X.A X.stack s H :=
 ⟨I.ok.frames,I.ok.mod,I.bs,Nat.le_trans I.ok.bsz I.sz,I.stack,I.Iu,I.hok,I.bare⟩
theorem Inv.after {Q:VK}{u:Value}(I:Inv X pins σ H s) (h:CE X.stack X.prog X.w H s Q u s'):EP X pins σ Q u s':=by
 obtain ⟨v,H',os,bare,un,hok,r,q⟩:=h
 obtain ⟨hh,g,d,t,os'⟩:=s'
 obtain rfl:os'=s.os:=os
 exact ⟨v,H',I.call (h':=hh) (g':=g) (d':=d) (t':=t) (ch:=[]) un hok bare (fun b z=>absurd z (by simp)),r,q⟩
end
def P5 (sp:Sp) (dvs:List V) (E:XK) (t:TA):TE:=fun σ H Q=>t σ H fun vs H1=>sp (vs++dvs) H1 Q E
def Binds (K:PySem.W.Frag) (fd:FuncData) (ps:List Str) (ds:List Value):Prop :=
 ∀(s:Shared) (us:List Value),K.In s.heap→(us++ds).length=ps.length→BindsTo s fd ⟨us,[]⟩ (ps.zip (us++ds))
theorem Binds.all {K:PySem.W.Frag}{fd:FuncData}{ps:List Str}(h:∀us:List Value,us.length=ps.length→bindArgs fd ⟨us,[]⟩=pure (ps.zip us)):Binds K fd ps []:=fun s us _ hl=>by
 rw [List.append_nil] at hl ⊢
 exact .of_eq (h us hl)
def Passes (CX:CXT) (X:Cx) (E:XK):Prop:=∀(pins:List (Addr×Obj)) (σ:St) (H:Hp) (s:Shared) (e:Value) (s':Shared),Inv X pins σ H s→CX X.stack H s E e s'→X.xe e s'
section
variable {X:Cx}{CX:CXT}{k:Nat}{f C:Addr}{fd:FuncData}{ps:List Str}{sp:Sp}{dvs:List V}{ds:List Value}{E:XK}{x m:Str}{p pos apos:Pos}{e o:Expr}{es:List Expr}{ta:TE}{t:TA}
theorem QW {pins:List (Addr×Obj)}{σ:St}{H:Hp}{s:Shared}{Q:VK}{us:List Value}{vs:List V}(F:Ba X.prog X.w X.K X.mg X.base CX k f fd ps sp) (hr:DQ k X.A) (hb:Binds X.K fd ps ds) (hd:Vals dvs ds) (hx:Passes CX X E)
  (I:Inv X pins σ H s) (r:Vals vs us) (h:sp (vs++dvs) H Q E):wpAny (model X.prog X.w) X.A (call (.ref f) us) (EP X pins σ Q) X.xe s:=by
 have r2:Vals (vs++dvs) (us++ds):=r.append hd
 have hl:(us++ds).length=ps.length:=by rw [←r2.length];exact F.len _ _ _ _ h
 refine wpAny_call (codeAny_mono (F.run X.A X.stack s H ⟨us,[]⟩ (us++ds) (vs++dvs) Q E hr I.SO (hb s us I.kIn hl) r2 h) fun r s' hq=>?_)
 cases r with
 | error e=>exact hx pins σ H s e s' I hq
 | ok fl =>
  cases fl with
  | ret u=>exact I.after hq
  | next=>exact False.elim hq
  | brk=>exact False.elim hq
  | cont=>exact False.elim hq
theorem AN (F:Ba X.prog X.w X.K X.mg X.base CX k f fd ps sp) (hr:DQ k X.A) (hg:Gl X x) (hm:X.mg x=some (.ref f)) (hk:PySem.W.keepIn X.K (.ref f)=true) (hb:Binds X.K fd ps ds) (hd:Vals dvs ds) (hx:Passes CX X E)
  (ha:PA X (e::es) t) (hdb:(x==("__debug__" : Str))=false:=by decide) (he:starEach (e::es) X.env=(false,eval e X.env)::starEach es X.env:=by rfl) (hpl:(backTo pos (starEach es X.env)).any (·.1)=false:=by rfl) :
  PE X (.Call (.Name x p) (e::es) [] pos) (P5 sp dvs E t):=by
 intro pins s σ H Q I h
 refine wpAny_Call_Name_kw (L0 I hg hm ?_ hdb)
 refine PySem.W.callWith_K (h₀:=X.base) I.ok.mod.kin hk (thn (ha pos pins s σ H _ I h) fun us s1 ⟨vs,H1,I1,r,q⟩=>⟨I1.kIn,?_⟩) he hpl
 exact QW F hr hb hd hx I1 r q
structure Mk (K:PySem.W.Frag) (C f:Addr):Prop where
 makes:PySem.W.makesIn K C=true
 init:PySem.W.findIn K (.ref C) "__init__" = some (some (.ref f))
 fn:PySem.W.isFn K (.ref f)=true
 kp:PySem.W.keepIn K (.ref C)=true
end
section
variable {X:Cx}{CX:CXT}{k:Nat}{f C:Addr}{fd:FuncData}{ps ks:List Str}{sp:Sp}{E:XK}{x m:Str}{p pos apos kpos:Pos}{e o:Expr}{es:List Expr}{kws:List Keyword}{te ta:TE}{t tk:TA}{nm:Option Str}
structure SW (K:PySem.W.Frag) (fd:FuncData) (ps ks:List Str) (g:List Value→List Value→List Value) (gV:List V→List V→List V):Prop where
 to:∀(s:Shared) (us ws:List Value),K.In s.heap→(g us ws).length=ps.length→BindsTo s fd ⟨us,ks.zip ws⟩ (ps.zip (g us ws))
 rel:∀{vs:List V} {us:List Value} {zs:List V} {ws:List Value},Vals vs us→Vals zs ws→Vals (gV vs zs) (g us ws)
variable {g:List Value→List Value→List Value}{gV:List V→List V→List V}
end
structure Ak (N P:List Str) (sc:Scope):Prop where
 kind:sc.kind=.function
 co:sc.isCoroutine=false
 gen:sc.isGenerator=false
 nd:N.Nodup
 pre:N.take P.length=P
 par:∀x∈P,sc.names.lookup x=some .local\/sc.names.lookup x=some .cell
 Qo:∀y∈sc.names,y.2≠.free
theorem Ih {kindOf:Str→Option NameKind}{x:Str}:∀{binds:List (Str×Value)}{m:Str→Option Value},(∀v,(x,v)∉binds)→bindL kindOf binds m x=m x
 | [],_,_=>rfl
 | (n,v)::r,m,h=>by
  unfold bindL
  rw [Ih fun w hw=>h w (List.mem_cons_of_mem _ hw)]
  split
  ·have:x≠n:=by rintro rfl;exact h v List.mem_cons_self
   simp [this]
  ·rfl
theorem Ij {kindOf:Str→Option NameKind}{x:Str}:∀{binds:List (Str×Value)}{m:Str→Option Value},(∀v,(x,v)∉binds)→bindC kindOf binds m x=m x
 | [],_,_=>rfl
 | (n,v)::r,m,h=>by
  unfold bindC
  rw [Ij fun w hw=>h w (List.mem_cons_of_mem _ hw)]
  split
  ·rfl
  ·have:x≠n:=by rintro rfl;exact h v List.mem_cons_self
   simp [this]
theorem Ii {kindOf:Str→Option NameKind}{x:Str}{v:Value}:∀{P:List Str}{vs:List Value}{i:Nat}{m:Str→Option Value},P.Nodup→P[i]?=some x→vs[i]?=some v→kindOf x=some .local →
  bindL kindOf (P.zip vs) m x=some v
 | [],_,_,_,_,h,_,_=>by simp at h
 | _::_,[],_,_,_,_,h,_=>by simp at h
 | p::P,w::vs,0,m,nd,h1,h2,hk=>by
  simp at h1 h2;subst h1;subst h2
  show bindL kindOf ((p,w)::P.zip vs) m p=_
  unfold bindL
  rw [Ih fun v hv=>(List.nodup_cons.mp nd).1 (List.of_mem_zip hv).1,if_pos hk]
  simp
 | p::P,w::vs,i+1,m,nd,h1,h2,hk=>by
  show bindL kindOf ((p,w)::P.zip vs) m x=_
  unfold bindL
  exact Ii (i:=i) (List.nodup_cons.mp nd).2 (by simpa using h1) (by simpa using h2) hk
theorem Ik {kindOf:Str→Option NameKind}{x:Str}{v:Value}:∀{P:List Str}{vs:List Value}{i:Nat}{m:Str→Option Value},P.Nodup→P[i]?=some x→vs[i]?=some v→kindOf x≠some .local →
  bindC kindOf (P.zip vs) m x=some v
 | [],_,_,_,_,h,_,_=>by simp at h
 | _::_,[],_,_,_,_,h,_=>by simp at h
 | p::P,w::vs,0,m,nd,h1,h2,hk=>by
  simp at h1 h2;subst h1;subst h2
  show bindC kindOf ((p,w)::P.zip vs) m p=_
  unfold bindC
  rw [Ij fun v hv=>(List.nodup_cons.mp nd).1 (List.of_mem_zip hv).1,if_neg hk]
  simp
 | p::P,w::vs,i+1,m,nd,h1,h2,hk=>by
  show bindC kindOf ((p,w)::P.zip vs) m x=_
  unfold bindC
  exact Ik (i:=i) (List.nodup_cons.mp nd).2 (by simpa using h1) (by simpa using h2) hk
def start (N:List Str) (vs:List V):St:=vs.map some++List.replicate (N.length-vs.length) none
def ND (CX:CXT) (P:Program) (w:World) (K:PySem.W.Frag) (mg:Str→Option Value) (base:Heap) (N:List Str) (qual:Str) (scope:Scope) (f:Addr) (cd:Value) (A:Around) (outer:List Env) (s:Shared) (H:Hp) (E:XK):Cx where
 prog:=P
 w:=w
 K:=K
 mg:=mg
 base:=base
 A:=A.deeper (envOfC qual scope s.heap.objs.size f cd)
 N:=N
 s₀:=s
 H₀:=H
 env:=envOfC qual scope s.heap.objs.size f cd
 outer:=outer
 stack:=envOfC qual scope s.heap.objs.size f cd::outer
 ex:=[]
 calm:=true
 fn:=fun _=>true
 pn:=[]
 xe:=fun e s'=>wpAny (model P w) (A.deeper (envOfC qual scope s.heap.objs.size f cd)) (leaving (envOfC qual scope s.heap.objs.size f cd) e) (fun _ s''=>CX outer H s E e s'') (fun e' s''=>CX outer H s E e' s'') s'
theorem Kp {sc:Scope}{n:Nat}{x:Str}(h:sc.names.lookup x=some .cell):∃c,(cellsFrom n sc.names []).lookup x=some c:=by
 have q:=PySem.W.cellsFrom_some sc.names n [] (.inl h)
 exact Option.isSome_iff_exists.mp q
theorem M5 {CX:CXT}{P:Program}{w:World}{K:PySem.W.Frag}{mg:Str→Option Value}{base:Heap}{N ps:List Str}{qual:Str}{scope:Scope}{f:Addr}{cd:Value}{A:Around}{outer:List Env}{s s1:Shared}{H:Hp}{E:XK}{us:List Value}{vs:List V}
  (S:Ak N ps scope) (hd:A.handled=none) (e0:P2 P w K mg base A outer s H) (hl:vs.length=ps.length) (r:Vals vs us)
  (x:InCallC s s.heap.objs.size (bindL (envOfC qual scope s.heap.objs.size f cd).kindOf (ps.zip us) fun _=>none) (cellsFrom (s.heap.objs.size+1) scope.names []) (bindC (envOfC qual scope s.heap.objs.size f cd).kindOf (ps.zip us) fun _=>none) s1) :
  Inv (ND CX P w K mg base N qual scope f cd A outer s H E) [] (start N vs) H s1:=by
 have hpl:ps.length≤N.length:=by have:=congrArg List.length S.pre;rw [List.length_take] at this;omega
 obtain ⟨h1,tk,rfl,hk⟩:=x.done
 have noA:∀b:Addr,b∉(ND CX P w K mg base N qual scope f cd A outer s H E).ex:=fun b z=>absurd (show b∈([]:List Addr) from z) (by simp)
 refine ⟨⟨e0.mod,S.kind,rfl,rfl,Nat.le_refl _,fun y z c h1 h2=>?_,fun y hy=>?_,fun y c _ h=>?_,fun _=>hd,Around.frames_deeper e0.frames,.inr ⟨rfl,rfl⟩,fun b z=>absurd z (noA b),e0.bs,e0.bsz,fun b _ _=>noA b,fun b z=>absurd z (noA b),e0.GI,e0.frf⟩,
  rfl,e0.bare,Un.kept hk,⟨_,x.toInCall.ns,fun i y v h1 h2 h3=>?_⟩,fun y c h=>⟨_,x.cell y c h⟩,e0.hok.fresh (Nat.le_refl _),fun y c h=>?_,fun p hp=>absurd (show p∈([]:List (Addr×Obj)) from hp) (by simp),e0.hok.kept hk,?_⟩
 ·exact name_of_addr x.apart (PySem.mem_of_lookup h1) (PySem.mem_of_lookup h2)
 ·have hy:scope.names.lookup y=some .cell\/scope.names.lookup y=some .free:=hy
  rcases hy with hy|hy
  ·exact Kp hy
  ·exact absurd rfl (S.Qo _ (PySem.mem_of_lookup hy))
 ·exact Nat.le_of_lt (x.above y c (PySem.mem_of_lookup h))
 ·have hi:i<vs.length:=by
   unfold start at h2
   by_cases hi:i<vs.length
   ·exact hi
   ·rw [List.getElem?_append_right (by simpa using hi)] at h2
    rw [List.getElem?_replicate] at h2
    split at h2 <;> cases h2
  have ha:vs[i]?=some v:=by
   unfold start at h2
   rw [List.getElem?_append_left (by simpa using hi),List.getElem?_map] at h2
   cases e:vs[i]? with
   | none=>rw [e] at h2;cases h2
   | some a=>rw [e] at h2;cases h2;rfl
  obtain ⟨u,hu,rv⟩:=r.get ha
  have hp:ps[i]?=some y:=by
   rw [←S.pre,List.getElem?_take_of_lt (by omega)];exact h1
  have ndP:ps.Nodup:=by rw [←S.pre];exact S.nd.sublist (List.take_sublist _ _)
  refine ⟨u,rv,?_⟩
  rcases S.par y (List.mem_of_getElem? hp) with k|k
  ·exact .inl ⟨k,Ii ndP hp hu k⟩
  ·obtain ⟨c,e⟩:=Kp (n:=s.heap.objs.size+1) k
   refine .inr ⟨.inl k,c,e,?_⟩
   have q:=x.cell y c e
   rw [Ik ndP hp hu (by show scope.names.lookup y≠_;rw [k];decide)] at q
   exact q
 ·exact e0.hok.fresh (Nat.le_of_lt (x.above y c (PySem.mem_of_lookup h)))
 ·unfold start
  show _=N.length
  rw [List.length_append,List.length_map,List.length_replicate]
  omega
theorem Rn {CX:CXT}{P:Program}{w:World}{K:PySem.W.Frag}{mg:Str→Option Value}{base:Heap}{k:Nat}{f:Addr}{name qual:Str}{params:Arguments}{body:List Stmt}{scope:Scope}{dV kV doc pm cdv ct oc:Value}{an od:Option Addr}
  {osl:Array (Option Value)} {N ps:List Str} {sp:Sp} (lk:K.lookup f=some ⟨oc,od,.func (PySem.W.fnOf name qual params body scope dV kV doc pm an cdv ct),osl⟩) (hcd:PySem.W.codeIn K cdv qual=true) (S:Ak N ps scope)
  (len:∀vs H Q E,sp vs H Q E→vs.length=ps.length)
  (hbody:∀(A:Around) (outer:List Env) (s:Shared) (H:Hp) (vs:List V) (Q:VK) (E:XK),DQ k (A.deeper (envOfC qual scope s.heap.objs.size f cdv))→sp vs H Q E →
   ∃t,PSs (ND CX P w K mg base N qual scope f cdv A outer s H E) body t/\t { nx:=fun _ H'=>Q .non H',rt:=Q } (start N vs) H) :
  Ba P w K mg base CX (k+1) f (PySem.W.fnOf name qual params body scope dV kV doc pm an cdv ct) ps sp:=by
 refine ⟨len,fun A outer s H args us vs Q E hr e0 hb r hsp=>?_⟩
 have hl:=len _ _ _ _ hsp
 have KX:K.In s.heap:=e0.mod.kin.keeps fun b o e=>(e0.bs b o e).1
 have lim:s.heap.NoLimit:=e0.mod.nolimit.keeps fun b o e=>(e0.bs b o e).1
 have hkind:∀y∈ps.zip us,scope.names.lookup y.1=some .local\/(scope.names.lookup y.1=some .cell/\((cellsFrom (s.heap.objs.size+1) scope.names []).lookup y.1).isSome=true):=fun ⟨n,v⟩ hy=>by
  rcases S.par n (List.of_mem_zip hy).1 with q|q
  ·exact .inl q
  ·exact .inr ⟨q,PySem.W.cellsFrom_some _ _ _ (.inl q)⟩
 refine codeAny_call_function hr.depth (KX _ _ lk) rfl S.co S.gen rfl (PySem.W.codeRec_of KX hcd) (hb _ _ _ _ ?_)
 refine wpAny_newFunctionEnv_cells S.kind hkind fun env he s1 x=>?_
 subst he
 refine ⟨lim.keeps x.toInCall.keep,codeAny_func ?_⟩
 obtain ⟨t,ht,hq⟩:=hbody A outer s H vs Q E (hr.deeper _) hsp
 have I:Inv (ND CX P w K mg base N qual scope f cdv A outer s H E) [] (start N vs) H s1:=M5 S hr.hd e0 hl r x
 refine wpAny_mono (ht [] s1 (start N vs) H _ I hq) (fun fl s' hs=>?_) fun e s' hs=>hs
 have fin:∀{σ':St} {H':Hp} {v:V} {u:Value},Inv (ND CX P w K mg base N qual scope f cdv A outer s H E) [] σ' H' s'→RelV v u→Q v H'→CE outer P w H s Q u s' :=
  fun {σ' H' v u} J rv q=>⟨v,H',J.os,J.bare,J.base,J.hok,rv,q⟩
 cases fl with
 | ret u =>
  obtain ⟨v,σ',H',J,rv,q⟩:=hs
  exact fin J rv q
 | next =>
  obtain ⟨σ',H',J,q⟩:=hs
  exact fin (v:=V.non) (u:=Value.none) J rfl q
 | brk =>
  obtain ⟨_,_,_,q⟩:=hs
  exact False.elim q
 | cont =>
  obtain ⟨_,_,_,q⟩:=hs
  exact False.elim q
end L2
namespace L2
open PySem PySem.Spec PyProof.Rows
section
variable {X:Cx}{x:Str}{p pos:Pos}{e:Expr}{es:List Expr}{t:TA}{id T:String}{r:List V→Hp→VK→Prop}
def tCB (r:List V→Hp→VK→Prop) (t:TA):TE:=fun σ H Q=>t σ H fun vs H1=>r vs H1 Q
theorem Al (hc:Cy X (.builtin id) r) (hg:Gl X x) (hm:X.mg x=none) (hv:bootBuiltins x=some (.builtin id)) (ha:PA X (e::es) t) (hn:x ≠ "__name__" := by decide) (hdb:(x==("__debug__" : Str))=false:=by decide)
  (he:starEach (e::es) X.env=(false,eval e X.env)::starEach es X.env:=by rfl) (hpl:(backTo pos (starEach es X.env)).any (·.1)=false:=by rfl):PE X (.Call (.Name x p) (e::es) [] pos) (tCB r t):=by
 intro pins s σ H Q I h
 refine wpAny_Call_Name_kw (FP I hg hm hv ?_ hn hdb)
 exact PyProof.Rows.callWith_builtin1 (thn (ha pos pins s σ H _ I h) fun us s1 ⟨vs,H1,I1,r1,q1⟩=>hc pins s1 σ H1 vs us Q I1 r1 q1) he hpl
theorem B6 (hc:Cy X (.type T) r) (hg:Gl X x) (hm:X.mg x=none) (hv:bootBuiltins x=some (.type T)) (ha:PA X (e::es) t) (hn:x ≠ "__name__" := by decide) (hdb:(x==("__debug__" : Str))=false:=by decide)
  (he:starEach (e::es) X.env=(false,eval e X.env)::starEach es X.env:=by rfl) (hpl:(backTo pos (starEach es X.env)).any (·.1)=false:=by rfl):PE X (.Call (.Name x p) (e::es) [] pos) (tCB r t):=by
 intro pins s σ H Q I h
 refine wpAny_Call_Name_kw (FP I hg hm hv ?_ hn hdb)
 exact PyProof.Rows.callWith_type1 (thn (ha pos pins s σ H _ I h) fun us s1 ⟨vs,H1,I1,r1,q1⟩=>hc pins s1 σ H1 vs us Q I1 r1 q1) he hpl
end
end L2
namespace HT
open PySem PyProof.Rows
section
open PySem.SeqAt
open PySem.AutoSeq1 (wpAny_loadPart')
open PySem.MeetsSeq PySem.MeetsSeq2 PySem.MeetsSeq3
end
section
variable {prog:Program}{w:World}{A:Around}{E:Value→Shared→Prop}{s:Shared}
theorem MH {t b:Addr}{vs ws:List Value}{Q:Value→Shared→Prop}(ht:IsTup s.heap t vs.toArray) (hb:IsTup s.heap b ws.toArray) (hv:vs≠[])
  (h1:ws=[]→Q (.ref t) s) (h2:ws≠[]→Q (.ref s.heap.objs.size) { s with heap:=s.heap.push { cls:=.type "tuple", data:=.seq (vs++ws).toArray } })
  (hsz:vs.length+ws.length≤sizeLine):wpAny (model prog w) A (binaryOp .Add (.ref t) (.ref b)) Q E s:=by
 obtain ⟨⟨cls,dd,data,sl⟩,ho,hc,n,hd⟩:=id ht
 obtain ⟨⟨cls2,dd2,data2,sl2⟩,ho2,hc2,n2,hd2⟩:=id hb
 simp only at hc hd hc2 hd2
 subst hc hd hc2 hd2
 have e:vs.toArray++ws.toArray=(vs++ws).toArray:=by simp
 by_cases hw:ws=[]
 ·exact concat_meets ⟨_,ho,rfl⟩ ⟨_,ho2,rfl⟩ noFill_tuple_add seq_tuple_add PySem.F.slot_tuple_add PySem.F.entry_tuple_add (PySem.F.args_tuple_add_2 _ _)
   (tuple_addW1 t b vs.toArray ws.toArray n n2 dd dd2 sl sl2 (by simpa using hv) (by simp [hw])) ⟨ho,ho2,h1 hw⟩
 ·refine concat_meets ⟨_,ho,rfl⟩ ⟨_,ho2,rfl⟩ noFill_tuple_add seq_tuple_add PySem.F.slot_tuple_add PySem.F.entry_tuple_add (PySem.F.args_tuple_add_2 _ _)
   (tuple_addW2 t b vs.toArray ws.toArray n n2 dd dd2 sl sl2 (by simpa using hv) (by simpa using hw) (by rw [List.size_toArray,List.size_toArray];exact hsz)) ⟨ho,ho2,?_⟩
  rw [e]
  exact h2 hw
def sIx (n d:Nat):Option Int→Nat
 | none=>d
 | some v=>if v<0 then (v+(n:Int)).toNat else min v.toNat n
theorem Er (n d k:Nat):sIx n d (some (k:Int))=min k n:=by
 show (if (k:Int)<0 then ((k:Int)+(n:Int)).toNat else min (k:Int).toNat n)=min k n
 rw [if_neg (by omega),Int.toNat_natCast]
theorem QV (n d:Nat) (hd:d≤n) (o:Option Int):sIx n d o≤n:=by
 cases o with
 | none=>exact hd
 | some v =>
  show (if v<0 then (v+(n:Int)).toNat else min v.toNat n)≤n
  by_cases hv:v<0
  ·rw [if_pos hv];omega
  ·rw [if_neg hv];exact Nat.min_le_right _ _
theorem MF (v:Int) (n d:Nat):(if v<0 then max (v+(n:Int)) 0 else min v (n:Int))=((sIx n d (some v):Nat):Int):=by
 show (if v<0 then max (v+(n:Int)) 0 else min v (n:Int))=(((if v<0 then (v+(n:Int)).toNat else min v.toNat n):Nat):Int)
 by_cases hv:v<0
 ·simp only [if_pos hv];omega
 ·simp only [if_neg hv];omega
theorem Lb (lo hi:Option Int) (n:Nat):Builtin.Slice.sliceAdjust lo hi 1 (n:Int)=(((sIx n 0 lo:Nat):Int),((sIx n n hi:Nat):Int)):=by
 have h1:¬ ((1:Int)<0):=by omega
 unfold Builtin.Slice.sliceAdjust
 simp only [h1,if_false]
 refine Prod.ext ?_ ?_
 ·cases lo with
  | none=>rfl
  | some v=>exact MF v n 0
 ·cases hi with
  | none=>rfl
  | some v=>exact MF v n n
theorem K9 (i j:Nat):Builtin.Slice.slicePlaces (i:Int) (j:Int) 1=j-i:=by
 unfold Builtin.Slice.slicePlaces
 have h1:(1:Int) > 0:=by omega
 simp only [h1,if_true,Int.ediv_one]
 split <;> omega
theorem Gs {v:Value}{o:Option Int}{Q:Option Int→Shared→Prop}(p:IsPart v o) (h:Q o s):wpAny (model prog w) A (Builtin.Slice.slicePartIndex v) Q E s:=by
 cases p with
 | none=>exact slicePart_none h
 | int i t=>exact slicePart_int h
theorem F0 {sl:Addr}{vl vu:Value}{lo hi:Option Int}{n:Nat}{Q:Int×Int×Nat→Shared→Prop}(hs:s.heap.IsSliceOf sl vl vu .none) (pl:IsPart vl lo) (pu:IsPart vu hi)
  (h:Q (((sIx n 0 lo:Nat):Int),1,sIx n n hi-sIx n 0 lo) s):wpAny (model prog w) A (Builtin.Slice.sliceApplied (.ref sl) (pure (n:Int))) Q E s:=by
 obtain ⟨os,hos,hcs,hds⟩:=id hs
 unfold Builtin.Slice.sliceApplied Builtin.Slice.sliceFields
 refine wpAny_bind (wpAny_bind (wpAny_field hos hds (x:=vl) rfl (wpAny_bind (wpAny_field hos hds (x:=vu) rfl (wpAny_bind (wpAny_field hos hds (x:=.none) rfl (wpAny_pure ?_)))))))
 refine wpAny_bind (slicePart_none ?_)
 show wpAny _ _ (if ((1:Int)==0)=true then _ else _) _ _ s
 rw [if_neg (by decide)]
 refine wpAny_bind (Gs pl (wpAny_bind (Gs pu (wpAny_bind (wpAny_pure ?_)))))
 show wpAny _ _ (match Builtin.Slice.sliceAdjust lo hi 1 (n:Int) with|(lo,hi)=>pure (lo,(1:Int),Builtin.Slice.slicePlaces lo hi 1)) _ _ s
 rw [Lb lo hi n]
 show wpAny _ _ (pure (((sIx n 0 lo:Nat):Int),(1:Int),Builtin.Slice.slicePlaces ((sIx n 0 lo:Nat):Int) ((sIx n n hi:Nat):Int) 1)) _ _ s
 rw [K9]
 exact wpAny_pure h
theorem N5 (xs:Array Value) (i k:Nat):((List.range k).filterMap fun (m:Nat)=>xs[((i:Int)+(m:Int) * 1).toNat]?).toArray=((xs.toList.drop i).take k).toArray:=by
 have e:(fun (m:Nat)=>xs[((i:Int)+(m:Int) * 1).toNat]?)=fun m=>xs[i+m]?:=by
  funext m
  have:((i:Int)+(m:Int) * 1).toNat=i+m:=by omega
  rw [this]
 rw [e]
 have:=pick_run xs i k
 rw [List.filterMap_map] at this
 have e2:((fun x=>xs[x]?) ∘ fun x=>i+x)=fun m=>xs[i+m]?:=rfl
 rw [e2] at this
 rw [this]
theorem Fp {t sl:Addr}{items:Array Value}{vl vu:Value}{lo hi:Option Int}{Q:Value→Shared→Prop}(ht:IsTup s.heap t items) (hs:s.heap.IsSliceOf sl vl vu .none) (pl:IsPart vl lo) (pu:IsPart vu hi)
  (hw:¬ (sIx items.size 0 lo=0/\sIx items.size items.size hi=items.size))
  (h:Q (.ref s.heap.objs.size) { s with heap:=s.heap.push { cls:=.type "tuple", data:=.seq ((items.toList.drop (sIx items.size 0 lo)).take (sIx items.size items.size hi-sIx items.size 0 lo)).toArray } })
  (hsz:items.size≤sizeLine):wpAny (model prog w) A (getItem (.ref t) (.ref sl)) Q E s:=by
 have htake:sizeOk (.seq ((items.toList.drop (sIx items.size 0 lo)).take (sIx items.size items.size hi-sIx items.size 0 lo)).toArray):=by
  show ((items.toList.drop (sIx items.size 0 lo)).take (sIx items.size items.size hi-sIx items.size 0 lo)).toArray.size≤sizeLine
  rw [List.size_toArray,List.length_take,List.length_drop,Array.length_toList]
  omega
 have hj:sIx items.size items.size hi≤items.size:=QV _ _ (Nat.le_refl _) hi
 obtain ⟨os,hos,hcs,hds⟩:=id hs
 have hTs:s.TypeIs (.ref sl) "slice" := ⟨os,hos,hcs⟩
 unfold getItem
 try with_reducible refine wpAny_holding ?_
 first|refine wpAny_bind (wpAny_pure ?_)|skip
 refine wpAny_bind (wpAny_sequenceKey ht.typeIs (by decide) ?_)
 refine wpAny_bind (wpAny_callSpecial?_slot (name:=Str.ofString "__getitem__") ht.typeIs PyProof.Rows.slot_tuple_getitem
  (wpAny_call_entry PyProof.Rows.slot_tuple_getitem ht.typeIs entry_tuple_getitem ?_ (args_tuple_getitem _ _)))
 show wpAny _ _ (Builtin.Tuple.tupleItemsOf (.ref t) >>= _) _ _ s
 refine wpAny_bind (tupleItemsOf_ ht ?_)
 refine wpAny_bind (wpAny_typeOf hTs ?_)
 rw [if_pos (by decide)]
 refine wpAny_bind (F0 hs pl pu ?_)
 have hno:¬ ((((sIx items.size 0 lo:Nat):Int)==0&&(1:Int)==1&&(sIx items.size items.size hi-sIx items.size 0 lo)==items.size)=true):=by
  intro q
  rw [Bool.and_eq_true,Bool.and_eq_true] at q
  have q1:((sIx items.size 0 lo:Nat):Int)=0:=eq_of_beq q.1.1
  have q2:sIx items.size items.size hi-sIx items.size 0 lo=items.size:=eq_of_beq q.2
  exact hw ⟨by omega,by omega⟩
 show wpAny _ _ (if (((sIx items.size 0 lo:Nat):Int)==0&&(1:Int)==1&&(sIx items.size items.size hi-sIx items.size 0 lo)==items.size)=true then _ else _) _ _ s
 rw [if_neg hno,N5]
 first
  | exact wpAny_bind (m:=Builtin.Tuple.tupleExact _) (wpAny_newObj_type (wpAny_pure ⟨_,rfl,wpAny_pure h⟩) htake)
  | exact wpAny_bind (m:=Builtin.Tuple.tupleExact _) (wpAny_newObj_type (wpAny_bind (wpAny_pure (wpAny_pure ⟨_,rfl,wpAny_pure h⟩))) htake)
  | exact wpAny_bind (wpAny_bind (m:=Builtin.Tuple.tupleExact _) (wpAny_newObj_type (wpAny_pure (wpAny_pure ⟨_,rfl,wpAny_pure h⟩)) htake))
  | exact wpAny_bind (wpAny_bind (m:=Builtin.Tuple.tupleExact _) (wpAny_newObj_type (wpAny_pure ⟨_,rfl,wpAny_pure h⟩) htake))
end
end HT
namespace L2
open PySem PySem.Spec PyProof.Rows
abbrev TO:=St→Hp→(Option Int→Hp→Prop)→Prop
def PO (X:Cx) (e:Option Expr) (t:TO):Prop :=
 ∀(pins:List (Addr×Obj)) (s:Shared) (σ:St) (H:Hp) (Q:Option Int→Hp→Prop),Inv X pins σ H s→t σ H Q →
  wpAny (model X.prog X.w) X.A (evalPart e X.env) (fun u s'=>∃o H',Inv X pins σ H' s'/\IsPart u o/\Q o H') X.xe s
def O7:TO:=fun _ H Q=>Q none H
def RB (t:TE):TO:=fun σ H Q=>t σ H fun x H1=>∃i,x=.int i/\Q (some i) H1
section
variable {X:Cx}{e:Expr}{te:TE}{lo hi:Option Expr}{tl th:TO}{pos p2:Pos}
theorem CG:PO X none O7:=by
 intro pins s σ H Q I h
 rw [evalPart_none]
 exact wpAny_pure ⟨none,H,I,.none,h⟩
theorem A9 (h:PE X e te):PO X (some e) (RB te):=by
 intro pins s σ H Q I hw
 rw [evalPart_some]
 refine thn (h pins s σ H _ I hw) fun u s1 ⟨x,H1,I1,r1,q1⟩=>?_
 obtain ⟨i,rfl,q⟩:=q1
 obtain ⟨t,rfl⟩:=r1
 exact ⟨some i,H1,I1,.int i t,q⟩
def SlR (X:Cx) (r:V→Option Int→Option Int→Hp→VK→Prop):Prop :=
 ∀(pins:List (Addr×Obj)) (s:Shared) (σ:St) (H:Hp) (x:V) (v vl vu:Value) (lo hi:Option Int) (sl:Addr) (Q:VK),Inv X pins σ H s→RelV x v→s.heap.IsSliceOf sl vl vu .none→IsPart vl lo→IsPart vu hi→r x lo hi H Q →
  ∃T id,typeLookup (.type T) "__getitem__" = pure (some (.builtin id))/\s.TypeIs v T/\wpAny (model X.prog X.w) X.A (getItem v (.ref sl)) (EP X pins σ Q) X.xe s
def tSl (r:V→Option Int→Option Int→Hp→VK→Prop) (te:TE) (tl th:TO):TE:=fun σ H Q=>te σ H fun x H1=>tl σ H1 fun l H2=>th σ H2 fun u H3=>r x l u H3 Q
theorem BB {r:V→Option Int→Option Int→Hp→VK→Prop}(hr:SlR X r) (he:PE X e te) (hl:PO X lo tl) (hu:PO X hi th):PE X (.Subscript e (.Slice lo hi none p2) pos) (tSl r te tl th):=by
 intro pins s σ H Q I h
 refine Subscript_ (thn (he pins s σ H _ I h) fun v s1 ⟨x,H1,I1,r1,q1⟩=>?_)
 refine wpAny_Slice (thn (hl pins s1 σ H1 _ I1 q1) fun vl s2 ⟨l,H2,I2,pl,q2⟩=>thn (hu pins s2 σ H2 _ I2 q2) fun vu s3 ⟨u,H3,I3,pu,q3⟩=>?_)
 rw [evalPart_none]
 refine wpAny_pure ?_
 have I4:Inv X pins σ H3 { s3 with heap:=s3.heap.push { cls:=.type "slice", data:=.fields #[vl,vu,.none] } }:=I3.kept (t':=s3.toks) fun b ob q=>Heap.get?_push_of_some _ q
 obtain ⟨T,id,hT,ht,hg⟩:=hr pins { s3 with heap:=s3.heap.push { cls:=.type "slice", data:=.fields #[vl,vu,.none] } } σ H3 x v vl vu l u s3.heap.objs.size Q I4 r1 (Heap.IsSliceOf.new ..) pl pu q3
 show wpAny (model X.prog X.w) X.A (subscriptTail e (.Slice lo hi none p2) v (.ref s3.heap.objs.size)) (EP X pins σ Q) X.xe { s3 with heap:=s3.heap.push { cls:=.type "slice", data:=.fields #[vl,vu,.none] } }
 exact tail_any (ops:=[.ref s3.heap.objs.size,v]) ht hT hg (by with_unfolding_all rfl)
def EI (xs:List V) (lo hi:Option Int):List V:=(xs.drop (HT.sIx xs.length 0 lo)).take (HT.sIx xs.length xs.length hi-HT.sIx xs.length 0 lo)
theorem GY (xs:List V) (lo hi:Option Int):(EI xs lo hi).length≤xs.length:=by
 unfold EI
 rw [List.length_take,List.length_drop]
 omega
def RO (K:PySem.W.Frag):V→Option Int→Option Int→Hp→VK→Prop:=fun x lo hi H Q=>∃a xs,x=.ref a/\SqT K H a xs /\
 ¬ (HT.sIx xs.length 0 lo=0/\HT.sIx xs.length xs.length hi=xs.length)/\∀p,H p=none→Q (.ref p) (upd H p (.tup (EI xs lo hi)))
theorem QU:SlR X (RO X.K):=by
 intro pins s σ H x v vl vu lo hi sl Q I rx hs pl pu h
 obtain ⟨a,xs,rfl,hx,hw,q⟩:=h
 cases rx
 obtain ⟨its,r,ht,hz⟩:=I.tuple hx
 have hlen:its.toArray.size=xs.length:=by rw [List.size_toArray];exact r.length.symm
 refine ⟨"tuple", _,PyProof.Rows.slot_tuple_getitem.lookup,ht.typeIs,?_⟩
 refine HT.Fp ht hs pl pu (by rw [hlen];exact hw) ?_ (by rw [hlen];exact hz)
 rw [hlen]
 refine ⟨.ref s.heap.objs.size,_,I.laid (t':=s.toks) (o:=.tup (EI xs lo hi)) (fun b ob q=>Heap.get?_push_of_some _ q) (Nat.le_refl _) ?_,rfl,q _ (I.hok.fresh (Nat.le_refl _))⟩
 exact ⟨Nat.le_trans (GY xs lo hi) hz,_,(r.drop (HT.sIx xs.length 0 lo)).take (HT.sIx xs.length xs.length hi-HT.sIx xs.length 0 lo),IsTup.new _ _⟩
def QD (K:PySem.W.Frag):R2:=fun x y H Q=>∃a b xs ys,x=.ref a/\y=.ref b/\SqT K H a xs/\SqT K H b ys/\xs≠[]/\xs.length+ys.length≤sizeLine /\
 (ys=[]→Q (.ref a) H)/\(ys≠[]→∀p,H p=none→Q (.ref p) (upd H p (.tup (xs++ys))))
theorem Vals.Fl {xs:List V}{us:List Value}(r:Vals xs us):us=[]↔xs=[]:=by
 cases r with
 | nil=>simp
 | cons _ _=>simp
theorem Pe:OpR X (binaryOp .Add) (QD X.K):=by
 intro pins s σ H x y v u Q I rx ry h
 obtain ⟨a,b,xs,ys,rfl,rfl,ha,hb,hx,hz,q1,q2⟩:=h
 cases rx
 cases ry
 obtain ⟨its,r1,p1,_⟩:=I.tuple ha
 obtain ⟨its2,r2,p2,_⟩:=I.tuple hb
 refine HT.MH p1 p2 (fun z=>hx (r1.Fl.mp z)) (fun z=>⟨.ref a,H,I,rfl,q1 (r2.Fl.mp z)⟩) (fun z=>?_) (by rw [←r1.length,←r2.length];exact hz)
 refine ⟨.ref s.heap.objs.size,_,I.laid (t':=s.toks) (o:=.tup (xs++ys)) (fun b ob q=>Heap.get?_push_of_some _ q) (Nat.le_refl _) ?_,rfl,q2 (fun w=>z (r2.Fl.mpr w)) _ (I.hok.fresh (Nat.le_refl _))⟩
 exact ⟨by rw [List.length_append];exact hz,_,r1.append r2,IsTup.new _ _⟩
end
end L2
namespace L2
open PySem PySem.Spec PyProof.Rows
def ixN (n:Nat) (i:Int):Option Nat:=if 0≤i then (if i<n then some i.toNat else none) else if -(n:Int)≤i then some (i+n).toNat else none
def atI {α:Type}(xs:List α) (i:Int):Option α:=(ixN xs.length i).bind fun j=>xs[j]?
theorem Pp {n:Nat}{i:Int}{j:Nat}(h:ixN n i=some j):seqIndex? i n=some j/\j<n/\-(n:Int)≤i/\i<n:=by
 unfold ixN at h
 by_cases h0:0≤i
 ·rw [if_pos h0] at h
  by_cases h1:i<n
  ·rw [if_pos h1] at h
   have e:i.toNat=j:=Option.some.inj h
   exact ⟨by rw [seqIndex_of h0 h1,e],by omega,by omega,h1⟩
  ·rw [if_neg h1] at h;cases h
 ·rw [if_neg h0] at h
  by_cases h1:-(n:Int)≤i
  ·rw [if_pos h1] at h
   have e:(i+n).toNat=j:=Option.some.inj h
   exact ⟨by rw [seqIndex_neg (by omega) h1,e],by omega,h1,by omega⟩
  ·rw [if_neg h1] at h;cases h
theorem Jg {α:Type}{xs:List α}{i:Int}{v:α}(h:atI xs i=some v):∃j,seqIndex? i xs.length=some j/\xs[j]?=some v/\j<xs.length/\-(xs.length:Int)≤i/\i<xs.length:=by
 unfold atI at h
 cases e:ixN xs.length i with
 | none=>rw [e] at h;cases h
 | some j =>
  rw [e] at h
  obtain ⟨h1,h2,h3,h4⟩:=Pp e
  exact ⟨j,h1,h,h2,h3,h4⟩
theorem AI {α:Type}{xs:List α}{j:Nat}{v:α}(h:xs[j]?=some v):atI xs (j:Int)=some v:=by
 have hj:j<xs.length:=(List.getElem?_eq_some_iff.mp h).1
 have e:ixN xs.length (j:Int)=some j:=by
  unfold ixN
  rw [if_pos (by omega),if_pos (by omega)];simp
 unfold atI;rw [e];exact h
def P0 (b:Expr):Prop:=∀o i,subscripted b false o i=operate [o,i] (getItem o i)
def IxR (X:Cx) (r:R2):Prop :=
 ∀(value slice:Expr) (pins:List (Addr×Obj)) (s:Shared) (σ:St) (H:Hp) (x y:V) (v u:Value) (Q:VK),Inv X pins σ H s→RelV x v→RelV y u→r x y H Q →
  subscripted slice false v u=operate [v,u] (getItem v u)→wpAny (model X.prog X.w) X.A (subscriptTail value slice v u) (EP X pins σ Q) X.xe s
def MtR (X:Cx) (id:String) (r:V→List V→Hp→VK→Prop):Prop :=
 ∀(pins:List (Addr×Obj)) (s:Shared) (σ:St) (H:Hp) (x:V) (xs:List V) (v:Value) (us:List Value) (Q:VK),Inv X pins σ H s→RelV x v→Vals xs us→r x xs H Q →
  wpAny (model X.prog X.w) X.A (call (.builtin id) (v::us)) (EP X pins σ Q) X.xe s
section
variable {X:Cx}{a b:Expr}{ta tb:TE}{pos:Pos}
theorem AM {r:R2}(hr:IxR X r) (ha:PE X a ta) (hb:PE X b tb) (hs:P0 b):PE X (.Subscript a b pos) (tOp r ta tb):=by
 intro pins s σ H Q I h
 exact Subscript_ (Q4 ha hb I h fun v u s2 x y H2 I2 rx ry q=>hr a b pins s2 σ H2 x y v u Q I2 rx ry q (hs _ _))
def RS (K:PySem.W.Frag):R2:=fun x y H Q=>∃p xs i v,x=.ref p/\y=.int i/\SqL K H p xs/\atI xs i=some v/\Q v H
def RR (K:PySem.W.Frag):R2:=fun x y H Q=>∃p xs i v,x=.ref p/\y=.int i/\SqT K H p xs/\atI xs i=some v/\Q v H
def SF:R2:=fun x y H Q=>∃z i c,x=.str z/\y=.int i/\z.length≤sizeLine/\atI z.cps.toList i=some c/\Q (.str ⟨#[c]⟩) H
theorem Po:IxR X (RS X.K):=by
 intro value slice pins s σ H x y v u Q I rx ry h hs
 obtain ⟨p,xs,i,z,rfl,rfl,hq,he,q⟩:=h
 cases rx
 obtain ⟨t,rfl⟩:=ry
 obtain ⟨its,r,pl,hz⟩:=I.list hq
 obtain ⟨j,h1,h2,h3,h4,h5⟩:=Jg he
 obtain ⟨w,ew,rw'⟩:=r.get h2
 have hl:=r.length
 have hn:=HN
 have fin:EP X pins σ Q w s:=⟨z,H,I,rw',q⟩
 by_cases h0:0≤i
 ·have hj:i.toNat=j:=by
   rw [seqIndex_of h0 h5] at h1
   exact Option.some.inj h1
  exact item_listR pl.isList h0 (by omega) (by rw [hj];simpa using ew) fin hs
 ·have hj:(i+(its.toArray.size:Int)).toNat=j:=by
   rw [seqIndex_neg (by omega) h4] at h1
   rw [List.size_toArray,←hl]
   exact Option.some.inj h1
  exact subscriptTail_builtinR (x:=w) pl.isList.typeIs slot_list_getitem.lookup
   (wpAny_getItem_list_neg (Q:=fun r s'=>r=w/\EP X pins σ Q r s') pl.isList (by omega) (by rw [List.size_toArray] <;> omega) (by omega) (by rw [hj];simpa using ew) ⟨rfl,fin⟩) hs
theorem Qy:IxR X (RR X.K):=by
 intro value slice pins s σ H x y v u Q I rx ry h hs
 obtain ⟨p,xs,i,z,rfl,rfl,hq,he,q⟩:=h
 cases rx
 obtain ⟨t,rfl⟩:=ry
 obtain ⟨its,r,pl,hz⟩:=I.tuple hq
 obtain ⟨j,h1,h2,h3,h4,h5⟩:=Jg he
 obtain ⟨w,ew,rw'⟩:=r.get h2
 have hl:=r.length
 have hn:=HN
 have fin:EP X pins σ Q w s:=⟨z,H,I,rw',q⟩
 exact subscriptTail_builtinR (x:=w) pl.typeIs slot_tuple_getitem.lookup
  (getItem_tuple (j:=j) (Q:=fun r s'=>r=w/\EP X pins σ Q r s') pl (by omega) (by omega) (by rw [List.size_toArray,←hl];exact h1) (by simpa using ew) ⟨rfl,fin⟩) hs
theorem FQ:IxR X SF:=by
 intro value slice pins s σ H x y v u Q I rx ry h hs
 obtain ⟨z,i,c,rfl,rfl,hz,he,q⟩:=h
 obtain ⟨t,rfl⟩:=rx
 obtain ⟨t',rfl⟩:=ry
 obtain ⟨j,h1,h2,h3,h4,h5⟩:=Jg he
 have hl:z.cps.toList.length=z.length:=by simp [Str.length]
 rw [hl] at h1 h4 h5
 have hn:=HN
 exact tail_any (typeIs_str s z t) slot_str_getitem.lookup (getItem_str (c:=c) (by
  have e1:decide (i < -(2 ^ 63:Int))=false:=decide_eq_false (by omega)
  have e2:decide (i≥2 ^ 63)=false:=decide_eq_false (by omega)
  rw [e1,e2,Bool.or_false]) (by rw [h1];simpa using h2) ⟨.str ⟨#[c]⟩,H,I.tok _,⟨_,rfl⟩,q⟩) hs
theorem Iw (lo hi:Option Int) (n:Nat):(sliceBounds lo hi none n).1=((HT.sIx n 0 lo:Nat):Int)/\(sliceBounds lo hi none n).2.1=((HT.sIx n n hi:Nat):Int)/\(sliceBounds lo hi none n).2.2=1:=by
 refine ⟨?_,?_,rfl⟩
 ·cases lo with
  | none=>simp [sliceBounds,HT.sIx]
  | some i =>
   simp only [sliceBounds,HT.sIx,Option.getD_none,show (1:Int) > 0 by decide,if_true]
   by_cases h:i<0
   ·simp only [h,if_true] <;> omega
   ·simp only [h,if_false] <;> omega
 ·cases hi with
  | none=>simp [sliceBounds,HT.sIx]
  | some i =>
   simp only [sliceBounds,HT.sIx,Option.getD_none,show (1:Int) > 0 by decide,if_true]
   by_cases h:i<0
   ·simp only [h,if_true] <;> omega
   ·simp only [h,if_false] <;> omega
theorem Ho (its:List Value) (lo hi:Option Int):slicePick its.toArray lo hi none=((its.drop (HT.sIx its.length 0 lo)).take (HT.sIx its.length its.length hi-HT.sIx its.length 0 lo)).toArray:=by
 obtain ⟨h1,h2,h3⟩:=Iw lo hi its.toArray.size
 unfold slicePick
 rw [h1,h2,h3]
 simp only [sliceRange_one,pick_run,List.size_toArray] <;> rfl
def RP (K:PySem.W.Frag):V→Option Int→Option Int→Hp→VK→Prop:=fun x lo hi H Q=>∃a xs,x=.ref a/\SqL K H a xs/\∀p,H p=none→Q (.ref p) (upd H p (.lst (EI xs lo hi)))
theorem PU:SlR X (RP X.K):=by
 intro pins s σ H x v vl vu lo hi sl Q I rx hs pl pu h
 obtain ⟨a,xs,rfl,hx,q⟩:=h
 cases rx
 obtain ⟨its,r,ht,hz⟩:=I.list hx
 have hlen:=r.length
 refine ⟨"list", _,slot_list_getitem.lookup,ht.isList.typeIs,?_⟩
 refine wpAny_getItem_list_slice ht.isList hs pl pu .none (by simp) ?_ (by rw [List.size_toArray] <;> omega)
 rw [Ho,←hlen]
 refine ⟨.ref s.heap.objs.size,_,I.laid (t':=s.toks) (o:=.lst (EI xs lo hi)) (fun b ob q=>Heap.get?_push_of_some _ q) (Nat.le_refl _) ?_,rfl,q _ (I.hok.fresh (Nat.le_refl _))⟩
 exact ⟨Nat.le_trans (GY xs lo hi) hz,_,0,(r.drop (HT.sIx xs.length 0 lo)).take (HT.sIx xs.length xs.length hi-HT.sIx xs.length 0 lo),Heap.get?_push_size _ rfl⟩
def GX:V→Bool
 | .non=>true
 | .bl _=>true
 | .int _=>true
 | .str _=>true
 | _=>false
def eqV:V→V→Bool
 | .non,.non=>true
 | .bl a,.bl b=>a==b
 | .bl a,.int b=>(if a then 1 else 0)==b
 | .int a,.bl b=>a==(if b then 1 else 0)
 | .int a,.int b=>a==b
 | .str a,.str b=>a==b
 | _,_=>false
theorem Q1 {A:Around}{s:Shared}{y x:V}{u v:Value}(ry:RelV y u) (rx:RelV x v) (fy:GX y=true) (fx:GX x=true):SeqAt.EqAt A s u v (eqV y x):=by
 cases y with
 | non =>
  cases ry
  cases x with
  | non=>cases rx;exact SeqAt.EqAt.same _
  | bl b=>cases rx;exact SeqAt.EqAt.none_bool b
  | int b=>obtain ⟨t,rfl⟩:=rx;exact SeqAt.EqAt.none_int b t
  | str b=>obtain ⟨t,rfl⟩:=rx;exact SeqAt.EqAt.none_str b t
  | _=>exact absurd (show false=true from fx) Bool.false_ne_true
 | bl a =>
  cases ry
  cases x with
  | non=>cases rx;exact SeqAt.EqAt.bool_none a
  | bl b=>cases rx;exact SeqAt.EqAt.bool_bool a b
  | int b=>obtain ⟨t,rfl⟩:=rx;exact SeqAt.EqAt.bool_int a b t
  | str b=>obtain ⟨t,rfl⟩:=rx;exact SeqAt.EqAt.bool_str a b t
  | _=>exact absurd (show false=true from fx) Bool.false_ne_true
 | int a =>
  obtain ⟨t',rfl⟩:=ry
  cases x with
  | non=>cases rx;exact SeqAt.EqAt.int_none a t'
  | bl b=>cases rx;exact SeqAt.EqAt.int_bool a t' b
  | int b=>obtain ⟨t,rfl⟩:=rx;exact SeqAt.EqAt.int_int a t' b t
  | str b=>obtain ⟨t,rfl⟩:=rx;exact SeqAt.EqAt.int_str a t' b t
  | _=>exact absurd (show false=true from fx) Bool.false_ne_true
 | str a =>
  obtain ⟨t',rfl⟩:=ry
  cases x with
  | non=>cases rx;exact SeqAt.EqAt.str_none a t'
  | bl b=>cases rx;exact SeqAt.EqAt.str_bool a t' b
  | int b=>obtain ⟨t,rfl⟩:=rx;exact SeqAt.EqAt.str_int a t' b t
  | str b=>obtain ⟨t,rfl⟩:=rx;exact SeqAt.EqAt.str_str a t' b t
  | _=>exact absurd (show false=true from fx) Bool.false_ne_true
 | _=>exact absurd (show false=true from fy) Bool.false_ne_true
def eqU (x:V) (u:Value):Bool:=match u with
 | .none=>eqV .non x
 | .bool b=>eqV (.bl b) x
 | .int i _=>eqV (.int i) x
 | .str z _=>eqV (.str z) x
 | _=>false
theorem Oe {x y:V}{u:Value}(r:RelV y u) (f:GX y=true):eqU x u=eqV y x:=by
 cases y with
 | non=>cases r;rfl
 | bl b=>cases r;rfl
 | int i=>obtain ⟨t,rfl⟩:=r;rfl
 | str z=>obtain ⟨t,rfl⟩:=r;rfl
 | _=>exact absurd (show false=true from f) Bool.false_ne_true
theorem Jh {x:V}:∀{xs:List V}{us:List Value},Vals xs us→xs.all GX=true→us.any (eqU x)=xs.any fun y=>eqV y x
 | _,_,.nil,_=>rfl
 | y::xs,u::us,.cons r t,f=>by
  rw [List.all_cons,Bool.and_eq_true] at f
  rw [List.any_cons,List.any_cons,Oe r f.1,Jh t f.2]
theorem HI {A:Around}{s:Shared}{x:V}{v:Value}(rx:RelV x v) (fx:GX x=true):∀{xs:List V}{us:List Value},Vals xs us→xs.all GX=true→∀u∈us,SeqAt.EqAt A s u v (eqU x u)
 | _,_,.nil,_=>fun u hu=>by cases hu
 | y::xs,u::us,.cons r t,f=>fun u' hu=>by
  rw [List.all_cons,Bool.and_eq_true] at f
  rcases List.mem_cons.mp hu with rfl|hu
  ·rw [Oe r f.1];exact Q1 r rx f.1 fx
  ·exact HI rx fx t f.2 u' hu
def inV (x:V) (xs:List V):Bool:=xs.any fun y=>eqV y x
def rIn (K:PySem.W.Frag) (neg:Bool):R2:=fun x y H Q=>∃p xs,y=.ref p/\(SqL K H p xs\/SqT K H p xs)/\GX x=true/\xs.all GX=true/\Q (.bl (if neg then !inV x xs else inV x xs)) H
theorem Mf:OpR X (compareOp .In) (rIn X.K false):=by
 intro pins s σ H x y v u Q I rx ry h
 obtain ⟨p,xs,rfl,hq,fx,fs,q⟩:=h
 cases ry
 rcases hq with hq|hq
 ·obtain ⟨its,r,pl,hz⟩:=I.list hq
  refine SeqAt.in_listAt (eqU x) pl.isList (fun w hw=>HI rx fx r fs w (by simpa using hw)) ⟨.bl _,H,I,rfl,?_⟩
  rw [show its.toArray.any (eqU x)=its.any (eqU x) by simp,Jh r fs]
  exact q
 ·obtain ⟨its,r,pl,hz⟩:=I.tuple hq
  refine SeqAt.in_tupleAt (eqU x) pl (fun w hw=>HI rx fx r fs w (by simpa using hw)) ⟨.bl _,H,I,rfl,?_⟩
  rw [show its.toArray.any (eqU x)=its.any (eqU x) by simp,Jh r fs]
  exact q
theorem Jb:Cy X (.builtin "len") (fun xs H Q=>∃p ys,xs=[.ref p]/\(SqL X.K H p ys\/SqT X.K H p ys)/\Q (.int ys.length) H):=by
 intro pins s σ H xs us Q I r h
 obtain ⟨p,ys,rfl,hq,q⟩:=h
 obtain ⟨u,rfl,rx⟩:=vals1 r
 cases rx
 have hn:=HN
 rcases hq with hq|hq
 ·obtain ⟨its,r',pl,hz⟩:=I.list hq
  have hlen:=r'.length
  exact Calls.call_len_list pl.isList (by simp only [List.size_toArray] <;> omega) ⟨.int ys.length,H,I.tok _,⟨s.toks+1,by rw [List.size_toArray,hlen]⟩,q⟩
 ·obtain ⟨its,r',pl,hz⟩:=I.tuple hq
  have hlen:=r'.length
  exact len_tuple pl (by simp only [List.size_toArray] <;> omega) ⟨.int ys.length,H,I.tok _,⟨s.toks+1,by rw [List.size_toArray,hlen]⟩,q⟩
theorem Ja:Cy X (.builtin "len") (fun xs H Q=>∃z,xs=[.str z]/\z.length≤sizeLine/\Q (.int z.length) H):=by
 intro pins s σ H xs us Q I r h
 obtain ⟨z,rfl,hz,q⟩:=h
 obtain ⟨u,rfl,t,rfl⟩:=vals1 r
 have hn:=HN
 exact len_str (by omega) ⟨.int z.length,H,I.tok _,⟨_,rfl⟩,q⟩
theorem JZ:Cy X (.type "list") (fun xs H Q=>∃p ys,xs=[.ref p]/\(SqL X.K H p ys\/SqT X.K H p ys)/\∀l,H l=none→Q (.ref l) (upd H l (.lst ys))):=by
 intro pins s σ H xs us Q I r h
 obtain ⟨p,ys,rfl,hq,q⟩:=h
 obtain ⟨u,rfl,rx⟩:=vals1 r
 cases rx
 have fin:∀(its:List Value),Vals ys its→ys.length≤sizeLine→∀(h':Heap) (c':Nat),(∀b o',s.heap.get? b=some o'→h'.get? b=some o') →
   h'.get? s.heap.objs.size=some { cls:=.type "list", dict:=none,data:=.seq its.toArray c',slots:=#[] }→EP X pins σ Q (.ref s.heap.objs.size) { s with heap:=h' }:=fun its r' hz h' c' kp e =>
  ⟨.ref s.heap.objs.size,_,I.laid (t':=s.toks) kp (Nat.le_refl _) (show BC X.prog X.w _ h' _ (.lst ys) from ⟨hz,its,c',r',e⟩),rfl,q _ (I.hok.fresh (Nat.le_refl _))⟩
 rcases hq with hq|hq
 ·obtain ⟨its,r',pl,hz⟩:=I.list hq
  have hlen:=r'.length
  obtain ⟨o,ho,hc,n,hd⟩:=pl.isList
  exact call_list_seq p (.inl rfl) ho hc hd (fun h' c' kp e=>fin its r' hz h' c' kp e) (by simp only [List.size_toArray] <;> omega)
 ·obtain ⟨its,r',pl,hz⟩:=I.tuple hq
  have hlen:=r'.length
  obtain ⟨o,ho,hc,n,hd⟩:=pl
  exact call_list_seq p (.inr rfl) ho hc hd (fun h' c' kp e=>fin its r' hz h' c' kp e) (by simp only [List.size_toArray] <;> omega)
theorem Ht:Cy X (.type "tuple") (fun xs H Q=>∃p ys,xs=[.ref p]/\((SqL X.K H p ys/\∀l,H l=none→Q (.ref l) (upd H l (.tup ys)))\/(SqT X.K H p ys/\Q (.ref p) H))):=by
 intro pins s σ H xs us Q I r h
 obtain ⟨p,ys,rfl,h⟩:=h
 obtain ⟨u,rfl,rx⟩:=vals1 r
 cases rx
 rcases h with ⟨hq,q⟩|⟨hq,q⟩
 ·obtain ⟨its,r',pl,hz⟩:=I.list hq
  have hlen:=r'.length
  refine call_tuple_list pl.isList (fun h' kp=>?_) (by simp only [List.size_toArray] <;> omega)
  have I1:Inv X pins σ H { s with heap:=h' }:=I.kept (t':=s.toks) kp
  have I2:Inv X pins σ (upd H h'.objs.size (.tup ys)) { s with heap:=h'.push { cls:=.type "tuple", data:=.seq its.toArray } } :=
   I1.laid (t':=s.toks) (fun b o e=>Heap.get?_push_of_some _ e) (Nat.le_refl _) (show BC X.prog X.w _ _ _ (.tup ys) from ⟨hz,its,r',IsTup.new _ _⟩)
  exact ⟨.ref h'.objs.size,_,I2,rfl,q _ (I1.hok.fresh (Nat.le_refl _))⟩
 ·obtain ⟨its,r',pl,hz⟩:=I.tuple hq
  exact call_tuple_same pl ⟨.ref p,H,I,rfl,q⟩
def tyV (K:PySem.W.Frag) (T:String) (x:V) (H:Hp):Prop:=match x with
 | .str _=>T = "str"
 | .int _=>T = "int"
 | .ref p=>(T = "list" /\ ∃xs,SqL K H p xs)\/(T = "tuple" /\ ∃o,K.lookup p=some o/\o.cls=.type "tuple" /\ o.dict=none) \/
   (T = "dict" /\ ((∃kvs,H p=some (.dK kvs))\/∃kvs,H p=some (.dT kvs)))\/(T = "set" /\ ∃S n,H p=some (.set S n))
 | _=>False
theorem QL {pins:List (Addr×Obj)}{σ:St}{H:Hp}{s:Shared}{T:String}{x:V}{v:Value}(I:Inv X pins σ H s) (r:RelV x v) (ty:tyV X.K T x H) :
  s.TypeIs v T/\∀a,v=.ref a→∃ob,s.heap.get? a=some ob/\ob.dict=none:=by
 cases x with
 | str z =>
  obtain ⟨t,rfl⟩:=r
  cases (show T = "str" from ty)
  exact ⟨typeIs_str s z t,fun _ e=>nomatch e⟩
 | int i =>
  obtain ⟨t,rfl⟩:=r
  cases (show T = "int" from ty)
  exact ⟨typeIs_int s i t,fun _ e=>nomatch e⟩
 | ref p =>
  cases r
  rcases ty with ⟨rfl,xs,hq⟩|⟨rfl,o,hk,hc,hd⟩|⟨rfl,hk⟩|⟨rfl,S,n,hk⟩
  ·obtain ⟨its,_,pl,_⟩:=I.list hq
   refine ⟨pl.isList.typeIs,fun a e=>?_⟩
   cases e
   obtain ⟨o,n,e,c,hd,_⟩:=pl
   exact ⟨o,e,hd⟩
  ·refine ⟨⟨o,I.kIn p o hk,hc⟩,fun a e=>?_⟩
   cases e
   exact ⟨o,I.kIn _ o hk,hd⟩
  ·have z:∃o,s.heap.get? p=some o/\o.ExactDict:=by
    rcases hk with ⟨kvs,hk⟩|⟨kvs,hk⟩
    ·obtain ⟨_,_,_,_,o,_,_,e,ex,_⟩:=I.hok p _ hk
     exact ⟨o,e,ex⟩
    ·obtain ⟨_,_,_,_,o,_,_,e,ex,_⟩:=I.hok p _ hk
     exact ⟨o,e,ex⟩
   obtain ⟨o,e,ex⟩:=z
   refine ⟨⟨o,e,ex.1⟩,fun a e2=>?_⟩
   cases e2
   exact ⟨o,e,ex.2.1⟩
  ·obtain ⟨o,_,_,_,e,ex,_⟩:=I.hok p _ hk
   refine ⟨⟨o,e,ex.1⟩,fun a e2=>?_⟩
   cases e2
   exact ⟨o,e,ex.2.1⟩
 | _=>exact False.elim ty
def tBM (K:PySem.W.Frag) (T:String) (r:V→List V→Hp→VK→Prop) (to:TE) (t:TA):TE:=fun σ H Q=>to σ H fun x H1=>tyV K T x H1/\t σ H1 fun xs H2=>r x xs H2 Q
variable {o e:Expr}{es:List Expr}{to:TE}{t:TA}{name:Str}{apos cpos:Pos}{T id:String}{r:V→List V→Hp→VK→Prop}
theorem RY (pa:PlainAttrs T) (slot:Slot T name id) (hty:typeOf (.builtin id)=pure (.type "method_descriptor")) (hm:MtR X id r) (ho:PE X o to) (ha:PA X (e::es) t)
  (hbase:attributeBase o name X.env (eval o X.env)=eval o X.env:=by rfl)
  (hfew:((backTo cpos (starEach (e::es) X.env)).all (fun x=>!x.1)&&(backToKw cpos (keywordEach [] X.env)).all (fun x=>x.1.isSome)
   && decide ((e::es).length+([]:List Keyword).length+(if ([]:List Keyword).isEmpty then 0 else 1)<30))=true:=by rfl)
  (hline:(apos.endLine==cpos.line)=true:=by rfl) (hs:starEach (e::es) X.env=(false,eval e X.env)::starEach es X.env:=by rfl) (hplain:(backTo cpos (starEach es X.env)).any (·.1)=false:=by rfl) :
  PE X (.Call (.Attribute o name apos) (e::es) [] cpos) (tBM X.K T r to t):=by
 intro pins s σ H Q I h
 refine wpAny_Call_method_late hbase hfew hline rfl (thn (ho pins s σ H _ I h) fun v s1 ⟨x,H1,I1,r1,ty,q1⟩=>?_)
 obtain ⟨h1,h2⟩:=QL I1 r1 ty
 refine ⟨T,id,pa,slot,hty,h1,h2,?_⟩
 have hA:=ha cpos pins s1 σ H1 _ I1 q1
 rw [hs] at hA ⊢
 refine Calls.callWith_builtin (by show (false||(backTo cpos (starEach es X.env)).any (·.1))=false;rw [hplain] <;> rfl) (Calls.evalArgs_plain ?_)
 exact thn hA fun us s2 ⟨vs,H2,I2,r2,q2⟩=>hm pins s2 σ H2 x vs v us Q I2 r1 r2 q2
end
end L2
namespace L2
open PySem PySem.Spec PyProof.Rows
def MtM (X:Cx) (id:String) (r:V→List V→Hp→VK→Prop):Prop :=
 ∀(pins:List (Addr×Obj)) (s:Shared) (σ:St) (H:Hp) (x:V) (xs:List V) (v:Value) (us:List Value) (Q:VK),Inv X pins σ H s→RelV x v→Vals xs us→r x xs H Q →
  wpAny (model X.prog X.w) X.A (call (.builtin id) (v::us)) (EP X pins σ Q) X.xe s
theorem Vals.one:∀{x:V}{us:List Value},Vals [x] us→∃u,us=[u]/\RelV x u
 | _,_,.cons r .nil=>⟨_,rfl,r⟩
theorem Vals.reverse {xs:List V}{us:List Value}(h:Vals xs us):Vals xs.reverse us.reverse:=by
 induction h with
 | nil=>exact .nil
 | cons r t ih=>rw [List.reverse_cons,List.reverse_cons];exact Vals.append ih (.cons r .nil)
section
variable {X:Cx}{pins:List (Addr×Obj)}{σ:St}{H:Hp}{s:Shared}{l b:Addr}{xs ys zs:List V}
theorem Inv.Rc {its its':List Value}{n:Nat}{f:Array Value→Array Value}{t':Nat}(I:Inv X pins σ H s) (hH:H l=some (.lst xs))
  (e:s.heap.get? l=some { cls:=.type "list", data:=.seq its.toArray n }) (hf:f its.toArray=its'.toArray) (hv:Vals ys its') (hz:ys.length≤sizeLine) :
  Inv X pins σ (upd H l (.lst ys)) { s with heap:=s.heap.update l (Obj.mapSeq f),toks:=t' }:=by
 have q:=PySem.IsL.update e f
 rw [hf] at q
 refine I.write (x:=l) (e:=l) (by rw [hH];exact trivial) (.inl rfl) (fun b' u hb hu=>(Heap.get?_update_other s.heap (Obj.mapSeq f) (Ne.symm hb)).trans hu) ⟨_,q⟩ ?_
 exact ⟨hz,its',_,hv,q⟩
theorem Inv.SJ {its:List Value}{t':Nat}(I:Inv X pins σ H s) (hv:Vals ys its) (hz:ys.length≤sizeLine) :
  Inv X pins σ (upd H s.heap.objs.size (.lst ys)) { s with heap:=s.heap.push { cls:=.type "list", data:=.seq its.toArray },toks:=t' } :=
 I.laid (fun _ _ q=>Heap.get?_push_of_some _ q) (Nat.le_refl _) ⟨hz,its,0,hv,Heap.get?_push_size _ rfl⟩
theorem Inv.fresh (I:Inv X pins σ H s):H s.heap.objs.size=none:=I.hok.fresh (Nat.le_refl _)
theorem Inv.OT (I:Inv X pins σ H s) (hH:H l=some (.lst xs)):xs.length≤sizeLine/\∃(its:List Value) (n:Nat),Vals xs its/\xs.length=its.length/\s.heap.get? l=some { cls:=.type "list", data:=.seq its.toArray n }:=by
 obtain ⟨z,its,n,r,e⟩:=I.hok l _ hH
 exact ⟨z,its,n,r,r.length,e⟩
theorem OK {n:Nat}(h:n≤sizeLine):Builtin.List.listTooLong n=false:=by
 unfold Builtin.List.listTooLong
 exact decide_eq_false (by omega)
end
section
variable {X:Cx}
def PZ:V→List V→Hp→VK→Prop:=fun x vs H Q=>∃l xs y,x=.ref l/\vs=[y]/\H l=some (.lst xs)/\xs.length<sizeLine/\Q .non (upd H l (.lst (xs++[y])))
theorem Bi:MtM X "list.append" PZ:=by
 intro pins s σ H x vs v us Q I rx rv h
 obtain ⟨l,xs,y,rfl,rfl,hH,hz,q⟩:=h
 cases rx
 obtain ⟨u,rfl,ru⟩:=rv.one
 obtain ⟨z,its,n,r,hl,e⟩:=I.OT hH
 refine call_meets F.slot_list_append ⟨_,e,rfl⟩ F.entry_list_append (F.args_list_append_2 _ _) (PySem.list_append l its.toArray n u (by rw [List.size_toArray];omega)) ⟨e,?_⟩
 refine ⟨.non,_,I.Rc (its':=its++[u]) hH e (by simp) (r.append (.cons ru .nil)) ?_,rfl,q⟩
 rw [List.length_append,List.length_singleton]
 omega
def PY:V→List V→Hp→VK→Prop:=fun x vs H Q=>∃l b xs zs,x=.ref l/\vs=[.ref b]/\H l=some (.lst xs)/\H b=some (.lst zs)/\xs.length+zs.length≤sizeLine/\Q .non (upd H l (.lst (xs++zs)))
theorem IV:MtM X "list.extend" PY:=by
 intro pins s σ H x vs v us Q I rx rv h
 obtain ⟨l,b,xs,zs,rfl,rfl,hH,hB,hz,q⟩:=h
 cases rx
 obtain ⟨u,rfl,ru⟩:=rv.one
 cases ru
 obtain ⟨z,its,n,r,hl,e⟩:=I.OT hH
 obtain ⟨z2,its2,n2,r2,hl2,e2⟩:=I.OT hB
 have hsz:its.toArray.size+its2.toArray.size≤sizeLine:=by rw [List.size_toArray,List.size_toArray];omega
 have hlong:¬ (!its.toArray.isEmpty&&Builtin.List.listTooLong (its.toArray.size+its2.toArray.size))=true:=by
  rw [OK hsz,Bool.and_false]
  exact Bool.false_ne_true
 refine call_meets F.slot_list_extend ⟨_,e,rfl⟩ F.entry_list_extend (F.args_list_extend_2 _ _)
  (AutoSeq1.list_extend_list_list_0 l its.toArray n b its2.toArray n2 hlong (by rw [List.size_toArray];omega) (by omega)) ⟨e,e2,?_⟩
 refine ⟨.non,_,I.Rc (its':=its++its2) hH e (by simp) (r.append r2) ?_,rfl,q⟩
 rw [List.length_append]
 omega
def SG:R2:=fun x y H Q=>∃l b xs zs,x=.ref l/\y=.ref b/\H l=some (.lst xs)/\H b=some (.lst zs)/\xs.length+zs.length≤sizeLine/\∀p,H p=none→Q (.ref p) (upd H p (.lst (xs++zs)))
theorem JI:OpR X (binaryOp .Add) SG:=by
 intro pins s σ H x y v u Q I rx ry h
 obtain ⟨l,b,xs,zs,rfl,rfl,hH,hB,hz,q⟩:=h
 cases rx
 cases ry
 obtain ⟨z,its,n,r,hl,e⟩:=I.OT hH
 obtain ⟨z2,its2,n2,r2,hl2,e2⟩:=I.OT hB
 refine PySem.P.add_list e e2 ?_ (by rw [List.size_toArray,List.size_toArray];omega)
 have ea:its.toArray++its2.toArray=(its++its2).toArray:=by simp
 rw [ea]
 exact ⟨.ref _,_,I.SJ (t':=s.toks) (r.append r2) (by rw [List.length_append];omega),rfl,q _ I.fresh⟩
end
section
variable {prog:Program}{w:World}{A:Around}{E:Value→Shared→Prop}{s:Shared}
end
section
variable {X:Cx}
end
end L2
namespace L2
open PySem PySem.Spec PyProof.Rows
section
variable {κ:Type}[DecidableEq κ]
def A7 (kvs:List (κ×V)) (k:κ):Option V:=(kvs.find? fun kv=>decide (kv.1=k)).map (·.2)
def putK (kvs:List (κ×V)) (k:κ) (v:V):List (κ×V) :=
 if (kvs.any fun kv=>decide (kv.1=k))=true then kvs.map (fun kv=>if kv.1=k then (kv.1,v) else kv) else kvs++[(k,v)]
def SY (kvs:List (κ×V)) (k:κ):List (κ×V):=kvs.filter fun kv=>decide (kv.1≠k)
theorem Bb {p:κ×V}{r:List (κ×V)}{k:κ}(e:p.1=k):A7 (p::r) k=some p.2:=by simp [A7,List.find?_cons,e]
theorem Bc {p:κ×V}{r:List (κ×V)}{k:κ}(e:¬ p.1=k):A7 (p::r) k=A7 r k:=by simp [A7,List.find?_cons,e]
theorem EY (k:κ):∀kvs:List (κ×V),(kvs.any fun kv=>decide (kv.1=k))=(A7 kvs k).isSome
 | []=>rfl
 | p::r=>by
  rw [List.any_cons]
  by_cases e:p.1=k
  ·simp only [Bb e,decide_eq_true e,Bool.true_or,Option.isSome_some]
  ·rw [Bc e,decide_eq_false e,Bool.false_or];exact EY k r
theorem Jn (k j:κ) (y:V):∀kvs:List (κ×V),A7 (kvs.map fun kv=>if kv.1=k then (kv.1,y) else kv) j=(A7 kvs j).map fun x=>if j=k then y else x
 | []=>rfl
 | p::r=>by
  have ih:=Jn k j y r
  rw [List.map_cons]
  by_cases h:p.1=k
  ·rw [if_pos h]
   by_cases e:p.1=j
   ·rw [Bb (p:=(p.1,y)) e,Bb e,Option.map_some,if_pos (e.symm.trans h)]
   ·rw [Bc (p:=(p.1,y)) e,Bc e,ih]
  ·rw [if_neg h]
   by_cases e:p.1=j
   ·rw [Bb (p:=p) e,Bb e,Option.map_some,if_neg (fun z=>h (e.trans z))]
   ·rw [Bc (p:=p) e,Bc e,ih]
theorem IC (k j:κ) (y:V):∀kvs:List (κ×V),A7 kvs k=none→A7 (kvs++[(k,y)]) j=if j=k then some y else A7 kvs j
 | [],_=>by
  by_cases e:k=j
  ·rw [if_pos e.symm];exact Bb (p:=(k,y)) e
  ·rw [if_neg (fun z=>e z.symm)];exact Bc (p:=(k,y)) e
 | p::r,hn=>by
  rw [List.cons_append]
  have hk:¬ p.1=k:=fun z=>by rw [Bb z] at hn;cases hn
  rw [Bc hk] at hn
  have ih:=IC k j y r hn
  by_cases e:p.1=j
  ·rw [Bb e,Bb e,if_neg (fun z=>hk (e.trans z))]
  ·rw [Bc e,Bc e,ih]
theorem Gk (kvs:List (κ×V)) (k j:κ) (y:V):A7 (putK kvs k y) j=if j=k then some y else A7 kvs j:=by
 unfold putK
 by_cases a:(kvs.any fun kv=>decide (kv.1=k))=true
 ·rw [if_pos a,Jn]
  rw [EY] at a
  by_cases e:j=k
  ·obtain ⟨x,hx⟩:=Option.isSome_iff_exists.mp a
   rw [if_pos e,e,hx,Option.map_some,if_pos rfl]
  ·rw [if_neg e]
   cases A7 kvs j with
   | none=>rfl
   | some x=>rw [Option.map_some,if_neg e]
 ·rw [if_neg a]
  refine IC k j y kvs ?_
  rw [EY] at a
  cases q:A7 kvs k with
  | none=>rfl
  | some x=>rw [q] at a;exact (a rfl).elim
theorem Ej (kvs:List (κ×V)) (k:κ) (v:V):(putK kvs k v).length≤kvs.length+1:=by
 unfold putK
 split
 ·rw [List.length_map];omega
 ·rw [List.length_append,List.length_cons,List.length_nil];omega
theorem EX.M4 {o:Option V}{u:Option Value}(r:EX o u):o.isSome=u.isSome:=by
 cases o with
 | none=>cases u with
  | none=>rfl
  | some _=>exact (show False from r).elim
 | some _=>cases u with
  | none=>exact (show False from r).elim
  | some _=>rfl
theorem EX.getD {o:Option V}{u:Option Value}{d:V}{d':Value}(r:EX o u) (rd:RelV d d'):RelV (o.getD d) (u.getD d'):=by
 cases o with
 | none=>cases u with
  | none=>exact rd
  | some _=>exact (show False from r).elim
 | some _=>cases u with
  | none=>exact (show False from r).elim
  | some _=>exact r
theorem KV.val {kvs:List (κ×V)}{vs:List (κ×Value)}(r:KV kvs vs) (k:κ):EX (A7 kvs k) (valueAt vs k):=by
 unfold KV at r
 induction r with
 | nil=>exact True.intro
 | @cons p q ps qs h t ih =>
  obtain ⟨h1,h2⟩:=h
  by_cases e:p.1=k
  ·have e':q.1=k:=h1.symm.trans e
   have b:valueAt (q::qs) k=some q.2:=by simp [valueAt,List.find?_cons,e']
   rw [Bb e,b];exact h2
  ·have e':¬ q.1=k:=fun z=>e (h1.trans z)
   have b:valueAt (q::qs) k=valueAt qs k:=by simp [valueAt,List.find?_cons,e']
   rw [Bc e,b];exact ih
theorem KV.any {kvs:List (κ×V)}{vs:List (κ×Value)}(r:KV kvs vs) (k:κ):(kvs.any fun kv=>decide (kv.1=k))=vs.any fun kv=>decide (kv.1=k):=by
 unfold KV at r
 induction r with
 | nil=>rfl
 | cons h t ih=>rw [List.any_cons,List.any_cons,ih,h.1]
theorem KV.QX {kvs:List (κ×V)}{vs:List (κ×Value)}(r:KV kvs vs) (k:κ) {y:V}{u:Value}(ry:RelV y u) :
  KV (kvs.map fun kv=>if kv.1=k then (kv.1,y) else kv) (vs.map fun kv=>if kv.1=k then (kv.1,u) else kv):=by
 unfold KV at r ⊢
 induction r with
 | nil=>exact .nil
 | @cons p q ps qs h t ih =>
  rw [List.map_cons,List.map_cons]
  refine .cons ?_ ih
  obtain ⟨h1,h2⟩:=h
  by_cases e:p.1=k
  ·rw [if_pos e,if_pos (h1.symm.trans e)];exact ⟨h1,ry⟩
  ·rw [if_neg e,if_neg (fun z=>e (h1.trans z))];exact ⟨h1,h2⟩
theorem KV.put {kvs:List (κ×V)}{vs:List (κ×Value)}(r:KV kvs vs) (k:κ) {y:V}{u:Value}(ry:RelV y u):KV (putK kvs k y) (stored vs k u):=by
 unfold putK stored
 rw [r.any k]
 by_cases e:(vs.any fun kv=>decide (kv.1=k))=true
 ·rw [if_pos e,if_pos e];exact r.QX k ry
 ·rw [if_neg e,if_neg e];exact Paired.snoc r ⟨rfl,ry⟩
theorem KV.length {kvs:List (κ×V)}{vs:List (κ×Value)}(r:KV kvs vs):kvs.length=vs.length:=Paired.length r
end
theorem Kf {P:Program}{w:World}{k:Key}{u:Value}(r:RelV (kV k) u):(Af P w).is k u=true:=by
 cases k with
 | inl i=>obtain ⟨t,e⟩:=(show ∃t,u=Value.int i t from r);subst e;exact KP P w i t
 | inr x=>obtain ⟨t,e⟩:=(show ∃t,u=Value.str x t from r);subst e;exact KO P w x t
theorem Ia {P:Program}{w:World}:∀{ks:List Key}{us:List Value},Vals (ks.map kV) us→ItemsAre (Af P w) ks us
 | [],_,r=>by rw [List.map_nil] at r;cases r;exact .nil
 | k::ks,_,r=>by
  rw [List.map_cons] at r
  cases r with
  | cons h t=>exact .cons (Kf h) (Ia t)
abbrev KT (H:Hp):List (List Key×V)→List (List Key×Addr×Value)→Prop:=Paired fun p q=>p.1=q.1/\H q.2.1=some (.tup (p.1.map kV))/\RelV p.2 q.2.2
theorem KT.val {H:Hp}{kvs:List (List Key×V)}{xs:List (List Key×Addr×Value)}(r:KT H kvs xs) (k:List Key):EX (A7 kvs k) ((atKey xs k).map (·.2)):=by
 induction r with
 | nil=>exact True.intro
 | @cons p q ps qs h t ih =>
  obtain ⟨h1,_,h2⟩:=h
  by_cases e:p.1=k
  ·have e':q.1=k:=h1.symm.trans e
   have b:atKey (q::qs) k=some q.2:=by simp [atKey,List.find?_cons,e']
   rw [Bb e,b];exact h2
  ·have e':¬ q.1=k:=fun z=>e (h1.trans z)
   have b:atKey (q::qs) k=atKey qs k:=by simp [atKey,List.find?_cons,e']
   rw [Bc e,b];exact ih
theorem KT.QX {H:Hp}{kvs:List (List Key×V)}{xs:List (List Key×Addr×Value)}(r:KT H kvs xs) (k:List Key) {y:V}{u:Value}(ry:RelV y u) :
  KT H (kvs.map fun kv=>if kv.1=k then (kv.1,y) else kv) (xs.map (putAt k u)):=by
 induction r with
 | nil=>exact .nil
 | @cons p q ps qs h t ih =>
  rw [List.map_cons,List.map_cons]
  refine .cons ?_ ih
  obtain ⟨h1,h2,h3⟩:=h
  unfold putAt
  by_cases e:p.1=k
  ·rw [if_pos e,if_pos (h1.symm.trans e)];exact ⟨h1,h2,ry⟩
  ·rw [if_neg e,if_neg (fun z=>e (h1.trans z))];exact ⟨h1,h2,h3⟩
theorem KT.put {H:Hp}{kvs:List (List Key×V)}{xs:List (List Key×Addr×Value)}(r:KT H kvs xs) (k:List Key) {b:Addr}{y:V}{u:Value}(hb:H b=some (.tup (k.map kV))) (ry:RelV y u) :
  KT H (putK kvs k y) (storedH xs k b u):=by
 have e:(kvs.any fun kv=>decide (kv.1=k))=(atKey xs k).isSome:=by
  rw [EY,(r.val k).M4,Option.isSome_map]
 unfold putK storedH
 rw [e]
 by_cases q:(atKey xs k).isSome=true
 ·rw [if_pos q,if_pos q];exact r.QX k ry
 ·rw [if_neg q,if_neg q];exact Paired.snoc r ⟨rfl,hb,ry⟩
theorem KT.keeps {H H':Hp}{kvs:List (List Key×V)}{xs:List (List Key×Addr×Value)}(r:KT H kvs xs) (ht:∀b ys,H b=some (.tup ys)→H' b=some (.tup ys)):KT H' kvs xs :=
 Paired.Qp r fun _ _ z=>⟨z.1,ht _ _ z.2.1,z.2.2⟩
section
variable {P:Program}{w:World}{H:Hp}{h:Heap}{a:Addr}
theorem QC {u:HO}(ok:HOk P w H h) (e:Rd H a u):BC P w H h a u:=e.ok ok
theorem Kk {kvs:List (Key×V)}(ok:HOk P w H h) (e:Rd H a (.dK kvs)):kvs.length≤sizeLine/\(a==sysModules)=false/\∃vs,KV kvs vs/\h.DictOf (Af P w) a vs :=
 show BC P w H h a (.dK kvs) from QC ok e
theorem Oh {kvs:List (Key×V)}(ok:HOk P w H h) (e:H a=some (.dK kvs)):kvs.length≤sizeLine/\(a==sysModules)=false/\∃vs,KV kvs vs/\h.DictOf (Af P w) a vs:=Kk ok (.inl e)
theorem JR {ks:List Key}(ok:HOk P w H h) (e:H a=some (.tup (ks.map kV))):(tupleKind (Af P w)).is h ks a:=by
 obtain ⟨_,its,r,o,h1,h2,n,h3⟩:=(show BC P w H h a (.tup (ks.map kV)) from ok a _ e)
 exact ⟨o,its.toArray,n,h1,h2,h3,by simpa using Ia r⟩
theorem Kj {kvs:List (List Key×V)}(ok:HOk P w H h) (e:Rd H a (.dT kvs)):kvs.length≤sizeLine/\(a==sysModules)=false /\
  ∃xs,KT H kvs xs/\h.DictOfH (tupleKind (Af P w)) a xs:=by
 obtain ⟨z,y,xs,r,o,es,ep,h1,h2,h3,h4,h5⟩:=(show BC P w H h a (.dT kvs) from QC ok e)
 refine ⟨z,y,xs,r,o,es,ep,h1,h2,h3,h4,fun x hx=>?_,h5⟩
 have all:∀{l:List (List Key×V)} {m:List (List Key×Addr×Value)},KT H l m→∀x∈m,(tupleKind (Af P w)).is h x.1 x.2.1:=by
  intro l m q
  induction q with
  | nil=>intro x hx;exact nomatch hx
  | @cons p q ps qs hq t ih =>
   intro x hx
   rcases List.mem_cons.mp hx with e|hx
   ·subst e
    exact JR ok (by rw [←hq.1];exact hq.2.1)
   ·exact ih x hx
 exact all r x hx
theorem Ro {kvs:List (List Key×V)}(ok:HOk P w H h) (e:H a=some (.dT kvs)):kvs.length≤sizeLine/\(a==sysModules)=false /\
  ∃xs,KT H kvs xs/\h.DictOfH (tupleKind (Af P w)) a xs:=Kj ok (.inl e)
end
def Gb (H:Hp) (a:Addr) (y:V) (r:Option V):Prop :=
 (∃kvs k,Rd H a (.dK kvs)/\y=kV k/\r=A7 kvs k)\/∃kvs k b,Rd H a (.dT kvs)/\y=.ref b/\H b=some (.tup (k.map kV))/\r=A7 kvs k
def Hz (H:Hp) (a:Addr) (y v:V) (H':Hp):Prop :=
 (∃kvs k,H a=some (.dK kvs)/\y=kV k/\kvs.length<sizeLine/\H'=upd H a (.dK (putK kvs k v))) \/
 ∃kvs k b,H a=some (.dT kvs)/\y=.ref b/\H b=some (.tup (k.map kV))/\kvs.length<sizeLine/\H'=upd H a (.dT (putK kvs k v))
theorem Gb.k {H:Hp}{a:Addr}{kvs:List (Key×V)}{k:Key}(e:H a=some (.dK kvs)):Gb H a (kV k) (A7 kvs k):=.inl ⟨kvs,k,.inl e,rfl,rfl⟩
theorem Hz.k {H:Hp}{a:Addr}{kvs:List (Key×V)}{k:Key}{v:V}(e:H a=some (.dK kvs)) (hl:kvs.length<sizeLine):Hz H a (kV k) v (upd H a (.dK (putK kvs k v))):=.inl ⟨kvs,k,e,rfl,hl,rfl⟩
section
variable {X:Cx}{pins:List (Addr×Obj)}{σ:St}{H:Hp}{s:Shared}{a:Addr}{y v:V}{u r:Value}{o:Option V}{A:Around}{E:Value→Shared→Prop}
theorem Inv.big (I:Inv X pins σ H s):sysModules<s.heap.objs.size:=by
 have h:mainGlobals<s.heap.objs.size:=(I.mod.glob.keeps I.bk).lt
 exact Nat.lt_trans (by decide) h
theorem NC {Q:Value→Shared→Prop}(hu:A.units+1<cLine) (I:Inv X pins σ H s) (g:Gb H a y (some v)) (ry:RelV y u) (h:∀w' s',Inv X pins σ H s'→RelV v w'→Q w' s') :
  wpAny (model X.prog X.w) A (getItem (.ref a) u) Q E s:=by
 rcases g with ⟨kvs,k,e,ey,l⟩|⟨kvs,k,b,e,ey,eb,l⟩
 ·subst ey
  obtain ⟨z,hd,vs,rel,dd⟩:=Kk I.hok e
  obtain ⟨w',hw,rw'⟩:=EX.some_of (v:=v) (o:=valueAt vs k) (by rw [l];exact rel.val k)
  exact wpAny_getItem_of (Kf ry) dd.mapOf hw (h w' _ (I.tok _) rw')
 ·subst ey
  cases (show u=Value.ref b from ry)
  obtain ⟨z,hd,xs,rel,dd⟩:=Kj I.hok e
  obtain ⟨w',hw,rw'⟩:=EX.some_of (v:=v) (o:=(atKey xs k).map (·.2)) (by rw [l];exact rel.val k)
  obtain ⟨p,hp,hp2⟩:=Option.map_eq_some_iff.mp hw
  refine wpAny_getItem_heap (tupleKind_room_in1 hu) (JR I.hok eb) dd hp ?_
  rw [hp2]
  exact h w' _ (I.tok _) rw'
theorem JW {h':Heap}{t':Nat}{ob:HO}(I:Inv X pins σ H s) (mu:Mut (H a)) (hs:Heap.SameBut a s.heap h') (he:∃q,h'.get? a=some q) (new:BC X.prog X.w (upd H a ob) h' a ob) :
  Inv X pins σ (upd H a ob) { s with heap:=h',toks:=t' } :=
 I.write (x:=a) (e:=a) mu (.inl rfl) (fun b q hb z=>(hs.2 b hb).trans z) he new
theorem Oi {P:Program}{w:World}{H':Hp}{h':Heap}{kvs:List (Key×V)}{vs:List (Key×Value)}(z:kvs.length≤sizeLine) (hd:(a==sysModules)=false) (rel:KV kvs vs) (dd:h'.DictOf (Af P w) a vs) :
  BC P w H' h' a (.dK kvs):=⟨z,hd,vs,rel,dd⟩
theorem NB {H':Hp}{Q:Unit→Shared→Prop}(hu:A.units+1<cLine) (I:Inv X pins σ H s) (g:Hz H a y v H') (ry:RelV y u) (rv:RelV v r) (h:∀s',Inv X pins σ H' s'→Q () s') :
  wpAny (model X.prog X.w) A (setItem (.ref a) u r) Q E s:=by
 rcases g with ⟨kvs,k,e,ey,l,eH⟩|⟨kvs,k,b,e,ey,eb,l,eH⟩
 ·subst ey eH
  obtain ⟨z,hd,vs,rel,dd⟩:=Oh I.hok e
  have hz:vs.length≤sizeLine:=by rw [←rel.length];exact z
  have hl:(putK kvs k v).length≤sizeLine:=by have:=Ej kvs k v;omega
  refine wpAny_setItem_pairs (hsz:=hz) (Kf ry) dd fun h' dd' hs=>h _ ?_
  have he:∃q,h'.get? a=some q:=let ⟨q,_,_,hq,_⟩:=dd';⟨q,hq⟩
  exact JW I (by rw [e];exact True.intro) hs he (Oi hl hd (rel.put k rv) dd')
 ·subst ey eH
  cases (show u=Value.ref b from ry)
  obtain ⟨z,hd,xs,rel,dd⟩:=Ro I.hok e
  have hz:xs.length≤sizeLine:=by rw [←Paired.length rel];exact z
  have hl:(putK kvs k v).length≤sizeLine:=by have:=Ej kvs k v;omega
  refine wpAny_setItem_heap (hsz:=hz) (tupleKind_room_in1 hu) (JR I.hok eb) dd fun h' dd' hs=>h _ ?_
  obtain ⟨q,es,ep,hq,h2,h3,h4,_,h5⟩:=dd'
  refine JW I (by rw [e];exact True.intro) hs ⟨q,hq⟩ ⟨hl,hd,_,(rel.put k eb rv).keeps fun c ys ec=>?_,q,es,ep,hq,h2,h3,h4,h5⟩
  rw [AV (Ra ec e (fun z=>nomatch z))]
  exact ec
end
section
variable {X:Cx}{pins:List (Addr×Obj)}{σ:St}{H:Hp}{s:Shared}{a:Addr}{kvs:List (Key×V)}{k:Key}{u:Value}{A:Around}{E:Value→Shared→Prop}
end
def Rq (i:Expr):Prop:=∀ov iv,subscripted i false ov iv=operate [ov,iv] (getItem ov iv)
theorem Lg {prog:Program}{w:World}{A:Around}{E:Value→Shared→Prop}{s:Shared}{env:Env}{value slice:Expr}{pos:Pos}{T id:String}{Q:Value→Shared→Prop}
  (hl:typeLookup (.type T) "__getitem__" = pure (some (.builtin id))) (hs:Rq slice)
  (h:wpAny (model prog w) A (eval value env) (fun o s₁=>wpAny (model prog w) A (eval slice env) (fun i s₂=>s₂.TypeIs o T/\wpAny (model prog w) A (getItem o i) Q E s₂) E s₁) E s) :
  wpAny (model prog w) A (eval (.Subscript value slice pos) env) Q E s:=by
 refine Subscript_ (wpAny_mono h (fun o s₁ h₁=>wpAny_mono h₁ (fun i s₂ h₂=>?_) fun _ _ x=>x) fun _ _ x=>x)
 obtain ⟨hT,h₂⟩:=h₂
 unfold subscriptTail
 refine wpAny_bind ?_
 rw [getitemInPython_of_ne hT.not_modules]
 refine wpAny_bind (wpAny_specialOf hT hl ?_)
 have fin:wpAny (model prog w) A (subscripted slice false o i) (fun r s₃=>wpAny (model prog w) A (letTemporaryGo value o r >>= fun _=>pure r) Q E s₃) E s₂:=by
  rw [hs o i]
  exact wpAny_operating (wpAny_mono h₂ (fun r s₃ h₃=>wpAny_bind (wpAny_letTemporaryGo (wpAny_pure h₃))) fun _ _ x=>x)
 first
  | exact wpAny_pure (wpAny_bind fin)
  | exact wpAny_bind (wpAny_pure (wpAny_bind fin))
  | exact wpAny_bind fin
theorem Kl {X:Cx}{pins:List (Addr×Obj)}{σ:St}{H:Hp}{s:Shared}{a:Addr}{y:V}{o:Option V}(I:Inv X pins σ H s) (g:Gb H a y o):s.TypeIs (.ref a) "dict" := by
 rcases g with ⟨kvs,k,e,_,_⟩|⟨kvs,k,b,e,_,_,_⟩
 ·obtain ⟨_,_,vs,_,dd⟩:=Kk I.hok e
  exact dd.typeIs
 ·obtain ⟨_,_,xs,_,dd⟩:=Kj I.hok e
  exact dd.typeIs
def RF (td ty:TE):TE:=fun σ H Q=>td σ H fun x H1=>ty σ H1 fun y H2=>∃a v,x=.ref a/\Gb H2 a y (some v)/\Q v H2
def RN (td ty tv:TE):TS:=fun D σ H=>tv σ H fun v H1=>td σ H1 fun x H2=>ty σ H2 fun y H3=>∃a H4,x=.ref a/\Hz H3 a y v H4/\D.nx σ H4
section
variable {X:Cx}{o i e value:Expr}{pos pos' tpos:Pos}{td ty tv:TE}
theorem EB (hu:X.A.units+1<cLine) (ho:PE X o td) (hi:PE X i ty) (hs:Rq i):PE X (.Subscript o i pos) (RF td ty):=by
 intro pins s σ H Q I h
 refine Lg PySem.F.slot_dict_getitem.lookup hs (thn (ho pins s σ H _ I h) fun u s1 ⟨x,H1,I1,rx,q1⟩=>thn (hi pins s1 σ H1 _ I1 q1) fun iv s2 ⟨y,H2,I2,ry,a,v,ex,g,q2⟩=>?_)
 subst ex
 obtain rfl:u=Value.ref a:=rx
 exact ⟨Kl I2 g,NC hu I2 g ry fun w' s3 I3 rw'=>⟨v,H2,I3,rw',q2⟩⟩
theorem Fe (hu:X.A.units+1<cLine) (ho:PE X o td) (hi:PE X i ty) (hv:PE X value tv) (hs:swapsWith value (some (.Subscript o i pos')) pos.line X.env=pure false) :
  PS X (.Assign [.Subscript o i pos'] value pos) (RN td ty tv):=by
 intro pins s σ H D I h
 refine wpAny_Assign_Subscript (thn (hv pins s σ H _ I h) fun r s1 ⟨v,H1,I1,rv,q1⟩=>thn (ho pins s1 σ H1 _ I1 q1) fun u s2 ⟨x,H2,I2,rx,q2⟩=>thn (hi pins s2 σ H2 _ I2 q2) fun iv s3 ⟨y,H3,I3,ry,a,H4,ex,g,q3⟩=>?_) hs
 subst ex
 obtain rfl:u=Value.ref a:=rx
 exact NB hu I3 g ry rv fun s4 I4=>⟨σ,H4,I4,q3⟩
end
theorem Oj {P:Program} {w:World} {H:Hp} (h:Heap) (hb:sysModules<h.objs.size):BC P w H (h.push { cls:=.type "dict", data:=.dict #[] }) h.objs.size (.dK []) :=
 ⟨Nat.zero_le _,beq_eq_false_iff_ne.mpr (Ne.symm (Nat.ne_of_lt hb)),[],.nil,Heap.DictOf.new h⟩
def QP:TE:=fun _ H Q=>∀p,H p=none→Q (.ref p) (upd H p (.dK []))
section
variable {X:Cx}{pos:Pos}
theorem HA:PE X (.Dict [] [] pos) QP:=fun pins s σ H Q I h =>
 wpAny_Dict_empty ⟨.ref s.heap.objs.size,_,I.laid (a:=s.heap.objs.size) (o:=.dK []) (t':=s.toks) (fun _ _ q=>Heap.get?_push_of_some _ q) (Nat.le_refl _) (Oj s.heap I.big),rfl,h _ (I.hok.fresh (Nat.le_refl _))⟩
end
structure M1 (X:Cx) (o:Expr) (m:Str) (apos:Pos) (e:Expr) (cpos:Pos):Prop where
 base:attributeBase o m X.env (eval o X.env)=eval o X.env
 few:((backTo cpos (starEach [e] X.env)).all (fun x=>!x.1)&&(backToKw cpos (keywordEach [] X.env)).all (fun x=>x.1.isSome)
  && decide (([e]:List Expr).length+([]:List Keyword).length+(if ([]:List Keyword).isEmpty then 0 else 1)<30))=true
 line:(apos.endLine==cpos.line)=true
 trees:backTo cpos (starEach [e] X.env)=[(false,eval e X.env)]
structure M2 (X:Cx) (o:Expr) (m:Str) (apos:Pos) (e f:Expr) (cpos:Pos):Prop where
 base:attributeBase o m X.env (eval o X.env)=eval o X.env
 few:((backTo cpos (starEach [e,f] X.env)).all (fun x=>!x.1)&&(backToKw cpos (keywordEach [] X.env)).all (fun x=>x.1.isSome)
  && decide (([e,f]:List Expr).length+([]:List Keyword).length+(if ([]:List Keyword).isEmpty then 0 else 1)<30))=true
 line:(apos.endLine==cpos.line)=true
 trees:backTo cpos (starEach [e,f] X.env)=[(false,eval e X.env),(false,eval f X.env)]
def IsD (H:Hp) (a:Addr):Prop:=(∃kvs,Rd H a (.dK kvs))\/∃kvs,Rd H a (.dT kvs)
theorem OY {X:Cx}{pins:List (Addr×Obj)}{σ:St}{H:Hp}{s:Shared}{a:Addr}(I:Inv X pins σ H s) (d:IsD H a) :
  s.TypeIs (.ref a) "dict" /\ (∀b,Value.ref a=.ref b→∃ob,s.heap.get? b=some ob/\ob.dict=none)/\(a==sysModules)=false:=by
 rcases d with ⟨kvs,e⟩|⟨kvs,e⟩
 ·obtain ⟨_,hd,vs,_,dd⟩:=Kk I.hok e
  refine ⟨dd.typeIs,fun b q=>?_,hd⟩
  cases q
  obtain ⟨ob,_,_,h1,h2,_⟩:=dd
  exact ⟨ob,h1,h2.2.1⟩
 ·obtain ⟨_,hd,xs,_,dd⟩:=Kj I.hok e
  refine ⟨dd.typeIs,fun b q=>?_,hd⟩
  cases q
  obtain ⟨ob,_,_,h1,h2,_⟩:=dd
  exact ⟨ob,h1,h2.2.1⟩
section
variable {X:Cx}{pins:List (Addr×Obj)}{σ:St}{H:Hp}{s:Shared}{a:Addr}{y d:V}{u r:Value}{o:Option V}{A:Around}{E:Value→Shared→Prop}
theorem Q2 {Q:Value→Shared→Prop}(hu:A.units+1<cLine) (I:Inv X pins σ H s) (g:Gb H a y o) (ry:RelV y u) (rd:RelV d r) (h:∀w' s',Inv X pins σ H s'→RelV (o.getD d) w'→Q w' s') :
  wpAny (model X.prog X.w) A (call (.builtin "dict.get") [.ref a,u,r]) Q E s:=by
 rcases g with ⟨kvs,k,e,ey,l⟩|⟨kvs,k,b,e,ey,eb,l⟩
 ·subst ey
  obtain ⟨z,hd,vs,rel,dd⟩:=Kk I.hok e
  refine call_meetsIn PySem.F.slot_dict_get dd.typeIs PySem.F.entry_dict_get (PySem.F.args_dict_get_3 _ _ _) (meets_dict_get_default (Af X.prog X.w) a (Kf ry) hd r) ⟨_,dd.mapOf,h _ _ (I.tok _) ?_⟩
  rw [l]
  exact (rel.val k).getD rd
 ·subst ey
  cases (show u=Value.ref b from ry)
  obtain ⟨z,hd,xs,rel,dd⟩:=Kj I.hok e
  refine call_meetsIn PySem.F.slot_dict_get dd.typeIs PySem.F.entry_dict_get (PySem.F.args_dict_get_3 _ _ _) (meetsH_dict_get_default (tupleKind (Af X.prog X.w)) a b hd r) ⟨tupleKind_room_in1 hu,k,xs,JR I.hok eb,dd,h _ _ (I.tok _) ?_⟩
  rw [l]
  exact (rel.val k).getD rd
end
def QQ (td ty tx:TE):TE:=fun σ H Q=>td σ H fun x H1=>∃a,x=.ref a/\IsD H1 a/\ty σ H1 fun y H2=>tx σ H2 fun z H3=>∃o,Gb H3 a y o/\Q (o.getD z) H3
section
variable {X:Cx}{o e f:Expr}{apos cpos:Pos}{td ty tx:TE}
theorem N7 (hu:X.A.units+1<cLine) (ho:PE X o td) (he:PE X e ty) (hf:PE X f tx) (m:M2 X o "get" apos e f cpos):PE X (.Call (.Attribute o "get" apos) [e,f] [] cpos) (QQ td ty tx):=by
 intro pins s σ H Q I h
 refine wpAny_Call_method m.base m.few m.line PySem.F.plainAttrs_dict PySem.F.slot_dict_get PySem.F.type_dict_get (thn (ho pins s σ H _ I h) fun u s1 ⟨x,H1,I1,rx,a,ex,d,q1⟩=>?_)
 subst ex
 obtain rfl:u=Value.ref a:=rx
 obtain ⟨t1,t2,_⟩:=OY I1 d
 refine ⟨t1,t2,?_⟩
 rw [m.trees]
 refine Calls.callWith_builtin rfl (Calls.evalArgs_plain (Calls.spliced_cons (thn (he pins s1 σ H1 _ I1 q1) fun iv s2 ⟨y,H2,I2,ry,q2⟩ =>
  Calls.spliced_cons (thn (hf pins s2 σ H2 _ I2 q2) fun fv s3 ⟨z,H3,I3,rz,ov,g,q3⟩=>Calls.spliced_nil ?_))))
 exact Q2 hu I3 g ry rz fun w' s4 I4 rw'=>⟨_,H3,I4,rw',q3⟩
end
section
variable {X:Cx}{pins:List (Addr×Obj)}{σ:St}{H:Hp}{s:Shared}{a:Addr}{kvs:List (Key×V)}{A:Around}{E:Value→Shared→Prop}
end
section
variable {X:Cx}{pins:List (Addr×Obj)}{σ:St}{H:Hp}{s:Shared}{a:Addr}{y:V}{u:Value}{A:Around}{E:Value→Shared→Prop}
end
end L2
namespace Att
open PySem PySem.W PySem.Calls PyProof.Rows
theorem GZ {P:Params}{h:Heap}:∀(ns:List Int) (vs:List Value),WellAll P h vs (ns.map WData.int)→IntsAre vs ns:=by
 intro ns
 induction ns with
 | nil =>
  intro vs w
  rw [List.map_nil] at w
  cases w
  exact .nil
 | cons n ns ih =>
  intro vs w
  rw [List.map_cons] at w
  cases w with
  | cons a b =>
   cases a
   exact .cons _ _ (ih _ b)
theorem MZ {l:OpenLaw}{n:Nat}(hn:l.most=some n) {P:Params}{h:Heap}{args:List WData}{vals:List Value}
  (hpre:l.row.toRowW.claim.pre args=true) (hwl:WellAll P h vals args) :
  ∃a vs ns,vals=[Value.ref a]/\args=[WData.list (ns.map WData.int)]/\h.get? a=some { cls:=.type "list", data:=.seq vs.toArray }/\IntsAre vs ns/\ns.length≤n:=by
 have hsh:WShape.hasAll [] args [.list .int]=true:=(pre_splitW hpre).1
 have hc:l.pre.holds [] { args:=args }=true:=(pre_splitW hpre).2
 obtain ⟨d,r,rfl,h1,h2⟩:=hasAllW_cons hsh
 obtain rfl:=hasAllW_nil h2
 obtain ⟨xs,rfl,h3⟩:=hasW_list h1
 obtain ⟨ns,rfl⟩:=items_int h3
 have hlen:ns.length≤n:=by
  unfold OpenLaw.pre at hc
  have h4:(WTm.not (.lt (.lit (.int (n:Int))) (.len (.arg 0)))).holds [] { args:=[.list (ns.map .int)] }=true:=by
   have h4:=(holds_andW hc).1
   rw [hn] at h4
   exact h4
  have h5:=condW_of h4 (w_not (w_lt w_lit (w_len_list (w_arg rfl))))
  rw [List.length_map] at h5
  refine Nat.le_of_not_lt fun q=>?_
  have q':(n:Int)<((ns.length:Nat):Int):=by omega
  first
   | (rw [decide_eq_true q'] at h5;exact absurd h5 (by decide))
   | (simp at h5;omega)
 cases hwl with
 | cons w1 w2 =>
  cases w2
  cases w1 with
  | list ho hall=>exact ⟨_,_,ns,rfl,rfl,ho,GZ ns _ hall,hlen⟩
theorem Md (l:OpenLaw) (args:List WData):l.row.toRowW.claim.post args (.bool true) args=true :=
 postW_of (r:=l.row.toRowW) (X:=(true==true))
  (show WShape.has [] (.bool true) .bool=true by first|rfl|decide|simp [WShape.has,WShape.arms,WShape.armsAll])
  (show (WTm.eq .res (.lit (.bool true))).value [] { args:=args,res:=some (.bool true),after:=args }=some (.bool (true==true)) from w_eq_bool (w_res rfl) w_lit) rfl
theorem Ku {l:OpenLaw}{n:Nat}{q:Program}{loose:List Str}{XP:(Str→Option Value)→Heap→Prop}{YP:World→Heap→Prop}{d:DefRec}
  (hn:l.most=some n) (hdf:d.params.defaults=[])
  (call:∀(w:World) (s₀ s₁:Shared) (mg mb:Str→Option Value) (fa:Addr) (o:Obj) (pm cd doc:Value) (a:Addr) (vs:List Value) (ns:List Int),
   Ground q loose [] XP w s₀ mg mb s₁.heap→YP w s₁.heap →
   s₁.heap.get? fa=some o→o.data=.func (docDef d.name d.params d.body d.scope pm cd doc)→s₁.heap.CodeRec cd d.name→mg d.name=some (.ref fa) →
   s₁.heap.get? a=some { cls:=.type "list", data:=.seq vs.toArray }→IntsAre vs ns→ns.length≤n→s₁.gens=#[] →
   codeAny (model l.prog w) callerA (.call (.ref fa) ⟨[.ref a],[]⟩) (fun r s'=>r=.ok (.ret (.bool true))/\OldK s₁.heap s'.heap/\s'.os=s₁.os/\AllBare s'.gens) s₁) :
  WalkO q loose XP YP l.row.toRowW d [] (fun f vs=>PySem.call f vs):=by
 intro w s₀ s₁ mg mb G Y fa o pm cd doc dV kV ho hd hcd hD hmg hg args vals as hpre hlay hrd hwl hlo
 obtain rfl:dV=.none:=Dflts.none hD hdf
 obtain rfl:kV=.none:=Dflts.noKw hD
 obtain ⟨a,vs,ns,rfl,rfl,hobj,hints,hlen⟩:=MZ hn hpre hwl
 refine enter_call (codeAny_mono (call w s₀ s₁ mg mb fa o pm cd doc a vs ns G Y ho (fd_plain hd) hcd hmg hobj hints hlen hg) fun r s' hq=>?_)
 obtain ⟨rfl,h2,h3,h4⟩:=hq
 exact ⟨.inl ⟨.bool true,.bool true,[],rfl,fun _=>rfl,.bool true,Md l _,fun _=>⟨List.Pairwise.nil,fun _ hm=>(nomatch hm)⟩⟩,h2,h3,h4⟩
section
variable {prog:Program}{w:World}{A:Around}{E:Value→Shared→Prop}{s:Shared}{K:Frag}
end
end Att
namespace L2
open PySem PySem.Spec PyProof.Rows
theorem IB:∀{vs:List Value}{ns:List Int},IntsAre vs ns→Vals (ns.map V.int) vs
 | _,_,.nil=>.nil
 | _,_,.cons n t h=>.cons ⟨t,rfl⟩ (IB h)
def Oy (H:Hp):Prop:=∀b,H b=none\/∃o xs,H b=some (.frz o (.lst xs))
theorem OV {P:Program}{w:World}{K:PySem.W.Frag}{mg mb:Str→Option Value}{CX:CXT}{k:Nat}{fa a:Addr}{fd:FuncData}{x:Str}{sp:Sp}{s₁:Shared}{vs:List Value}{ns:List Int}
  (KX:K.In s₁.heap) (hns:s₁.heap.Ns mainGlobals mg) (hb:s₁.heap.Ns builtinsNs mb) (hbb:∀x:Str,x ≠ "__name__" → mb x=bootBuiltins x) (hlim:s₁.heap.NoLimit) (hg:s₁.gens=#[])
  (ha:s₁.heap.get? a=some { cls:=.type "list", data:=.seq vs.toArray }) (hi:IntsAre vs ns) (hl:ns.length≤sizeLine) (hr:DQ k callerA)
  (F:∀base:Heap,K.In base→base.Ns mainGlobals mg→Ba P w K mg base CX k fa fd [x] sp) (hbind:∀(s:Shared) (u:Value),BindsTo s fd ⟨[u],[]⟩ [(x,u)])
  (hsp:∀H:Hp,Oy H→SqL K H a (ns.map V.int)→sp [.ref a] H (fun v _=>v=.bl true) fun _ _ _=>False)
  (hCX:∀H e s',CX [] H s₁ (fun _ _ _=>False) e s'→False) :
  codeAny (model P w) callerA (.call (.ref fa) ⟨[.ref a],[]⟩) (fun r s'=>r=.ok (.ret (.bool true))/\OldK s₁.heap s'.heap/\s'.os=s₁.os/\AllBare s'.gens) s₁:=by
 have rv:=IB hi
 have lenV:=hi.length
 have core:∀H:Hp,Oy H→SqL K H a (ns.map V.int)→HOk P w H s₁.heap→(∀b,H b≠none→b=a)→(H a≠none→K.lookup a=none) →
   codeAny (model P w) callerA (.call (.ref fa) ⟨[.ref a],[]⟩) (fun r s'=>r=.ok (.ret (.bool true))/\OldK s₁.heap s'.heap/\s'.os=s₁.os/\AllBare s'.gens) s₁:=by
  intro H hO hS hok hA hK
  have base_of:∀{b:Addr} {o:Obj},s₁.heap.get? b=some o→H b=none→(JV s₁.heap H).get? b=some o:=fun e n=>Oa e n
  have noA:∀{b:Addr} {o:Obj} {es:Array DictEntry} {ep:Nat},s₁.heap.get? b=some o→o.data=.dict es ep→H b=none:=fun {b o es ep} e d=>by
   cases q:H b with
   | none=>rfl
   | some u =>
    have e':b=a:=hA b (by rw [q];simp)
    subst e'
    rw [ha] at e;cases e
    have d':Data.seq vs.toArray _=Data.dict es ep:=d
    cases d'
  have nsK:∀{b:Addr} {m:Str→Option Value},s₁.heap.Ns b m→(JV s₁.heap H).Ns b m:=fun {b m} ⟨o,es,ep,e,d,r⟩=>⟨o,es,ep,base_of e (noA e d),d,r⟩
  have hKb:K.In (JV s₁.heap H):=fun b o e=>base_of (KX b o e) (by
   cases q:H b with
   | none=>rfl
   | some u =>
    have e':b=a:=hA b (by rw [q];simp)
    subst e'
    rw [hK (by rw [q];simp)] at e;cases e)
  have hM:Mod K mg (JV s₁.heap H):=⟨hKb,nsK hns,⟨mb,nsK hb,hbb⟩,let ⟨mc,h1,h2⟩:=hlim;⟨mc,nsK h1,h2⟩⟩
  have e0:P2 P w K mg (JV s₁.heap H) callerA [] s₁ H:=⟨rfl,hM,fun b o e=>Ph e,Nat.le_of_eq (M6 _ _),trivial,fun b hb=>absurd (show b∈([]:List Addr) from hb) (by simp),hok,.of_eq hg⟩
  refine codeAny_mono ((F _ hKb (nsK hns)).run callerA [] s₁ H ⟨[.ref a],[]⟩ [.ref a] [.ref a] _ _ hr e0 (hbind s₁ (.ref a)) (.cons rfl .nil) (hsp H hO hS)) fun r s' h=>?_
  cases r with
  | error e=>exact (hCX H e s' h).elim
  | ok fl =>
   cases fl with
   | next=>exact False.elim h
   | brk=>exact False.elim h
   | cont=>exact False.elim h
   | ret u =>
    obtain ⟨v,H',os,bare,un,hok',r',q⟩:=h
    have q':v=.bl true:=q
    subst q'
    obtain rfl:u=Value.bool true:=r'
    refine ⟨rfl,OldK.of_keep fun b o e=>?_,os,bare⟩
    cases q:H b with
    | none=>exact un.keep b o e q (by intro z;exact absurd (show b∈([]:List Addr) from z) (by simp)) (by simp)
    | some u =>
     rcases hO b with z|⟨ob,xs,z⟩
     ·rw [q] at z;cases z
     ·have z2:=un.HP b ob _ z
      obtain ⟨e1,_⟩:=hok b _ z
      obtain ⟨e2,_⟩:=hok' b _ z2
      rw [e] at e1;cases e1
      exact e2
 cases hk:K.lookup a with
 | some o =>
  have e:=KX a o hk
  rw [ha] at e
  cases e
  refine core (fun _=>none) (fun _=>.inl rfl) (.inr ⟨_,vs.toArray,_,hk,rfl,rfl,rfl,by rw [List.size_toArray,lenV];exact hl,by simpa using rv⟩) (fun b u z=>by have z':(none:Option HO)=some u:=z;cases z') (fun b z=>absurd rfl z) fun z=>absurd rfl z
 | none =>
  refine core (fun b=>if b=a then some (.frz { cls:=.type "list", data:=.seq vs.toArray } (.lst (ns.map V.int))) else none) (fun b=>?_) (.inl (.inr ⟨{ cls:=.type "list", data:=.seq vs.toArray },if_pos rfl⟩)) (fun b u z=>?_) (fun b z=>?_) fun _=>hk
  ·by_cases hb:b=a
   ·exact .inr ⟨_,_,if_pos hb⟩
   ·exact .inl (if_neg hb)
  ·by_cases hb:b=a
   ·have z':=(if_pos hb).symm.trans z
    cases z'
    subst hb
    exact ⟨ha,by rw [List.length_map];exact hl,vs,_,rv,ha⟩
   ·have z':=(if_neg hb).symm.trans z
    cases z'
  ·by_cases hb:b=a
   ·exact hb
   ·exact absurd (if_neg hb) z
end L2
namespace L2
open PySem PySem.Spec PyProof.Rows
theorem O3 {l:PySem.W.OpenLaw}{n k:Nat}{q:Program}{loose:List Str}{XP:(Str→Option Value)→Heap→Prop}{YP:World→Heap→Prop}{d:DefRec}{K:Params→PySem.W.Frag}{CX:World→CXT}{sp:World→Sp}{x:Str}
  (hn:l.most=some n) (hn2:n≤sizeLine) (hdf:d.params.defaults=[]) (hr:DQ k callerA)
  (hY:∀(w:World) (h:Heap),YP w h→(K w.params).In h)
  (F:∀(w:World) (mg:Str→Option Value) (fa:Addr) (h:Heap),(K w.params).In h→h.Ns mainGlobals mg→mg d.name=some (.ref fa) →
   ∃fd:FuncData,(∀(s:Shared) (u:Value),BindsTo s fd ⟨[u],[]⟩ [(x,u)]) /\
    ∀base:Heap,(K w.params).In base→base.Ns mainGlobals mg→Ba l.prog w (K w.params) mg base (CX w) k fa fd [x] (sp w))
  (hsp:∀(w:World) (H:Hp) (a:Addr) (ns:List Int),ns.length≤n→Oy H→SqL (K w.params) H a (ns.map V.int)→sp w [.ref a] H (fun v _=>v=.bl true) fun _ _ _=>False)
  (hCX:∀(w:World) (H:Hp) (s:Shared) (e:Value) (s':Shared),CX w [] H s (fun _ _ _=>False) e s'→False) :
  PySem.W.WalkO q loose XP YP l.row.toRowW d [] (fun f vs=>PySem.call f vs):=by
 refine Att.Ku hn hdf fun w s₀ s₁ mg mb fa o pm cd doc a vs ns G Y ho hd hcd hmg hobj hints hlen hg=>?_
 have KX:=hY w _ Y
 obtain ⟨fd,hb,hF⟩:=F w mg fa _ KX G.T.g hmg
 exact OV KX G.T.g G.T.b G.T.builtins G.T.nolimit hg hobj hints (Nat.le_trans hlen hn2) hr hF hb (fun H hO hS=>hsp w H a ns hlen hO hS) fun H e s'=>hCX w H s₁ e s'
theorem NV {l:PySem.W.OpenLaw}{n k:Nat}{q:Program}{loose:List Str}{XP:(Str→Option Value)→Heap→Prop}{YP:World→Heap→Prop}{d:DefRec}{K:Params→PySem.W.Frag}{CX:CXT}{sp:PySem.W.Frag→Sp}{x:Str}
  (hn:l.most=some n) (hn2:n≤sizeLine) (hdf:d.params.defaults=[]) (hr:DQ k callerA)
  (hY:∀(w:World) (h:Heap),YP w h→(K w.params).In h)
  (F:∀(w:World) (mg:Str→Option Value) (fa:Addr) (h:Heap),(K w.params).In h→h.Ns mainGlobals mg→mg d.name=some (.ref fa) →
   ∃fd:FuncData,(∀(s:Shared) (u:Value),BindsTo s fd ⟨[u],[]⟩ [(x,u)]) /\
    ∀base:Heap,(K w.params).In base→base.Ns mainGlobals mg→Ba l.prog w (K w.params) mg base CX k fa fd [x] (sp (K w.params)))
  (hsp:∀(K:PySem.W.Frag) (H:Hp) (a:Addr) (ns:List Int),ns.length≤n→Oy H→SqL K H a (ns.map V.int)→sp K [.ref a] H (fun v _=>v=.bl true) fun _ _ _=>False)
  (hCX:∀(H:Hp) (s:Shared) (e:Value) (s':Shared),CX [] H s (fun _ _ _=>False) e s'→False) :
  PySem.W.WalkO q loose XP YP l.row.toRowW d [] (fun f vs=>PySem.call f vs) :=
 O3 (K:=K) (CX:=fun _=>CX) (sp:=fun w=>sp (K w.params)) hn hn2 hdf hr hY F (fun w H a ns h1 h2 h3=>hsp (K w.params) H a ns h1 h2 h3) fun _ H s e s'=>hCX H s e s'
end L2
namespace L2
open PySem PySem.Spec PyProof.Rows
def Gf (s:Stmt):Arguments:=match s with
 | .FunctionDef _ a _ _ _ _ _ _ _ _=>a
 | _=>{ posonlyargs:=[],args:=[],vararg:=none,kwonlyargs:=[],kw_defaults:=[],kwarg:=none,defaults:=[] }
def Ft (s:Stmt):List Stmt:=match s with
 | .FunctionDef _ _ b _ _ _ _ _ _ _=>b
 | _=>[]
def AR (s:Stmt):Scope:=match s with
 | .FunctionDef _ _ _ _ _ _ sc _ _ _=>sc
 | _=>{ kind:=.function,names:=[],isGenerator:=false,isCoroutine:=false }
abbrev CX0:CXT:=fun _ _ _ _ _ _=>False
abbrev E0:XK:=fun _ _ _=>False
theorem Ab {X:Cx}:Passes CX0 X E0:=fun _ _ _ _ _ _ _ h=>h.elim
structure Fun (K:PySem.W.Frag) (x qual:Str) (st:Stmt) (f:Addr) (fd:FuncData):Prop where
 ex:∃(oc:Value) (od:Option Addr) (kV doc pm:Value) (an:Option Addr) (cdv ct:Value) (osl:Array (Option Value)),
  fd=PySem.W.fnOf x qual (Gf st) (Ft st) (AR st) .none kV doc pm an cdv ct/\K.lookup f=some ⟨oc,od,.func fd,osl⟩/\PySem.W.codeIn K cdv qual=true
 kp:PySem.W.keepIn K (.ref f)=true
section
variable {P:Program}{w:World}{K:PySem.W.Frag}{mg:Str→Option Value}{base:Heap}
theorem Fun.ok {x qual:Str}{st:Stmt}{f:Addr}{fd:FuncData}{N ps:List Str}{k:Nat}{sp:Sp}(F:Fun K x qual st f fd) (S:Ak N ps (AR st)) (len:∀vs H Q E,sp vs H Q E→vs.length=ps.length)
  (hbody:∀(cdv:Value) (A:Around) (outer:List Env) (s:Shared) (H:Hp) (vs:List V) (Q:VK) (E:XK),DQ k (A.deeper (envOfC qual (AR st) s.heap.objs.size f cdv))→sp vs H Q E →
   ∃t,PSs (ND CX0 P w K mg base N qual (AR st) f cdv A outer s H E).nox (Ft st) t/\t { nx:=fun _ H'=>Q .non H',rt:=Q } (start N vs) H):Ba P w K mg base CX0 (k+1) f fd ps sp:=by
 obtain ⟨oc,od,kV,doc,pm,an,cdv,ct,osl,rfl,lk,hcd⟩:=F.ex
 refine Rn lk hcd S len fun A outer s H vs Q E hr hsp=>?_
 obtain ⟨t,h,q⟩:=hbody cdv A outer s H vs Q E hr hsp
 exact ⟨t,h.nox,q⟩
theorem Fun.binds {x qual:Str}{st:Stmt}{f:Addr}{fd:FuncData}{ps:List Str}(F:Fun K x qual st f fd)
  (h:∀(kV doc pm:Value) (an:Option Addr) (cdv ct:Value) (us:List Value),us.length=ps.length→bindArgs (PySem.W.fnOf x qual (Gf st) (Ft st) (AR st) .none kV doc pm an cdv ct) ⟨us,[]⟩=pure (ps.zip us)):Binds K fd ps []:=by
 obtain ⟨oc,od,kV,doc,pm,an,cdv,ct,osl,rfl,lk,hcd⟩:=F.ex
 exact .all (h kV doc pm an cdv ct)
theorem Qz {x qual:Str}{st:Stmt}{f:Addr}{oc:Value}{od an:Option Addr}{osl:Array (Option Value)}{kV doc pm cdv ct:Value}(l:K.lookup f=some ⟨oc,od,.func (PySem.W.fnOf x qual (Gf st) (Ft st) (AR st) .none kV doc pm an cdv ct),osl⟩)
  (c:PySem.W.codeIn K cdv qual=true) (k:PySem.W.keepIn K (.ref f)=true):Fun K x qual st f (PySem.W.fnOf x qual (Gf st) (Ft st) (AR st) .none kV doc pm an cdv ct):=⟨⟨oc,od,kV,doc,pm,an,cdv,ct,osl,rfl,l,c⟩,k⟩
end
section
variable {X:Cx}
theorem pv (i:Nat) {x:Str}{pos:Pos}(hN:X.N[i]?=some x:=by rfl) (hv:Vis X.env.scope x:=by first|exact Or.inl rfl|exact Or.inr (Or.inl rfl)|exact Or.inr (Or.inr rfl)) (hd:(x==("__debug__" : Str))=false:=by decide)
  (hcd:(x==("__classdict__" : Str))=false:=by decide):PE X (.Name x pos) (Gq i):=Qd hN hv hd hcd
end
section
variable {X:Cx}
end
theorem EE {A B:Prop}(h:B):if false=true then A else B:=by
 rw [if_neg Bool.false_ne_true]
 exact h
theorem JU {A B:Prop}(h:A):if true=true then A else B:=by
 rw [if_pos rfl]
 exact h
def AJ (H H':Hp):Prop:=∀b o,H b=some o→H' b=some o
theorem AJ.refl (H:Hp):AJ H H:=fun _ _ h=>h
theorem AJ.trans {H H1 H2:Hp}(a:AJ H H1) (b:AJ H1 H2):AJ H H2:=fun c o h=>b c o (a c o h)
theorem AJ.free {H H':Hp}(e:AJ H H') {l:Addr}(h:H' l=Option.none):H l=Option.none:=by
 cases q:H l with
 | none=>rfl
 | some o =>
  rw [e l o q] at h
  cases h
theorem AJ.seq {K:PySem.W.Frag}{H H':Hp}{a:Addr}{xs:List V}(e:AJ H H') (h:SqL K H a xs):SqL K H' a xs:=by
 rcases h with (h|⟨o,h⟩)|h
 ·exact .inl (.inl (e _ _ h))
 ·exact .inl (.inr ⟨o,e _ _ h⟩)
 ·exact .inr h
section
variable {κ:Type}[DecidableEq κ]
theorem NW {kvs:List (κ×V)}{k:κ}(h:A7 kvs k=none):¬ k∈kvs.map (·.1):=by
 intro m
 obtain ⟨p,hp,e⟩:=List.mem_map.mp m
 have q:(kvs.any fun kv=>decide (kv.1=k))=true:=List.any_eq_true.mpr ⟨p,hp,decide_eq_true e⟩
 rw [EY,h] at q
 exact absurd q (by simp)
theorem Lq:∀{l:List κ}{k:κ},l.Nodup→¬ k∈l→(l++[k]).Nodup
 | [],k,_,_=>by simp
 | a::r,k,h,hk=>by
  obtain ⟨h1,h2⟩:=List.nodup_cons.mp h
  show (a::(r++[k])).Nodup
  refine List.nodup_cons.mpr ⟨fun m=>?_,Lq h2 fun m=>hk (List.mem_cons.mpr (Or.inr m))⟩
  rcases List.mem_append.mp m with q|q
  ·exact h1 q
  ·exact hk (List.mem_cons.mpr (Or.inl (List.mem_singleton.mp q).symm))
end
end L2
namespace L2
open PySem PySem.Spec PyProof.Rows
theorem HOk.NY {P:Program}{w:World}{H:Hp}{h:Heap}{a:Addr}{o:HO}(x:HOk P w H h) (hn:H a=none) (new:BC P w (upd H a o) h a o):HOk P w (upd H a o) h:=by
 intro b u e
 by_cases hb:b=a
 ·subst hb
  rw [AD] at e
  cases e
  exact new
 ·rw [AV hb] at e
  refine (x b u e).Gr (fun _ _ _ q=>q) (fun c q=>?_) fun c xs q=>?_
  ·rw [AV (AS q hn)];exact q
  ·rw [AV (AS q hn)];exact q
theorem HOk.other {P:Program}{w:World}{H:Hp}{h h':Heap}{a:Addr}(x:HOk P w H h) (hn:H a=none) (k:∀b u,b≠a→h.get? b=some u→h'.get? b=some u):HOk P w H h':=by
 intro b u e
 refine (x b u e).Gr (fun c v hc q=>k c v ?_ q) (fun _ q=>q) fun _ _ q=>q
 rcases hc with z|z
 ·rw [z];exact AS e hn
 ·exact AS z hn
def CJ (env:Env) (cs:List (Str×Addr)) (x:Str×NameKind):List (Str×Addr):=if x.2=.free then (x.1,(env.cells.lookup x.1).getD 0)::cs else cs
def Di (env:Env) (names:List (Str×NameKind)):List (Str×Addr):=names.foldl (CJ env) []
theorem HQ {α β:Type}{f:α→β→Sem (ForInStep β)}{g:β→α→β}:∀(l:List α) (acc:β),(∀x∈l,∀c,f x c=pure (.yield (g c x)))→forIn l acc f=pure (l.foldl g acc)
 | [],acc,_=>rfl
 | x::l,acc,h=>by
  rw [List.forIn_cons,h x List.mem_cons_self acc]
  show forIn l (g acc x) f=_
  rw [HQ l (g acc x) fun y hy=>h y (List.mem_cons_of_mem _ hy)]
  rfl
theorem FE {scope:Scope}{env:Env}(h:∀y∈scope.names,y.2=.free→∃c,env.cells.lookup y.1=some c):closureFor scope env=pure (Di env scope.names):=by
 simp only [closureFor]
 rw [HQ (g:=CJ env) scope.names [] fun x hx c=>by
  obtain ⟨n,kind⟩:=x
  by_cases hk:kind=.free
  ·subst hk
   obtain ⟨a,ha⟩:=h _ hx rfl
   have ha':env.cells.lookup n=some a:=ha
   simp only [beq_self_eq_true,if_true,CJ,cellOf,ha',Option.getD_some]
   rfl
  ·have hb:(kind==NameKind.free)=false:=by simpa using hk
   simp only [hb,Bool.false_eq_true,if_false,CJ,hk]]
 rfl
theorem GK {env:Env}{y:Str}{c:Addr}:∀(names:List (Str×NameKind)) (acc:List (Str×Addr)),(names.foldl (CJ env) acc).lookup y=some c →
  acc.lookup y=some c\/((y,NameKind.free)∈names/\(env.cells.lookup y).getD 0=c)
 | [],acc,h=>.inl h
 | (n,k)::r,acc,h=>by
  rw [List.foldl_cons] at h
  rcases GK r _ h with q|⟨q,z⟩
  ·unfold CJ at q
   by_cases hk:k=.free
   ·rw [if_pos hk,List.lookup_cons] at q
    cases hy:y==n with
    | true =>
     rw [hy] at q
     have e:y=n:=eq_of_beq hy
     subst e hk
     exact .inr ⟨List.mem_cons_self,Option.some.inj q⟩
    | false =>
     rw [hy] at q
     exact .inl q
   ·rw [if_neg hk] at q
    exact .inl q
  ·exact .inr ⟨List.mem_cons_of_mem _ q,z⟩
theorem Em {env:Env}{y:Str}:∀(names:List (Str×NameKind)) (acc:List (Str×Addr)),((y,NameKind.free)∈names\/∃c,acc.lookup y=some c)→∃c,(names.foldl (CJ env) acc).lookup y=some c
 | [],acc,h=>by
  rcases h with h|h
  ·cases h
  ·exact h
 | (n,k)::r,acc,h=>by
  rw [List.foldl_cons]
  refine Em r _ ?_
  by_cases hy:(y,NameKind.free)∈r
  ·exact .inl hy
  ·refine .inr ?_
   rcases h with h|⟨c,h⟩
   ·rcases List.mem_cons.mp h with e|e
    ·cases e
     exact ⟨_,by unfold CJ;rw [if_pos rfl,List.lookup_cons_self]⟩
    ·exact absurd e hy
   ·unfold CJ
    by_cases hk:k=.free
    ·rw [if_pos hk,List.lookup_cons]
     cases y==n with
     | true=>exact ⟨_,rfl⟩
     | false=>exact ⟨c,h⟩
    ·rw [if_neg hk]
     exact ⟨c,h⟩
theorem Fv {prog:Program}{w:World}{A:Around}{R:Result→Shared→Prop}{s:Shared}{elt target iter:Expr}{ifs:List Expr}{scope:Scope}{pos:Pos}{it acc:Value}{env:Env}(I:Nat→Shared→Prop)
  (turn:∀n s,I n s→wpAny (model prog w) A (pyNext it) (fun r s₁=>match r with
   | none=>R (.ok .next) s₁
   | some v=>wpAny (model prog w) A (letOwnedTupleGo target it v) (fun _ s₁'=>wpAny (model prog w) A (assign target env v) (fun _ s₂ =>
     wpAny (model prog w) A (forIn ifs true fun c r=>if r=true then do let ok ← isTrue c env (eval c env);pure (ForInStep.yield ok) else pure (ForInStep.yield r)) (fun ok s₃ =>
      if ok=true then wpAny (model prog w) A (eval elt env) (fun x s₄ =>
       wpAny (model prog w) A (call (.builtin "list.append") [acc,x]) (fun _ s₅=>∃m,m<n/\I m s₅) (fun _ _=>False) s₄) (fun _ _=>False) s₃
      else ∃m,m<n/\I m s₃) (fun _ _=>False) s₂) (fun _ _=>False) s₁') (fun _ _=>False) s₁) (fun _ _=>False) s)
  (n:Nat) (h:I n s) :
  codeAny (model prog w) A (.compLoop (.ListComp elt [⟨target,iter,ifs,0⟩] scope pos) 0 it acc env) R s:=by
 refine codeAny_loop rfl I (fun n s hI=>?_) n h
 show wpAny _ A ((compTurn (.ListComp elt [⟨target,iter,ifs,0⟩] scope pos) 0 it acc env).onRaise (fun x=>do noteFrame x env;theTreesLotGoes x)) _ _ s
 refine wpAny_noted ?_
 rw [compTurn_list]
 refine wpAny_bind (wpAny_standAt (wpAny_bind (wpAny_mono (turn n s hI) (fun r s₁ h₁=>?_) fun _ _ h'=>h'.elim)))
 cases r with
 | none=>exact wpAny_pure h₁
 | some v =>
  refine wpAny_bind (wpAny_mono h₁ (fun _ s₁' h₁'=>?_) fun _ _ h'=>h'.elim)
  refine wpAny_bind (wpAny_mono h₁' (fun _ s₂ h₂=>wpAny_bind (wpAny_mono h₂ (fun ok s₃ h₃=>?_) fun _ _ h'=>h'.elim)) fun _ _ h'=>h'.elim)
  cases ok with
  | false=>exact wpAny_pure ⟨rfl,h₃⟩
  | true =>
   exact wpAny_bind (wpAny_bind (wpAny_mono h₃ (fun x s₄ h₄=>wpAny_bind (wpAny_mono h₄ (fun _ s₅ h₅=>wpAny_pure (wpAny_pure ⟨rfl,h₅⟩)) fun _ _ h'=>h'.elim)) fun _ _ h'=>h'.elim))
def PTs (X:Cx) (ifs:List Expr) (t:TT):Prop :=
 ∀(pins:List (Addr×Obj)) (s:Shared) (σ:St) (H:Hp) (Q:Bool→Hp→Prop),Inv X pins σ H s→t σ H Q →
  wpAny (model X.prog X.w) X.A (forIn ifs true fun c r=>if r=true then do let ok ← isTrue c X.env (eval c X.env);pure (ForInStep.yield ok) else pure (ForInStep.yield r)) (TP X pins σ Q) X.xe s
def NZ:TT:=fun _ H Q=>Q true H
theorem C2 {X:Cx}:PTs X [] NZ:=fun pins s σ H Q I h=>wpAny_tests_nil ⟨H,I,h⟩
theorem Gd {X:Cx}{c:Expr}{t:TT}(h:PT X c t):PTs X [c] t:=fun pins s σ H Q I hw=>wpAny_tests_one (h pins s σ H Q I hw)
def Ap (X:Cx) (scope:Scope) (N:List Str) (C:Addr) (s:Shared) (H:Hp) (ex:List Addr):Cx :=
 { X with N:=N,s₀:=s,H₀:=H,env:=compEnvC scope (Di X.env scope.names) C X.env,outer:=X.stack,stack:=X.stack,ex:=ex,fn:=fun _=>false,pn:=[],xe:=fun _ _=>False }
def pick (σ:St) (j:Nat):Option V:=(σ[j]?).getD none
def Il (n0:Nat) (fr:List Nat) (g:TG) (tt:TT) (te:TE) (σ:St) (Q:VK) (J:It) (H1:Hp):Prop:=∃W:Nat→Nat→St→List V→Hp→Prop,
 (∃m,W 0 m (List.replicate n0 none++fr.map (pick σ)) [] H1)/\∀i m τ acc H,W i m τ acc H →
  (J.stop i H/\∀D,H D=none→Q (.ref D) (upd H D (.lst acc))) \/
  (J.go i H/\acc.length<sizeLine/\∀x H',J.yld i H x H'→g x τ H' fun τ1 H1=>tt τ1 H1 fun b H2 =>
   if b=true then te τ1 H2 fun y H3=>∃m',m'<m/\W (i+1) m' τ1 (acc++[y]) H3 else ∃m',m'<m/\W (i+1) m' τ1 acc H2)
def IF (n0:Nat) (fr:List Nat) (wi:TI) (g:TG) (tt:TT) (te:TE):TE:=fun σ H Q=>wi σ H (Il n0 fr g tt te σ Q)
theorem D8 {env:Env}:∀{names:List (Str×NameKind)}{y:Str},(∀z∈names,z.2≠.cell) →
    ((names.map fun (n,k)=>if (k==NameKind.free&&env.scope.kind==.function&&env.kindOf n==some .cell) then (n,NameKind.cell) else (n,k)).lookup y=some .cell \/
     (names.map fun (n,k)=>if (k==NameKind.free&&env.scope.kind==.function&&env.kindOf n==some .cell) then (n,NameKind.cell) else (n,k)).lookup y=some .free)→(y,NameKind.free)∈names
  | [],y,_,h=>by simp at h
  | (n,k)::r,y,hc,h=>by
    have ih:=@D8 env r y fun z hz=>hc z (List.mem_cons_of_mem _ hz)
    by_cases hy:y=n
    · subst hy
      by_cases hk:k=.free
      · subst hk;exact List.mem_cons_self
      · have hkb:(k==NameKind.free)=false:=by simpa using hk
        simp only [List.map_cons,hkb,Bool.false_and,Bool.false_eq_true,if_false,List.lookup_cons_self,Option.some.injEq] at h
        rcases h with h|h
        · exact absurd h (hc _ List.mem_cons_self)
        · exact absurd h hk
    · have hyb:(y==n)=false:=by simpa using hy
      refine List.mem_cons_of_mem _ (ih ?_)
      simp only [List.map_cons] at h
      by_cases hcnd:(k==NameKind.free&&env.scope.kind==.function&&env.kindOf n==some .cell)=true
      · rw [if_pos hcnd] at h
        simp only [List.lookup_cons,hyb] at h
        exact h
      · rw [if_neg hcnd] at h
        simp only [List.lookup_cons,hyb] at h
        exact h
theorem Bn {env:Env}:∀{names:List (Str×NameKind)}{y:Str},names.lookup y=some .free →
    (names.map fun (n,k)=>if (k==NameKind.free&&env.scope.kind==.function&&env.kindOf n==some .cell) then (n,NameKind.cell) else (n,k)).lookup y=some .cell \/
     (names.map fun (n,k)=>if (k==NameKind.free&&env.scope.kind==.function&&env.kindOf n==some .cell) then (n,NameKind.cell) else (n,k)).lookup y=some .free
  | [],y,h=>by simp at h
  | (n,k)::r,y,h=>by
    have ih:=@Bn env r y
    simp only [List.map_cons]
    cases hy:y==n with
    | true =>
      simp only [List.lookup_cons,hy] at h
      cases h
      by_cases hcnd:(NameKind.free==NameKind.free&&env.scope.kind==.function&&env.kindOf n==some .cell)=true
      · rw [if_pos hcnd];simp [List.lookup_cons,hy]
      · rw [if_neg hcnd];simp [List.lookup_cons,hy]
    | false =>
      simp only [List.lookup_cons,hy] at h
      by_cases hcnd:(k==NameKind.free&&env.scope.kind==.function&&env.kindOf n==some .cell)=true
      · rw [if_pos hcnd];simp only [List.lookup_cons,hy];exact ih h
      · rw [if_neg hcnd];simp only [List.lookup_cons,hy];exact ih h
def Jj (X:Cx) (scope:Scope):List (Str×Nat)→Prop
 | []=>True
 | p::r=>X.N[p.2]?=some p.1/\scope.names.lookup p.1=some .free/\Jj X scope r
theorem Jj.all {X:Cx}{scope:Scope}:∀{fr:List (Str×Nat)},Jj X scope fr→∀p∈fr,X.N[p.2]?=some p.1/\scope.names.lookup p.1=some .free
 | p::r,h,q,hq=>by
  rcases List.mem_cons.mp hq with e|e
  ·subst e;exact ⟨h.1,h.2.1⟩
  ·exact Jj.all h.2.2 q e
section
variable {X:Cx}
theorem Lo {tg iter elt:Expr}{ifs:List Expr}{scope:Scope}{wi:TI}{g:TG}{tt:TT}{te:TE}{own:List Str}{fr:List (Str×Nat)}{pos:Pos}
  (hc:X.calm=true) (hi:PI X tg iter wi)
  (hk:scope.kind=.function) (hcell:∀y∈scope.names,y.2≠.cell) (hnames:∀y∈scope.names,y.2=.local→scope.names.lookup y.1=some .local)
  (hfree:∀y∈scope.names,y.2=.free→X.env.kindOf y.1=some .cell\/X.env.kindOf y.1=some .free) (hfr:Jj X scope fr)
  (hg:∀C s H ex,PG (Ap X scope (own++fr.map (·.1)) C s H ex) tg g)
  (ht:∀C s H ex,PTs (Ap X scope (own++fr.map (·.1)) C s H ex) ifs tt)
  (he:∀C s H ex,PE (Ap X scope (own++fr.map (·.1)) C s H ex) elt te)
  (hs:∀x,foldedSetIterable iter X.env x=pure x:=by intro _;rfl) :
  PE X (.ListComp elt [⟨tg,iter,ifs,0⟩] scope pos) (IF own.length (fr.map (·.2)) wi g tt te):=by
 intro pins s σ H Q I h
 rw [eval_ListComp]
 have hcl:∀y c,(Di X.env scope.names).lookup y=some c→X.env.cells.lookup y=some c:=fun y c e=>by
  rcases GK scope.names [] e with q|⟨q,z⟩
  ·simp at q
  ·obtain ⟨c',e'⟩:=I.ok.has y (hfree _ q rfl)
   rw [e'] at z
   rw [e',←z]
   rfl
 have hclos:closureFor scope X.env=pure (Di X.env scope.names):=FE fun y hy e=>I.ok.has y.1 (hfree y hy e)
 refine wpAny_comprehension_free (use:=none) (cl:=Di X.env scope.names) rfl hs hclos hk hnames ?_
 refine thn (hi pins s σ H _ I h) fun v s1 h1=>thn h1 fun itv s2 h2=>?_
 obtain ⟨it,fp,tn,J,H2,e,I2,T,st2,f2,W,⟨m0,w0⟩,turn⟩:=h2
 subst e
 refine wpAny_newObj_type (wpAny_newFunctionEnv hcell (by intro y hy;simp at hy) (fun h₁ hns₁ hsb₁=>?_) hk)
 dsimp only at hns₁ hsb₁ ⊢
 generalize hH2:s2.heap.push { cls:=.type "list", dict:=none,data:=.seq ([]:List Value).toArray }=HL at hns₁ hsb₁ ⊢
 have hC:HL.objs.size=s2.heap.objs.size+1:=by rw [←hH2,Heap.size_push]
 generalize hCC:HL.objs.size=C at hns₁ hsb₁ hC ⊢
 have hDC:s2.heap.objs.size≠C:=by rw [hC];exact Nat.ne_of_lt (Nat.lt_succ_self _)
 have below:∀b,b<s2.heap.objs.size→b≠C/\b≠s2.heap.objs.size:=fun b hb=>⟨by rw [hC];exact Nat.ne_of_lt (Nat.lt_succ_of_lt hb),Nat.ne_of_lt hb⟩
 have old:∀b o,s2.heap.get? b=some o→h₁.get? b=some o:=fun b o e=>hsb₁.extBut b o (below b (Heap.lt_size e)).1 (Heap.get?_push_of_some _ (hH2 ▸ Heap.get?_push_of_some _ e))
 have eD0:h₁.get? s2.heap.objs.size=some { cls:=.type "list", data:=.seq ([]:List Value).toArray }:=hsb₁.extBut _ _ hDC (Heap.get?_push_of_some _ (hH2 ▸ Heap.get?_push_size _ rfl))
 have fpLt:∀b∈fp,b<s2.heap.objs.size:=fun b hb=>by
  obtain ⟨o,e,_⟩:=T.obj _ _ st2 b hb
  exact Heap.lt_size e
 generalize hD:s2.heap.objs.size=D at hDC below eD0 fpLt hC
 have hDfp:D∉fp:=fun z=>Nat.lt_irrefl _ (fpLt D z)
 have okY:(Ap X scope (own++fr.map (·.1)) C s2 H2 fp).Ok:=by
  refine ⟨I2.ok.mod,hk,I2.ok.glob,I2.ok.blt,by show s2.heap.objs.size≤C;omega,fun x y c e1 e2=>I2.ok.inj x y c (hcl x c e1) (hcl y c e2),fun y hy=>?_,fun x c z _=>(by cases z),I2.ok.hd,I2.ok.frames,.inl rfl,fun b hb=>⟨(below b (fpLt b hb)).1,fun y c e=>?_⟩,I2.bs,
   Nat.le_trans I2.ok.bsz I2.sz,fun b o e hb=>?_,fun b hb z=>?_,I2.stack,I2.Iu⟩
  ·exact Em scope.names [] (.inl (D8 (env:=X.env) hcell hy))
  ·exact (f2 b hb).2.2.2.2.1 y c (hcl y c e)
  ·rcases (f2 b hb).2.2.2.1 with z|z
   ·exact I2.ok.Mo b o e z
   ·exact absurd (Nat.lt_of_lt_of_le (Heap.lt_size e) (Nat.le_trans I2.ok.bsz z)) (Nat.lt_irrefl _)
  ·rcases List.mem_cons.mp (I2.Fz b z) with q|q
   ·exact (f2 b hb).2.1 q
   ·exact (f2 b hb).2.2.1 q
 have cellLt:∀y c,X.env.cells.lookup y=some c→c<D:=fun y c e=>by
  obtain ⟨v,z⟩:=I2.cell y c e
  exact Nat.lt_of_lt_of_le z.lt (Nat.le_of_eq hD)
 have stkLt:∀b∈frs X.stack,b<D:=fun b hb=>by
  rcases List.mem_cons.mp (I2.Fz b hb) with q|q
  ·rw [q];exact Nat.lt_of_lt_of_le I2.lt (Nat.le_of_eq hD)
  ·obtain ⟨_,o,ho,_⟩:=I2.ok.GI.mem q
   exact Nat.lt_of_lt_of_le (Heap.lt_size ho) (Nat.le_trans I2.sz (Nat.le_of_eq hD))
 have fresh:∀a,D≤a→H2 a=none:=fun a ha=>I2.hok.fresh (Nat.le_trans (Nat.le_of_eq hD) ha)
 have IY:Inv (Ap X scope (own++fr.map (·.1)) C s2 H2 fp) [] (List.replicate own.length none++(fr.map (·.2)).map (pick σ)) H2 { s2 with heap:=h₁,toks:=s2.toks+([]:List (Str×Value)).length }:=by
  refine ⟨okY,rfl,I2.bare,Un.kept old,⟨_,hns₁,fun i y v e1 e2 e3=>?_⟩,fun y c e=>?_,fresh C (by omega),fun y c e=>I2.El y c (hcl y c e),fun p hp=>absurd (show p∈([]:List (Addr×Obj)) from hp) (by simp),I2.hok.kept old,?_⟩
  ·have e1:(own++fr.map (·.1))[i]?=some y:=e1
   have hi':own.length≤i:=by
    by_cases hlt:i<own.length
    ·rw [List.getElem?_append_left (by simpa using hlt),List.getElem?_replicate,if_pos hlt] at e2
     cases e2
    ·omega
   rw [List.getElem?_append_right hi',List.getElem?_map] at e1
   rw [List.getElem?_append_right (by simpa using hi'),List.getElem?_map,List.getElem?_map,List.length_replicate] at e2
   cases hp:fr[i-own.length]? with
   | none=>rw [hp] at e1;cases e1
   | some p =>
    rw [hp] at e1 e2
    have ey:p.1=y:=Option.some.inj e1
    have ev:pick σ p.2=some v:=Option.some.inj e2
    obtain ⟨a1,a3⟩:=hfr.all p (List.mem_of_getElem? hp)
    have es:σ[p.2]?=some (some v):=by
     unfold pick at ev
     cases q:σ[p.2]? with
     | none=>rw [q] at ev;cases ev
     | some z=>rw [q] at ev;exact congrArg some ev
    have hfk:X.env.kindOf p.1=some .cell\/X.env.kindOf p.1=some .free:=hfree (p.1,.free) (PySem.mem_of_lookup a3) rfl
    obtain ⟨m,hn,hl⟩:=I2.loc
    obtain ⟨u,r,l⟩:=hl p.2 p.1 v a1 es (hfk.elim (fun z=>.inr (.inl z)) fun z=>.inr (.inr z))
    refine ⟨u,r,.inr ?_⟩
    rcases l with ⟨z,_⟩|⟨_,c,ec,zc⟩
    ·rcases hfk with q|q <;> rw [z] at q <;> cases q
    ·obtain ⟨c',ec'⟩:=Em (env:=X.env) (y:=p.1) scope.names [] (.inl (PySem.mem_of_lookup a3))
     have:c'=c:=Option.some.inj ((hcl _ _ ec').symm.trans ec)
     subst this
     rw [←ey]
     obtain ⟨o,ho,hdd⟩:=zc
     exact ⟨Bn (env:=X.env) a3,c',ec',o,old _ o ho,hdd⟩
  ·obtain ⟨v,z⟩:=I2.cell y c (hcl y c e)
   obtain ⟨o,ho,hdd⟩:=z
   exact ⟨v,o,old _ o ho,hdd⟩
  ·show (List.replicate own.length (none:Option V)++(fr.map (fun p=>p.2)).map (pick σ)).length=(own++fr.map (fun p=>p.1)).length
   simp
 have fpY:∀{H3:Hp} {ob:Obj},(∀b∈fp,H3 b=none)→∀b∈fp,Kw (Ap X scope (own++fr.map (·.1)) C s2 H2 fp) [(D,ob)] H3 b:=fun {H3 ob} hn b hb =>
  ⟨hn b hb,(below b (fpLt b hb)).1,fun z=>okY.M8 b hb z,.inl hb,fun y c e=>(okY.exf b hb).2 y c e,fun p hp=>by
   have e:p=(D,ob):=by simpa [Ap] using hp
   rw [e]
   show D≠b
   exact fun z=>hDfp (z ▸ hb)⟩
 have noC:∀(xs:Array Value) (k:Nat) (v:Option Value),({ cls:=.type "list", data:=.seq xs k }:Obj).data≠.cell v:=fun xs k v z=>by cases z
 have loop:∀s₃:Shared,s₃={ s2 with heap:=h₁,toks:=s2.toks+([]:List (Str×Value)).length } →
   codeAny (model X.prog X.w) X.A (.compLoop (.ListComp elt [⟨tg,iter,ifs,0⟩] scope pos) 0 (.ref it) (.ref D) (compEnvC scope (Di X.env scope.names) C X.env))
    (compPost (model X.prog X.w) X.A X.xe none (EP X pins σ Q) (.ref D) C) s₃:=by
  rintro s₃ rfl
  refine Fv (fun n s'=>∃(i:Nat) (τ:St) (acc:List V) (H':Hp) (its:List Value) (k:Nat),Inv (Ap X scope (own++fr.map (·.1)) C s2 H2 fp) [] τ H' s'/\tn i s'.heap/\(∀b∈fp,H' b=none)/\H' D=none/\Vals acc its /\
   s'.heap.get? D=some { cls:=.type "list", data:=.seq its.toArray k }/\acc.length≤sizeLine/\W i n τ acc H') ?_ m0
   ⟨0,_,[],H2,[],0,IY,T.keep _ _ _ st2 fun b _ o e=>old b o e,fun b hb=>(f2 b hb).1,fresh D (Nat.le_refl _),.nil,eD0,Nat.zero_le _,w0⟩
  rintro n s3 ⟨i,τ,acc,H3,its,k,I3,st3,fr3,fD,rv,eD,hz,w3⟩
  have I3':Inv (Ap X scope (own++fr.map (·.1)) C s2 H2 fp) [(D,{ cls:=.type "list", data:=.seq its.toArray k })] τ H3 s3:=I3.DX fun p hp=>by
   have e:p=(D,{ cls:=.type "list", data:=.seq its.toArray k }):=by simpa using hp
   subst e
   exact ⟨eD,fD,hDC,fun z=>Nat.lt_irrefl _ (stkLt D z),noC _ _⟩
  rcases turn i n τ acc H3 w3 with ⟨stop,qn⟩|⟨go,hlt,step⟩
  ·refine thn (T.done (Ap X scope (own++fr.map (·.1)) C s2 H2 fp) rfl rfl rfl hc i _ s3 τ H3 (fun _ _=>False) I3' (fpY fr3) st3 stop) fun r s4 ⟨hr,I4⟩=>?_
   subst hr
   obtain ⟨m,hn4,_⟩:=I4.loc
   obtain ⟨eD4,fD4,_⟩:=I4.pin (D,{ cls:=.type "list", data:=.seq its.toArray k }) (List.mem_append_right _ (List.mem_singleton.mpr rfl))
   refine ⟨m,hn4,fun h' sb=>?_⟩
   have b4:Un (frs X.stack) fp H2 H3 s2.heap s4.heap:=I4.base
   have lt2:∀b o,s2.heap.get? b=some o→b≠C/\b≠D:=fun b o e=>below b (Nat.lt_of_lt_of_le (Heap.lt_size e) (Nat.le_of_eq hD))
   have tr2:∀b o,H2 b=some o→b≠D:=fun b o e z=>by
    have:=fresh D (Nat.le_refl _)
    rw [z,this] at e
    cases e
   have un:Un (frs X.stack) fp H2 (upd H3 D (.lst acc)) s2.heap h':=by
    refine ⟨fun b o e n hb hx=>(sb.2 b (lt2 b o e).1).trans (b4.keep b o e n hb hx),fun b o e n hb hx=>?_,fun b o e n hx=>?_,fun b o e hx=>?_,fun b xs e=>?_,fun b o u e=>?_,fun b ps e=>?_⟩
    ·obtain ⟨sl,q⟩:=b4.slot b o e n hb hx
     exact ⟨sl,(sb.2 b (lt2 b o e).1).trans q⟩
    ·rw [AV (lt2 b o e).2];exact b4.free b o e n hx
    ·obtain ⟨o',q⟩:=b4.there b o e hx
     exact ⟨o',(sb.2 b (lt2 b o e).1).trans q⟩
    ·rw [AV (tr2 _ _ e)];exact b4.Hm b xs e
    ·rw [AV (tr2 _ _ e)];exact b4.HP b o u e
    ·rw [AV (tr2 _ _ e)];exact b4.Hn b ps e
   have hok':HOk X.prog X.w (upd H3 D (.lst acc)) h':=by
    have q:HOk X.prog X.w H3 h':=HOk.other (a:=C) I4.hok I4.free fun b u hb e=>(sb.2 b hb).trans e
    exact q.NY fD4 ⟨hz,its,k,rv,(sb.2 D hDC).trans eD4⟩
   refine ⟨.ref D,upd H3 D (.lst acc),I2.Ou (s':={ s4 with heap:=h' }) (ch:=fp) I4.os un hok' I4.bare fun b hb=>⟨(f2 b hb).2.2.2.1,(f2 b hb).2.1,(f2 b hb).2.2.2.2.1,(f2 b hb).2.2.2.2.2⟩,rfl,qn D fD4⟩
  ·refine thn (T.item (Ap X scope (own++fr.map (·.1)) C s2 H2 fp) rfl rfl rfl hc i _ s3 τ H3 (fun _ _=>False) I3' (fpY fr3) st3 go) fun r s4 ⟨u,hr,h4⟩=>?_
   subst hr
   refine thn h4 fun _ s5 ⟨x,H5,I5,r5,y5,st5,fr5⟩=>?_
   have I5':=I5.pinned (fpY fr5) (T.obj _ _ st5)
   refine thn (hg _ _ _ _ _ s5 τ H5 x u _ I5' r5 (step x H5 y5)) fun _ s6 ⟨τ6,H6,I6,q6⟩=>?_
   refine thn (ht _ _ _ _ _ s6 τ6 H6 _ I6 q6) fun b s7 ⟨H7,I7,q7⟩=>?_
   have facts:∀{s8:Shared} {H8:Hp} {τ8:St},Inv (Ap X scope (own++fr.map (·.1)) C s2 H2 fp) ([(D,{ cls:=.type "list", data:=.seq its.toArray k })]++GB fp s5.heap) τ8 H8 s8 →
     tn (i+1) s8.heap/\(∀b∈fp,H8 b=none)/\H8 D=none/\s8.heap.get? D=some { cls:=.type "list", data:=.seq its.toArray k }:=fun {s8 H8 τ8} I8=>by
    have hp:∀b∈fp,∀o,s5.heap.get? b=some o→s8.heap.get? b=some o/\H8 b=none:=fun b hb o e=>by
     have q:=I8.pin (b,o) (List.mem_append_right _ (List.mem_append_right _ (EC hb e)))
     exact ⟨q.1,q.2.1⟩
    have qD:=I8.pin (D,{ cls:=.type "list", data:=.seq its.toArray k }) (List.mem_append_right _ (List.mem_append_left _ (List.mem_singleton.mpr rfl)))
    refine ⟨T.keep _ _ _ st5 fun b hb o e=>(hp b hb o e).1,fun b hb=>?_,qD.2.1,qD.1⟩
    obtain ⟨o,e,_⟩:=T.obj _ _ st5 b hb
    exact (hp b hb o e).2
   cases b with
   | false =>
    have q7:∃m',m'<n/\W (i+1) m' τ6 acc H7:=q7
    obtain ⟨m',hm,w7⟩:=q7
    obtain ⟨z1,z2,z3,z4⟩:=facts I7
    exact ⟨m',hm,i+1,τ6,acc,H7,its,k,I7.DX fun p hp=>absurd hp (by simp),z1,z2,z3,rv,z4,hz,w7⟩
   | true =>
    refine thn (he _ _ _ _ _ s7 τ6 H7 _ I7 q7) fun u8 s8 ⟨y,H8,I8,r8,m',hm,w8⟩=>?_
    obtain ⟨z1,z2,z3,z4⟩:=facts I8
    have hl:=rv.length
    refine call_meets F.slot_list_append ⟨_,z4,rfl⟩ F.entry_list_append (F.args_list_append_2 _ _) (PySem.list_append D its.toArray k u8 (by rw [List.size_toArray];omega)) ⟨z4,?_⟩
    have z5:=PySem.IsL.update z4 (·.push u8)
    have z6:its.toArray.push u8=(its++[u8]).toArray:=by simp
    rw [z6] at z5
    have kk:∀b o,b≠D→s8.heap.get? b=some o→(s8.heap.update D (Obj.mapSeq (·.push u8))).get? b=some o:=fun b o hb e=>(Heap.get?_update_other s8.heap (Obj.mapSeq (·.push u8)) (Ne.symm hb)).trans e
    have I8':Inv (Ap X scope (own++fr.map (·.1)) C s2 H2 fp) [] τ6 H8 s8:=I8.DX fun p hp=>absurd hp (by simp)
    refine ⟨m',hm,i+1,τ6,acc++[y],H8,its++[u8],_,I8'.turned (it:=D) kk z3 hDC (.inr (by show s2.heap.objs.size≤D;omega)) (fun y c e=>Nat.ne_of_lt (cellLt y c (hcl y c e))) (fun p hp=>absurd (show p∈([]:List (Addr×Obj)) from hp) (by simp)),?_,z2,z3,
     rv.append (.cons r8 .nil),z5,?_,w8⟩
    ·exact T.keep _ _ _ z1 fun b hb o e=>kk b o (fun z=>hDfp (z ▸ hb)) e
    ·rw [List.length_append,List.length_singleton];omega
 exact codeAny_compStart_list (loop _ rfl) (T.self X.A 0 _ _ _ (T.keep _ _ _ st2 fun b _ o e=>old b o e) (loop _ rfl))
end
section
variable {X:Cx}
theorem Bq {iter elt:Expr}{ifs:List Expr}{scope osc:Scope}{wi:TI}{tt:TT}{te:TE}{x:Str}{px:Pos}{pos:Pos}(fr:List (Str×Nat))
  (hc:X.calm=true) (hi:PI X (.Name x px) iter wi) (ho:X.env.scope=osc)
  (hk:scope.kind=.function) (hcell:∀y∈scope.names,y.2≠.cell) (hnames:∀y∈scope.names,y.2=.local→scope.names.lookup y.1=some .local)
  (hfree:∀y∈scope.names,y.2=.free→osc.names.lookup y.1=some .cell\/osc.names.lookup y.1=some .free) (hfr:Jj X scope fr)
  (hx:scope.names.lookup x=some .local) (hnd:(x::fr.map (·.1)).Nodup)
  (ht:∀C s H ex,PTs (Ap X scope (x::fr.map (·.1)) C s H ex) ifs tt)
  (he:∀C s H ex,PE (Ap X scope (x::fr.map (·.1)) C s H ex) elt te)
  (hs:∀x,foldedSetIterable iter X.env x=pure x:=by intro _;rfl) :
  PE X (.ListComp elt [⟨.Name x px,iter,ifs,0⟩] scope pos) (IF 1 (fr.map (·.2)) wi (DI 0) tt te) :=
 Lo (own:=[x]) hc hi hk hcell hnames (fun y hy e=>by show X.env.scope.names.lookup y.1=_\/X.env.scope.names.lookup y.1=_;rw [ho];exact hfree y hy e) hfr
  (fun C s H ex=>Au (i:=0) hnd rfl (.inl (lookup_relabel_local hx)) (.inr (lookup_relabel_local hx))) ht he hs
end
section
variable {X:Cx}{tg:Expr}
end
theorem NF {J:It}{fr:List Nat}{tt:TT}{te:TE}{σ:St}{H:Hp}{Q:VK}(xs:List V) (p:V→Bool) (f:V→V) (hn:xs.length≤sizeLine)
  (hgo:∀i,i<xs.length→J.go i H) (hst:J.stop xs.length H) (hy:∀i x H',i<xs.length→J.yld i H x H'→H'=H/\xs[i]?=some x)
  (htt:∀x (R:Bool→Hp→Prop),x∈xs→R (p x) H→tt (some x::fr.map (pick σ)) H R)
  (hte:∀x (R:VK),x∈xs→p x=true→R (f x) H→te (some x::fr.map (pick σ)) H R)
  (hd:∀D,H D=none→Q (.ref D) (upd H D (.lst ((xs.filter p).map f)))) :
  Il 1 fr (DI 0) tt te σ Q J H:=by
 refine ⟨fun i m τ acc H'=>m=xs.length-i/\i≤xs.length/\H'=H/\(∃o,τ=o::fr.map (pick σ))/\acc=(((xs.take i).filter p).map f),⟨xs.length,by simp,Nat.zero_le _,rfl,⟨none,rfl⟩,rfl⟩,?_⟩
 rintro i m τ acc H' ⟨rfl,hi,rfl,⟨o,rfl⟩,rfl⟩
 by_cases hlt:i<xs.length
 ·refine .inr ⟨hgo i hlt,?_,fun x H1 y=>?_⟩
  ·rw [List.length_map]
   have h1:((xs.take i).filter p).length≤(xs.take i).length:=List.length_filter_le _ _
   rw [List.length_take] at h1
   omega
  ·obtain ⟨e1,e2⟩:=hy i x H1 hlt y
   subst e1
   have hx:x∈xs:=List.mem_of_getElem? e2
   show tt ((o::fr.map (pick σ)).set 0 (some x)) _ _
   refine htt x _ hx ?_
   have ht:=take_succ_filter p xs i x e2
   cases hp:p x with
   | true =>
    show te (some x::fr.map (pick σ)) _ _
    refine hte x _ hx hp ⟨xs.length-(i+1),by omega,rfl,hlt,rfl,⟨some x,rfl⟩,?_⟩
    rw [ht,hp]
    simp
   | false =>
    show ∃m',m'<xs.length-i/\_
    refine ⟨xs.length-(i+1),by omega,rfl,hlt,rfl,⟨some x,rfl⟩,?_⟩
    rw [ht,hp]
    simp
 ·have e:i=xs.length:=by omega
  subst e
  rw [List.take_length]
  exact .inl ⟨hst,hd⟩
def Gu (z:Str):List V:=z.cps.toList.map fun c=>V.str ⟨#[c]⟩
def Cu (lo:Int) (n:Nat):List V:=(List.range n).map fun (i:Nat)=>V.int (lo+(i:Int))
theorem Ga {lo:Int}{n:Nat}{fr:List Nat}{tt:TT}{te:TE}{σ:St}{H:Hp}{Q:VK}(p:V→Bool) (f:V→V) (hn:n≤sizeLine)
  (htt:∀x (R:Bool→Hp→Prop),x∈Cu lo n→R (p x) H→tt (some x::fr.map (pick σ)) H R)
  (hte:∀x (R:VK),x∈Cu lo n→p x=true→R (f x) H→te (some x::fr.map (pick σ)) H R)
  (hd:∀D,H D=none→Q (.ref D) (upd H D (.lst (((Cu lo n).filter p).map f)))) :
  Il 1 fr (DI 0) tt te σ Q (Itr lo n) H:=by
 have hl:(Cu lo n).length=n:=by simp [Cu]
 refine NF (Cu lo n) p f (by omega) (fun i hi=>by show i<n;omega) (by show n≤_;omega) (fun i x H' hi y=>?_) htt hte hd
 obtain ⟨e,rfl⟩:=y
 refine ⟨e,?_⟩
 unfold Cu
 rw [List.getElem?_map,List.getElem?_range (by omega)]
 rfl
section
variable {X:Cx}
def SD:V→Option Int→Option Int→Hp→VK→Prop:=fun x lo hi H Q=>∃z,x=.str z/\z.length≤sizeLine/\Q (.str (Txt.slice z lo hi)) H
theorem part_of {v:Value}{o:Option Int}(p:IsPart v o):∃l:Option (Int×Tok),v=partValue l/\l.map (·.1)=o:=by
 cases p with
 | none=>exact ⟨none,rfl,rfl⟩
 | int i t=>exact ⟨some (i,t),rfl,rfl⟩
theorem Nk:SlR X SD:=by
 intro pins s σ H x v vl vu lo hi sl Q I rx hs pl pu h
 obtain ⟨z,rfl,hz,q⟩:=h
 obtain ⟨t,rfl⟩:=rx
 obtain ⟨l,rfl,rfl⟩:=part_of pl
 obtain ⟨u,rfl,rfl⟩:=part_of pu
 exact ⟨"str", _,F.slot_str_getitem.lookup,typeIs_str _ _ _,wpAny_getItem_str_slice (l:=l) (u:=u) (st:=none) hs rfl
  (post_val_or_str ⟨Nat.le_trans (Txt.slice_le z _ _) hz,fun t' k=>⟨.str _,H,I.tok _,⟨_,rfl⟩,q⟩⟩)⟩
theorem K5 {zs:List Str}:∀{us:List Value},Vals (zs.map V.str) us→StrsAre us zs:=by
 induction zs with
 | nil=>intro us r;rw [List.map_nil] at r;cases r;exact .nil
 | cons n ns ih =>
  intro us r
  rw [List.map_cons] at r
  cases r with
  | cons r1 r2 =>
   obtain ⟨t,e⟩:=r1
   subst e
   exact .cons n t (ih r2)
theorem Pj {K:PySem.W.Frag}(hK:X.K=K:=by rfl):MtR X "str.join" (fun x xs H Q=>∃(sep:Str) (p:Addr) (zs:List Str),x=.str sep/\xs=[.ref p]/\SqL K H p (zs.map V.str)/\(zs.map (·.length)).sum+zs.length * sep.length≤16777216/\Q (.str (Txt.join sep zs)) H):=by
 subst hK
 intro pins s σ H x xs v us Q I rx rs h
 obtain ⟨sep,p,zs,rfl,rfl,hq,hz,q⟩:=h
 obtain ⟨t,rfl⟩:=rx
 obtain ⟨u,rfl,ru⟩:=vals1 rs
 cases ru
 obtain ⟨its,rv,pl,_⟩:=I.list hq
 exact join_list pl.isList (by simpa using K5 rv) hz fun t' k=>⟨.str _,H,I.tok _,⟨_,rfl⟩,q⟩
theorem Co {K:PySem.W.Frag}(hK:X.K=K:=by rfl):Cy X (.builtin "isinstance") (fun xs H Q=>∃x n t b,xs=[x,.ty n]/\GN K H x t/\PySem.W.kitOne K t (.type n)=some b/\Q (.bl b) H):=by
 subst hK
 intro pins s σ H xs us Q I r h
 obtain ⟨x,n,t,b,rfl,ty,e,q⟩:=h
 obtain ⟨u,w',rfl,rx,rn⟩:=vals2 r
 cases (show w'=Value.type n from rn)
 exact M3 I rx ty e fun tk=>⟨.bl b,H,I.tok _,rfl,q⟩
end
mutual
inductive Dv (K:PySem.W.Frag) (H:Hp):V→PyData→Prop where
 | non:Dv K H .non .none
 | bl (b:Bool):Dv K H (.bl b) (.bool b)
 | int (i:Int):Dv K H (.int i) (.int i)
 | str (x:Str):Dv K H (.str x) (.str x)
 | lst {a:Addr} {xs:List V} {ds:List PyData}:SqL K H a xs→Dvs K H xs ds→Dv K H (.ref a) (.list ds)
 | tup {a:Addr} {xs:List V} {ds:List PyData}:SqT K H a xs→Dvs K H xs ds→Dv K H (.ref a) (.tuple ds)
inductive Dvs (K:PySem.W.Frag) (H:Hp):List V→List PyData→Prop where
 | nil:Dvs K H [] []
 | cons {x:V} {d:PyData} {xs:List V} {ds:List PyData}:Dv K H x d→Dvs K H xs ds→Dvs K H (x::xs) (d::ds)
end
section
variable {X:Cx}{pins:List (Addr×Obj)}{σ:St}{H:Hp}{s:Shared}
mutual
theorem Dv.reads (I:Inv X pins σ H s):∀{x:V}{d:PyData}{u:Value},Dv X.K H x d→RelV x u→∃as,Reads s.heap u d as
 | _,_,_,.non,r=>by cases (show _=Value.none from r);exact ⟨_,.none⟩
 | _,_,_,.bl b,r=>by cases (show _=Value.bool b from r);exact ⟨_,.bool b⟩
 | _,_,_,.int i,r=>by obtain ⟨t,rfl⟩:=r;exact ⟨_,.int i t⟩
 | _,_,_,.str x,r=>by obtain ⟨t,rfl⟩:=r;exact ⟨_,.str x t⟩
 | _,_,_,.lst hq ds,r=>by
  cases r
  obtain ⟨its,rv,pl,_⟩:=I.list hq
  obtain ⟨as,q⟩:=Dvs.reads I ds rv
  obtain ⟨o,e,c,n,d⟩:=pl.isList
  exact ⟨_,.list e c d (by simpa using q)⟩
 | _,_,_,.tup hq ds,r=>by
  cases r
  obtain ⟨its,rv,pl,_⟩:=I.tuple hq
  obtain ⟨as,q⟩:=Dvs.reads I ds rv
  obtain ⟨o,e,c,n,d⟩:=pl
  exact ⟨_,.tuple e c d (by simpa using q)⟩
theorem Dvs.reads (I:Inv X pins σ H s):∀{xs:List V}{ds:List PyData}{us:List Value},Dvs X.K H xs ds→Vals xs us→∃as,ReadsAll s.heap us ds as
 | _,_,_,.nil,r=>by cases r;exact ⟨_,.nil⟩
 | _,_,_,.cons d ds,r=>by
  cases r with
  | cons r1 r2 =>
   obtain ⟨as,q⟩:=Dv.reads I d r1
   obtain ⟨bs,p⟩:=Dvs.reads I ds r2
   exact ⟨_,.cons q p⟩
end
end
section
variable {X:Cx}
def RT (K:PySem.W.Frag):R2:=fun x y H Q=>∃d e,Dv K H x d/\Dv K H y e/\SeqAt.shaped d=true/\SeqAt.shaped e=true/\Q (.bl (PyData.eqv d e)) H
def RQ (K:PySem.W.Frag):R2:=fun x y H Q=>∃d e,Dv K H x d/\Dv K H y e/\SeqAt.shaped d=true/\SeqAt.shaped e=true/\Q (.bl (!PyData.eqv d e)) H
theorem Ql {K:PySem.W.Frag}(hu:X.A.units+64<cLine) (hK:X.K=K:=by rfl):OpR X (compareOp .Eq) (RT K):=by
 subst hK
 intro pins s σ H x y v u Q I rx ry h
 obtain ⟨d,e,hd,he,sd,se,q⟩:=h
 obtain ⟨as,r1⟩:=hd.reads I rx
 obtain ⟨bs,r2⟩:=he.reads I ry
 exact eq_dataH r1 r2 sd se hu ⟨.bl _,H,I,rfl,q⟩
theorem Qj {K:PySem.W.Frag}(hu:X.A.units+64<cLine) (hK:X.K=K:=by rfl):OpR X (compareOp .NotEq) (RQ K):=by
 subst hK
 intro pins s σ H x y v u Q I rx ry h
 obtain ⟨d,e,hd,he,sd,se,q⟩:=h
 obtain ⟨as,r1⟩:=hd.reads I rx
 obtain ⟨bs,r2⟩:=he.reads I ry
 exact ne_dataH r1 r2 sd se hu ⟨.bl _,H,I,rfl,q⟩
end
section
variable {X:Cx}
def QZ (K:PySem.W.Frag):R2:=fun x y H Q=>∃a b xs,x=.ref a/\y=.ref b/\SqL K H a xs/\SqL K H b []/\Q (.bl xs.isEmpty) H
theorem OB {K:PySem.W.Frag}(hu:X.A.units<cLine) (hK:X.K=K:=by rfl):OpR X (compareOp .Eq) (QZ K):=by
 subst hK
 intro pins s σ H x y v u Q I rx ry h
 obtain ⟨a,b,xs,rfl,rfl,ha,hb,q⟩:=h
 cases rx
 cases ry
 obtain ⟨its,r1,p1,_⟩:=I.list ha
 obtain ⟨its2,r2,p2,_⟩:=I.list hb
 cases r2
 have hl:=r1.length
 cases xs with
 | nil =>
  cases r1
  exact SeqAt.eq_listAt (e:=fun _=>true) p1.isList p2.isList rfl hu (fun j h1 _=>absurd h1 (by simp)) ⟨.bl true,H,I,rfl,q⟩
 | cons x r =>
  refine SeqAt.eq_list_lengthsAt p1.isList p2.isList ?_ hu ⟨.bl false,H,I,rfl,q⟩
  rw [List.size_toArray,←hl]
  rfl
end
theorem BL {α:Type}(xs:List α) (n:Int) (hn:(xs.length:Int)=n) (h0:0<n) (c:Int):∃v,atI xs (c % n)=some v/\v∈xs:=by
 have h1:0≤c % n:=Int.emod_nonneg _ (by omega)
 have h2:c % n<n:=Int.emod_lt_of_pos _ h0
 obtain ⟨j,hj⟩:=Int.eq_ofNat_of_zero_le h1
 have hlt:j<xs.length:=by omega
 refine ⟨xs[j],?_,List.getElem_mem hlt⟩
 rw [hj]
 exact AI (List.getElem?_eq_getElem hlt)
theorem Fo {c:Bool}{A B:Prop}(h1:c=true→A) (h2:c=false→B):if c=true then A else B:=by
 cases c with
 | true=>exact JU (h1 rfl)
 | false=>exact EE (h2 rfl)
theorem AJ.upd {H H':Hp}{a:Addr}{o:HO}(e:AJ H H') (h:H' a=none):AJ H (upd H' a o):=fun b u q=>by
 rw [AV (AS (e b u q) h)]
 exact e b u q
section
variable {X:Cx}{K:PySem.W.Frag}
theorem Ac (hK:X.K=K:=by rfl):IxR X (RS K):=by subst hK;exact Po
theorem AK (hK:X.K=K:=by rfl):IxR X (RR K):=by subst hK;exact Qy
theorem Ea (hK:X.K=K:=by rfl):SlR X (RP K):=by subst hK;exact PU
theorem D4 (hK:X.K=K:=by rfl):SlR X (RO K):=by subst hK;exact QU
theorem HC (hK:X.K=K:=by rfl):OpR X (compareOp .In) (rIn K false):=by subst hK;exact Mf
theorem HD (hK:X.K=K:=by rfl):OpR X (binaryOp .Add) (QD K):=by subst hK;exact Pe
theorem BI (hK:X.K=K:=by rfl):Cy X (.builtin "len") (fun xs H Q=>∃p ys,xs=[.ref p]/\(SqL K H p ys\/SqT K H p ys)/\Q (.int ys.length) H):=by subst hK;exact Jb
theorem Ci (hK:X.K=K:=by rfl):Cy X (.type "list") (fun xs H Q=>∃p ys,xs=[.ref p]/\(SqL K H p ys\/SqT K H p ys)/\∀l,H l=none→Q (.ref l) (upd H l (.lst ys))):=by subst hK;exact JZ
theorem Ay {tg l:Expr}{tl:TE}(hl:PE X l tl) (hK:X.K=K:=by rfl):PI X tg l (QH K tl):=by subst hK;exact Pb hl
theorem CM {o e:Expr}{es:List Expr}{to:TE}{t:TA}{name:Str}{apos cpos:Pos}{T id:String}{r:V→List V→Hp→VK→Prop}(pa:PlainAttrs T) (slot:Slot T name id) (hty:typeOf (.builtin id)=pure (.type "method_descriptor")) (hm:MtR X id r) (ho:PE X o to) (ha:PA X (e::es) t)
  (hK:X.K=K:=by rfl) (hbase:attributeBase o name X.env (eval o X.env)=eval o X.env:=by rfl)
  (hfew:((backTo cpos (starEach (e::es) X.env)).all (fun x=>!x.1)&&(backToKw cpos (keywordEach [] X.env)).all (fun x=>x.1.isSome)
   && decide ((e::es).length+([]:List Keyword).length+(if ([]:List Keyword).isEmpty then 0 else 1)<30))=true:=by rfl)
  (hline:(apos.endLine==cpos.line)=true:=by rfl) (hs:starEach (e::es) X.env=(false,eval e X.env)::starEach es X.env:=by rfl) (hplain:(backTo cpos (starEach es X.env)).any (·.1)=false:=by rfl) :
  PE X (.Call (.Attribute o name apos) (e::es) [] cpos) (tBM K T r to t):=by
 subst hK;exact RY pa slot hty hm ho ha hbase hfew hline hs hplain
end
section
variable {X:Cx}{K:PySem.W.Frag}
end
end L2
namespace Rev
open PySem PySem.Builtin PySem.Builtin.Str PySem.Builtin.Int
section
variable {prog:Program}{w:World}{A:Around}{R:Result→Shared→Prop}{I:Addr}{fp wr:List Addr}{G:Array GenState→Array GenState→Prop}{n:Nat}{P:Nat→Value→Prop}{St:Nat→Shared→Prop}{Live:Shared→Prop}
end
section
variable {prog:Program}{w:World}{A:Around}{E:Value→Shared→Prop}{s:Shared}
end
section
variable {prog:Program}{w:World}{A:Around}{E:Value→Shared→Prop}{s:Shared}{I:Addr}{fp wr:List Addr}{G:Array GenState→Array GenState→Prop}{n:Nat}{P:Nat→Value→Prop}{St:Nat→Shared→Prop}{Live:Shared→Prop}
end
end Rev
namespace Rev
open PySem PySem.Builtin PySem.Builtin.Str PySem.Builtin.Int
section
variable {prog:Program}{w:World}{A:Around}{E:Value→Shared→Prop}{s:Shared}{x:Str}{t:Tok}{Q:Value→Shared→Prop}{I:Addr}{fp wr:List Addr}{G:Array GenState→Array GenState→Prop}{n:Nat}{P:Nat→Value→Prop}{St:Nat→Shared→Prop}{Live:Shared→Prop}
end
end Rev
namespace L2
open PySem PySem.Spec PyProof.Rows
section
variable {X:Cx}{K:PySem.W.Frag}
end
end L2
namespace Att
open PySem PySem.W PySem.Calls PyProof.Rows
end Att
namespace L2
open PySem PySem.Spec PyProof.Rows
end L2
namespace L2
open PySem PySem.Spec PyProof.Rows
section
variable {X:Cx}{K:PySem.W.Frag}
def QY (K:PySem.W.Frag):R2:=fun x y H Q=>∃a b xs,x=.ref a/\y=.ref b/\SqL K H a xs/\SqL K H b []/\Q (.bl (!xs.isEmpty)) H
theorem HB (hu:X.A.units<cLine) (hK:X.K=K:=by rfl):OpR X (compareOp .NotEq) (QY K):=by
 subst hK
 intro pins s σ H x y v u Q I rx ry h
 obtain ⟨a,b,xs,rfl,rfl,ha,hb,q⟩:=h
 cases rx
 cases ry
 obtain ⟨its,r1,p1,_⟩:=I.list ha
 obtain ⟨its2,r2,p2,_⟩:=I.list hb
 cases r2
 have hl:=r1.length
 cases xs with
 | nil =>
  cases r1
  exact SeqAt.RcNeAt.lists (e:=fun _=>true) p1.isList p2.isList rfl hu (fun j h1 _=>absurd h1 (by simp)) _ _ _ _ ⟨.bl false,H,I,rfl,q⟩
 | cons x r =>
  refine SeqAt.RcNeAt.lists_lengths p1.isList p2.isList ?_ hu _ _ _ _ ⟨.bl true,H,I,rfl,q⟩
  rw [List.size_toArray,←hl]
  rfl
end
end L2
namespace Fig
open PySem
end Fig
namespace L2
theorem JF {X:Cx}{st:PySem.Stmt}{t t':TS}(h:PS X st t) (hw:∀D σ H,t' D σ H→t D σ H):PS X st t':=fun pins s σ H D I q=>h pins s σ H D I (hw D σ H q)
end L2
namespace L2
open PySem PySem.Spec PyProof.Rows
section
variable {X:Cx}{K:PySem.W.Frag}{w:World}{o i:Expr}{pos:Pos}{td ty:TE}
end
end L2
namespace L2
open PySem PySem.Spec PyProof.Rows
inductive F2 (Pr:V→V→Prop):List V→List V→Prop where
 | nil:F2 Pr [] []
 | cons {x y:V} {xs ys:List V} (h:Pr x y) (t:F2 Pr xs ys):F2 Pr (x::xs) (y::ys)
theorem DQ.u1 {k:Nat}{A:Around}(r:DQ k A):A.units+1<cLine:=by have:=r.un;omega
def RU:R2:=fun x y H Q=>∃a b xs ys,x=.ref a/\y=.ref b/\H a=some (.tup xs)/\H b=some (.tup ys)/\xs.length+ys.length≤sizeLine /\
 ∀p H',AJ H H'→H' p=some (.tup (xs++ys))→Q (.ref p) H'
theorem Et {X:Cx}:OpR X (binaryOp .Add) RU:=by
 intro pins s σ H x y v u Q I rx ry h
 obtain ⟨a,b,xs,ys,rfl,rfl,ha,hb,hz,q⟩:=h
 cases rx
 cases ry
 obtain ⟨its,r1,p1,_⟩:=I.tuple (SqT.of (K:=X.K) ha)
 obtain ⟨its2,r2,p2,_⟩:=I.tuple (SqT.of (K:=X.K) hb)
 by_cases he:its=[]
 ·have hx:xs=[]:=r1.Fl.mp he
  subst he hx
  obtain ⟨⟨cls,dd,data,sl⟩,ho,hc,n,hd⟩:=id p1
  obtain ⟨⟨cls2,dd2,data2,sl2⟩,ho2,hc2,n2,hd2⟩:=id p2
  simp only at hc hd hc2 hd2
  subst hc hd hc2 hd2
  exact concat_meets ⟨_,ho,rfl⟩ ⟨_,ho2,rfl⟩ noFill_tuple_add seq_tuple_add PySem.F.slot_tuple_add PySem.F.entry_tuple_add (PySem.F.args_tuple_add_2 _ _)
   (tuple_addW0 a b [].toArray its2.toArray n n2 dd dd2 sl sl2 (by simp)) ⟨ho,ho2,⟨.ref b,H,I,rfl,q b H (AJ.refl H) hb⟩⟩
 ·refine HT.MH p1 p2 he (fun z=>⟨.ref a,H,I,rfl,?_⟩) (fun z=>?_) (by rw [←r1.length,←r2.length];exact hz)
  ·have hy:ys=[]:=r2.Fl.mp z
   subst hy
   exact q a H (AJ.refl H) (by rw [List.append_nil];exact ha)
  ·have hf:=I.hok.fresh (Nat.le_refl s.heap.objs.size)
   refine ⟨.ref s.heap.objs.size,_,I.laid (t':=s.toks) (o:=.tup (xs++ys)) (fun b ob q=>Heap.get?_push_of_some _ q) (Nat.le_refl _) ?_,rfl,q _ _ ((AJ.refl H).upd hf) AD⟩
   exact ⟨by rw [List.length_append];exact hz,_,r1.append r2,IsTup.new _ _⟩
section
variable {X:Cx}{tg:Expr}
end
section
variable {X:Cx}
end
end L2
namespace L2
open PySem PySem.Spec PyProof.Rows
section
variable {X:Cx}
theorem Nz {tg iter elt:Expr}{ifs:List Expr}{scope:Scope}{wi:TI}{g:TG}{tt:TT}{te:TE}{own:List Str}{fr:List (Str×Nat)}{pos spos py:Pos}{iy:Nat}{y:Str}
  (hN:X.N.Nodup) (hiy:X.N[iy]?=some y) (hxy:Loc X.env.scope y) (hfy:X.fn y=true\/X.env.scope.names.lookup y=some .local)
  (hc:X.calm=true) (hi:PI X tg iter wi)
  (hk:scope.kind=.function) (hcell:∀y∈scope.names,y.2≠.cell) (hnames:∀y∈scope.names,y.2=.local→scope.names.lookup y.1=some .local)
  (hfree:∀y∈scope.names,y.2=.free→X.env.kindOf y.1=some .cell\/X.env.kindOf y.1=some .free) (hfr:Jj X scope fr)
  (hg:∀C s H ex,PG (Ap X scope (own++fr.map (·.1)) C s H ex) tg g)
  (ht:∀C s H ex,PTs (Ap X scope (own++fr.map (·.1)) C s H ex) ifs tt)
  (he:∀C s H ex,PE (Ap X scope (own++fr.map (·.1)) C s H ex) elt te)
  (hsw:swapsWith (.ListComp elt [⟨tg,iter,ifs,0⟩] scope pos) (some (.Name y py)) spos.line X.env=pure true)
  (hs:∀x,foldedSetIterable iter X.env x=pure x:=by intro _;rfl) :
  PS X (.Assign [.Name y py] (.ListComp elt [⟨tg,iter,ifs,0⟩] scope pos) spos) (K4 (IF own.length (fr.map (·.2)) wi g tt te) (DI iy)):=by
 intro pins s σ H D0 I h
 let Q:VK:=fun v H1=>D0.nx (σ.set iy (some v)) H1
 have h:IF own.length (fr.map (·.2)) wi g tt te σ H Q:=h
 rw [exec_Assign_Name_used _ _ _ _ hsw]
 refine wpAny_bind (wpAny_standAt (wpAny_bind ?_))
 show wpAny _ X.A (do let _ ← comprehension (.ListComp elt [⟨tg,iter,ifs,0⟩] scope pos) scope X.env _ (newList []) false (eval iter X.env) (some (assign (.Name y py) X.env))) _ _ s
 have hcl:∀y c,(Di X.env scope.names).lookup y=some c→X.env.cells.lookup y=some c:=fun y c e=>by
  rcases GK scope.names [] e with q|⟨q,z⟩
  ·simp at q
  ·obtain ⟨c',e'⟩:=I.ok.has y (hfree _ q rfl)
   rw [e'] at z
   rw [e',←z]
   rfl
 have hclos:closureFor scope X.env=pure (Di X.env scope.names):=FE fun y hy e=>I.ok.has y.1 (hfree y hy e)
 refine wpAny_bind (wpAny_mono (wpAny_comprehension_free (use:=some (assign (.Name y py) X.env)) (cl:=Di X.env scope.names) (Q:=fun _ s'=>SP X pins D0 .next s') rfl hs hclos hk hnames ?_) (fun _ s' hq=>wpAny_pure (wpAny_pure hq)) fun _ _ e=>e)
 refine thn (hi pins s σ H _ I h) fun v s1 h1=>thn h1 fun itv s2 h2=>?_
 obtain ⟨it,fp,tn,J,H2,e,I2,T,st2,f2,W,⟨m0,w0⟩,turn⟩:=h2
 subst e
 refine wpAny_newObj_type (wpAny_newFunctionEnv hcell (by intro y hy;simp at hy) (fun h₁ hns₁ hsb₁=>?_) hk)
 dsimp only at hns₁ hsb₁ ⊢
 generalize hH2:s2.heap.push { cls:=.type "list", dict:=none,data:=.seq ([]:List Value).toArray }=HL at hns₁ hsb₁ ⊢
 have hC:HL.objs.size=s2.heap.objs.size+1:=by rw [←hH2,Heap.size_push]
 generalize hCC:HL.objs.size=C at hns₁ hsb₁ hC ⊢
 have hDC:s2.heap.objs.size≠C:=by rw [hC];exact Nat.ne_of_lt (Nat.lt_succ_self _)
 have below:∀b,b<s2.heap.objs.size→b≠C/\b≠s2.heap.objs.size:=fun b hb=>⟨by rw [hC];exact Nat.ne_of_lt (Nat.lt_succ_of_lt hb),Nat.ne_of_lt hb⟩
 have old:∀b o,s2.heap.get? b=some o→h₁.get? b=some o:=fun b o e=>hsb₁.extBut b o (below b (Heap.lt_size e)).1 (Heap.get?_push_of_some _ (hH2 ▸ Heap.get?_push_of_some _ e))
 have eD0:h₁.get? s2.heap.objs.size=some { cls:=.type "list", data:=.seq ([]:List Value).toArray }:=hsb₁.extBut _ _ hDC (Heap.get?_push_of_some _ (hH2 ▸ Heap.get?_push_size _ rfl))
 have fpLt:∀b∈fp,b<s2.heap.objs.size:=fun b hb=>by
  obtain ⟨o,e,_⟩:=T.obj _ _ st2 b hb
  exact Heap.lt_size e
 generalize hD:s2.heap.objs.size=D at hDC below eD0 fpLt hC
 have hDfp:D∉fp:=fun z=>Nat.lt_irrefl _ (fpLt D z)
 have okY:(Ap X scope (own++fr.map (·.1)) C s2 H2 fp).Ok:=by
  refine ⟨I2.ok.mod,hk,I2.ok.glob,I2.ok.blt,by show s2.heap.objs.size≤C;omega,fun x y c e1 e2=>I2.ok.inj x y c (hcl x c e1) (hcl y c e2),fun y hy=>?_,fun x c z _=>(by cases z),I2.ok.hd,I2.ok.frames,.inl rfl,fun b hb=>⟨(below b (fpLt b hb)).1,fun y c e=>?_⟩,I2.bs,
   Nat.le_trans I2.ok.bsz I2.sz,fun b o e hb=>?_,fun b hb z=>?_,I2.stack,I2.Iu⟩
  ·exact Em scope.names [] (.inl (D8 (env:=X.env) hcell hy))
  ·exact (f2 b hb).2.2.2.2.1 y c (hcl y c e)
  ·rcases (f2 b hb).2.2.2.1 with z|z
   ·exact I2.ok.Mo b o e z
   ·exact absurd (Nat.lt_of_lt_of_le (Heap.lt_size e) (Nat.le_trans I2.ok.bsz z)) (Nat.lt_irrefl _)
  ·rcases List.mem_cons.mp (I2.Fz b z) with q|q
   ·exact (f2 b hb).2.1 q
   ·exact (f2 b hb).2.2.1 q
 have cellLt:∀y c,X.env.cells.lookup y=some c→c<D:=fun y c e=>by
  obtain ⟨v,z⟩:=I2.cell y c e
  exact Nat.lt_of_lt_of_le z.lt (Nat.le_of_eq hD)
 have stkLt:∀b∈frs X.stack,b<D:=fun b hb=>by
  rcases List.mem_cons.mp (I2.Fz b hb) with q|q
  ·rw [q];exact Nat.lt_of_lt_of_le I2.lt (Nat.le_of_eq hD)
  ·obtain ⟨_,o,ho,_⟩:=I2.ok.GI.mem q
   exact Nat.lt_of_lt_of_le (Heap.lt_size ho) (Nat.le_trans I2.sz (Nat.le_of_eq hD))
 have fresh:∀a,D≤a→H2 a=none:=fun a ha=>I2.hok.fresh (Nat.le_trans (Nat.le_of_eq hD) ha)
 have IY:Inv (Ap X scope (own++fr.map (·.1)) C s2 H2 fp) [] (List.replicate own.length none++(fr.map (·.2)).map (pick σ)) H2 { s2 with heap:=h₁,toks:=s2.toks+([]:List (Str×Value)).length }:=by
  refine ⟨okY,rfl,I2.bare,Un.kept old,⟨_,hns₁,fun i y v e1 e2 e3=>?_⟩,fun y c e=>?_,fresh C (by omega),fun y c e=>I2.El y c (hcl y c e),fun p hp=>absurd (show p∈([]:List (Addr×Obj)) from hp) (by simp),I2.hok.kept old,?_⟩
  ·have e1:(own++fr.map (·.1))[i]?=some y:=e1
   have hi':own.length≤i:=by
    by_cases hlt:i<own.length
    ·rw [List.getElem?_append_left (by simpa using hlt),List.getElem?_replicate,if_pos hlt] at e2
     cases e2
    ·omega
   rw [List.getElem?_append_right hi',List.getElem?_map] at e1
   rw [List.getElem?_append_right (by simpa using hi'),List.getElem?_map,List.getElem?_map,List.length_replicate] at e2
   cases hp:fr[i-own.length]? with
   | none=>rw [hp] at e1;cases e1
   | some p =>
    rw [hp] at e1 e2
    have ey:p.1=y:=Option.some.inj e1
    have ev:pick σ p.2=some v:=Option.some.inj e2
    obtain ⟨a1,a3⟩:=hfr.all p (List.mem_of_getElem? hp)
    have es:σ[p.2]?=some (some v):=by
     unfold pick at ev
     cases q:σ[p.2]? with
     | none=>rw [q] at ev;cases ev
     | some z=>rw [q] at ev;exact congrArg some ev
    have hfk:X.env.kindOf p.1=some .cell\/X.env.kindOf p.1=some .free:=hfree (p.1,.free) (PySem.mem_of_lookup a3) rfl
    obtain ⟨m,hn,hl⟩:=I2.loc
    obtain ⟨u,r,l⟩:=hl p.2 p.1 v a1 es (hfk.elim (fun z=>.inr (.inl z)) fun z=>.inr (.inr z))
    refine ⟨u,r,.inr ?_⟩
    rcases l with ⟨z,_⟩|⟨_,c,ec,zc⟩
    ·rcases hfk with q|q <;> rw [z] at q <;> cases q
    ·obtain ⟨c',ec'⟩:=Em (env:=X.env) (y:=p.1) scope.names [] (.inl (PySem.mem_of_lookup a3))
     have:c'=c:=Option.some.inj ((hcl _ _ ec').symm.trans ec)
     subst this
     rw [←ey]
     obtain ⟨o,ho,hdd⟩:=zc
     exact ⟨Bn (env:=X.env) a3,c',ec',o,old _ o ho,hdd⟩
  ·obtain ⟨v,z⟩:=I2.cell y c (hcl y c e)
   obtain ⟨o,ho,hdd⟩:=z
   exact ⟨v,o,old _ o ho,hdd⟩
  ·show (List.replicate own.length (none:Option V)++(fr.map (fun p=>p.2)).map (pick σ)).length=(own++fr.map (fun p=>p.1)).length
   simp
 have fpY:∀{H3:Hp} {ob:Obj},(∀b∈fp,H3 b=none)→∀b∈fp,Kw (Ap X scope (own++fr.map (·.1)) C s2 H2 fp) [(D,ob)] H3 b:=fun {H3 ob} hn b hb =>
  ⟨hn b hb,(below b (fpLt b hb)).1,fun z=>okY.M8 b hb z,.inl hb,fun y c e=>(okY.exf b hb).2 y c e,fun p hp=>by
   have e:p=(D,ob):=by simpa [Ap] using hp
   rw [e]
   show D≠b
   exact fun z=>hDfp (z ▸ hb)⟩
 have noC:∀(xs:Array Value) (k:Nat) (v:Option Value),({ cls:=.type "list", data:=.seq xs k }:Obj).data≠.cell v:=fun xs k v z=>by cases z
 have loop:∀s₃:Shared,s₃={ s2 with heap:=h₁,toks:=s2.toks+([]:List (Str×Value)).length } →
   codeAny (model X.prog X.w) X.A (.compLoop (.ListComp elt [⟨tg,iter,ifs,0⟩] scope pos) 0 (.ref it) (.ref D) (compEnvC scope (Di X.env scope.names) C X.env))
    (compPost (model X.prog X.w) X.A X.xe (some (assign (.Name y py) X.env)) (fun _ s'=>SP X pins D0 .next s') (.ref D) C) s₃:=by
  rintro s₃ rfl
  refine Fv (fun n s'=>∃(i:Nat) (τ:St) (acc:List V) (H':Hp) (its:List Value) (k:Nat),Inv (Ap X scope (own++fr.map (·.1)) C s2 H2 fp) [] τ H' s'/\tn i s'.heap/\(∀b∈fp,H' b=none)/\H' D=none/\Vals acc its /\
   s'.heap.get? D=some { cls:=.type "list", data:=.seq its.toArray k }/\acc.length≤sizeLine/\W i n τ acc H') ?_ m0
   ⟨0,_,[],H2,[],0,IY,T.keep _ _ _ st2 fun b _ o e=>old b o e,fun b hb=>(f2 b hb).1,fresh D (Nat.le_refl _),.nil,eD0,Nat.zero_le _,w0⟩
  rintro n s3 ⟨i,τ,acc,H3,its,k,I3,st3,fr3,fD,rv,eD,hz,w3⟩
  have I3':Inv (Ap X scope (own++fr.map (·.1)) C s2 H2 fp) [(D,{ cls:=.type "list", data:=.seq its.toArray k })] τ H3 s3:=I3.DX fun p hp=>by
   have e:p=(D,{ cls:=.type "list", data:=.seq its.toArray k }):=by simpa using hp
   subst e
   exact ⟨eD,fD,hDC,fun z=>Nat.lt_irrefl _ (stkLt D z),noC _ _⟩
  rcases turn i n τ acc H3 w3 with ⟨stop,qn⟩|⟨go,hlt,step⟩
  ·refine thn (T.done (Ap X scope (own++fr.map (·.1)) C s2 H2 fp) rfl rfl rfl hc i _ s3 τ H3 (fun _ _=>False) I3' (fpY fr3) st3 stop) fun r s4 ⟨hr,I4⟩=>?_
   subst hr
   obtain ⟨m,hn4,_⟩:=I4.loc
   obtain ⟨eD4,fD4,_⟩:=I4.pin (D,{ cls:=.type "list", data:=.seq its.toArray k }) (List.mem_append_right _ (List.mem_singleton.mpr rfl))
   have b4:Un (frs X.stack) fp H2 H3 s2.heap s4.heap:=I4.base
   have lt2:∀b o,s2.heap.get? b=some o→b≠C/\b≠D:=fun b o e=>below b (Nat.lt_of_lt_of_le (Heap.lt_size e) (Nat.le_of_eq hD))
   have tr2:∀b o,H2 b=some o→b≠D:=fun b o e z=>by
    have:=fresh D (Nat.le_refl _)
    rw [z,this] at e
    cases e
   have un:Un (frs X.stack) fp H2 (upd H3 D (.lst acc)) s2.heap s4.heap:=by
    refine ⟨fun b o e n hb hx=>b4.keep b o e n hb hx,fun b o e n hb hx=>?_,fun b o e n hx=>?_,fun b o e hx=>?_,fun b xs e=>?_,fun b o u e=>?_,fun b ps e=>?_⟩
    ·obtain ⟨sl,q⟩:=b4.slot b o e n hb hx
     exact ⟨sl,q⟩
    ·rw [AV (lt2 b o e).2];exact b4.free b o e n hx
    ·obtain ⟨o',q⟩:=b4.there b o e hx
     exact ⟨o',q⟩
    ·rw [AV (tr2 _ _ e)];exact b4.Hm b xs e
    ·rw [AV (tr2 _ _ e)];exact b4.HP b o u e
    ·rw [AV (tr2 _ _ e)];exact b4.Hn b ps e
   have hok':HOk X.prog X.w (upd H3 D (.lst acc)) s4.heap:=I4.hok.NY fD4 ⟨hz,its,k,rv,eD4⟩
   have IX:Inv X pins σ (upd H3 D (.lst acc)) s4:=I2.Ou (s':=s4) (ch:=fp) I4.os un hok' I4.bare fun b hb=>⟨(f2 b hb).2.2.2.1,(f2 b hb).2.1,(f2 b hb).2.2.2.2.1,(f2 b hb).2.2.2.2.2⟩
   have hHC:H3 C=none:=I4.free
   have noCD:∀b:Addr,b<D→C≠b:=fun b hb z=>by
    rw [←z,hC] at hb
    exact Nat.lt_irrefl D (Nat.lt_of_succ_lt hb)
   have hCL:C≠X.env.locals:=noCD _ (Nat.lt_of_lt_of_le I2.lt (Nat.le_of_eq hD))
   show wpAny (model X.prog X.w) X.A (assign (.Name y py) X.env (.ref D)) _ X.xe s4
   refine wpAny_assign_Name (IG IX hN hiy hxy (v:=.ref D) rfl (fun s5 I5 ⟨a,sb5,ha⟩=>?_) hfy)
   have hCa:C≠a:=by
    rcases ha with z|z
    ·rw [z];exact hCL
    ·exact noCD _ (cellLt _ _ z)
   refine ⟨m,Heap.Ns.sameBut hn4 sb5 hCa,fun h' sb=>⟨_,_,I5.turned (it:=C) (t':=s5.toks) (fun b o hb e=>(sb.2 b hb).trans e) (by rw [AV hDC.symm];exact hHC) hCL (.inr ?_) (fun z c e q=>?_) (fun p hp q=>?_),qn D fD4⟩⟩
   ·exact Nat.le_trans I2.sz (by omega)
   ·exact noCD _ (cellLt z c e) q.symm
   ·exact noCD _ (Nat.lt_of_lt_of_le (Heap.lt_size (I2.pin p hp).1) (Nat.le_of_eq hD)) q.symm
  ·refine thn (T.item (Ap X scope (own++fr.map (·.1)) C s2 H2 fp) rfl rfl rfl hc i _ s3 τ H3 (fun _ _=>False) I3' (fpY fr3) st3 go) fun r s4 ⟨u,hr,h4⟩=>?_
   subst hr
   refine thn h4 fun _ s5 ⟨x,H5,I5,r5,y5,st5,fr5⟩=>?_
   have I5':=I5.pinned (fpY fr5) (T.obj _ _ st5)
   refine thn (hg _ _ _ _ _ s5 τ H5 x u _ I5' r5 (step x H5 y5)) fun _ s6 ⟨τ6,H6,I6,q6⟩=>?_
   refine thn (ht _ _ _ _ _ s6 τ6 H6 _ I6 q6) fun b s7 ⟨H7,I7,q7⟩=>?_
   have facts:∀{s8:Shared} {H8:Hp} {τ8:St},Inv (Ap X scope (own++fr.map (·.1)) C s2 H2 fp) ([(D,{ cls:=.type "list", data:=.seq its.toArray k })]++GB fp s5.heap) τ8 H8 s8 →
     tn (i+1) s8.heap/\(∀b∈fp,H8 b=none)/\H8 D=none/\s8.heap.get? D=some { cls:=.type "list", data:=.seq its.toArray k }:=fun {s8 H8 τ8} I8=>by
    have hp:∀b∈fp,∀o,s5.heap.get? b=some o→s8.heap.get? b=some o/\H8 b=none:=fun b hb o e=>by
     have q:=I8.pin (b,o) (List.mem_append_right _ (List.mem_append_right _ (EC hb e)))
     exact ⟨q.1,q.2.1⟩
    have qD:=I8.pin (D,{ cls:=.type "list", data:=.seq its.toArray k }) (List.mem_append_right _ (List.mem_append_left _ (List.mem_singleton.mpr rfl)))
    refine ⟨T.keep _ _ _ st5 fun b hb o e=>(hp b hb o e).1,fun b hb=>?_,qD.2.1,qD.1⟩
    obtain ⟨o,e,_⟩:=T.obj _ _ st5 b hb
    exact (hp b hb o e).2
   cases b with
   | false =>
    have q7:∃m',m'<n/\W (i+1) m' τ6 acc H7:=q7
    obtain ⟨m',hm,w7⟩:=q7
    obtain ⟨z1,z2,z3,z4⟩:=facts I7
    exact ⟨m',hm,i+1,τ6,acc,H7,its,k,I7.DX fun p hp=>absurd hp (by simp),z1,z2,z3,rv,z4,hz,w7⟩
   | true =>
    refine thn (he _ _ _ _ _ s7 τ6 H7 _ I7 q7) fun u8 s8 ⟨y,H8,I8,r8,m',hm,w8⟩=>?_
    obtain ⟨z1,z2,z3,z4⟩:=facts I8
    have hl:=rv.length
    refine call_meets F.slot_list_append ⟨_,z4,rfl⟩ F.entry_list_append (F.args_list_append_2 _ _) (PySem.list_append D its.toArray k u8 (by rw [List.size_toArray];omega)) ⟨z4,?_⟩
    have z5:=PySem.IsL.update z4 (·.push u8)
    have z6:its.toArray.push u8=(its++[u8]).toArray:=by simp
    rw [z6] at z5
    have kk:∀b o,b≠D→s8.heap.get? b=some o→(s8.heap.update D (Obj.mapSeq (·.push u8))).get? b=some o:=fun b o hb e=>(Heap.get?_update_other s8.heap (Obj.mapSeq (·.push u8)) (Ne.symm hb)).trans e
    have I8':Inv (Ap X scope (own++fr.map (·.1)) C s2 H2 fp) [] τ6 H8 s8:=I8.DX fun p hp=>absurd hp (by simp)
    refine ⟨m',hm,i+1,τ6,acc++[y],H8,its++[u8],_,I8'.turned (it:=D) kk z3 hDC (.inr (by show s2.heap.objs.size≤D;omega)) (fun y c e=>Nat.ne_of_lt (cellLt y c (hcl y c e))) (fun p hp=>absurd (show p∈([]:List (Addr×Obj)) from hp) (by simp)),?_,z2,z3,
     rv.append (.cons r8 .nil),z5,?_,w8⟩
    ·exact T.keep _ _ _ z1 fun b hb o e=>kk b o (fun z=>hDfp (z ▸ hb)) e
    ·rw [List.length_append,List.length_singleton];omega
 exact codeAny_compStart_list (loop _ rfl) (T.self X.A 0 _ _ _ (T.keep _ _ _ st2 fun b _ o e=>old b o e) (loop _ rfl))
theorem Lm {i:Nat}{y:Str}{iter elt:Expr}{ifs:List Expr}{scope osc:Scope}{wi:TI}{tt:TT}{te:TE}{x:Str}{px py pos spos:Pos}(fr:List (Str×Nat))
  (hN:X.N.Nodup) (hiy:X.N[i]?=some y) (hxy:Loc X.env.scope y)
  (hc:X.calm=true) (hi:PI X (.Name x px) iter wi) (ho:X.env.scope=osc)
  (hk:scope.kind=.function) (hcell:∀y∈scope.names,y.2≠.cell) (hnames:∀y∈scope.names,y.2=.local→scope.names.lookup y.1=some .local)
  (hfree:∀y∈scope.names,y.2=.free→osc.names.lookup y.1=some .cell\/osc.names.lookup y.1=some .free) (hfr:Jj X scope fr)
  (hx:scope.names.lookup x=some .local) (hnd:(x::fr.map (·.1)).Nodup)
  (ht:∀C s H ex,PTs (Ap X scope (x::fr.map (·.1)) C s H ex) ifs tt)
  (he:∀C s H ex,PE (Ap X scope (x::fr.map (·.1)) C s H ex) elt te)
  (hsw:swapsWith (.ListComp elt [⟨.Name x px,iter,ifs,0⟩] scope pos) (some (.Name y py)) spos.line X.env=pure true:=by rfl)
  (hf:X.fn y=true\/X.env.scope.names.lookup y=some .local:=by first|exact .inl rfl|exact .inr rfl|assumption)
  (hs:∀x,foldedSetIterable iter X.env x=pure x:=by intro _;rfl) :
  PS X (.Assign [.Name y py] (.ListComp elt [⟨.Name x px,iter,ifs,0⟩] scope pos) spos) (K4 (IF 1 (fr.map (·.2)) wi (DI 0) tt te) (DI i)) :=
 Nz (own:=[x]) hN hiy hxy hf hc hi hk hcell hnames (fun y hy e=>by show X.env.scope.names.lookup y.1=_\/X.env.scope.names.lookup y.1=_;rw [ho];exact hfree y hy e) hfr
  (fun C s H ex=>Au (i:=0) hnd rfl (.inl (lookup_relabel_local hx)) (.inr (lookup_relabel_local hx))) ht he hsw hs
end
end L2
namespace L2
open PySem PySem.Spec PyProof.Rows
open Sem (wp)
def Kd {α:Type}:Sem α→Prop
 | .pure _=>True
 | .raise _=>True
 | .unsupported _=>True
 | .finish _=>True
 | .rule _ k=>Kd (k ())
 | .at _ k=>Kd (k ())
 | .load _ _ k=>∀o,Kd (k o)
 | .update _ _ f k=>(∀o,(f o).dict=o.dict)/\Kd (k ())
 | .loadIfAlive _ k=>∀o,Kd (k o)
 | .point _ k=>Kd (k ())
 | .alloc _ k=>∀a,Kd (k a)
 | .fresh k=>∀t,Kd (k t)
 | .ask k=>∀t,Kd (k t)
 | .stack k=>∀l,Kd (k l)
 | _=>False
def DictAt (e:Addr) (d:Option Addr) (h:Heap):Prop:=∃o,h.objs[e]?=some o/\o.dict=d
section
variable {M:Model}{A:Around}{E:Value→Shared→Prop}{s:Shared}{base:Heap}{env:Env}{outer l:List Env}{L e:Addr}{cls a0:Value}{dd:Option Addr}{Q:Unit→Shared→Prop}
end
end L2
namespace L2
open PySem PySem.Spec PyProof.Rows
section
variable {P:Program}{w:World}{K:PySem.W.Frag}{mg:Str→Option Value}{base:Heap}{N:List Str}{qual:Str}{scope:Scope}{f:Addr}{cd:Value}{A:Around}{outer:List Env}{s₀:Shared}{H₀:Hp}{E E':XK}
structure ExC (K:PySem.W.Frag) (C:Addr) (bm:List Value):Prop where
 obj:∃(nm q:Str) (NS:Addr) (bs:List Value) (hdct:Bool) (sn:List Str) (sub:List Value) (ab:Bool) (col:Option Bool) (dd:Option Addr) (k0 k1 k2 k3 k5:Option Value) (mN:Str→Option Value),
  K.lookup C=some (excClassObj nm q C NS bs bm hdct sn sub ab col dd k0 k1 k2 k3 k5 "ValueError.__new__")/\mN "__init__" = none/\∀h:Heap,K.In h→h.Ns NS mN/\OwnTail h [.type "ValueError", .type "Exception", .type "BaseException", .type "object"] bm
 base:bm.contains (.type "BaseException")=true
end
end L2
namespace L2
open PySem PySem.Spec PyProof.Rows
section
variable {X:Cx}{pins:List (Addr×Obj)}{σ:St}{H H':Hp}{s s':Shared}{B h':Heap}
end
end L2
namespace L2
open PySem PySem.Spec PyProof.Rows
section
variable {X:Cx}{pins:List (Addr×Obj)}{σ:St}{H:Hp}{s:Shared}
end
end L2
namespace L2
open PySem PySem.Spec PyProof.Rows
end L2
namespace L2
open PySem PySem.Spec PyProof.Rows
end L2
namespace L2
open PySem PySem.Spec PyProof.Rows
theorem A3 {α β:Type}{F:α→β→Prop}:∀{l₁:List α}{l₂:List β},l₁.length=l₂.length→(∀(i:Nat) a b,l₁[i]?=some a→l₂[i]?=some b→F a b)→Paired F l₁ l₂
 | [],[],_,_=>.nil
 | a::l₁,b::l₂,hl,h=>.cons (h 0 a b rfl rfl) (A3 (by simpa using hl) fun i x y hx hy=>h (i+1) x y (by simpa using hx) (by simpa using hy))
section
variable {X:Cx}
end
theorem Ki:∀ys zs:List Int,PyData.eqvAll (ys.map PyData.int) (zs.map PyData.int)=decide (ys=zs)
 | [],[]=>rfl
 | [],_::_=>rfl
 | _::_,[]=>rfl
 | y::ys,z::zs=>by
  show (PyData.eqv (.int y) (.int z)&&PyData.eqvAll (ys.map PyData.int) (zs.map PyData.int))=_
  rw [Ki ys zs]
  show ((y==z)&&decide (ys=zs))=_
  by_cases h1:y=z
  ·subst h1
   simp
  ·simp [h1]
theorem lay_ints:∀ys:List Int,PyData.canLayAll0 (ys.map PyData.int)=true/\PyData.depthAll (ys.map PyData.int)=0
 | []=>⟨rfl,rfl⟩
 | y::r=>by
  obtain ⟨a,b⟩:=lay_ints r
  simp [PyData.canLayAll0,PyData.canLay0,PyData.depthAll,PyData.depth,a,b]
theorem Of {K:PySem.W.Frag}{H:Hp}{x y:V}{d:PyData}{Q:VK}(h1:Dv K H x d) (h2:Dv K H y d) (hs:SeqAt.shaped d=true) (q:Q (.bl true) H):RT K x y H Q :=
 ⟨d,d,h1,h2,hs,hs,by rw [PySem.SeqAt.eqv_refl d (SeqAt.canLay_of_shaped hs)];exact q⟩
theorem OM {K:PySem.W.Frag}{H:Hp}{x y:V}{d:PyData}{Q:VK}(h1:Dv K H x d) (h2:Dv K H y d) (hs:SeqAt.shaped d=true) (q:Q (.bl false) H):RQ K x y H Q :=
 ⟨d,d,h1,h2,hs,hs,by rw [PySem.SeqAt.eqv_refl d (SeqAt.canLay_of_shaped hs)];exact q⟩
end L2
namespace L2
open PySem PySem.Spec PyProof.Rows
theorem HOk.others {P:Program}{w:World}{H:Hp}{h h':Heap}(l:List Addr) (x:HOk P w H h) (hn:∀a∈l,H a=none) (k:∀b u,b∉l→h.get? b=some u→h'.get? b=some u):HOk P w H h':=by
 intro b u e
 refine (x b u e).Gr (fun c v hc q=>k c v ?_ q) (fun _ q=>q) fun _ _ q=>q
 intro hm
 rcases hc with z|z
 ·rw [z] at hm;rw [hn _ hm] at e;cases e
 ·rw [hn _ hm] at z;cases z
def Ite (K:PySem.W.Frag) (a:Addr):It :=
 ⟨fun i H=>∃xs x,SqL K H a xs/\xs[i]?=some x,fun i H x H'=>∃p y,x=.ref p/\H p=none/\H'=upd H p (.tup [.int (i:Int),y])/\∀xs,SqL K H a xs→xs[i]?=some y,fun i H=>∃xs,SqL K H a xs/\xs.length≤i⟩
theorem MU {P:Program}{w:World}{K:PySem.W.Frag}{elts:List Expr}{x1}{tpos:Pos}(a e it:Addr) (hne:e≠it) :
  Turn P w K (.Tuple elts x1 tpos) (Ite K a) [e,it] e (fun i h=>(∃old,IsEnum h e it i old)/\h.IsListIter it a i) where
 mem:=by simp
 obj:=fun i h st b hb=>by
  obtain ⟨⟨old,he⟩,o,e2,c,d⟩:=st
  rcases List.mem_cons.mp hb with z|z
  ·subst z
   exact ⟨_,he,fun v z=>by
    have z':Data.fields _=Data.cell v:=z
    cases z'⟩
  ·have z:b=it:=by simpa using z
   subst z
   exact ⟨o,e2,fun v z=>by rw [d] at z;cases z⟩
 keep:=fun i h h' st k=>by
  obtain ⟨⟨old,he⟩,st⟩:=st
  exact ⟨⟨old,k e (by simp) _ he⟩,st.at fun o q=>k it (by simp) o q⟩
 item:=by
  intro X hP hw hK hc i pins s σ H E I hf st hg
  subst hP hw hK
  obtain ⟨xs,x,hq,hx⟩:=hg
  obtain ⟨its,rv,p,hz⟩:=I.list hq
  obtain ⟨u,hu,ru⟩:=rv.get hx
  obtain ⟨⟨old,he⟩,hit⟩:=st
  obtain ⟨f0,f1,f2,f3,f4,f5⟩:=hf e (by simp)
  obtain ⟨g0,g1,g2,g3,g4,g5⟩:=hf it (by simp)
  have elt:e<s.heap.objs.size:=Heap.lt_size he
  have ilt:it<s.heap.objs.size:=by obtain ⟨o,q,_⟩:=id hit;exact Heap.lt_size q
  refine wpAny_pyNext_enum_item he hit p.isList (x:=u) (by simpa using hu) hne fun h' eo hit' ht hsz kk=>⟨_,rfl,wpAny_letOwnedTupleGo_enum eo fun h2 he2 sb=>?_⟩
  have hp:H s.heap.objs.size=none:=I.hok.fresh (Nat.le_refl _)
  have pe:s.heap.objs.size≠e:=Nat.ne_of_gt elt
  have pit:s.heap.objs.size≠it:=Nat.ne_of_gt ilt
  have kk2:∀b o,b∉[e,it]→s.heap.get? b=some o→h2.get? b=some o:=fun b o hb q=>by
   have b1:b≠e:=fun z=>hb (by simp [z])
   have b2:b≠it:=fun z=>hb (by simp [z])
   exact (sb.2 b b1).trans (kk b o b1 b2 q)
  have hit2:h2.IsListIter it a (i+1):=by
   obtain ⟨o,q,c,d⟩:=id hit'
   exact ⟨o,(sb.2 it (fun z=>hne z.symm)).trans q,c,d⟩
  have ht2:h2.get? s.heap.objs.size=some { cls:=.type "tuple", data:=.seq #[.int i s.toks,u] }:=(sb.2 _ pe).trans ht
  have hok:HOk X.prog X.w (upd H s.heap.objs.size (.tup [.int (i:Int),x])) h2:=by
   refine (I.hok.others [e,it] (fun b hb=>(hf b hb).1) kk2).NY hp ?_
   exact ⟨show 2≤sizeLine by decide,[.int i s.toks,u],.cons ⟨_,rfl⟩ (.cons ru .nil),⟨_,ht2,rfl,_,rfl⟩⟩
  have un:Un (frs X.stack) [e,it] H (upd H s.heap.objs.size (.tup [.int (i:Int),x])) s.heap h2:=by
   refine ⟨fun b o q n hb hx=>kk2 b o hx q,fun b o q n hb hx=>⟨o.slots,kk2 b o hx q⟩,fun b o q n hx=>?_,fun b o q hx=>⟨o,kk2 b o hx q⟩,fun b ys q=>?_,fun b o u q=>?_,fun b ps q=>?_⟩
   ·rw [AV (Nat.ne_of_lt (Heap.lt_size q))];exact n
   ·rw [AV (AS q hp)];exact q
   ·rw [AV (AS q hp)];exact q
   ·exact ⟨#[],by rw [AV (AS q hp),Array.append_empty];exact q⟩
  have I2:Inv X pins σ (upd H s.heap.objs.size (.tup [.int (i:Int),x])) { s with heap:=h2,toks:=s.toks+1 } :=
   I.Ou (s':={ s with heap:=h2,toks:=s.toks+1 }) (ch:=[e,it]) rfl un hok I.bare fun b hb=>by
    obtain ⟨q0,q1,q2,q3,q4,q5⟩:=hf b hb
    exact ⟨q3,q1,q4,q5⟩
  refine ⟨.ref s.heap.objs.size,_,I2,rfl,⟨_,x,rfl,hp,rfl,fun ys hy=>by rw [I.KW hy hq];exact hx⟩,⟨⟨u,?_⟩,hit2⟩,fun b hb=>?_⟩
  ·have:((i+1:Nat):Int)=(i:Int)+1:=by omega
   rw [this]
   exact he2
  ·have hb':b≠s.heap.objs.size:=fun z=>by
    rcases List.mem_cons.mp hb with q|q
    ·exact pe (z.symm.trans q)
    ·exact pit (z.symm.trans (by simpa using q))
   rw [AV hb']
   exact (hf b hb).1
 done:=by
  intro X hP hw hK hc i pins s σ H E I hf st hg
  subst hP hw hK
  obtain ⟨xs,hq,hx⟩:=hg
  obtain ⟨its,rv,p,hz⟩:=I.list hq
  obtain ⟨⟨old,he⟩,hit⟩:=st
  obtain ⟨f0,f1,f2,f3,f4,f5⟩:=hf it (by simp)
  have hl:=rv.length
  exact wpAny_pyNext_enum_end (I.ok.hd hc) he hit p.isList (by simp;omega) fun h' eb=>⟨rfl,I.turned (t':=s.toks) (fun b o hb e=>eb b o hb e) f0 f1 f3 f4 f5⟩
 self:=fun _ _ _ _ _ st h=>by
  obtain ⟨⟨old,he⟩,_⟩:=st
  exact wpAny_pyIter_enum he h
section
variable {X:Cx}
def Rj (K:PySem.W.Frag) (tl:TE):TI:=fun σ H R=>tl σ H fun x H1=>∃a,x=.ref a/\(∃xs,SqL K H1 a xs)/\R (Ite K a) H1
theorem Ln {K:PySem.W.Frag}{l:Expr}{tl:TE}{elts:List Expr}{x1}{tpos p pos:Pos}(hg:Gl X "enumerate") (hm:X.mg "enumerate" = none) (hl:PE X l tl) (hK:X.K=K:=by rfl)
  (hs:starEach [l] X.env=[(false,eval l X.env)]:=by rfl):PI X (.Tuple elts x1 tpos) (.Call (.Name "enumerate" p) [l] [] pos) (Rj K tl):=by
 subst hK
 intro pins s σ H R I h
 refine Call_ (FP I hg hm boot_enumerate (PyProof.Rows.callWith_type1 ?_ hs rfl))
 rw [hs]
 refine Calls.spliced_cons (thn (hl pins s σ H _ I h) fun v s1 ⟨x,H1,I1,r1,q1⟩=>?_)
 refine Calls.spliced_nil ?_
 obtain ⟨a,e,⟨xs,hq⟩,q⟩:=q1
 subst e
 cases r1
 obtain ⟨its,rv,p,hz⟩:=I1.list hq
 refine call_enumerate_list p.isList fun h' he hit hsz kk=>?_
 have I2:Inv X pins σ H1 { s1 with heap:=h' }:=I1.kept (t':=s1.toks) kk
 refine wpAny_pyIter_enum he ?_
 refine ⟨s1.heap.objs.size+1,[s1.heap.objs.size+1,s1.heap.objs.size],_,_,H1,rfl,I2,MU a _ _ (Nat.succ_ne_self _),⟨⟨_,he⟩,hit⟩,fun b hb=>?_,q⟩
 rcases List.mem_cons.mp hb with z|z
 ·subst z
  exact I1.Pw (Nat.le_succ _) (I1.hok.fresh (Nat.le_succ _))
 ·have z:b=s1.heap.objs.size:=by simpa using z
  subst z
  exact I1.Pw (Nat.le_refl _) (I1.hok.fresh (Nat.le_refl _))
end
section
variable {X:Cx}
end
theorem Kg {K:PySem.W.Frag}{a:Addr}{xs:List V}{g:TG}{tb:TS}{D:Ends}{σ:St}{H:Hp}(Pv:Nat→St→Hp→Prop) (h0:Pv 0 σ H) (hl:∀i σ H,i≤xs.length→Pv i σ H→SqL K H a xs)
  (hs:∀(i:Nat) x σ H p,xs[i]?=some x→Pv i σ H→H p=none→g (.ref p) σ (upd H p (.tup [.int (i:Int),x])) fun σ2 H2=>tb { D with nx:=Pv (i+1),ct:=Pv (i+1),bk:=D.nx } σ2 H2) (hd:∀σ H,Pv xs.length σ H→D.nx σ H) :
  ∃W:Nat→Nat→St→Hp→Prop,(∃m,W 0 m σ H)/\∀i m σ H,W i m σ H →
   ((Ite K a).stop i H/\D.nx σ H)\/((Ite K a).go i H/\∃N:St→Hp→Prop,(∀σ' H',N σ' H'→∃m',m'<m/\W (i+1) m' σ' H')/\∀x H',(Ite K a).yld i H x H'→g x σ H' fun σ2 H2=>tb { D with nx:=N,ct:=N,bk:=D.nx } σ2 H2):=by
 refine ⟨fun i m σ H=>m=xs.length-i/\i≤xs.length/\Pv i σ H,⟨xs.length,by simp,Nat.zero_le _,h0⟩,?_⟩
 rintro i m σ H ⟨rfl,hi,p⟩
 have q:=hl i σ H hi p
 by_cases hlt:i<xs.length
 ·refine .inr ⟨⟨xs,xs[i],q,by simp [hlt]⟩,Pv (i+1),fun σ' H' p'=>⟨xs.length-(i+1),by omega,rfl,hlt,p'⟩,fun x H' y=>?_⟩
  obtain ⟨r,z,rfl,hr,rfl,hy⟩:=y
  exact hs i z σ H r (hy xs q) p hr
 ·have e:i=xs.length:=by omega
  subst e
  exact .inl ⟨⟨xs,q,Nat.le_refl _⟩,hd σ H p⟩
end L2
namespace L2
open PySem PySem.Spec PyProof.Rows
abbrev TX:=St→Hp→VK→XK→Prop
section
variable {X:Cx}{k:Nat}{f C:Addr}{fd:FuncData}{ps:List Str}{sp:Sp}{x:Str}{p pos:Pos}{e:Expr}{es:List Expr}{t:TA}{te:TE}
end
section
variable {X:Cx}{cn n:Str}{rpos np hpos pos:Pos}{e0:Expr}{tx:TX}{CF:Addr}{b₀:Stmt}{suite:List Stmt}{th:Addr→TS}{i:Nat}
end
structure ExD (K:PySem.W.Frag) (C:Addr) (bm:List Value):Prop where
 obj:∃(nm q:Str) (NS:Addr) (bs:List Value) (hdct:Bool) (sn:List Str) (sub:List Value) (ab:Bool) (col:Option Bool) (dd:Option Addr) (k0 k1 k2 k3 k5:Option Value),
  K.lookup C=some (excClassObj nm q C NS bs bm hdct sn sub ab col dd k0 k1 k2 k3 k5 "ValueError.__new__") /\
   ∀h:Heap,K.In h→(∃mN,h.Ns NS mN/\mN "__init__" = none)/\OwnTail h [.type "ValueError", .type "Exception", .type "BaseException", .type "object"] bm
section
variable {P:Program}{w:World}{K:PySem.W.Frag}{mg:Str→Option Value}{base:Heap}{N:List Str}{qual:Str}{scope:Scope}{f:Addr}{cd:Value}{A:Around}{outer:List Env}{s₀:Shared}{H₀:Hp}{E':XK}
end
end L2
namespace L2
open PySem PySem.Spec PyProof.Rows
open AutoSeq1 (wpAny_loadPart')
open MeetsSeq
section
variable {X:Cx}
theorem Lh {ys:List Str}{its:List Value}(r:Vals (ys.map V.str) its) {i:Nat}{z:Str}(h:ys[i]?=some z):∃t,its[i]?=some (.str z t):=by
 obtain ⟨u,hu,t,rfl⟩:=r.get (i:=i) (x:=.str z) (by rw [List.getElem?_map,h];rfl)
 exact ⟨t,hu⟩
def P6 (z:Str):Value→Bool
 | .str y _=>y==z
 | _=>false
end
theorem SN {c A B:Prop}[Decidable c] (hc:c) (h:A):if decide c=true then A else B:=by rw [decide_eq_true hc];exact JU h
end L2
namespace L2
open PySem PySem.Spec PyProof.Rows
structure ExI (K:PySem.W.Frag) (C:Addr):Prop where
 ga:PySem.W.findIn K (.ref C) "__getattribute__" = some (some (.builtin "BaseException.__getattribute__"))
 gt:PySem.W.findIn K (.ref C) "__getattr__" = some none
 ck:PySem.W.findIn K (.ref C) "__class__" = some (some (.builtin "object.__class__"))
 sb:PySem.W.subIn K (.ref C) (.type "BaseException")=some true
 so:PySem.W.subIn K (.ref C) (.type "object")=some true
 cl:(PySem.W.clsIn K C).isSome=true
section
variable {prog:Program}{w:World}{A:Around}{E:Value→Shared→Prop}{K:PySem.W.Frag}{h:Heap}{g:Array GenState}{d:Drawn}{t:Nat}{os:OsState}{a C:Addr}{o:Obj}
end
section
variable {X:Cx}
end
theorem AJ.Gm {H H':Hp}{b:Addr}{o:HO}(e:AJ H H') (h:H b=none):AJ H (L2.upd H' b o):=fun c u q=>by
 rw [AV (AS q h)]
 exact e c u q
end L2
namespace L2
open PySem PySem.Spec PyProof.Rows
section
variable {X:Cx}{k:Nat}{f C:Addr}{fd:FuncData}{ps:List Str}{sp:Sp}{m:Str}{apos pos:Pos}{e o:Expr}{es:List Expr}{t:TA}{ta te:TE}
abbrev TSX:=Ends→(St→XK)→St→Hp→Prop
variable {st:Stmt}{sts a b:List Stmt}{c0:Expr}{tx:TX}{u v:TSX}{tc:TT}{x:Str}{px:Pos}{i:Nat}
variable {cn n:Str}{np hpos:Pos}{CF:Addr}{b₀:Stmt}{suite:List Stmt}{th:Addr→TS}
end
section
variable {X:Cx}
end
end L2
namespace L2
open PySem Builtin Builtin.Str
section
variable {X:Cx}
end
theorem Li {a b:Str}(h:a.cps.toList=b.cps.toList):a=b:=by
 cases a;cases b
 congr 1
 exact Array.toList_inj.mp h
end L2
namespace L2
open PySem PySem.Spec PyProof.Rows
open MeetsSeq
section
variable {X:Cx}
theorem J6 {α β:Type}{F:α→β→Prop}:∀{l₁:List α}{l₂:List β},Paired F l₁ l₂→∀{i:Nat}{a:α}{b:β},l₁[i]?=some a→l₂[i]?=some b→F a b
 | _,_,.nil,i,a,b,h,_=>by simp at h
 | _,_,.cons h _,0,a,b,h1,h2=>by
  have e1:=Option.some.inj h1
  have e2:=Option.some.inj h2
  subst e1 e2
  exact h
 | _,_,.cons _ r,i+1,a,b,h1,h2=>J6 r (i:=i) (by simpa using h1) (by simpa using h2)
theorem Pn {k:Key}{v:Value}(h:DZ k v=true):RelV (kV k) v:=by
 rcases Ax h with ⟨i,t,rfl,rfl⟩|⟨x,t,rfl,rfl⟩
 ·exact ⟨t,rfl⟩
 ·exact ⟨t,rfl⟩
theorem My {kvs:List (Key×V)}{vs:List (Key×Value)}{acc:List Value}(rel:KV kvs vs) (hl:acc.length=vs.length) (h:∀(j:Nat) (v:Value),acc[j]?=some v→∃(k:Key) (x:Value),vs[j]?=some (k,x)/\DZ k v=true):Vals (kvs.map fun p=>kV p.1) acc:=by
 refine A3 ?_ ?_
 ·rw [List.length_map,hl];exact Paired.length rel
 ·intro i a b ha hb
  obtain ⟨k,x,hv,hk⟩:=h i b hb
  rw [List.getElem?_map] at ha
  obtain ⟨p,hp,rfl⟩:=Option.map_eq_some_iff.mp ha
  have q:=J6 rel hp hv
  rw [q.1]
  exact Pn hk
theorem HX {K:PySem.W.Frag}(hc:X.calm=true):Cy X (.type "list") (fun xs H Q=>∃(a:Addr) (kvs:List (Key×V)),xs=[.ref a]/\H a=some (.dK kvs)/\∀l,H l=none→Q (.ref l) (upd H l (.lst (kvs.map fun p=>kV p.1)))):=by
 intro pins s σ H xs us Q I r h
 obtain ⟨a,kvs,rfl,e,q⟩:=h
 obtain ⟨u,rfl,rx⟩:=vals1 r
 cases rx
 obtain ⟨z,lo,vs,rel,dd⟩:=Oh I.hok e
 obtain ⟨ep,hat⟩:=dd.dictAt
 have hlen:kvs.length=vs.length:=Paired.length rel
 refine PySem.W.kdl_call (PySem.W.kdl_dict (knd:=Af X.prog X.w) (kvs:=vs) (ep:=ep) lo) (I.ok.hd hc) hat (by omega) fun h' tk acc c' kp e' it=>?_
 refine ⟨.ref s.heap.objs.size,_,I.laid (t':=tk) kp (Nat.le_refl _) (show BC X.prog X.w _ h' _ (.lst (kvs.map fun p=>kV p.1)) from ⟨by rw [List.length_map];exact z,acc.toList,c',?_,by simpa using e'⟩),rfl,q _ (I.hok.fresh (Nat.le_refl _))⟩
 exact My rel (by rw [Array.length_toList];exact it.1) fun j v hv=>it.2 j v (by rw [←Array.getElem?_toList];exact hv)
theorem Mp {K:PySem.W.Frag}(hK:X.K=K:=by rfl):MtR X "list.index" (fun x xs H Q=>∃(p:Addr) (ys:List Str) (z:Str) (j:Nat),x=.ref p/\xs=[.str z]/\SqL K H p (ys.map V.str)/\ys[j]?=some z/\(∀m,m<j→ys[m]?≠some z)/\Q (.int (j:Int)) H):=by
 subst hK
 intro pins s σ H x xs v us Q I rx rs h
 obtain ⟨p,ys,z,j,rfl,rfl,hq,hj,hno,q⟩:=h
 cases rx
 obtain ⟨u,rfl,t,rfl⟩:=vals1 rs
 obtain ⟨its,rv,pl,hz⟩:=I.list hq
 obtain ⟨⟨c,dd,dt,sl⟩,ho,hc,n,hd⟩:=pl.isList
 have hc:c=.type "list" := hc
 have hd:dt=.seq its.toArray n:=hd
 subst hc hd
 have hl:=rv.length
 rw [List.length_map] at hl
 have hjl:j<ys.length:=(List.getElem?_eq_some_iff.mp hj).1
 have he:∀y,y∈its.toArray→EqGives y (.str z t) (P6 z y):=fun y hy=>by
  obtain ⟨i,hi,rfl⟩:=List.mem_iff_getElem.mp (by simpa using hy)
  obtain ⟨t',e'⟩:=Lh rv (List.getElem?_eq_getElem (by omega:i<ys.length))
  rw [List.getElem?_eq_getElem hi] at e'
  rw [Option.some.inj e']
  exact PyProof.Rows.eqGives_str _ _ _ _
 have at_:∀m (hm:m<its.toArray.size),∃t',its.toArray[m]=.str (ys[m]'(by simp at hm;omega)) t':=fun m hm=>by
  have hm':m<ys.length:=by simp at hm;omega
  obtain ⟨t',e'⟩:=Lh rv (List.getElem?_eq_getElem hm')
  refine ⟨t',?_⟩
  have hm2:m<its.length:=by omega
  rw [List.getElem?_eq_getElem hm2] at e'
  simpa using Option.some.inj e'
 have sz:sizeLine=16777216:=sizeLine_eq
 refine call_meets F.slot_list_index ⟨_,ho,rfl⟩ F.entry_list_index (F.args_list_index_2 _ _) (SeqAt.list_indexAt p its.toArray n dd sl (.str z t) (P6 z) j (by simp;omega) (by rw [List.length_map] at hz;omega) ?_ ?_) ?_
 ·obtain ⟨t',e'⟩:=at_ j (by simp;omega)
  rw [e']
  rw [List.getElem?_eq_getElem hjl] at hj
  show (ys[j]==z)=true
  rw [Option.some.inj hj]
  exact beq_self_eq_true z
 ·intro m hm hmj
  obtain ⟨t',e'⟩:=at_ m hm
  rw [e']
  show (ys[m]==z)=false
  have hne:=hno m hmj
  rw [List.getElem?_eq_getElem (by omega:m<ys.length)] at hne
  exact beq_eq_false_iff_ne.mpr fun q=>hne (congrArg some q)
 ·exact ⟨ho,fun y hy=>(he y hy).at _ _,⟨.int (j:Int),H,I.tok _,⟨_,rfl⟩,q⟩⟩
end
end L2
namespace L2
open PySem
section
variable {prog:Program}{w:World}{A:Around}{E:Value→Shared→Prop}{s:Shared}
end
end L2
set_option maxRecDepth 100000
namespace L2
open PySem PySem.Spec PyProof.Rows
open MeetsSeq
section
variable {X:Cx}{o i value:Expr}{pos pos':Pos}{td ty tv:TE}
end
end L2
namespace L2
open PySem PySem.Spec PyProof.Rows
structure ExF (K:PySem.W.Frag) (C:Addr) (f:Str):Prop where
 ex:ExI K C
 hd:PySem.W.hasDictIn K C=true
 na:PySem.W.findIn K (.ref C) f=some none
 sa:PySem.W.findIn K (.ref C) "__setattr__" = some (some (.builtin "object.__setattr__"))
section
variable {prog:Program}{w:World}{A:Around}{E:Value→Shared→Prop}{K:PySem.W.Frag}{h:Heap}{g:Array GenState}{d:Drawn}{t:Nat}{os:OsState}{a C dx:Addr}{o:Obj}{f:Str}{v:Value}
end
abbrev VB:List Value:=[.type "ValueError", .type "Exception", .type "BaseException", .type "object"]
structure ExP (K:PySem.W.Frag) (C cF fI:Addr) (f:Str):Prop where
 lk:∃(nm q:Str) (NS:Addr) (bs:List Value) (hdct:Bool) (sn:List Str) (sub:List Value) (ab:Bool) (col:Option Bool) (dd:Option Addr) (k0 k1 k2 k3 k5:Option Value),
  K.lookup C=some (excClassObj nm q C NS bs (.ref cF::VB) hdct sn sub ab col dd k0 k1 k2 k3 k5 "ValueError.__new__")
 tl:PySem.W.excIn K cF VB "ValueError.__new__" = true
 init:PySem.W.findIn K (.ref C) "__init__" = some (some (.ref fI))
 fn:PySem.W.isFn K (.ref fI)=true
 fl:ExF K C f
section
variable {X:Cx}{o e value:Expr}{f:Str}{pos pos':Pos}{ta tv:TE}
end
section
variable {prog:Program}{w:World}{A:Around}{E:Value→Shared→Prop}{K:PySem.W.Frag}{h:Heap}{g:Array GenState}{d:Drawn}{t:Nat}{os:OsState}{C cF fI:Addr}{f:Str}
end
section
variable {P:Program}{w:World}{K:PySem.W.Frag}{mg:Str→Option Value}{base:Heap}{N:List Str}{qual:Str}{scope:Scope}{f:Addr}{cd:Value}{A:Around}{outer:List Env}{s₀:Shared}{H₀:Hp}{E':XK}{fl:Str}
end
end L2
namespace L2
open PySem PySem.Spec PyProof.Rows
theorem FD {a b:Int}{A B:Prop}(h1:a=b→A) (h2:¬ a=b→B):if decide (V.int a=V.int b)=true then A else B :=
 Fo (fun e=>h1 (V.int.inj (of_decide_eq_true e))) fun e=>h2 fun z=>of_decide_eq_false e (congrArg V.int z)
theorem L3 {a b:Str}{A B:Prop}(h1:a=b→A) (h2:¬ a=b→B):if decide (V.str a=V.str b)=true then A else B :=
 Fo (fun e=>h1 (V.str.inj (of_decide_eq_true e))) fun e=>h2 fun z=>of_decide_eq_false e (congrArg V.str z)
theorem Hs {c:Prop}[Decidable c] {A B:Prop}(h1:c→A) (h2:¬ c→B):if decide c=true then A else B :=
 Fo (fun e=>h1 (of_decide_eq_true e)) fun e=>h2 (of_decide_eq_false e)
theorem Pq {c:Bool}{A B:Prop}(h:if c=true then B else A):if (!c)=true then A else B:=by
 cases c
 ·exact h
 ·exact h
def RG (t:TS):TS:=fun D σ H=>∃N:St→Hp→Prop,t { D with nx:=N } σ H/\∀σ' H',N σ' H'→D.nx σ' H'
theorem EA {X:Cx}{st:PySem.Stmt}{t:TS}(h:PS X st t):PS X st (RG t):=fun pins s σ H D I ⟨N,q,k⟩=>by
 refine thn (h pins s σ H { D with nx:=N } I q) fun f s' z=>?_
 cases f with
 | next=>obtain ⟨σ',H',I',n⟩:=z;exact ⟨σ',H',I',k _ _ n⟩
 | brk=>exact z
 | cont=>exact z
 | ret u=>exact z
theorem Fu {t:TS} {D:Ends} {σ:St} {H:Hp} (N:St→Hp→Prop) (h:t { D with nx:=N } σ H) (k:∀σ' H',N σ' H'→D.nx σ' H'):RG t D σ H:=⟨N,h,k⟩
theorem AJ.Ai {H:Hp}{a:Addr}{o:HO}(h:H a=none):AJ H (L2.upd H a o):=(AJ.refl H).upd h
end L2
namespace Srt
open PySem PyProof.Rows
structure Cmp (prog:Program) (w:World) (A:Around) (s:Shared) (κ:SortKind) (O:KeyOrd) (kf:Value→O.α) (a₀:Array Keyed):Prop where
 ask:∀p∈a₀.toList,∀q∈a₀.toList,∀(Q:Bool→Shared→Prop) (E:Value→Shared→Prop),Q (O.blt (kf p.1) (kf q.1)) s→wpAny (model prog w) A (keyLt' κ p.1 q.1) Q E s
structure SB (κ:SortKind) (a₀:Array Keyed) (st:SortSt):Prop where
 perm:(arrOf st).Perm a₀
 kind:kindOf st=κ
 failed:failedOf st=none
def KX {O:KeyOrd}(kf:Value→O.α) (xs:Array Keyed) (i:Nat):O.α:=kf ((xs[i]?.map (·.1)).getD .none)
def Up {O:KeyOrd}(kf:Value→O.α) (xs:Array Keyed) (lo hi:Nat):Prop:=∀i j,lo≤i→i≤j→j<hi→O.kle (KX kf xs i) (KX kf xs j)
theorem Az {O:KeyOrd}{kf:Value→O.α}{xs ys:Array Keyed}{i j:Nat}(h:xs[i]?=ys[j]?):KX kf xs i=KX kf ys j:=by unfold KX;rw [h]
section
variable {prog:Program}{w:World}{A:Around}{E:Value→Shared→Prop}{s:Shared}{κ:SortKind}{O:KeyOrd}{kf:Value→O.α}{a₀:Array Keyed}{st:SortSt}
theorem SB.size (B:SB κ a₀ st):(arrOf st).size=a₀.size:=B.perm.size_eq
theorem SB.put (B:SB κ a₀ st) {xs:Array Keyed}(h:xs.Perm (arrOf st)):SB κ a₀ (setArr st xs):=⟨h.trans B.perm,B.kind,B.failed⟩
theorem SB.at (B:SB κ a₀ st) {i:Nat}(hi:i<a₀.size):∃p,(arrOf st)[i]?=some p/\p∈a₀.toList/\KX kf (arrOf st) i=kf p.1:=by
 have hi':i<(arrOf st).size:=by rw [B.size];exact hi
 refine ⟨(arrOf st)[i],getElem?_pos _ i hi',(Array.perm_iff_toList_perm.mp B.perm).mem_iff.mp (by simp),?_⟩
 unfold KX
 rw [getElem?_pos _ i hi']
 rfl
theorem Nu (C:Cmp prog w A s κ O kf a₀) (B:SB κ a₀ st) {p q:Keyed}(hp:p∈a₀.toList) (hq:q∈a₀.toList) {Q:Option Bool→SortSt→Prop}(h:Q (some (O.blt (kf p.1) (kf q.1))) st):wpS (model prog w) A E s (lt' p q) Q st:=by
 rw [lt'_eq]
 refine wpS_bind (wpS_get ?_)
 rw [B.kind]
 exact wpS_bind (wpS_lift (wpAny_attempt (C.ask p hp q hq _ _ ⟨rfl,wpS_pure h⟩)))
theorem G8 (C:Cmp prog w A s κ O kf a₀) (B:SB κ a₀ st) {i j:Nat}(hi:i<a₀.size) (hj:j<a₀.size) {Q:Option Bool→SortSt→Prop}(h:Q (some (O.blt (KX kf (arrOf st) i) (KX kf (arrOf st) j))) st):wpS (model prog w) A E s (ltAt' i j) Q st:=by
 obtain ⟨p,ep,mp,kp⟩:=B.at (kf:=kf) hi
 obtain ⟨q,eq,mq,kq⟩:=B.at (kf:=kf) hj
 rw [kp,kq] at h
 rw [ltAt'_eq]
 refine wpS_bind (wpS_get ?_)
 show wpS _ _ _ _ (elem' (arrOf st) i >>= fun x=>elem' (arrOf st) j >>= fun y=>lt' x y) Q st
 rw [elem'_eq,elem'_eq,ep,eq]
 exact wpS_bind (wpS_pure (wpS_bind (wpS_pure (Nu C B mp mq h))))
theorem GD {xs:Array Keyed}{i j:Nat}(hj:j≤xs.size) (k:Nat):KX kf (mirror xs i j ((j-i) / 2)) k=if i≤k/\k<j then KX kf xs (i+j-1-k) else KX kf xs k:=by
 have e:=getElem?_mirror_all (xs:=xs) (i:=i) hj k
 by_cases h:i≤k/\k<j
 ·rw [if_pos h] at e ⊢;exact Az e
 ·rw [if_neg h] at e ⊢;exact Az e
theorem IW {xs:Array Keyed}{src d:Nat}(hs:src<xs.size) (hd:d≤src) (k:Nat):KX kf (bubble xs src d) k=if k=src-d then KX kf xs src else if src-d<k/\k≤src then KX kf xs (k-1) else KX kf xs k:=by
 have e:=getElem?_bubble hs d hd k
 by_cases h1:k=src-d
 ·rw [if_pos h1] at e ⊢;exact Az e
 ·rw [if_neg h1] at e ⊢
  by_cases h2:src-d<k/\k≤src
  ·rw [if_pos h2] at e ⊢;exact Az e
  ·rw [if_neg h2] at e ⊢;exact Az e
structure ER (lo:Nat) (st st':SortSt):Prop where
 pend:pendingOf st'=pendingOf st
 low:∀k,k<lo→(arrOf st')[k]?=(arrOf st)[k]?
theorem ER.refl (lo:Nat) (st:SortSt):ER lo st st:=⟨rfl,fun _ _=>rfl⟩
theorem ER.trans {lo:Nat}{a b c:SortSt}(x:ER lo a b) (y:ER lo b c):ER lo a c:=⟨y.pend.trans x.pend,fun k h=>(y.low k h).trans (x.low k h)⟩
theorem Nw (C:Cmp prog w A s κ O kf a₀) {lo n ok:Nat}(hn:lo+n≤a₀.size) (hok:ok≤n) (B:SB κ a₀ st) (hs:Up kf (arrOf st) lo (lo+ok)) {Q:Bool→SortSt→Prop}
  (h:∀st',SB κ a₀ st'→ER lo st st'→Up kf (arrOf st') lo (lo+n)→Q true st'):wpS (model prog w) A E s (binarySort' lo n ok) Q st:=by
 rw [binarySort'_eq]
 refine wpS_bind (wpS_mono (wpS_forRange (I:=fun k c st'=>c=(none,())/\SB κ a₀ st'/\ER lo st st'/\Up kf (arrOf st') lo (lo+min k n))
  (Q:=fun c st'=>c=(none,())/\SB κ a₀ st'/\ER lo st st'/\Up kf (arrOf st') lo (lo+n)) ?step ?fin ?init) ?post)
 case post =>
  rintro c st' ⟨rfl,B',K',u⟩
  exact wpS_pure (h st' B' K' u)
 case init =>
  refine ⟨rfl,B,ER.refl _ _,fun i j h1 h2 h3=>?_⟩
  by_cases z:ok=0
  ·obtain rfl:i=j:=by omega
   exact KeyOrd.kle_refl _
  ·exact hs i j h1 h2 (by omega)
 case fin =>
  rintro c st' ⟨hc,B',K',u⟩
  rw [show min (max (max ok 1) n) n=n by omega] at u
  exact ⟨hc,B',K',u⟩
 case step =>
  rintro k c st' hk1 hk2 ⟨rfl,B',K',u⟩
  rw [show min k n=k by omega] at u
  refine wpS_bind (wpS_mono (wpS_forRange (I:=fun x c st2=>st2=st'/\∃l r,c=(none,l,r)/\l≤r/\r≤k/\r-l≤k-x /\
    (∀i,i<l→O.kle (KX kf (arrOf st') (lo+i)) (KX kf (arrOf st') (lo+k)))/\(∀i,r≤i→i<k→O.klt (KX kf (arrOf st') (lo+k)) (KX kf (arrOf st') (lo+i))))
   (Q:=fun c st2=>st2=st'/\∃l r,c=(none,l,r)/\l≤k/\(∀i,i<l→O.kle (KX kf (arrOf st') (lo+i)) (KX kf (arrOf st') (lo+k)))/\(∀i,l≤i→i<k→O.klt (KX kf (arrOf st') (lo+k)) (KX kf (arrOf st') (lo+i)))) ?i1 ?i2 ?i3) ?i4)
  case i3=>exact ⟨rfl,0,k,rfl,by omega,by omega,by omega,fun i q=>by omega,fun i q1 q2=>by omega⟩
  case i2 =>
   rintro c st2 ⟨rfl,l,r,rfl,h1,h2,h3,h4,h5⟩
   obtain rfl:l=r:=by omega
   exact ⟨rfl,l,l,rfl,h2,h4,h5⟩
  case i1 =>
   rintro x c st2 _ hx ⟨rfl,l,r,rfl,h1,h2,h3,h4,h5⟩
   dsimp only
   by_cases g:l≥r
   ·rw [if_pos g]
    obtain rfl:l=r:=by omega
    exact wpS_pure ⟨rfl,l,l,rfl,h2,h4,h5⟩
   ·rw [if_neg g]
    refine wpS_bind (G8 C B' (by omega) (by omega) ?_)
    cases e:O.blt (KX kf (arrOf st2) (lo+k)) (KX kf (arrOf st2) (lo+(l+r) / 2)) with
    | true =>
     refine wpS_pure ⟨rfl,l,(l+r) / 2,rfl,by omega,by omega,by omega,h4,fun i q1 q2=>?_⟩
     exact KeyOrd.klt_of_klt_of_kle e (u _ _ (by omega) (by omega) (by omega))
    | false =>
     refine wpS_pure ⟨rfl,(l+r) / 2+1,r,rfl,by omega,by omega,by omega,fun i q1=>?_,h5⟩
     exact KeyOrd.kle_trans (u (lo+i) (lo+(l+r) / 2) (by omega) (by omega) (by omega)) (show O.kle _ _ from e)
  case i4 =>
   rintro c st2 ⟨rfl,l,r,rfl,h1,h4,h5⟩
   show wpS _ _ _ _ (moveDown' (lo+k) (lo+l) >>= fun _=>pure (ForInStep.yield (none,()))) _ _
   rw [moveDown'_eq]
   have hks:lo+k<(arrOf st2).size:=by rw [B'.size];omega
   have hd:lo+k-(lo+l)≤lo+k:=by omega
   refine wpS_bind (wpS_modify (wpS_pure ⟨rfl,B'.put (bubble_perm _ _ _),K'.trans ⟨rfl,fun z hz=>?_⟩,?_⟩))
   ·show (bubble (arrOf st2) (lo+k) (lo+k-(lo+l)))[z]?=_
    rw [getElem?_bubble hks _ hd,if_neg (by omega),if_neg (by omega)]
   ·rw [show min (k+1) n=k+1 by omega]
    intro i j q1 q2 q3
    show O.kle (KX kf (bubble (arrOf st2) (lo+k) (lo+k-(lo+l))) i) (KX kf (bubble (arrOf st2) (lo+k) (lo+k-(lo+l))) j)
    rw [IW hks hd,IW hks hd,show lo+k-(lo+k-(lo+l))=lo+l by omega]
    have lowv:∀z,lo≤z→z<lo+l→O.kle (KX kf (arrOf st2) z) (KX kf (arrOf st2) (lo+k)):=fun z z1 z2=>by
     have:=h4 (z-lo) (by omega)
     rwa [show lo+(z-lo)=z by omega] at this
    have hiv:∀z,lo+l≤z→z<lo+k→O.klt (KX kf (arrOf st2) (lo+k)) (KX kf (arrOf st2) z):=fun z z1 z2=>by
     have:=h5 (z-lo) (by omega) (by omega)
     rwa [show lo+(z-lo)=z by omega] at this
    repeat' split
    all_goals first
     | (exfalso;omega)
     | exact KeyOrd.kle_refl _
     | exact lowv _ (by omega) (by omega)
     | exact KeyOrd.kle_of_klt (hiv _ (by omega) (by omega))
     | exact u _ _ (by omega) (by omega) (by omega)
end
end Srt
namespace Srt
open PySem PyProof.Rows
section
variable {prog:Program}{w:World}{A:Around}{E:Value→Shared→Prop}{s:Shared}{κ:SortKind}{O:KeyOrd}{kf:Value→O.α}{a₀:Array Keyed}{st:SortSt}
theorem Up.grow {xs:Array Keyed}{lo n:Nat}(u:Up kf xs lo (lo+n)) (h1:1≤n) (h:O.kle (KX kf xs (lo+n-1)) (KX kf xs (lo+n))):Up kf xs lo (lo+(n+1)):=fun i j q1 q2 q3=>by
 by_cases z:j=lo+n
 ·subst z
  by_cases z2:i=lo+n
  ·subst z2;exact KeyOrd.kle_refl _
  ·exact KeyOrd.kle_trans (u i (lo+n-1) q1 (by omega) (by omega)) h
 ·exact u i j q1 q2 (by omega)
def Dn (kf:Value→O.α) (xs:Array Keyed) (lo hi:Nat):Prop:=∀i j,lo≤i→i≤j→j<hi→O.kle (KX kf xs j) (KX kf xs i)
theorem Dn.grow {xs:Array Keyed}{lo n:Nat}(u:Dn kf xs lo (lo+n)) (h1:1≤n) (h:O.kle (KX kf xs (lo+n)) (KX kf xs (lo+n-1))):Dn kf xs lo (lo+(n+1)):=fun i j q1 q2 q3=>by
 by_cases z:j=lo+n
 ·subst z
  by_cases z2:i=lo+n
  ·subst z2;exact KeyOrd.kle_refl _
  ·exact KeyOrd.kle_trans h (u i (lo+n-1) q1 (by omega) (by omega))
 ·exact u i j q1 q2 (by omega)
theorem Dc (B:SB κ a₀ st) {lo i j:Nat}(hi:lo≤i) (hj:j≤a₀.size):SB κ a₀ (setArr st (mirror (arrOf st) i j ((j-i) / 2)))/\ER lo st (setArr st (mirror (arrOf st) i j ((j-i) / 2))):=by
 refine ⟨B.put (mirror_perm _ _ _ _),rfl,fun k hk=>?_⟩
 show (mirror (arrOf st) i j ((j-i) / 2))[k]?=_
 rw [getElem?_mirror_all (by rw [B.size];exact hj),if_neg (by omega)]
theorem Eu (B:SB κ a₀ st) {i j:Nat}(hj:j≤a₀.size) (h:∀k,i≤k→k<j→KX kf (arrOf st) k=KX kf (arrOf st) (j-1)) (k:Nat):KX kf (mirror (arrOf st) i j ((j-i) / 2)) k=KX kf (arrOf st) k:=by
 rw [GD (by rw [B.size];exact hj)]
 split
 ·rw [h _ (by omega) (by omega),h k (by omega) (by omega)]
 ·rfl
theorem Nt (C:Cmp prog w A s κ O kf a₀) {lo nrem n0:Nat}(hn:lo+nrem≤a₀.size) (h0:1≤n0) (h1:n0≤nrem) (B:SB κ a₀ st) (u:Up kf (arrOf st) lo (lo+n0)) {Q:Option (Option Nat)×Nat→SortSt→Prop}
  (h:∀n,n0≤n→n≤nrem→Up kf (arrOf st) lo (lo+n)→(n<nrem→O.klt (KX kf (arrOf st) (lo+n)) (KX kf (arrOf st) (lo+n-1)))→Q (none,n) st)
  {f:Nat→Option (Option Nat)×Nat→StateT SortSt Sem (ForInStep (Option (Option Nat)×Nat))} (hf:∀x c,f x c=(do
   match (← ltAt' (lo+c.2) (lo+c.2-1)) with
   | some b=>if b=true then pure (.done (none,c.2)) else pure (.yield (none,c.2+1))
   | none=>pure (.done (some none,c.2)))):wpS (model prog w) A E s (forIn [n0:nrem] (none,n0) f) Q st:=by
 refine wpS_forRange (I:=fun x c st'=>st'=st/\c=(none,x)/\n0≤x/\x≤nrem/\Up kf (arrOf st) lo (lo+x)) ?_ ?_ ⟨rfl,rfl,Nat.le_refl _,h1,u⟩
 ·rintro x c st' hx1 hx2 ⟨rfl,rfl,h2,h3,u'⟩
  rw [hf]
  refine wpS_bind (G8 C B (by omega) (by omega) ?_)
  cases e:O.blt (KX kf (arrOf st') (lo+x)) (KX kf (arrOf st') (lo+x-1)) with
  | true=>exact wpS_pure (h x h2 h3 u' fun _=>e)
  | false=>exact wpS_pure ⟨rfl,rfl,by omega,by omega,u'.grow (by omega) e⟩
 ·rintro c st' ⟨rfl,rfl,h2,h3,u'⟩
  rw [show max n0 nrem=nrem by omega] at u' ⊢
  exact h nrem h1 (Nat.le_refl _) u' fun q=>absurd q (Nat.lt_irrefl _)
end
section
variable {prog:Program}{w:World}{A:Around}{E:Value→Shared→Prop}{s:Shared}{κ:SortKind}{O:KeyOrd}{kf:Value→O.α}{a₀:Array Keyed}{st:SortSt}
abbrev RSt:=Option (Option Nat)×Nat
def G7 (lo:Nat) (c:RSt):StateT SortSt Sem (ForInStep RSt):=ltAt' (lo+c.2) (lo+c.2-1) >>= fun o=>match o with
 | some b=>if b=true then pure (.done (none,c.2)) else pure (.yield (none,c.2+1))
 | _=>pure (.done (some none,c.2))
def tl3 (lo nrem n:Nat):StateT SortSt Sem (Option Nat):=reverseSlice' lo (lo+n) >>= fun _=>forIn [n:nrem] ((none,n):RSt) (fun _ c=>G7 lo c) >>= fun c=>match c.1 with
 | some r=>pure r
 | none=>pure (some c.2)
abbrev DSt:=Option (Option Nat)×Nat×Nat
def L7 (lo:Nat) (c:DSt):StateT SortSt Sem (ForInStep DSt):=ltAt' (lo+c.2.1) (lo+c.2.1-1) >>= fun o=>match o with
 | some b=>if b=true then (if c.2.2 > 0 then reverseSlice' (lo+c.2.1-(c.2.2+1)) (lo+c.2.1) >>= fun _=>pure (.yield (none,c.2.1+1,0)) else pure (.yield (none,c.2.1+1,0)))
   else ltAt' (lo+c.2.1-1) (lo+c.2.1) >>= fun o2=>match o2 with
    | some b2=>if b2=true then pure (.done (none,c.2.1,c.2.2)) else pure (.yield (none,c.2.1+1,c.2.2+1))
    | _=>pure (.done (some none,c.2.1,c.2.2))
 | _=>pure (.done (some none,c.2.1,c.2.2))
def dsc (lo nrem n:Nat):StateT SortSt Sem (Option Nat):=liftM (rule "list.sort.descending-run") >>= fun _=>forIn [n+1:nrem] ((none,n+1,0):DSt) (fun _ c=>L7 lo c) >>= fun c=>match c.1 with
 | some r=>pure r
 | none=>if c.2.2 > 0 then reverseSlice' (lo+c.2.1-(c.2.2+1)) (lo+c.2.1) >>= fun _=>tl3 lo nrem c.2.1 else tl3 lo nrem c.2.1
theorem QE (C:Cmp prog w A s κ O kf a₀) {lo nrem n:Nat}(hn:lo+nrem≤a₀.size) (h0:1≤n) (h1:n≤nrem) (B:SB κ a₀ st) (dn:Dn kf (arrOf st) lo (lo+n)) {Q:Option Nat→SortSt→Prop}
  (h:∀m st',SB κ a₀ st'→ER lo st st'→1≤m→m≤nrem→Up kf (arrOf st') lo (lo+m)→Q (some m) st'):wpS (model prog w) A E s (tl3 lo nrem n) Q st:=by
 unfold tl3
 rw [reverseSlice'_eq]
 refine wpS_bind (wpS_modify ?_)
 obtain ⟨B1,K1⟩:=Dc B (Nat.le_refl lo) (show lo+n≤a₀.size by omega)
 have u:Up kf (mirror (arrOf st) lo (lo+n) ((lo+n-lo) / 2)) lo (lo+n):=fun i j q1 q2 q3=>by
  rw [GD (by rw [B.size];omega),GD (by rw [B.size];omega),if_pos (by omega),if_pos (by omega)]
  exact dn _ _ (by omega) (by omega) (by omega)
 refine wpS_bind (Nt C hn h0 h1 B1 u (fun m m1 m2 u2 _=>?_) fun x c=>congrArg (ltAt' _ _ >>= ·) (funext fun o=>by cases o <;> rfl))
 exact wpS_pure (h m _ B1 K1 (by omega) m2 u2)
theorem QF (C:Cmp prog w A s κ O kf a₀) {lo nrem n:Nat}(hn:lo+nrem≤a₀.size) (h0:1≤n) (h1:n<nrem) (B:SB κ a₀ st) (eq:∀k,lo≤k→k<lo+n→KX kf (arrOf st) k=KX kf (arrOf st) (lo+n-1)) (lt:O.klt (KX kf (arrOf st) (lo+n)) (KX kf (arrOf st) (lo+n-1))) {Q:Option Nat→SortSt→Prop}
  (h:∀m st',SB κ a₀ st'→ER lo st st'→1≤m→m≤nrem→Up kf (arrOf st') lo (lo+m)→Q (some m) st'):wpS (model prog w) A E s (dsc lo nrem n) Q st:=by
 unfold dsc
 refine wpS_bind (wpS_lift (wpAny_rule ⟨rfl,?_⟩))
 have dn0:Dn kf (arrOf st) lo (lo+(n+1)):=Dn.grow (fun i j q1 q2 q3=>by rw [eq i q1 (by omega),eq j (by omega) q3];exact KeyOrd.kle_refl _) h0 (KeyOrd.kle_of_klt lt)
 refine wpS_bind (wpS_mono (wpS_forRange (I:=fun x c st'=>∃e,c=(none,x,e)/\n+1≤x/\x≤nrem/\e+1≤x/\SB κ a₀ st'/\ER lo st st'/\Dn kf (arrOf st') lo (lo+x)/\∀k,lo+x-(e+1)≤k→k<lo+x→KX kf (arrOf st') k=KX kf (arrOf st') (lo+x-1))
  (Q:=fun c st'=>∃x e,c=(none,x,e)/\n+1≤x/\x≤nrem/\e+1≤x/\SB κ a₀ st'/\ER lo st st'/\Dn kf (arrOf st') lo (lo+x)/\∀k,lo+x-(e+1)≤k→k<lo+x→KX kf (arrOf st') k=KX kf (arrOf st') (lo+x-1)) ?step ?fin ?init) ?post)
 case init=>exact ⟨0,rfl,Nat.le_refl _,h1,by omega,B,ER.refl _ _,dn0,fun k q1 q2=>by rw [show k=lo+(n+1)-1 by omega]⟩
 case fin =>
  rintro c st' ⟨e,rfl,x1,x2,r⟩
  exact ⟨_,e,rfl,x1,x2,r⟩
 case step =>
  rintro x c st' hx1 hx2 ⟨e,rfl,x1,x2,e1,B',K',dn,eqs⟩
  unfold L7
  dsimp only
  refine wpS_bind (G8 C B' (by omega) (by omega) ?_)
  cases b:O.blt (KX kf (arrOf st') (lo+x)) (KX kf (arrOf st') (lo+x-1)) with
  | true =>
   dsimp only
   rw [if_pos rfl]
   have dn2:∀ys:Array Keyed,(∀k,KX kf ys k=KX kf (arrOf st') k)→Dn kf ys lo (lo+(x+1)):=fun ys hk=>by
    have:=dn.grow (by omega) (KeyOrd.kle_of_klt b)
    intro i j q1 q2 q3
    rw [hk,hk]
    exact this i j q1 q2 q3
   by_cases he:e > 0
   ·rw [if_pos he,reverseSlice'_eq]
    refine wpS_bind (wpS_modify (wpS_pure ?_))
    obtain ⟨B1,K1⟩:=Dc B' (show lo≤lo+x-(e+1) by omega) (show lo+x≤a₀.size by omega)
    exact ⟨0,rfl,by omega,by omega,by omega,B1,K'.trans K1,dn2 _ (Eu B' (by omega) eqs),fun k q1 q2=>by rw [show k=lo+(x+1)-1 by omega]⟩
   ·rw [if_neg he]
    exact wpS_pure ⟨0,rfl,by omega,by omega,by omega,B',K',dn2 _ (fun _=>rfl),fun k q1 q2=>by rw [show k=lo+(x+1)-1 by omega]⟩
  | false =>
   dsimp only
   rw [if_neg Bool.false_ne_true]
   refine wpS_bind (G8 C B' (by omega) (by omega) ?_)
   cases b2:O.blt (KX kf (arrOf st') (lo+x-1)) (KX kf (arrOf st') (lo+x)) with
   | true=>exact wpS_pure ⟨x,e,rfl,x1,x2,e1,B',K',dn,eqs⟩
   | false =>
    have ek:KX kf (arrOf st') (lo+x-1)=KX kf (arrOf st') (lo+x):=O.total _ _ b2 b
    refine wpS_pure ⟨e+1,rfl,by omega,by omega,by omega,B',K',dn.grow (by omega) b2,fun k q1 q2=>?_⟩
    rw [show lo+(x+1)-1=lo+x by omega]
    by_cases z:k=lo+x
    ·rw [z]
    ·rw [eqs k (by omega) (by omega),ek]
 case post =>
  rintro c st' ⟨x,e,rfl,x1,x2,e1,B',K',dn,eqs⟩
  dsimp only
  by_cases he:e > 0
  ·rw [if_pos he,reverseSlice'_eq]
   refine wpS_bind (wpS_modify ?_)
   obtain ⟨B1,K1⟩:=Dc B' (show lo≤lo+x-(e+1) by omega) (show lo+x≤a₀.size by omega)
   refine QE C hn (by omega) x2 B1 (fun i j q1 q2 q3=>?_) fun m st2 B2 K2=>h m st2 B2 ((K'.trans K1).trans K2)
   show O.kle (KX kf (mirror (arrOf st') _ _ _) j) (KX kf (mirror (arrOf st') _ _ _) i)
   rw [Eu B' (by omega) eqs,Eu B' (by omega) eqs]
   exact dn i j q1 q2 q3
  ·rw [if_neg he]
   exact QE C hn (by omega) x2 B' dn fun m st2 B2 K2=>h m st2 B2 (K'.trans K2)
theorem NQ {M:Model}{α σ:Type}{m m':StateT σ Sem α}{Q:α→σ→Prop}{t:σ}(e:m'=m) (h:wpS M A E s m Q t):wpS M A E s m' Q t:=by rw [e];exact h
theorem Pa (C:Cmp prog w A s κ O kf a₀) {lo nrem:Nat}(hn:lo+nrem≤a₀.size) (h1:1≤nrem) (B:SB κ a₀ st) {Q:Option Nat→SortSt→Prop}
  (h:∀n st',SB κ a₀ st'→ER lo st st'→1≤n→n≤nrem→Up kf (arrOf st') lo (lo+n)→Q (some n) st'):wpS (model prog w) A E s (countRun' lo nrem) Q st:=by
 rw [countRun'_eq]
 have u1:Up kf (arrOf st) lo (lo+1):=fun i j q1 q2 q3=>by
  obtain rfl:i=j:=by omega
  exact KeyOrd.kle_refl _
 refine wpS_bind (Nt C hn (Nat.le_refl _) h1 B u1 (fun n n1 n2 u kl=>?_) fun x c=>congrArg (ltAt' _ _ >>= ·) (funext fun o=>by cases o <;> rfl))
 dsimp only
 by_cases hnr:n=nrem
 ·subst hnr
  rw [if_pos (beq_self_eq_true n)]
  exact wpS_pure (h n st B (ER.refl _ _) n1 n2 u)
 ·rw [if_neg (by simpa using hnr)]
  by_cases hg:n > 1
  ·rw [if_pos hg]
   refine wpS_bind (G8 C B (by omega) (by omega) ?_)
   cases b:O.blt (KX kf (arrOf st) lo) (KX kf (arrOf st) (lo+n-1)) with
   | true=>exact wpS_pure (h n st B (ER.refl _ _) n1 n2 u)
   | false =>
    have eqk:∀k,lo≤k→k<lo+n→KX kf (arrOf st) k=KX kf (arrOf st) (lo+n-1):=fun k q1 q2=>by
     refine KeyOrd.kle_antisymm (u k (lo+n-1) q1 (by omega) (by omega)) (KeyOrd.kle_trans (show O.kle _ _ from b) (u lo k (Nat.le_refl _) q1 q2))
    dsimp only
    rw [if_neg Bool.false_ne_true]
    refine wpS_bind ?_
    rw [reverseSlice'_eq]
    refine wpS_modify ?_
    refine NQ (m:=dsc lo nrem n) ?same ?_
    case same =>
     exact (by
      unfold dsc
      refine congrArg (liftM (rule _) >>= ·) (funext fun _=>congr (congrArg _ (congrArg (forIn _ _) (funext fun _=>funext fun c=>?_))) (funext fun c=>?_))
      ·unfold L7
       refine congrArg (ltAt' _ _ >>= ·) (funext fun o=>?_)
       cases o with
       | none=>rfl
       | some b =>
        cases b with
        | true=>rfl
        | false=>exact congrArg (ltAt' _ _ >>= ·) (funext fun o2=>by cases o2 <;> rfl)
      ·obtain ⟨c1,c2⟩:=c
       have t3:∀n,tl3 lo nrem n=(reverseSlice' lo (lo+n) >>= fun _=>forIn [n:nrem] ((none,n):RSt) (fun _ c=>G7 lo c) >>= fun c=>match c.1 with
        | some r=>pure r
        | none=>pure (some c.2)):=fun _=>rfl
       have t4:∀n (X:Nat→RSt→StateT SortSt Sem (ForInStep RSt)) (Y:RSt→StateT SortSt Sem (Option Nat)),(∀x c,X x c=G7 lo c)→(∀c,Y c=match c.1 with
        | some r=>pure r
        | none=>pure (some c.2))→(reverseSlice' lo (lo+n) >>= fun _=>forIn [n:nrem] ((none,n):RSt) X >>= Y)=tl3 lo nrem n:=fun n X Y h1 h2=>by
        rw [t3,show X=fun _ c=>G7 lo c from funext fun x=>funext fun c=>h1 x c,show Y=_ from funext h2]
       cases c1 with
       | some r=>rfl
       | none =>
        dsimp only
        by_cases z:c2.2 > 0
        ·rw [if_pos z,if_pos z]
         refine congrArg (reverseSlice' _ _ >>= ·) (funext fun _=>?_)
         exact t4 _ _ _ (fun x c=>congrArg (ltAt' _ _ >>= ·) (funext fun o=>by cases o <;> rfl)) (fun c=>by obtain ⟨d1,d2⟩:=c;cases d1 <;> rfl)
        ·rw [if_neg z,if_neg z]
         exact t4 _ _ _ (fun x c=>congrArg (ltAt' _ _ >>= ·) (funext fun o=>by cases o <;> rfl)) (fun c=>by obtain ⟨d1,d2⟩:=c;cases d1 <;> rfl))
    obtain ⟨B1,K1⟩:=Dc B (Nat.le_refl lo) (show lo+n≤a₀.size by omega)
    have me:=Eu B (i:=lo) (j:=lo+n) (by omega) eqk
    refine QF C hn n1 (by omega) B1 (fun k q1 q2=>?_) ?_ fun m st2 B2 K2=>h m st2 B2 (K1.trans K2)
    ·show KX kf (mirror (arrOf st) _ _ _) k=KX kf (mirror (arrOf st) _ _ _) _
     rw [me,me]
     exact eqk k q1 q2
    ·show O.klt (KX kf (mirror (arrOf st) _ _ _) _) (KX kf (mirror (arrOf st) _ _ _) _)
     rw [me,me]
     exact kl (by omega)
  ·rw [if_neg hg]
   refine NQ (m:=dsc lo nrem n) ?same ?_
   case same =>
     exact (by
      unfold dsc
      refine congrArg (liftM (rule _) >>= ·) (funext fun _=>congr (congrArg _ (congrArg (forIn _ _) (funext fun _=>funext fun c=>?_))) (funext fun c=>?_))
      ·unfold L7
       refine congrArg (ltAt' _ _ >>= ·) (funext fun o=>?_)
       cases o with
       | none=>rfl
       | some b =>
        cases b with
        | true=>rfl
        | false=>exact congrArg (ltAt' _ _ >>= ·) (funext fun o2=>by cases o2 <;> rfl)
      ·obtain ⟨c1,c2⟩:=c
       have t3:∀n,tl3 lo nrem n=(reverseSlice' lo (lo+n) >>= fun _=>forIn [n:nrem] ((none,n):RSt) (fun _ c=>G7 lo c) >>= fun c=>match c.1 with
        | some r=>pure r
        | none=>pure (some c.2)):=fun _=>rfl
       have t4:∀n (X:Nat→RSt→StateT SortSt Sem (ForInStep RSt)) (Y:RSt→StateT SortSt Sem (Option Nat)),(∀x c,X x c=G7 lo c)→(∀c,Y c=match c.1 with
        | some r=>pure r
        | none=>pure (some c.2))→(reverseSlice' lo (lo+n) >>= fun _=>forIn [n:nrem] ((none,n):RSt) X >>= Y)=tl3 lo nrem n:=fun n X Y h1 h2=>by
        rw [t3,show X=fun _ c=>G7 lo c from funext fun x=>funext fun c=>h1 x c,show Y=_ from funext h2]
       cases c1 with
       | some r=>rfl
       | none =>
        dsimp only
        by_cases z:c2.2 > 0
        ·rw [if_pos z,if_pos z]
         refine congrArg (reverseSlice' _ _ >>= ·) (funext fun _=>?_)
         exact t4 _ _ _ (fun x c=>congrArg (ltAt' _ _ >>= ·) (funext fun o=>by cases o <;> rfl)) (fun c=>by obtain ⟨d1,d2⟩:=c;cases d1 <;> rfl)
        ·rw [if_neg z,if_neg z]
         exact t4 _ _ _ (fun x c=>congrArg (ltAt' _ _ >>= ·) (funext fun o=>by cases o <;> rfl)) (fun c=>by obtain ⟨d1,d2⟩:=c;cases d1 <;> rfl))
   obtain rfl:n=1:=by omega
   exact QF C hn n1 (by omega) B (fun k q1 q2=>by rw [show k=lo+1-1 by omega]) (kl (by omega)) h
end
end Srt
namespace Srt
open PySem PyProof.Rows
def Pu:Bool→Keyed→Array Keyed→Nat→Nat→Nat→StateT SortSt Sem (Option Nat):=sortPriv% PySem.Builtin.gallop
def ON:Array Keyed→Array Keyed→StateT SortSt Sem (Array Keyed):=sortPriv% PySem.Builtin.mergeLo
def OO:Array Keyed→Array Keyed→StateT SortSt Sem (Array Keyed):=sortPriv% PySem.Builtin.mergeHi
section
variable {prog:Program}{w:World}{A:Around}{E:Value→Shared→Prop}{s:Shared}{κ:SortKind}{O:KeyOrd}{kf:Value→O.α}{a₀:Array Keyed}{st:SortSt}
theorem BD {arr:Array Keyed}{i:Nat}(hi:i<arr.size) {Q:Keyed→SortSt→Prop}(h:Q arr[i] st):wpS (model prog w) A E s (elem' arr i) Q st:=by
 rw [elem'_eq,getElem?_pos arr i hi]
 exact wpS_pure h
def bey (kf:Value→O.α) (left:Bool) (key:Keyed) (arr:Array Keyed) (base i:Nat):Bool:=if left=true then O.blt (KX kf arr (base+i)) (kf key.1) else !O.blt (kf key.1) (KX kf arr (base+i))
theorem A4 {arr:Array Keyed}{i:Nat}(hi:i<arr.size):KX kf arr i=kf arr[i].1:=by
 unfold KX
 rw [getElem?_pos arr i hi]
 rfl
theorem RV (C:Cmp prog w A s κ O kf a₀) (B:SB κ a₀ st) {left:Bool}{key:Keyed}{arr:Array Keyed}{base i:Nat}(hk:key∈a₀.toList) (ha:∀p∈arr.toList,p∈a₀.toList) (hi:base+i<arr.size) {Q:Option Bool→SortSt→Prop}(h:Q (some (bey kf left key arr base i)) st) :
  wpS (model prog w) A E s (elem' arr (base+i) >>= fun x=>if left=true then lt' x key else lt' key x >>= fun o=>pure (o.map fun b=>!b)) Q st:=by
 refine wpS_bind (BD hi ?_)
 have hm:arr[base+i]∈a₀.toList:=ha _ (by simp)
 unfold bey at h
 rw [A4 hi] at h
 cases left with
 | true =>
  rw [if_pos rfl] at h ⊢
  exact Nu C B hm hk h
 | false =>
  rw [if_neg Bool.false_ne_true] at h ⊢
  exact wpS_bind (Nu C B hk hm (wpS_pure h))
theorem Ov {left:Bool}{key:Keyed}{arr:Array Keyed}{base n i j:Nat}(u:Up kf arr base (base+n)) (hij:i≤j) (hj:j<n) (h:bey kf left key arr base j=true):bey kf left key arr base i=true:=by
 have uu:=u (base+i) (base+j) (by omega) (by omega) (by omega)
 unfold bey at h ⊢
 cases left with
 | true =>
  rw [if_pos rfl] at h ⊢
  exact KeyOrd.klt_of_kle_of_klt uu h
 | false =>
  rw [if_neg Bool.false_ne_true] at h ⊢
  have h:O.kle (KX kf arr (base+j)) (kf key.1):=by show O.blt _ _=false;simpa using h
  have:O.blt (kf key.1) (KX kf arr (base+i))=false:=KeyOrd.kle_trans uu h
  rw [this]
  rfl
theorem Dq (C:Cmp prog w A s κ O kf a₀) (B:SB κ a₀ st) {left:Bool}{key:Keyed}{arr:Array Keyed}{base n hint:Nat}(hk:key∈a₀.toList) (ha:∀p∈arr.toList,p∈a₀.toList) (hb:base+n≤arr.size) (hh:hint<n) (u:Up kf arr base (base+n)) {Q:Option Nat→SortSt→Prop}
  (h:∀k,k≤n→(∀i,i<k→bey kf left key arr base i=true)→(∀i,k≤i→i<n→bey kf left key arr base i=false)→Q (some k) st):wpS (model prog w) A E s (Pu left key arr base n hint) Q st:=by
 have bq:∀{i:Nat} {Q:Option Bool→SortSt→Prop},i<n→Q (some (bey kf left key arr base i)) st→wpS (model prog w) A E s (elem' arr (base+i) >>= fun x=>if left=true then lt' x key else lt' key x >>= fun o=>pure (o.map fun b=>!b)) Q st:=fun hi q=>RV C B hk ha (by omega) q
 have up:∀i j,i≤j→j<n→bey kf left key arr base j=true→bey kf left key arr base i=true:=fun i j q1 q2 q3=>Ov u q1 q2 q3
 refine wpS_bind (bq hh ?_)
 have fin:∀lo hi,lo≤hi→hi≤n→(∀i,i<lo→bey kf left key arr base i=true)→(∀i,hi≤i→i<n→bey kf left key arr base i=false)→∀{f:Nat→Option (Option Nat)×Nat×Nat→StateT SortSt Sem (ForInStep (Option (Option Nat)×Nat×Nat))} {g:Option (Option Nat)×Nat×Nat→StateT SortSt Sem (Option Nat)},
   (∀x c,f x c=if c.2.1≥c.2.2 then pure (.done (none,c.2.1,c.2.2)) else (elem' arr (base+(c.2.1+(c.2.2-c.2.1) / 2)) >>= fun x=>if left=true then lt' x key else lt' key x >>= fun o=>pure (o.map fun b=>!b)) >>= fun o=>match o with
    | some b=>if b=true then pure (.yield (none,c.2.1+(c.2.2-c.2.1) / 2+1,c.2.2)) else pure (.yield (none,c.2.1,c.2.1+(c.2.2-c.2.1) / 2))
    | none=>pure (.done (some none,c.2.1,c.2.2)))→(∀c,g (none,c)=pure (some c.2))→wpS (model prog w) A E s (forIn [:n] ((none,lo,hi):Option (Option Nat)×Nat×Nat) f >>= g) Q st:=by
  intro lo hi h1 h2 h3 h4 f g hf hg
  refine wpS_bind (wpS_mono (wpS_forRange (I:=fun x c st'=>st'=st/\∃l r,c=(none,l,r)/\l≤r/\r≤n/\r-l≤n-x/\(∀i,i<l→bey kf left key arr base i=true)/\(∀i,r≤i→i<n→bey kf left key arr base i=false))
   (Q:=fun c st'=>st'=st/\∃l,c=(none,l,l)/\l≤n/\(∀i,i<l→bey kf left key arr base i=true)/\(∀i,l≤i→i<n→bey kf left key arr base i=false)) ?_ ?_ ⟨rfl,lo,hi,rfl,h1,h2,by omega,h3,h4⟩) ?_)
  ·rintro x c st' _ hx ⟨rfl,l,r,rfl,q1,q2,q3,q4,q5⟩
   rw [hf]
   dsimp only
   by_cases g:l≥r
   ·rw [if_pos g]
    obtain rfl:l=r:=by omega
    exact wpS_pure ⟨rfl,l,rfl,q2,q4,q5⟩
   ·rw [if_neg g]
    refine wpS_bind (bq (by omega) ?_)
    cases e:bey kf left key arr base (l+(r-l) / 2) with
    | true=>exact wpS_pure ⟨rfl,_,r,rfl,by omega,q2,by omega,fun i z=>up i _ (by omega) (by omega) e,q5⟩
    | false=>exact wpS_pure ⟨rfl,l,_,rfl,by omega,by omega,by omega,q4,fun i z1 z2=>by
      cases z:bey kf left key arr base i with
      | false=>rfl
      | true=>rw [up _ i z1 z2 z] at e;cases e⟩
  ·rintro c st' ⟨rfl,l,r,rfl,q1,q2,q3,q4,q5⟩
   obtain rfl:l=r:=by omega
   exact ⟨rfl,l,rfl,q2,q4,q5⟩
  ·rintro c st' ⟨rfl,l,rfl,q2,q4,q5⟩
   rw [hg]
   exact wpS_pure (h l q2 q4 q5)
 cases e:bey kf left key arr base hint with
 | true =>
  refine wpS_bind (wpS_mono (wpS_forRange (I:=fun x c st'=>st'=st/\∃l o,c=(none,l,o)/\l<o/\hint+l<n/\x+1≤o/\bey kf left key arr base (hint+l)=true)
   (Q:=fun c st'=>st'=st/\∃l o,c=(none,l,o)/\l<o/\hint+l<n/\bey kf left key arr base (hint+l)=true/\(o≥n-hint\/(hint+o<n/\bey kf left key arr base (hint+o)=false))) ?_ ?_ ⟨rfl,0,1,rfl,by omega,by omega,by omega,e⟩) ?_)
  ·rintro x c st' _ hx ⟨rfl,l,o,rfl,q1,q2,q3,q4⟩
   dsimp only
   by_cases g:o≥n-hint
   ·rw [if_pos g]
    exact wpS_pure ⟨rfl,l,o,rfl,q1,q2,q4,.inl g⟩
   ·rw [if_neg g]
    refine wpS_bind (bq (by omega) ?_)
    cases e2:bey kf left key arr base (hint+o) with
    | true=>exact wpS_pure ⟨rfl,o,_,rfl,by omega,by omega,by omega,e2⟩
    | false=>exact wpS_pure ⟨rfl,l,o,rfl,q1,q2,q4,.inr ⟨by omega,e2⟩⟩
  ·rintro c st' ⟨rfl,l,o,rfl,q1,q2,q3,q4⟩
   exact ⟨rfl,l,o,rfl,q1,q2,q4,.inl (by omega)⟩
  ·rintro c st' ⟨rfl,l,o,rfl,q1,q2,q4,q5⟩
   refine fin (hint+l+1) (hint+min o (n-hint)) (by omega) (by omega) (fun i z=>up i _ (by omega) q2 q4) (fun i z1 z2=>?_) (fun x c=>?_) (fun c=>rfl)
   ·rcases q5 with q5|⟨q5,q6⟩
    ·omega
    ·cases z:bey kf left key arr base i with
     | false=>rfl
     | true=>rw [up (hint+o) i (by omega) z2 z] at q6;cases q6
   ·dsimp only
    split
    ·rfl
    ·exact congrArg (_ >>= ·) (funext fun o=>by cases o <;> rfl)
 | false =>
  refine wpS_bind (wpS_mono (wpS_forRange (I:=fun x c st'=>st'=st/\∃l o,c=(none,l,o)/\l<o/\l≤hint/\x+1≤o/\bey kf left key arr base (hint-l)=false)
   (Q:=fun c st'=>st'=st/\∃l o,c=(none,l,o)/\l<o/\l≤hint/\bey kf left key arr base (hint-l)=false/\(o≥hint+1\/(o≤hint/\bey kf left key arr base (hint-o)=true))) ?_ ?_ ⟨rfl,0,1,rfl,by omega,by omega,by omega,e⟩) ?_)
  ·rintro x c st' _ hx ⟨rfl,l,o,rfl,q1,q2,q3,q4⟩
   dsimp only
   by_cases g:o≥hint+1
   ·rw [if_pos g]
    exact wpS_pure ⟨rfl,l,o,rfl,q1,q2,q4,.inl g⟩
   ·rw [if_neg g]
    refine wpS_bind (bq (by omega) ?_)
    cases e2:bey kf left key arr base (hint-o) with
    | false=>exact wpS_pure ⟨rfl,o,_,rfl,by omega,by omega,by omega,e2⟩
    | true=>exact wpS_pure ⟨rfl,l,o,rfl,q1,q2,q4,.inr ⟨by omega,e2⟩⟩
  ·rintro c st' ⟨rfl,l,o,rfl,q1,q2,q3,q4⟩
   exact ⟨rfl,l,o,rfl,q1,q2,q4,.inl (by omega)⟩
  ·rintro c st' ⟨rfl,l,o,rfl,q1,q2,q4,q5⟩
   refine fin (hint+1-min o (hint+1)) (hint-l) (by omega) (by omega) (fun i z=>?_) (fun i z1 z2=>?_) (fun x c=>?_) (fun c=>rfl)
   ·rcases q5 with q5|⟨q5,q6⟩
    ·omega
    ·exact up i _ (by omega) (by omega) q6
   ·cases z:bey kf left key arr base i with
    | false=>rfl
    | true=>rw [up (hint-l) i (by omega) z2 z] at q4;cases q4
   ·dsimp only
    split
    ·rfl
    ·exact congrArg (_ >>= ·) (funext fun o=>by cases o <;> rfl)
end
structure J (R:Keyed→Keyed→Prop) (la lb lo:List Keyed) (i j:Nat):Prop where
 perm:lo.Perm (la.take i++lb.take j)
 srt:lo.Pairwise R
 a:∀x∈lo,∀y∈la.drop i,R x y
 b:∀x∈lo,∀y∈lb.drop j,R x y
section
variable {R:Keyed→Keyed→Prop}{la lb lo:List Keyed}{i j k:Nat}
theorem J.swap (h:J R la lb lo i j):J R lb la lo j i:=⟨h.perm.trans List.perm_append_comm,h.srt,h.b,h.a⟩
theorem J.KN (h:J R la lb lo i j) (pa:la.Pairwise R) (hx:∀x∈(la.drop i).take k,∀y∈lb.drop j,R x y):J R la lb (lo++(la.drop i).take k) (i+k) j:=by
 have pd:((la.drop i).take k++(la.drop i).drop k).Pairwise R:=by rw [List.take_append_drop];exact pa.sublist (List.drop_sublist _ _)
 obtain ⟨p1,_,p3⟩:=List.pairwise_append.mp pd
 have ed:la.drop (i+k)=(la.drop i).drop k:=by rw [List.drop_drop]
 refine ⟨?_,List.pairwise_append.mpr ⟨h.srt,p1,fun x hx y hy=>h.a x hx y (List.mem_of_mem_take hy)⟩,fun x hx' y hy=>?_,fun x hx' y hy=>?_⟩
 ·rw [List.take_add,List.append_assoc]
  refine (h.perm.append_right _).trans ?_
  rw [List.append_assoc]
  exact List.Perm.append_left _ List.perm_append_comm
 ·rw [ed] at hy
  rcases List.mem_append.mp hx' with q|q
  ·exact h.a x q y (List.mem_of_mem_drop hy)
  ·exact p3 x q y hy
 ·rcases List.mem_append.mp hx' with q|q
  ·exact h.b x q y hy
  ·exact hx x q y hy
theorem J.Lr (h:J R la lb lo i j) (pb:lb.Pairwise R) (hx:∀x∈(lb.drop j).take k,∀y∈la.drop i,R x y):J R la lb (lo++(lb.drop j).take k) i (j+k):=(h.swap.KN pb hx).swap
def Fin (R:Keyed→Keyed→Prop) (la lb l:List Keyed):Prop:=l.Perm (la++lb)/\l.Pairwise R
theorem J.Px (h:J R la lb lo i j) (pa:la.Pairwise R) (pb:lb.Pairwise R) (hx:∀x∈la.drop i,∀y∈lb.drop j,R x y):Fin R la lb (lo++la.drop i++lb.drop j):=by
 refine ⟨?_,List.pairwise_append.mpr ⟨List.pairwise_append.mpr ⟨h.srt,pa.sublist (List.drop_sublist _ _),h.a⟩,pb.sublist (List.drop_sublist _ _),fun x hx' y hy=>?_⟩⟩
 ·refine ((h.perm.append_right _).append_right _).trans ?_
  have e1:la=la.take i++la.drop i:=(List.take_append_drop _ _).symm
  have e2:lb=lb.take j++lb.drop j:=(List.take_append_drop _ _).symm
  conv=>rhs;rw [e1,e2]
  rw [List.append_assoc,List.append_assoc,List.append_assoc]
  refine List.Perm.append_left _ ?_
  rw [←List.append_assoc,←List.append_assoc]
  exact List.Perm.append_right _ List.perm_append_comm
 ·rcases List.mem_append.mp hx' with q|q
  ·exact h.b x q y hy
  ·exact hx x q y hy
theorem Fin.swap {l:List Keyed}(h:Fin R lb la l):Fin R la lb l:=⟨h.1.trans List.perm_append_comm,h.2⟩
end
theorem Le {out a:Array Keyed}{i k:Nat}:(out++a.extract i (i+k)).toList=out.toList++(a.toList.drop i).take k:=by
 simp [List.extract_eq_take_drop]
theorem FX {a:Array Keyed}{i:Nat}:(a.extract i).toList=a.toList.drop i:=by
 simp only [Array.toList_extract,List.extract_eq_take_drop]
 exact List.take_of_length_le (by simp)
theorem Fi {a:Array Keyed}{i:Nat}(hi:i<a.size):(a.toList.drop i).take 1=[a[i]]:=by
 rw [List.drop_eq_getElem_cons (by simpa using hi)]
 simp
theorem Jq {out a:Array Keyed}{i:Nat}(hi:i<a.size):(out.push a[i]).toList=out.toList++(a.toList.drop i).take 1:=by
 rw [Fi hi]
 simp
section
variable {prog:Program}{w:World}{A:Around}{E:Value→Shared→Prop}{s:Shared}{κ:SortKind}{O:KeyOrd}{kf:Value→O.α}{a₀:Array Keyed}{st:SortSt}
def RK (kf:Value→O.α):Keyed→Keyed→Prop:=fun p q=>O.kle (kf p.1) (kf q.1)
theorem FV {a:Array Keyed}(h:a.toList.Pairwise (RK kf)) {lo hi:Nat}(hh:hi≤a.size):Up kf a lo hi:=fun i j q1 q2 q3=>by
 by_cases z:i=j
 ·rw [z];exact KeyOrd.kle_refl _
 ·rw [A4 (by omega:i<a.size),A4 (by omega:j<a.size)]
  have:=List.pairwise_iff_getElem.mp h i j (by simp;omega) (by simp;omega) (by omega)
  simpa [RK] using this
theorem B7 {a:Array Keyed}{i:Nat}{p:Keyed}(h:p∈a.toList.drop i):∃k,∃(hk:i+k<a.size),p=a[i+k]:=by
 obtain ⟨k,hk,e⟩:=List.mem_iff_getElem.mp h
 rw [List.length_drop,Array.length_toList] at hk
 refine ⟨k,by omega,?_⟩
 rw [←e,List.getElem_drop]
 simp
theorem Cn {a:Array Keyed}{i k:Nat}{p:Keyed}(h:p∈(a.toList.drop i).take k):∃m,m<k/\∃(hk:i+m<a.size),p=a[i+m]:=by
 obtain ⟨m,hm,e⟩:=List.mem_iff_getElem.mp h
 rw [List.length_take,List.length_drop,Array.length_toList] at hm
 refine ⟨m,by omega,by omega,?_⟩
 rw [←e,List.getElem_take,List.getElem_drop]
 simp
structure Still (κ:SortKind) (a₀:Array Keyed) (st st':SortSt):Prop where
 sb:SB κ a₀ st'
 arr:arrOf st'=arrOf st
 pend:pendingOf st'=pendingOf st
theorem Still.gal {st st':SortSt}(x:Still κ a₀ st st') (g:Nat):Still κ a₀ st (SortSt.mk' (kindOf st') (arrOf st') (pendingOf st') g (failedOf st')):=⟨⟨x.sb.perm,x.sb.kind,x.sb.failed⟩,x.arr,x.pend⟩
theorem Ae {M:Model}{A:Around}{E:Value→Shared→Prop}{s:Shared}{α:Type}{c:Prop}[Decidable c] {x y:StateT SortSt Sem α}{Q:α→SortSt→Prop}{st:SortSt}(h:c) (k:wpS M A E s x Q st):wpS M A E s (if c then x else y) Q st:=by rw [if_pos h];exact k
theorem Ag {M:Model}{A:Around}{E:Value→Shared→Prop}{s:Shared}{α:Type}{c:Prop}[Decidable c] {x y:StateT SortSt Sem α}{Q:α→SortSt→Prop}{st:SortSt}(h:¬ c) (k:wpS M A E s y Q st):wpS M A E s (if c then x else y) Q st:=by rw [if_neg h];exact k
theorem Ma (C:Cmp prog w A s κ O kf a₀) (B:SB κ a₀ st) {a b:Array Keyed}(ha:∀p∈a.toList,p∈a₀.toList) (hb:∀p∈b.toList,p∈a₀.toList) (a1:1≤a.size) (b1:1≤b.size) (pa:a.toList.Pairwise (RK kf)) (pb:b.toList.Pairwise (RK kf))
  (first:∀p∈a.toList,RK kf b[0] p) (last:∀p∈b.toList,RK kf p a[a.size-1]) {Q:Array Keyed→SortSt→Prop}
  (h:∀m st',Still κ a₀ st st'→Fin (RK kf) a.toList b.toList m.toList→Q m st'):wpS (model prog w) A E s (ON a b) Q st:=by
 have fDone:∀{out:Array Keyed} {ia ib:Nat},J (RK kf) a.toList b.toList out.toList ia ib→(ib=b.size\/ia=a.size)→Fin (RK kf) a.toList b.toList (out++a.extract ia++b.extract ib).toList:=fun {out ia ib} j e=>by
  rw [Array.toList_append,Array.toList_append,FX,FX]
  refine j.Px pa pb fun x hx y hy=>?_
  rcases e with rfl|rfl
  ·rw [List.drop_of_length_le (by simp)] at hy;cases hy
  ·rw [List.drop_of_length_le (by simp)] at hx;cases hx
 have fLast:∀{out:Array Keyed} {ia ib:Nat},J (RK kf) a.toList b.toList out.toList ia ib→ia+1=a.size→Fin (RK kf) a.toList b.toList (out++b.extract ib++a.extract ia).toList:=fun {out ia ib} j e=>by
  rw [Array.toList_append,Array.toList_append,FX,FX]
  refine (j.swap.Px pb pa fun x hx y hy=>?_).swap
  obtain ⟨k,hk,rfl⟩:=B7 hy
  have:k=0:=by omega
  subst this
  have:=last x (List.mem_of_mem_drop hx)
  simpa [show a.size-1=ia by omega] using this
 have am:∀{i:Nat} (hi:i<a.size),a[i]∈a₀.toList:=fun hi=>ha _ (by simp)
 have bm:∀{i:Nat} (hi:i<b.size),b[i]∈a₀.toList:=fun hi=>hb _ (by simp)
 have la:∀{i k:Nat} (hk:i+k<a.size),RK kf (a[i]'(by omega)) a[i+k]:=fun {i k} hk=>by
  have:=FV pa (lo:=0) (Nat.le_refl _) i (i+k) (by omega) (by omega) hk
  rw [A4 (by omega:i<a.size),A4 hk] at this
  exact this
 have lb:∀{i k:Nat} (hk:i+k<b.size),RK kf (b[i]'(by omega)) b[i+k]:=fun {i k} hk=>by
  have:=FV pb (lo:=0) (Nat.le_refl _) i (i+k) (by omega) (by omega) hk
  rw [A4 (by omega:i<b.size),A4 hk] at this
  exact this
 have oneB:∀{out:Array Keyed} {ia ib:Nat} (h1:ia<a.size) (h2:ib<b.size),J (RK kf) a.toList b.toList out.toList ia ib→RK kf b[ib] a[ia]→J (RK kf) a.toList b.toList (out.push b[ib]).toList ia (ib+1):=fun {out ia ib} h1 h2 j r=>by
  rw [Jq h2]
  refine j.Lr pb fun x hx y hy=>?_
  rw [Fi h2,List.mem_singleton] at hx
  obtain ⟨k,hk,rfl⟩:=B7 hy
  rw [hx]
  exact KeyOrd.kle_trans r (la hk)
 have oneA:∀{out:Array Keyed} {ia ib:Nat} (h1:ia<a.size) (h2:ib<b.size),J (RK kf) a.toList b.toList out.toList ia ib→RK kf a[ia] b[ib]→J (RK kf) a.toList b.toList (out.push a[ia]).toList (ia+1) ib:=fun {out ia ib} h1 h2 j r=>by
  rw [Jq h1]
  refine j.KN pa fun x hx y hy=>?_
  rw [Fi h1,List.mem_singleton] at hx
  obtain ⟨k,hk,rfl⟩:=B7 hy
  rw [hx]
  exact KeyOrd.kle_trans r (lb hk)
 refine wpS_bind (wpS_lift (wpAny_rule ⟨rfl,?_⟩))
 refine wpS_bind (BD (by omega:0<b.size) ?_)
 have j0:J (RK kf) a.toList b.toList (#[b[0]]:Array Keyed).toList 0 1:=by
  refine ⟨?_,by simp,fun x hx y hy=>?_,fun x hx y hy=>?_⟩
  ·rw [←Fi (by omega:0<b.size)]
   simp
  ·simp at hx hy;subst hx;exact first y (by simpa using hy)
  ·simp only [List.mem_singleton] at hx
   obtain ⟨k,hk,rfl⟩:=B7 hy
   rw [hx]
   have:=lb (i:=0) (k:=1+k) (by omega)
   simpa using this
 dsimp only
 by_cases e1:1=b.size
 ·refine Ae (by simpa using e1) ?_
  exact wpS_pure (h _ st ⟨B,rfl,rfl⟩ (fDone j0 (.inl e1)))
 refine Ag (by simpa using e1) ?_
 by_cases e2:0+1=a.size
 ·refine Ae (by simpa using e2) ?_
  exact wpS_pure (h _ st ⟨B,rfl,rfl⟩ (fLast j0 e2))
 refine Ag (by simpa using e2) ?_
 refine wpS_bind (wpS_get ?_)
 refine wpS_bind (wpS_mono (wpS_forRange
  (I:=fun x c st'=>Still κ a₀ st st'/\∃out ia ib g,c=(none,out,ia,ib,g)/\J (RK kf) a.toList b.toList out.toList ia ib/\ia+1<a.size/\ib<b.size/\x+1≤ia+ib)
  (Q:=fun c st'=>Still κ a₀ st st'/\∃r,c.1=some r/\Fin (RK kf) a.toList b.toList r.toList) ?step ?fin ?init) ?post)
 case init=>exact ⟨⟨B,rfl,rfl⟩,_,0,1,_,rfl,j0,by omega,by omega,by omega⟩
 case fin =>
  rintro c st' ⟨S,out,ia,ib,g,rfl,j,h1,h2,h3⟩
  omega
 case post =>
  rintro c st' ⟨S,r,e,f⟩
  obtain ⟨c1,c2⟩:=c
  obtain rfl:c1=some r:=e
  exact wpS_pure (h r st' S f)
 case step =>
  rintro x c st1 _ hx ⟨S,out,ia,ib,g,rfl,j,h1,h2,h3⟩
  dsimp only
  refine wpS_bind (wpS_mono (wpS_forRange
   (I:=fun y c st'=>st'=st1/\∃out' ia' ib' p q,c=(none,out',ia',ib',p,q)/\J (RK kf) a.toList b.toList out'.toList ia' ib'/\ia'+1<a.size/\ib'<b.size/\ia+ib+y≤ia'+ib')
   (Q:=fun c st'=>st'=st1/\((∃r,c.1=some r/\Fin (RK kf) a.toList b.toList r.toList)\/∃out' ia' ib' p q,c=(none,out',ia',ib',p,q)/\J (RK kf) a.toList b.toList out'.toList ia' ib'/\ia'+1<a.size/\ib'<b.size/\ia+ib+1≤ia'+ib')) ?s1 ?s2 ?s3) ?s4)
  case s3=>exact ⟨rfl,out,ia,ib,0,0,rfl,j,h1,h2,Nat.le_refl _⟩
  case s2 =>
   rintro c st' ⟨rfl,out',ia',ib',p,q,rfl,j',g1,g2,g3⟩
   exact ⟨rfl,.inr ⟨out',ia',ib',p,q,rfl,j',g1,g2,by omega⟩⟩
  case s1 =>
   rintro y c st' _ hy ⟨rfl,out',ia',ib',p,q,rfl,j',g1,g2,g3⟩
   dsimp only
   refine wpS_bind (BD g2 (wpS_bind (BD (by omega:ia'<a.size) (wpS_bind (Nu C S.sb (bm g2) (am (by omega)) ?_)))))
   cases e:O.blt (kf b[ib'].1) (kf (a[ia']'(by omega)).1) with
   | true =>
    dsimp only
    refine Ae rfl ?_
    refine wpS_bind (BD g2 ?_)
    have j2:=oneB (by omega) g2 j' (KeyOrd.kle_of_klt e)
    by_cases z:ib'+1=b.size
    ·refine Ae (by simpa using z) ?_
     exact wpS_pure ⟨rfl,.inl ⟨_,rfl,fDone j2 (.inl z)⟩⟩
    ·refine Ag (by simpa using z) ?_
     split
     ·exact wpS_pure ⟨rfl,.inr ⟨_,_,_,_,_,rfl,j2,g1,by omega,by omega⟩⟩
     ·exact wpS_pure ⟨rfl,_,_,_,_,_,rfl,j2,g1,by omega,by omega⟩
   | false =>
    dsimp only
    refine Ag Bool.false_ne_true ?_
    refine wpS_bind (BD (by omega:ia'<a.size) ?_)
    have j2:=oneA (by omega) g2 j' e
    by_cases z:ia'+1+1=a.size
    ·refine Ae (by simpa using z) ?_
     exact wpS_pure ⟨rfl,.inl ⟨_,rfl,fLast j2 z⟩⟩
    ·refine Ag (by simpa using z) ?_
     split
     ·exact wpS_pure ⟨rfl,.inr ⟨_,_,_,_,_,rfl,j2,by omega,g2,by omega⟩⟩
     ·exact wpS_pure ⟨rfl,_,_,_,_,_,rfl,j2,by omega,g2,by omega⟩
  case s4 =>
   rintro c st' ⟨rfl,⟨r,e,f⟩|⟨out',ia',ib',p,q,rfl,j',g1,g2,g3⟩⟩
   ·obtain ⟨c1,c2⟩:=c
    obtain rfl:c1=some r:=e
    exact wpS_pure ⟨S,r,rfl,f⟩
   dsimp only
   refine wpS_bind (wpS_lift (wpAny_rule ⟨rfl,?_⟩))
   refine wpS_bind (wpS_mono (wpS_forRange
    (I:=fun y c st2=>Still κ a₀ st st2/\∃o2 i2 k2 m2 p q,c=(none,o2,i2,k2,m2,p,q)/\J (RK kf) a.toList b.toList o2.toList i2 k2/\i2+1<a.size/\k2<b.size/\ia+ib+1≤i2+k2)
    (Q:=fun c st2=>Still κ a₀ st st2/\((∃r,c.1=some r/\Fin (RK kf) a.toList b.toList r.toList)\/∃o2 i2 k2 m2 p q,c=(none,o2,i2,k2,m2,p,q)/\J (RK kf) a.toList b.toList o2.toList i2 k2/\i2+1<a.size/\k2<b.size/\ia+ib+1≤i2+k2)) ?t1 ?t2 ?t3) ?t4)
   case t3=>exact ⟨S,out',ia',ib',_,p,q,rfl,j',g1,g2,g3⟩
   case t2 =>
    rintro c st2 ⟨S2,r⟩
    exact ⟨S2,.inr r⟩
   case t4 =>
    rintro c st2 ⟨S2,⟨r,e,f⟩|⟨o2,i2,k2,m2,p,q,rfl,j2,f1,f2,f3⟩⟩
    ·obtain ⟨c1,c2⟩:=c
     obtain rfl:c1=some r:=e
     exact wpS_pure ⟨S2,r,rfl,f⟩
    ·refine wpS_bind (wpS_modify (wpS_pure ⟨S2.gal _,o2,i2,k2,_,rfl,j2,f1,f2,by omega⟩))
   case t1 =>
    rintro y c st2 _ hy ⟨S2,o2,i2,k2,m2,p,q,rfl,j2,f1,f2,f3⟩
    dsimp only
    refine (fun (key:∀m3:Nat,(?G:Nat→Prop) m3)=>?u) ?v
    case u =>
     by_cases z:m2 > 1
     ·refine Ae z ?_
      generalize m2-1=m3
      exact key m3
     ·refine Ag z ?_
      generalize m2=m3
      exact key m3
    case v =>
     intro m3
     try dsimp only
     refine wpS_bind (wpS_modify ?_)
     have S3:=S2.gal m3
     refine wpS_bind (BD f2 ?_)
     refine (fun (key:∀(k i3:Nat) (o3:Array Keyed),J (RK kf) a.toList b.toList o3.toList i3 k2→(∀m (hm:m<a.size),i3≤m→RK kf b[k2] a[m])→i3+1<a.size→ia+ib+1≤i3+k2→(?G2:Nat→Nat→Array Keyed→Prop) k i3 o3)=>?u2) ?v2
     case u2 =>
      refine wpS_bind (Dq C S3.sb (bm f2) ha (by omega) (by omega) (FV pa (by omega)) fun k hk bl bg=>?_)
      have runA:∀m,m<k→∀(hm:i2+m<a.size),RK kf a[i2+m] b[k2]:=fun m z hm=>by
       have:=bl m z
       unfold bey at this
       rw [if_neg Bool.false_ne_true,A4 hm] at this
       show O.blt _ _=false
       simpa using this
      have runB:∀m,k≤m→∀(hm:i2+m<a.size),RK kf b[k2] a[i2+m]:=fun m z hm=>by
       have:=bg m z (by omega)
       unfold bey at this
       rw [if_neg Bool.false_ne_true,A4 hm] at this
       exact KeyOrd.kle_of_klt (by show O.blt _ _=true;simpa using this)
      have j3:J (RK kf) a.toList b.toList (o2++a.extract i2 (i2+k)).toList (i2+k) k2:=by
       rw [Le]
       refine j2.KN pa fun x hx y hy=>?_
       obtain ⟨m,hm,hm2,rfl⟩:=Cn hx
       obtain ⟨m',hm',rfl⟩:=B7 hy
       exact KeyOrd.kle_trans (runA m hm hm2) (lb hm')
      dsimp only
      have pre:(k > 0/\i2+k+1=a.size)\/(k > 0/\i2+k=a.size)\/i2+k+1<a.size:=by omega
      rcases pre with ⟨zk,z1⟩|⟨zk,z1⟩|z1
      ·refine Ae zk (Ae (by simpa using z1) ?_)
       exact wpS_pure ⟨S3,.inl ⟨_,rfl,fLast j3 z1⟩⟩
      ·refine Ae zk (Ag (by simp;omega) (Ae (by simpa using z1) ?_))
       exact wpS_pure ⟨S3,.inl ⟨_,rfl,fDone j3 (.inr z1)⟩⟩
      have hB3:∀m (hm:m<a.size),i2+k≤m→RK kf b[k2] a[m]:=fun m hm z=>by
       have:=runB (m-i2) (by omega) (by omega)
       simpa [show i2+(m-i2)=m by omega] using this
      by_cases zk:k > 0
      ·refine Ae zk (Ag (by simp;omega) (Ag (by simp;omega) ?_))
       generalize o2++a.extract i2 (i2+k)=o3 at j3 ⊢
       have f3':ia+ib+1≤(i2+k)+k2:=by omega
       generalize i2+k=i3 at j3 hB3 z1 f3' ⊢
       exact key k i3 o3 j3 hB3 z1 f3'
      ·refine Ag zk ?_
       have zk0:k=0:=by omega
       have eo:o2++a.extract i2 (i2+k)=o2:=by rw [zk0];simp;omega
       rw [eo,zk0,Nat.add_zero] at j3
       rw [zk0,Nat.add_zero] at hB3 z1
       exact key k i2 o2 j3 hB3 z1 f3
     case v2 =>
      intro k i3 o3 j3 hB3 z1 f3'
      try dsimp only
      have hi3:i3<a.size:=by omega
      refine wpS_bind (BD f2 ?_)
      have j4:=oneB (by omega) f2 j3 (hB3 i3 (by omega) (Nat.le_refl _))
      by_cases z3:k2+1=b.size
      ·refine Ae (by simpa using z3) ?_
       exact wpS_pure ⟨S3,.inl ⟨_,rfl,fDone j4 (.inl z3)⟩⟩
      refine Ag (by simpa using z3) ?_
      refine wpS_bind (BD (by omega:i3<a.size) ?_)
      refine (fun (key:∀(k' k5:Nat) (o5:Array Keyed),J (RK kf) a.toList b.toList o5.toList i3 k5→(∀m (hm:m<b.size),k5≤m→RK kf (a[i3]'hi3) b[m])→k5<b.size→ia+ib+1≤i3+k5→(?G3:Nat→Nat→Array Keyed→Prop) k' k5 o5)=>?u3) ?v3
      case u3 =>
       refine wpS_bind (Dq C S3.sb (am (by omega)) hb (by omega) (by omega) (FV pb (by omega)) fun k' hk' bl' bg'=>?_)
       have runB':∀m,m<k'→∀(hm:k2+1+m<b.size),RK kf b[k2+1+m] (a[i3]'(by omega)):=fun m z hm=>by
        have:=bl' m z
        unfold bey at this
        rw [if_pos rfl,A4 hm] at this
        exact KeyOrd.kle_of_klt this
       have runA':∀m (hm:m<b.size),k2+1+k'≤m→RK kf (a[i3]'(by omega)) b[m]:=fun m hm z=>by
        have:=bg' (m-(k2+1)) (by omega) (by omega)
        unfold bey at this
        rw [if_pos rfl] at this
        have e:k2+1+(m-(k2+1))=m:=by omega
        rw [e,A4 hm] at this
        exact this
       have j5:J (RK kf) a.toList b.toList (o3.push b[k2]++b.extract (k2+1) (k2+1+k')).toList i3 (k2+1+k'):=by
        rw [Le]
        refine j4.Lr pb fun x hx y hy=>?_
        obtain ⟨m,hm,hm2,rfl⟩:=Cn hx
        obtain ⟨m',hm',rfl⟩:=B7 hy
        exact KeyOrd.kle_trans (runB' m hm hm2) (la hm')
       dsimp only
       have pre:(k' > 0/\k2+1+k'=b.size)\/k2+1+k'<b.size:=by omega
       rcases pre with ⟨zk',z4⟩|z4
       ·refine Ae zk' (Ae (by simpa using z4) ?_)
        exact wpS_pure ⟨S3,.inl ⟨_,rfl,fDone j5 (.inl z4)⟩⟩
       have f4':ia+ib+1≤i3+(k2+1+k'):=by omega
       by_cases zk':k' > 0
       ·refine Ae zk' (Ag (by simp;omega) ?_)
        generalize o3.push b[k2]++b.extract (k2+1) (k2+1+k')=o5 at j5 ⊢
        generalize k2+1+k'=k5 at j5 runA' z4 f4' ⊢
        exact key k' k5 o5 j5 runA' z4 f4'
       ·refine Ag zk' ?_
        have zk0:k'=0:=by omega
        have eo:o3.push b[k2]++b.extract (k2+1) (k2+1+k')=o3.push b[k2]:=by rw [zk0];simp;omega
        rw [eo,zk0,Nat.add_zero] at j5
        rw [zk0,Nat.add_zero] at runA' z4 f4'
        exact key k' _ _ j5 runA' z4 f4'
      case v3 =>
       intro k' k5 o5 j5 runA' z4 f4'
       try dsimp only
       refine wpS_bind (BD (by omega:i3<a.size) ?_)
       have j6:=oneA (by omega) z4 j5 (runA' k5 z4 (Nat.le_refl _))
       by_cases z5:i3+1+1=a.size
       ·refine Ae (by simpa using z5) ?_
        exact wpS_pure ⟨S3,.inl ⟨_,rfl,fLast j6 z5⟩⟩
       refine Ag (by simpa using z5) ?_
       by_cases z6:(decide (k<7)&&decide (k'<7))=true
       ·refine Ae z6 ?_
        exact wpS_pure ⟨S3,.inr ⟨_,_,_,_,_,_,rfl,j6,by omega,z4,by omega⟩⟩
       ·refine Ag z6 ?_
        exact wpS_pure ⟨S3,_,_,_,_,_,_,rfl,j6,by omega,z4,by omega⟩
end
theorem Du (a:Array Keyed) {n:Nat}(h:n≤a.size):a.toList.reverse.drop (a.size-n)=(a.toList.take n).reverse:=by
 rw [List.drop_reverse]
 congr 2
 simp
 omega
theorem Cg {a:Array Keyed}{n:Nat}(h:n≤a.size) {x:Keyed}(hx:x∈a.toList.reverse.drop (a.size-n)):∃m,∃(hm:m<a.size),m<n/\x=a[m]:=by
 rw [Du a h,List.mem_reverse] at hx
 obtain ⟨m,hm,e⟩:=List.mem_iff_getElem.mp hx
 rw [List.length_take,Array.length_toList] at hm
 refine ⟨m,by omega,by omega,?_⟩
 rw [←e,List.getElem_take]
 simp
theorem Fd (a:Array Keyed) {n t:Nat}(h:n≤a.size) (ht:t≤n):(a.toList.reverse.drop (a.size-n)).take (n-t)=(a.extract t n).toList.reverse:=by
 rw [Du a h,List.take_reverse]
 simp only [Array.toList_extract,List.extract_eq_take_drop,List.length_take,Array.length_toList]
 congr 1
 rw [List.drop_take]
 congr 1
 ·omega
 ·congr 1
  omega
theorem Fj (a:Array Keyed) {n:Nat}(h:n≤a.size) (h1:1≤n):(a.toList.reverse.drop (a.size-n)).take 1=[a[n-1]]:=by
 have e:=Fd a h (show n-1≤n by omega)
 rw [show n-(n-1)=1 by omega] at e
 rw [e]
 have:=Fi (a:=a) (i:=n-1) (by omega)
 simp only [Array.toList_extract,List.extract_eq_take_drop]
 rw [show n-(n-1)=1 by omega,this]
 rfl
theorem L6 {R:Keyed→Keyed→Prop}{la lb l:List Keyed}(h:Fin (fun p q=>R q p) la.reverse lb.reverse l.reverse):Fin R la lb l:=by
 refine ⟨(List.reverse_perm l).symm.trans (h.1.trans ((List.reverse_perm la).append (List.reverse_perm lb))),?_⟩
 exact List.pairwise_reverse.mp h.2
section
variable {prog:Program}{w:World}{A:Around}{E:Value→Shared→Prop}{s:Shared}{κ:SortKind}{O:KeyOrd}{kf:Value→O.α}{a₀:Array Keyed}{st:SortSt}
abbrev JH (kf:Value→O.α) (a b out:Array Keyed) (na nb:Nat):Prop:=J (fun p q=>RK kf q p) a.toList.reverse b.toList.reverse out.toList (a.size-na) (b.size-nb)
theorem Mb (C:Cmp prog w A s κ O kf a₀) (B:SB κ a₀ st) {a b:Array Keyed}(ha:∀p∈a.toList,p∈a₀.toList) (hb:∀p∈b.toList,p∈a₀.toList) (a1:1≤a.size) (b1:1≤b.size) (pa:a.toList.Pairwise (RK kf)) (pb:b.toList.Pairwise (RK kf))
  (first:∀p∈a.toList,RK kf b[0] p) (last:∀p∈b.toList,RK kf p a[a.size-1]) {Q:Array Keyed→SortSt→Prop}
  (h:∀m st',Still κ a₀ st st'→Fin (RK kf) a.toList b.toList m.toList→Q m st'):wpS (model prog w) A E s (OO a b) Q st:=by
 have pa':a.toList.reverse.Pairwise (fun p q=>RK kf q p):=List.pairwise_reverse.mpr pa
 have pb':b.toList.reverse.Pairwise (fun p q=>RK kf q p):=List.pairwise_reverse.mpr pb
 have fDone:∀{out:Array Keyed} {na nb:Nat},na≤a.size→nb≤b.size→JH kf a b out na nb→(na=0\/nb=0)→Fin (RK kf) a.toList b.toList (a.extract 0 na++b.extract 0 nb++out.reverse).toList:=fun {out na nb} q1 q2 j e=>by
  refine L6 ?_
  have el:(a.extract 0 na++b.extract 0 nb++out.reverse).toList.reverse=out.toList++b.toList.reverse.drop (b.size-nb)++a.toList.reverse.drop (a.size-na):=by
   rw [Du a q1,Du b q2]
   simp [List.extract_eq_take_drop]
  rw [el]
  refine (j.swap.Px pb' pa' fun x hx y hy=>?_).swap
  obtain ⟨m,hm,z,rfl⟩:=Cg q2 hx
  obtain ⟨m',hm',z',rfl⟩:=Cg q1 hy
  omega
 have fFirst:∀{out:Array Keyed} {na nb:Nat},na≤a.size→nb≤b.size→JH kf a b out na nb→nb=1→Fin (RK kf) a.toList b.toList (b.extract 0 nb++a.extract 0 na++out.reverse).toList:=fun {out na nb} q1 q2 j e=>by
  refine L6 ?_
  have el:(b.extract 0 nb++a.extract 0 na++out.reverse).toList.reverse=out.toList++a.toList.reverse.drop (a.size-na)++b.toList.reverse.drop (b.size-nb):=by
   rw [Du a q1,Du b q2]
   simp [List.extract_eq_take_drop]
  rw [el]
  refine j.Px pa' pb' fun x hx y hy=>?_
  obtain ⟨m,hm,z,rfl⟩:=Cg q1 hx
  obtain ⟨m',hm',z',rfl⟩:=Cg q2 hy
  have:m'=0:=by omega
  subst this
  exact first _ (by simp)
 have am:∀{i:Nat} (hi:i<a.size),a[i]∈a₀.toList:=fun hi=>ha _ (by simp)
 have bm:∀{i:Nat} (hi:i<b.size),b[i]∈a₀.toList:=fun hi=>hb _ (by simp)
 have la:∀{i k:Nat} (hk:k<a.size) (h:i≤k),RK kf (a[i]'(by omega)) a[k]:=fun {i k} hk h=>by
  have:=FV pa (lo:=0) (Nat.le_refl _) i k (by omega) (by omega) hk
  rw [A4 (by omega:i<a.size),A4 hk] at this
  exact this
 have lb:∀{i k:Nat} (hk:k<b.size) (h:i≤k),RK kf (b[i]'(by omega)) b[k]:=fun {i k} hk h=>by
  have:=FV pb (lo:=0) (Nat.le_refl _) i k (by omega) (by omega) hk
  rw [A4 (by omega:i<b.size),A4 hk] at this
  exact this
 have oneA:∀{out:Array Keyed} {na nb:Nat} (h1:1≤na) (h2:na≤a.size) (h3:1≤nb) (h4:nb≤b.size),JH kf a b out na nb→RK kf b[nb-1] a[na-1]→JH kf a b (out.push a[na-1]) (na-1) nb:=fun {out na nb} h1 h2 h3 h4 j r=>by
  have e:(out.push a[na-1]).toList=out.toList++(a.toList.reverse.drop (a.size-na)).take 1:=by rw [Fj a h2 h1];simp
  show J _ _ _ (out.push a[na-1]).toList _ _
  rw [e,show a.size-(na-1)=a.size-na+1 by omega]
  refine j.KN pa' fun x hx y hy=>?_
  rw [Fj a h2 h1,List.mem_singleton] at hx
  obtain ⟨m,hm,z,rfl⟩:=Cg h4 hy
  rw [hx]
  exact KeyOrd.kle_trans (lb (by omega) (by omega:m≤nb-1)) r
 have oneB:∀{out:Array Keyed} {na nb:Nat} (h1:1≤na) (h2:na≤a.size) (h3:1≤nb) (h4:nb≤b.size),JH kf a b out na nb→RK kf a[na-1] b[nb-1]→JH kf a b (out.push b[nb-1]) na (nb-1):=fun {out na nb} h1 h2 h3 h4 j r=>by
  have e:(out.push b[nb-1]).toList=out.toList++(b.toList.reverse.drop (b.size-nb)).take 1:=by rw [Fj b h4 h3];simp
  show J _ _ _ (out.push b[nb-1]).toList _ _
  rw [e,show b.size-(nb-1)=b.size-nb+1 by omega]
  refine j.Lr pb' fun x hx y hy=>?_
  rw [Fj b h4 h3,List.mem_singleton] at hx
  obtain ⟨m,hm,z,rfl⟩:=Cg h2 hy
  rw [hx]
  exact KeyOrd.kle_trans (la (by omega) (by omega:m≤na-1)) r
 refine wpS_bind (wpS_lift (wpAny_rule ⟨rfl,?_⟩))
 refine wpS_bind (BD (by omega:a.size-1<a.size) ?_)
 have j0:JH kf a b (#[a[a.size-1]]:Array Keyed) (a.size-1) b.size:=by
  refine ⟨?_,by simp,fun x hx y hy=>?_,fun x hx y hy=>?_⟩
  ·have:=Fj a (Nat.le_refl _) a1
   rw [Nat.sub_self,List.drop_zero] at this
   rw [show a.size-(a.size-1)=1 by omega,this]
   simp
  ·simp only [List.mem_singleton] at hx
   obtain ⟨m,hm,z,rfl⟩:=Cg (by omega) hy
   rw [hx]
   exact la (by omega) (by omega)
  ·simp only [List.mem_singleton] at hx
   obtain ⟨m,hm,z,rfl⟩:=Cg (Nat.le_refl _) hy
   rw [hx]
   exact last _ (by simp)
 dsimp only
 by_cases e1:a.size-1=0
 ·refine Ae (by simpa using e1) ?_
  exact wpS_pure (h _ st ⟨B,rfl,rfl⟩ (fDone (by omega) (Nat.le_refl _) j0 (.inl e1)))
 refine Ag (by simpa using e1) ?_
 by_cases e2:b.size=1
 ·refine Ae (by simpa using e2) ?_
  exact wpS_pure (h _ st ⟨B,rfl,rfl⟩ (fFirst (by omega) (Nat.le_refl _) j0 e2))
 refine Ag (by simpa using e2) ?_
 refine wpS_bind (wpS_get ?_)
 refine wpS_bind (wpS_mono (wpS_forRange
  (I:=fun x c st'=>Still κ a₀ st st'/\∃na nb out g,c=(none,na,nb,out,g)/\JH kf a b out na nb/\1≤na/\na≤a.size/\2≤nb/\nb≤b.size/\x+1+na+nb≤a.size+b.size)
  (Q:=fun c st'=>Still κ a₀ st st'/\∃r,c.1=some r/\Fin (RK kf) a.toList b.toList r.toList) ?step ?fin ?init) ?post)
 case init=>exact ⟨⟨B,rfl,rfl⟩,_,_,_,_,rfl,j0,by omega,by omega,by omega,by omega,by omega⟩
 case fin =>
  rintro c st' ⟨S,na,nb,out,g,rfl,j,h1,h2,h3,h4,h5⟩
  omega
 case post =>
  rintro c st' ⟨S,r,e,f⟩
  obtain ⟨c1,c2⟩:=c
  obtain rfl:c1=some r:=e
  exact wpS_pure (h r st' S f)
 case step =>
  rintro x c st1 hx0 hx ⟨S,na,nb,out,g,rfl,j,h1,h2,h3,h4,h5⟩
  dsimp only
  refine wpS_bind (wpS_mono (wpS_forRange
   (I:=fun y c st'=>st'=st1/\∃na' nb' out' p q,c=(none,na',nb',out',p,q)/\JH kf a b out' na' nb'/\1≤na'/\na'≤a.size/\2≤nb'/\nb'≤b.size/\na'+nb'+y≤na+nb)
   (Q:=fun c st'=>st'=st1/\((∃r,c.1=some r/\Fin (RK kf) a.toList b.toList r.toList)\/∃na' nb' out' p q,c=(none,na',nb',out',p,q)/\JH kf a b out' na' nb'/\1≤na'/\na'≤a.size/\2≤nb'/\nb'≤b.size/\na'+nb'+1≤na+nb)) ?s1 ?s2 ?s3) ?s4)
  case s3=>exact ⟨rfl,na,nb,out,0,0,rfl,j,h1,h2,h3,h4,Nat.le_refl _⟩
  case s2 =>
   rintro c st' ⟨rfl,na',nb',out',p,q,rfl,j',g1,g2,g3,g4,g5⟩
   exact ⟨rfl,.inr ⟨na',nb',out',p,q,rfl,j',g1,g2,g3,g4,by omega⟩⟩
  case s1 =>
   rintro y c st' hy0 hy ⟨rfl,na',nb',out',p,q,rfl,j',g1,g2,g3,g4,g5⟩
   clear hy0 h1 h2 h3 h4 h5 hx hx0 e1 e2 j0 j first last
   dsimp only
   refine wpS_bind (BD (by omega:nb'-1<b.size) (wpS_bind (BD (by omega:na'-1<a.size) (wpS_bind (Nu C S.sb (bm (by omega)) (am (by omega)) ?_)))))
   cases e:O.blt (kf (b[nb'-1]'(by omega)).1) (kf (a[na'-1]'(by omega)).1) with
   | true =>
    dsimp only
    refine Ae rfl ?_
    refine wpS_bind (BD (by omega:na'-1<a.size) ?_)
    have j2:=oneA g1 g2 (by omega) g4 j' (KeyOrd.kle_of_klt e)
    by_cases z:na'-1=0
    ·refine Ae (by simpa using z) ?_
     exact wpS_pure ⟨rfl,.inl ⟨_,rfl,fDone (by omega) g4 j2 (.inl z)⟩⟩
    ·refine Ag (by simpa using z) ?_
     split
     ·exact wpS_pure ⟨rfl,.inr ⟨_,_,_,_,_,rfl,j2,by omega,by omega,g3,g4,by omega⟩⟩
     ·exact wpS_pure ⟨rfl,_,_,_,_,_,rfl,j2,by omega,by omega,g3,g4,by omega⟩
   | false =>
    dsimp only
    refine Ag Bool.false_ne_true ?_
    refine wpS_bind (BD (by omega:nb'-1<b.size) ?_)
    have j2:=oneB g1 g2 (by omega) g4 j' e
    by_cases z:nb'-1=1
    ·refine Ae (by simpa using z) ?_
     exact wpS_pure ⟨rfl,.inl ⟨_,rfl,fFirst g2 (by omega) j2 z⟩⟩
    ·refine Ag (by simpa using z) ?_
     split
     ·exact wpS_pure ⟨rfl,.inr ⟨_,_,_,_,_,rfl,j2,g1,g2,by omega,by omega,by omega⟩⟩
     ·exact wpS_pure ⟨rfl,_,_,_,_,_,rfl,j2,g1,g2,by omega,by omega,by omega⟩
  case s4 =>
   rintro c st' ⟨rfl,⟨r,e,f⟩|⟨na',nb',out',p,q,rfl,j',g1,g2,g3,g4,g5⟩⟩
   ·obtain ⟨c1,c2⟩:=c
    obtain rfl:c1=some r:=e
    exact wpS_pure ⟨S,r,rfl,f⟩
   dsimp only
   refine wpS_bind (wpS_lift (wpAny_rule ⟨rfl,?_⟩))
   refine wpS_bind (wpS_mono (wpS_forRange
    (I:=fun y c st2=>Still κ a₀ st st2/\∃i2 k2 o2 m2 p q,c=(none,i2,k2,o2,m2,p,q)/\JH kf a b o2 i2 k2/\1≤i2/\i2≤a.size/\2≤k2/\k2≤b.size/\i2+k2+1≤na+nb)
    (Q:=fun c st2=>Still κ a₀ st st2/\((∃r,c.1=some r/\Fin (RK kf) a.toList b.toList r.toList)\/∃i2 k2 o2 m2 p q,c=(none,i2,k2,o2,m2,p,q)/\JH kf a b o2 i2 k2/\1≤i2/\i2≤a.size/\2≤k2/\k2≤b.size/\i2+k2+1≤na+nb)) ?t1 ?t2 ?t3) ?t4)
   case t3=>exact ⟨S,na',nb',out',_,p,q,rfl,j',g1,g2,g3,g4,g5⟩
   case t2 =>
    rintro c st2 ⟨S2,r⟩
    exact ⟨S2,.inr r⟩
   case t4 =>
    rintro c st2 ⟨S2,⟨r,e,f⟩|⟨i2,k2,o2,m2,p,q,rfl,j2,f1,f2,f3,f4,f5⟩⟩
    ·obtain ⟨c1,c2⟩:=c
     obtain rfl:c1=some r:=e
     exact wpS_pure ⟨S2,r,rfl,f⟩
    ·refine wpS_bind (wpS_modify (wpS_pure ⟨S2.gal _,i2,k2,o2,_,rfl,j2,f1,f2,f3,f4,by omega⟩))
   case t1 =>
    rintro y c st2 hy0 hy ⟨S2,i2,k2,o2,m2,p,q,rfl,j2,f1,f2,f3,f4,f5⟩
    clear hy0 hy j' g1 g2 g3 g4 g5 j h1 h2 h3 h4 h5 hx hx0 e1 e2 j0 S first last
    dsimp only
    refine (fun (key:∀m3:Nat,(?G:Nat→Prop) m3)=>?u) ?v
    case u =>
     by_cases z:m2 > 1
     ·refine Ae z ?_
      generalize m2-1=m3
      exact key m3
     ·refine Ag z ?_
      generalize m2=m3
      exact key m3
    case v =>
     intro m3
     try dsimp only
     refine wpS_bind (wpS_modify ?_)
     have S3:=S2.gal m3
     have hk1:k2-1<b.size:=by omega
     refine wpS_bind (BD hk1 ?_)
     refine (fun (key:∀(c i3:Nat) (o3:Array Keyed),JH kf a b o3 i3 k2→(∀m (hm:m<a.size),m<i3→RK kf a[m] (b[k2-1]'hk1))→1≤i3→i3≤a.size→i3+k2+1≤na+nb→(?G2:Nat→Nat→Array Keyed→Prop) c i3 o3)=>?u2) ?v2
     case u2 =>
      refine wpS_bind (Dq C S3.sb (bm hk1) ha (by omega) (by omega) (FV pa (by omega)) fun t ht bl bg=>?_)
      have runA:∀m (hm:m<a.size),m<t→RK kf a[m] (b[k2-1]'hk1):=fun m hm z=>by
       have:=bl m z
       unfold bey at this
       rw [if_neg Bool.false_ne_true,A4 (by omega:0+m<a.size)] at this
       show O.blt _ _=false
       simpa using this
      have runB:∀m (hm:m<a.size),t≤m→m<i2→RK kf (b[k2-1]'hk1) a[m]:=fun m hm z z'=>by
       have:=bg m z z'
       unfold bey at this
       rw [if_neg Bool.false_ne_true,A4 (by omega:0+m<a.size)] at this
       exact KeyOrd.kle_of_klt (by show O.blt _ _=true;simpa using this)
      have j3:JH kf a b (o2++(a.extract t i2).reverse) t k2:=by
       have e:(o2++(a.extract t i2).reverse).toList=o2.toList++(a.toList.reverse.drop (a.size-i2)).take (i2-t):=by rw [Fd a f2 ht];simp
       show J _ _ _ (o2++(a.extract t i2).reverse).toList _ _
       rw [e,show a.size-t=a.size-i2+(i2-t) by omega]
       refine j2.KN pa' fun x hx y hy=>?_
       rw [Fd a f2 ht,List.mem_reverse] at hx
       simp only [Array.toList_extract,List.extract_eq_take_drop] at hx
       obtain ⟨m,hm,hm2,rfl⟩:=Cn hx
       obtain ⟨m',hm',z,rfl⟩:=Cg f4 hy
       exact KeyOrd.kle_trans (lb (by omega) (by omega:m'≤k2-1)) (runB _ hm2 (by omega) (by omega))
      dsimp only
      have pre:(i2-t > 0/\t=0)\/1≤t:=by omega
      rcases pre with ⟨zk,z1⟩|z1
      ·refine Ae zk (Ae (by simpa using z1) ?_)
       exact wpS_pure ⟨S3,.inl ⟨_,rfl,fDone (by omega) f4 j3 (.inl z1)⟩⟩
      have t2:t≤a.size:=by omega
      have f5':t+k2+1≤na+nb:=by omega
      by_cases zk:i2-t > 0
      ·refine Ae zk (Ag (by simp;omega) ?_)
       generalize i2-t=c
       generalize o2++(a.extract t i2).reverse=o3 at j3 ⊢
       clear bl bg ht runB zk
       generalize t=i3 at j3 runA z1 t2 f5' ⊢
       exact key c i3 o3 j3 runA z1 t2 f5'
      ·refine Ag zk ?_
       have zk0:t=i2:=by omega
       have eo:o2++(a.extract t i2).reverse=o2:=by rw [zk0];simp;omega
       rw [eo,zk0] at j3
       rw [zk0] at runA z1 t2 f5'
       generalize i2-t=c
       exact key c i2 o2 j3 runA z1 t2 f5'
     case v2 =>
      intro c i3 o3 j3 runA z1 t2 f5'
      try dsimp only
      have hi3:i3-1<a.size:=by omega
      refine wpS_bind (BD hk1 ?_)
      have j4:=oneB z1 t2 (by omega) f4 j3 (runA _ (by omega) (by omega))
      by_cases z3:k2-1=1
      ·refine Ae (by simpa using z3) ?_
       exact wpS_pure ⟨S3,.inl ⟨_,rfl,fFirst t2 (by omega) j4 z3⟩⟩
      refine Ag (by simpa using z3) ?_
      refine wpS_bind (BD (by omega:i3-1<a.size) ?_)
      refine (fun (key:∀(c' k5:Nat) (o5:Array Keyed),JH kf a b o5 i3 k5→(∀m (hm:m<b.size),m<k5→RK kf b[m] (a[i3-1]'hi3))→2≤k5→k5≤b.size→i3+k5+1≤na+nb→(?G3:Nat→Nat→Array Keyed→Prop) c' k5 o5)=>?u3) ?v3
      case u3 =>
       refine wpS_bind (Dq C S3.sb (am (by omega)) hb (by omega) (by omega) (FV pb (by omega)) fun t' ht' bl' bg'=>?_)
       have runB':∀m (hm:m<b.size),m<t'→RK kf b[m] (a[i3-1]'(by omega)):=fun m hm z=>by
        have:=bl' m z
        unfold bey at this
        rw [if_pos rfl,A4 (by omega:0+m<b.size)] at this
        exact KeyOrd.kle_of_klt (by show O.blt _ _=true;simpa using this)
       have runA':∀m (hm:m<b.size),t'≤m→m<k2-1→RK kf (a[i3-1]'(by omega)) b[m]:=fun m hm z z'=>by
        have:=bg' m z z'
        unfold bey at this
        rw [if_pos rfl,A4 (by omega:0+m<b.size)] at this
        show O.blt _ _=false
        simpa using this
       have j5:JH kf a b (o3.push (b[k2-1]'hk1)++(b.extract t' (k2-1)).reverse) i3 t':=by
        have e:(o3.push (b[k2-1]'hk1)++(b.extract t' (k2-1)).reverse).toList=(o3.push (b[k2-1]'hk1)).toList++(b.toList.reverse.drop (b.size-(k2-1))).take (k2-1-t'):=by rw [Fd b (by omega) ht'];simp
        show J _ _ _ (o3.push (b[k2-1]'hk1)++(b.extract t' (k2-1)).reverse).toList _ _
        rw [e,show b.size-t'=b.size-(k2-1)+(k2-1-t') by omega]
        refine j4.Lr pb' fun x hx y hy=>?_
        rw [Fd b (by omega) ht',List.mem_reverse] at hx
        simp only [Array.toList_extract,List.extract_eq_take_drop] at hx
        obtain ⟨m,hm,hm2,rfl⟩:=Cn hx
        obtain ⟨m',hm',z,rfl⟩:=Cg t2 hy
        exact KeyOrd.kle_trans (la (by omega) (by omega:m'≤i3-1)) (runA' _ hm2 (by omega) (by omega))
       dsimp only
       have pre:(k2-1-t' > 0/\t'=1)\/(k2-1-t' > 0/\t'=0)\/2≤t':=by omega
       rcases pre with ⟨zk',z4⟩|⟨zk',z4⟩|z4
       ·refine Ae zk' (Ae (by simpa using z4) ?_)
        exact wpS_pure ⟨S3,.inl ⟨_,rfl,fFirst t2 (by omega) j5 z4⟩⟩
       ·refine Ae zk' (Ag (by simp;omega) (Ae (by simpa using z4) ?_))
        exact wpS_pure ⟨S3,.inl ⟨_,rfl,fDone t2 (by omega) j5 (.inr z4)⟩⟩
       have t4:t'≤b.size:=by omega
       have f6':i3+t'+1≤na+nb:=by omega
       by_cases zk':k2-1-t' > 0
       ·refine Ae zk' (Ag (by simp;omega) (Ag (by simp;omega) ?_))
        generalize k2-1-t'=c'
        generalize o3.push (b[k2-1]'hk1)++(b.extract t' (k2-1)).reverse=o5 at j5 ⊢
        clear bl' bg' ht' runA' zk'
        generalize t'=k5 at j5 runB' z4 t4 f6' ⊢
        exact key c' k5 o5 j5 runB' z4 t4 f6'
       ·refine Ag zk' ?_
        have zk0:t'=k2-1:=by omega
        have eo:o3.push (b[k2-1]'hk1)++(b.extract t' (k2-1)).reverse=o3.push (b[k2-1]'hk1):=by rw [zk0];simp;omega
        rw [eo,zk0] at j5
        rw [zk0] at runB' z4 t4 f6'
        generalize k2-1-t'=c'
        exact key c' _ _ j5 runB' z4 t4 f6'
      case v3 =>
       intro c' k5 o5 j5 runB' z4 t4 f6'
       try dsimp only
       refine wpS_bind (BD (by omega:i3-1<a.size) ?_)
       have j6:=oneA z1 t2 (by omega) t4 j5 (runB' _ (by omega) (by omega))
       by_cases z5:i3-1=0
       ·refine Ae (by simpa using z5) ?_
        exact wpS_pure ⟨S3,.inl ⟨_,rfl,fDone (by omega) t4 j6 (.inl z5)⟩⟩
       refine Ag (by simpa using z5) ?_
       split
       ·exact wpS_pure ⟨S3,.inr ⟨_,_,_,_,_,_,rfl,j6,by omega,by omega,z4,t4,by omega⟩⟩
       ·exact wpS_pure ⟨S3,_,_,_,_,_,_,rfl,j6,by omega,by omega,z4,t4,by omega⟩
end
theorem Kh (p:Nat):∀(M:List Keyed) (n:Nat) (xs:Array Keyed),p+n+M.length≤xs.size→((M.zipIdx n).foldl (fun a x=>a.setIfInBounds (p+x.2) x.1) xs).toList=xs.toList.take (p+n)++M++xs.toList.drop (p+n+M.length)
 | [],n,xs,h=>by simp
 | m::r,n,xs,h=>by
  rw [List.length_cons] at h
  rw [List.zipIdx_cons,List.foldl_cons,Kh p r (n+1) _ (by simp;omega)]
  have hl:p+n<xs.toList.length:=by simp;omega
  simp only [Array.toList_setIfInBounds]
  rw [List.drop_set_of_lt (by omega),show p+(n+1)=p+n+1 by omega,List.take_add_one,List.take_set_of_le (by omega),List.getElem?_set_self hl,List.length_cons]
  simp [show p+n+1+r.length=p+n+(r.length+1) by omega]
section
variable {prog:Program}{w:World}{A:Around}{E:Value→Shared→Prop}{s:Shared}{κ:SortKind}{O:KeyOrd}{kf:Value→O.α}{a₀:Array Keyed}{st:SortSt}
theorem J7 {xs:Array Keyed}{lo hi:Nat}(h:hi≤xs.size) (u:Up kf xs lo hi):(xs.extract lo hi).toList.Pairwise (RK kf):=by
 rw [List.pairwise_iff_getElem]
 intro i j hi' hj hij
 have h1:(xs.extract lo hi).size=hi-lo:=by simp;omega
 have e:∀k (hk:k<(xs.extract lo hi).toList.length),(xs.extract lo hi).toList[k]=xs[lo+k]'(by simp at hk;omega):=fun k hk=>by simp
 rw [e i hi',e j hj]
 have hi2:i<hi-lo:=by simp at hi';omega
 have hj2:j<hi-lo:=by simp at hj;omega
 have:=u (lo+i) (lo+j) (by omega) (by omega) (by omega)
 rw [A4 (by omega:lo+i<xs.size),A4 (by omega:lo+j<xs.size)] at this
 exact this
theorem Lu {xs:Array Keyed}{lo hi:Nat}(h:hi≤xs.size) {p:Keyed}(hp:p∈(xs.extract lo hi).toList):∃m,lo≤m/\m<hi/\∃(hm:m<xs.size),p=xs[m]:=by
 simp only [Array.toList_extract,List.extract_eq_take_drop] at hp
 obtain ⟨m,hm,hm2,rfl⟩:=Cn hp
 exact ⟨lo+m,by omega,by omega,hm2,rfl⟩
theorem M7 (xs:Array Keyed) {i j k:Nat}(h1:i≤j) (h2:j≤k) (h3:k≤xs.size):xs.toList=xs.toList.take i++((xs.extract i j).toList++(xs.extract j k).toList)++xs.toList.drop k:=by
 simp only [Array.toList_extract,List.extract_eq_take_drop]
 have e1:List.take (k-i) (xs.toList.drop i)=List.take (j-i) (xs.toList.drop i)++List.take (k-j) (xs.toList.drop j):=by
  rw [show k-i=(j-i)+(k-j) by omega,List.take_add,List.drop_drop,show i+(j-i)=j by omega]
 have e2:xs.toList.drop i=List.take (k-i) (xs.toList.drop i)++xs.toList.drop k:=by
  conv=>lhs;rw [←List.take_append_drop (k-i) (xs.toList.drop i),List.drop_drop,show i+(k-i)=k by omega]
 rw [←e1,List.append_assoc,←e2,List.take_append_drop]
theorem O0 {M:Model}{σ:Type}{t u:σ}{Q:PUnit→σ→Prop}(h:Q ⟨⟩ t):wpS M A E s (set t:StateT σ Sem PUnit) Q u:=by
 unfold wpS
 exact wpAny_pure ⟨rfl,h⟩
theorem Mc (C:Cmp prog w A s κ O kf a₀) (B:SB κ a₀ st) {i sa na pw nb pw':Nat}(p1:(pendingOf st)[i]?=some (sa,na,pw)) (p2:(pendingOf st)[i+1]?=some (sa+na,nb,pw')) (n1:1≤na) (n2:1≤nb) (hz:sa+na+nb≤a₀.size)
  (ua:Up kf (arrOf st) sa (sa+na)) (ub:Up kf (arrOf st) (sa+na) (sa+na+nb)) {Q:Bool→SortSt→Prop}
  (h:∀st',SB κ a₀ st'→pendingOf st'=((pendingOf st).setIfInBounds i (sa,na+nb,pw)).eraseIdxIfInBounds (i+1)→Up kf (arrOf st') sa (sa+(na+nb))→(∀k,k<sa\/sa+na+nb≤k→KX kf (arrOf st') k=KX kf (arrOf st) k)→Q true st') :
  wpS (model prog w) A E s (mergeAt' i) Q st:=by
 have sz:=B.size
 refine wpS_bind (wpS_get ?_)
 rw [show (sortPriv% PySem.Builtin.SortState.pending) st=pendingOf st from rfl,p1,p2]
 dsimp only
 refine wpS_bind (O0 (t:=SortSt.mk' (kindOf st) (arrOf st) (((pendingOf st).setIfInBounds i (sa,na+nb,pw)).eraseIdxIfInBounds (i+1)) (gallopOf st) (failedOf st)) ?_)
 have memA:∀p∈(arrOf st).toList,p∈a₀.toList:=fun p hp=>(Array.perm_iff_toList_perm.mp B.perm).mem_iff.mp hp
 have e1:sa+na<(arrOf st).size:=by omega
 refine wpS_bind (BD e1 ?_)
 generalize hst1:SortSt.mk' (kindOf st) (arrOf st) (((pendingOf st).setIfInBounds i (sa,na+nb,pw)).eraseIdxIfInBounds (i+1)) (gallopOf st) (failedOf st)=st1
 have B1:SB κ a₀ st1:=by rw [←hst1];exact ⟨B.perm,B.kind,B.failed⟩
 have ar1:arrOf st1=arrOf st:=by rw [←hst1]
 have pe1:pendingOf st1=((pendingOf st).setIfInBounds i (sa,na+nb,pw)).eraseIdxIfInBounds (i+1):=by rw [←hst1]
 have keyB:KX kf (arrOf st) (sa+na)=kf ((arrOf st)[sa+na]'e1).1:=A4 e1
 refine wpS_bind (Dq (left:=false) (key:=(arrOf st)[sa+na]'e1) (base:=sa) (n:=na) (hint:=0) C B1 (memA _ (by simp)) memA (by omega) (by omega) ua fun k hk bl bg=>?_)
 have lowA:∀j,sa≤j→j<sa+k→O.kle (KX kf (arrOf st) j) (KX kf (arrOf st) (sa+na)):=fun j j1 j2=>by
  have:=bl (j-sa) (by omega)
  unfold bey at this
  rw [if_neg Bool.false_ne_true,←keyB,show sa+(j-sa)=j by omega] at this
  show O.blt _ _=false
  simpa using this
 have highA:∀j,sa+k≤j→j<sa+na→O.kle (KX kf (arrOf st) (sa+na)) (KX kf (arrOf st) j):=fun j j1 j2=>by
  have:=bg (j-sa) (by omega) (by omega)
  unfold bey at this
  rw [if_neg Bool.false_ne_true,←keyB,show sa+(j-sa)=j by omega] at this
  exact KeyOrd.kle_of_klt (by show O.blt _ _=true;simpa using this)
 dsimp only
 by_cases k0:na-k=0
 ·refine Ae (by simpa using k0) ?_
  refine wpS_pure (h st1 B1 pe1 ?_ fun z _=>by rw [ar1])
  rw [ar1]
  intro x y h1 h2 h3
  by_cases hx:x<sa+na
  ·by_cases hy:y<sa+na
   ·exact ua x y h1 h2 hy
   ·exact KeyOrd.kle_trans (lowA x h1 (by omega)) (ub _ y (Nat.le_refl _) (by omega) (by omega))
  ·exact ub x y (by omega) h2 (by omega)
 refine Ag (by simpa using k0) ?_
 have e2:sa+k+(na-k)-1<(arrOf st).size:=by omega
 refine wpS_bind (BD e2 ?_)
 have keyA:KX kf (arrOf st) (sa+na-1)=kf ((arrOf st)[sa+k+(na-k)-1]'e2).1:=by
  rw [←A4 (kf:=kf) e2]
  congr 1
  omega
 refine wpS_bind (Dq (left:=true) (key:=(arrOf st)[sa+k+(na-k)-1]'e2) (base:=sa+na) (n:=nb) (hint:=nb-1) C B1 (memA _ (by simp)) memA (by omega) (by omega) ub fun k' hk' bl' bg'=>?_)
 have lowB:∀j,sa+na≤j→j<sa+na+k'→O.kle (KX kf (arrOf st) j) (KX kf (arrOf st) (sa+na-1)):=fun j j1 j2=>by
  have:=bl' (j-(sa+na)) (by omega)
  unfold bey at this
  rw [if_pos rfl,←keyA,show sa+na+(j-(sa+na))=j by omega] at this
  exact KeyOrd.kle_of_klt this
 have highB:∀j,sa+na+k'≤j→j<sa+na+nb→O.kle (KX kf (arrOf st) (sa+na-1)) (KX kf (arrOf st) j):=fun j j1 j2=>by
  have:=bg' (j-(sa+na)) (by omega) (by omega)
  unfold bey at this
  rw [if_pos rfl,←keyA,show sa+na+(j-(sa+na))=j by omega] at this
  exact this
 dsimp only
 by_cases k1:k'=0
 ·refine Ae (by simpa using k1) ?_
  refine wpS_pure (h st1 B1 pe1 ?_ fun z _=>by rw [ar1])
  rw [ar1]
  intro x y h1 h2 h3
  by_cases hx:x<sa+na
  ·by_cases hy:y<sa+na
   ·exact ua x y h1 h2 hy
   ·exact KeyOrd.kle_trans (ua x (sa+na-1) h1 (by omega) (by omega)) (highB y (by omega) (by omega))
  ·exact ub x y (by omega) h2 (by omega)
 refine Ag (by simpa using k1) ?_
 generalize hX:(arrOf st).extract (sa+k) (sa+na)=X
 generalize hY:(arrOf st).extract (sa+na) (sa+na+k')=Y
 have pX:X.toList.Pairwise (RK kf):=by rw [←hX];exact J7 (by omega) fun a b q1 q2 q3=>ua a b (by omega) q2 q3
 have pY:Y.toList.Pairwise (RK kf):=by rw [←hY];exact J7 (by omega) fun a b q1 q2 q3=>ub a b (by omega) q2 (by omega)
 have zX:X.size=na-k:=by rw [←hX];simp;omega
 have zY:Y.size=k':=by rw [←hY];simp;omega
 have mX:∀p∈X.toList,∃m,sa+k≤m/\m<sa+na/\∃(hm:m<(arrOf st).size),p=(arrOf st)[m]:=fun p hp=>Lu (by omega) (by rw [hX];exact hp)
 have mY:∀p∈Y.toList,∃m,sa+na≤m/\m<sa+na+k'/\∃(hm:m<(arrOf st).size),p=(arrOf st)[m]:=fun p hp=>Lu (by omega) (by rw [hY];exact hp)
 have y0:Y[0]'(by omega)=(arrOf st)[sa+na]'e1:=by subst hY;simp
 have xl:X[X.size-1]'(by omega)=(arrOf st)[sa+na-1]'(by omega):=by
  subst hX
  rw [Array.getElem_extract]
  congr 1
  rw [zX]
  omega
 have first:∀p∈X.toList,RK kf (Y[0]'(by omega)) p:=fun p hp=>by
  obtain ⟨m,q1,q2,hm,rfl⟩:=mX p hp
  rw [y0]
  have:=highA m q1 q2
  rw [keyB,A4 hm] at this
  exact this
 have last:∀p∈Y.toList,RK kf p (X[X.size-1]'(by omega)):=fun p hp=>by
  obtain ⟨m,q1,q2,hm,rfl⟩:=mY p hp
  rw [xl]
  have:=lowB m q1 q2
  rw [A4 hm,A4 (by omega:sa+na-1<(arrOf st).size)] at this
  exact this
 have inX:∀p∈X.toList,p∈a₀.toList:=fun p hp=>by
  obtain ⟨m,q1,q2,hm,rfl⟩:=mX p hp
  exact memA _ (by simp)
 have inY:∀p∈Y.toList,p∈a₀.toList:=fun p hp=>by
  obtain ⟨m,q1,q2,hm,rfl⟩:=mY p hp
  exact memA _ (by simp)
 have fin:∀(M:Array Keyed) (st2:SortSt),Still κ a₀ st1 st2→Fin (RK kf) X.toList Y.toList M.toList→Q true (setArr st2 (M.toList.zipIdx.foldl (fun a x=>a.setIfInBounds (sa+k+x.2) x.1) (arrOf st2))):=fun M st2 S f=>by
  have lM:M.toList.length=(na-k)+k':=by rw [f.1.length_eq,List.length_append];simp [zX,zY]
  have ar2:arrOf st2=arrOf st:=S.arr.trans ar1
  have el:=Kh (sa+k) M.toList 0 (arrOf st) (by omega)
  rw [Nat.add_zero,lM,show sa+k+(na-k+k')=sa+na+k' by omega] at el
  generalize hN:M.toList.zipIdx.foldl (fun a x=>a.setIfInBounds (sa+k+x.2) x.1) (arrOf st2)=N
  have eN:N.toList=(arrOf st).toList.take (sa+k)++M.toList++(arrOf st).toList.drop (sa+na+k'):=by rw [←hN,ar2];exact el
  have perm:N.Perm (arrOf st2):=by
   rw [ar2,Array.perm_iff_toList_perm,eN]
   have sp:=M7 (arrOf st) (i:=sa+k) (j:=sa+na) (k:=sa+na+k') (by omega) (by omega) (by omega)
   rw [hX,hY] at sp
   conv=>rhs;rw [sp]
   exact List.Perm.append_right _ (List.Perm.append_left _ f.1)
  have lt:((arrOf st).toList.take (sa+k)).length=sa+k:=by simp;omega
  have nOut:∀z,z<sa+k\/sa+na+k'≤z→N[z]?=(arrOf st)[z]?:=fun z hz'=>by
   rw [←Array.getElem?_toList,←Array.getElem?_toList,eN]
   rcases hz' with q|q
   ·rw [List.append_assoc,List.getElem?_append_left (by omega),List.getElem?_take_of_lt q]
   ·rw [List.getElem?_append_right (by rw [List.length_append];omega),List.length_append,lt,lM,List.getElem?_drop]
    congr 1
    omega
  have nIn:∀z,sa+k≤z→z<sa+na+k'→N[z]?=M[z-(sa+k)]?:=fun z q1 q2=>by
   rw [←Array.getElem?_toList,←Array.getElem?_toList,eN,List.append_assoc,List.getElem?_append_right (by omega),lt,List.getElem?_append_left (by omega)]
  have upM:Up kf M 0 M.size:=FV f.2 (Nat.le_refl _)
  have sM:M.size=(na-k)+k':=by rw [←lM];simp
  have inM:∀z,sa+k≤z→z<sa+na+k'→∃m,sa+k≤m/\m<sa+na+k'/\KX kf N z=KX kf (arrOf st) m:=fun z q1 q2=>by
   have hz2:z-(sa+k)<M.size:=by omega
   have hm:M[z-(sa+k)]∈X.toList++Y.toList:=f.1.mem_iff.mp (by simp)
   rw [Az (nIn z q1 q2),A4 hz2]
   rcases List.mem_append.mp hm with q|q
   ·obtain ⟨m,q1,q2,hm,e⟩:=mX _ q
    exact ⟨m,q1,by omega,by rw [e,A4 hm]⟩
   ·obtain ⟨m,q1,q2,hm,e⟩:=mY _ q
    exact ⟨m,by omega,q2,by rw [e,A4 hm]⟩
  refine h _ (S.sb.put perm) (S.pend.trans pe1) ?_ fun z hz'=>Az (nOut z (by omega))
  show Up kf N sa (sa+(na+nb))
  intro x y h1 h2 h3
  by_cases x1:x<sa+k
  ·rw [Az (nOut x (.inl x1))]
   have all:∀m,sa+k≤m→m<sa+na+nb→O.kle (KX kf (arrOf st) x) (KX kf (arrOf st) m):=fun m q1 q2=>by
    by_cases q3:m<sa+na
    ·exact ua x m h1 (by omega) q3
    ·exact KeyOrd.kle_trans (lowA x h1 x1) (ub _ m (Nat.le_refl _) (by omega) q2)
   by_cases y1:y<sa+k
   ·rw [Az (nOut y (.inl y1))]
    exact ua x y h1 h2 (by omega)
   ·by_cases y2:y<sa+na+k'
    ·obtain ⟨m,q1,q2,e⟩:=inM y (by omega) y2
     rw [e]
     exact all m q1 (by omega)
    ·rw [Az (nOut y (.inr (by omega)))]
     exact all y (by omega) (by omega)
  ·by_cases x2:x<sa+na+k'
   ·by_cases y2:y<sa+na+k'
    ·rw [Az (nIn x (by omega) x2),Az (nIn y (by omega) y2)]
     exact upM _ _ (by omega) (by omega) (by omega)
    ·rw [Az (nOut y (.inr (by omega)))]
     obtain ⟨m,q1,q2,e⟩:=inM x (by omega) x2
     rw [e]
     by_cases q3:m<sa+na
     ·exact KeyOrd.kle_trans (ua m (sa+na-1) (by omega) (by omega) (by omega)) (highB y (by omega) (by omega))
     ·exact ub m y (by omega) (by omega) (by omega)
   ·rw [Az (nOut x (.inr (by omega))),Az (nOut y (.inr (by omega)))]
    exact ub x y (by omega) h2 (by omega)
 have fin2:∀(M:Array Keyed) (st2:SortSt),Still κ a₀ st1 st2→Fin (RK kf) X.toList Y.toList M.toList→failedOf (setArr st2 (M.toList.zipIdx.foldl (fun a x=>a.setIfInBounds (sa+k+x.2) x.1) (arrOf st2)))=none:=fun M st2 S _=>S.sb.failed
 by_cases le:na-k≤k'
 ·refine Ae le ?_
  refine wpS_bind (Ma C B1 inX inY (by omega) (by omega) pX pY first last fun M st2 S f=>?_)
  refine wpS_bind (wpS_modify (wpS_bind (wpS_get ?_)))
  have:=fin M st2 S f
  have e:=fin2 M st2 S f
  refine wpS_pure ?_
  show Q (failedOf (setArr st2 _)).isNone _
  rw [e]
  exact this
 ·refine Ag le ?_
  refine wpS_bind (Mb C B1 inX inY (by omega) (by omega) pX pY first last fun M st2 S f=>?_)
  refine wpS_bind (wpS_modify (wpS_bind (wpS_get ?_)))
  have:=fin M st2 S f
  have e:=fin2 M st2 S f
  refine wpS_pure ?_
  show Q (failedOf (setArr st2 _)).isNone _
  rw [e]
  exact this
def Chain (kf:Value→O.α) (xs:Array Keyed):Nat→List (Nat×Nat×Nat)→Nat→Prop
 | x,[],y=>x=y
 | x,(s,n,_)::r,y=>s=x/\1≤n/\Up kf xs s (s+n)/\Chain kf xs (x+n) r y
theorem Chain.le {xs:Array Keyed}:∀{l:List (Nat×Nat×Nat)}{x y:Nat},Chain kf xs x l y→x+l.length≤y
 | [],x,y,h=>by have h:x=y:=h;simp;omega
 | (s,n,p)::r,x,y,h=>by
  obtain ⟨_,h1,_,h2⟩:=h
  have:=Chain.le h2
  rw [List.length_cons]
  omega
theorem Chain.app {xs:Array Keyed}:∀{l m:List (Nat×Nat×Nat)}{x z:Nat},Chain kf xs x (l++m) z↔∃y,Chain kf xs x l y/\Chain kf xs y m z
 | [],m,x,z=>⟨fun h=>⟨x,rfl,h⟩,fun ⟨y,h1,h2⟩=>by have h1:x=y:=h1;rw [h1];exact h2⟩
 | (s,n,p)::r,m,x,z=>by
  constructor
  ·rintro ⟨h1,h2,h3,h4⟩
   obtain ⟨y,h5,h6⟩:=Chain.app.mp h4
   exact ⟨y,⟨h1,h2,h3,h5⟩,h6⟩
  ·rintro ⟨y,⟨h1,h2,h3,h5⟩,h6⟩
   exact ⟨h1,h2,h3,Chain.app.mpr ⟨y,h5,h6⟩⟩
theorem Chain.keep {xs ys:Array Keyed}:∀{l:List (Nat×Nat×Nat)}{x y:Nat},Chain kf xs x l y→(∀k,x≤k→k<y→KX kf ys k=KX kf xs k)→Chain kf ys x l y
 | [],x,y,h,_=>h
 | (s,n,p)::r,x,y,⟨h1,h2,h3,h4⟩,k=>by
  have:=Chain.le h4
  subst h1
  exact ⟨rfl,h2,fun i j q1 q2 q3=>by rw [k i q1 (by omega),k j (by omega) (by omega)];exact h3 i j q1 q2 q3,Chain.keep h4 fun z z1 z2=>k z (by omega) z2⟩
theorem Nv (C:Cmp prog w A s κ O kf a₀) (B:SB κ a₀ st) {i hi:Nat}(c:Chain kf (arrOf st) 0 (pendingOf st).toList hi) (h1:i+1<(pendingOf st).size) (hz:hi≤a₀.size) {Q:Bool→SortSt→Prop}
  (h:∀st',SB κ a₀ st'→(pendingOf st').size+1=(pendingOf st).size→Chain kf (arrOf st') 0 (pendingOf st').toList hi→(∀k,hi≤k→KX kf (arrOf st') k=KX kf (arrOf st) k)→Q true st'):wpS (model prog w) A E s (mergeAt' i) Q st:=by
 obtain ⟨⟨sa,na,pw⟩,e1⟩:∃x,(pendingOf st)[i]?=some x:=⟨_,getElem?_pos _ i (by omega)⟩
 obtain ⟨⟨sb,nb,pw'⟩,e2⟩:∃x,(pendingOf st)[i+1]?=some x:=⟨_,getElem?_pos _ (i+1) h1⟩
 have sp:(pendingOf st).toList=(pendingOf st).toList.take i++(sa,na,pw)::(sb,nb,pw')::(pendingOf st).toList.drop (i+2):=by
  have l1:i<(pendingOf st).toList.length:=by simp;omega
  have l2:i+1<(pendingOf st).toList.length:=by simp;omega
  conv=>lhs;rw [←List.take_append_drop i (pendingOf st).toList]
  congr 1
  rw [List.drop_eq_getElem_cons l1,List.drop_eq_getElem_cons l2]
  have g1:(pendingOf st).toList[i]=(sa,na,pw):=by
   rw [←Array.getElem?_toList,List.getElem?_eq_getElem l1] at e1
   exact Option.some.inj e1
  have g2:(pendingOf st).toList[i+1]=(sb,nb,pw'):=by
   rw [←Array.getElem?_toList,List.getElem?_eq_getElem l2] at e2
   exact Option.some.inj e2
  rw [g1,g2]
 have ln:((pendingOf st).toList.take i).length=i:=by simp;omega
 generalize (pendingOf st).toList.take i=l1 at sp ln
 generalize (pendingOf st).toList.drop (i+2)=l2 at sp
 rw [sp] at c
 obtain ⟨y,c1,⟨q1,q2,q3,⟨q4,q5,q6,c2⟩⟩⟩:=Chain.app.mp c
 subst q1 q4
 have le1:=c2.le
 refine Mc C B e1 e2 q2 q5 (by omega) q3 q6 fun st' B' pe u k=>h st' B' ?_ ?_ fun z hz'=>k z (.inr (by omega))
 ·have l0:(pendingOf st').toList.length+1=(pendingOf st).toList.length:=by
   rw [pe]
   simp only [Array.toList_eraseIdxIfInBounds,Array.toList_setIfInBounds]
   rw [List.length_eraseIdx_of_lt (by simp;omega),List.length_set]
   have:0<(pendingOf st).toList.length:=by simp;omega
   omega
  simpa using l0
 ·have pl:(pendingOf st').toList=l1++(sa,na+nb,pw)::l2:=by
   rw [pe]
   simp only [Array.toList_eraseIdxIfInBounds,Array.toList_setIfInBounds,sp]
   rw [List.set_append_right _ _ (by omega),ln,Nat.sub_self,List.set_cons_zero,List.eraseIdx_append_of_length_le (by omega),ln]
   simp
  rw [pl]
  refine Chain.app.mpr ⟨sa,c1.keep fun z _ z2=>k z (.inl z2),rfl,by omega,u,?_⟩
  rw [show sa+(na+nb)=sa+na+nb by omega]
  exact c2.keep fun z z1 _=>k z (.inr z1)
theorem Chain.same {xs:Array Keyed}:∀{l m:List (Nat×Nat×Nat)}{x y:Nat},l.map (fun v=>(v.1,v.2.1))=m.map (fun v=>(v.1,v.2.1))→Chain kf xs x l y→Chain kf xs x m y
 | [],[],_,_,_,h=>h
 | [],_::_,_,_,e,_=>by cases e
 | _::_,[],_,_,e,_=>by cases e
 | (a,n,p)::l,(b,k,q)::m,x,y,e,⟨h1,h2,h3,h4⟩=>by
  have e:=List.cons.inj e
  have e1:(a,n)=(b,k):=e.1
  cases e1
  exact ⟨h1,h2,h3,Chain.same e.2 h4⟩
theorem J4 {st3:SortSt}{lo m x:Nat}(B3:SB κ a₀ st3) (c3:Chain kf (arrOf st3) 0 (pendingOf st3).toList lo) (u3:Up kf (arrOf st3) lo (lo+m)) (h1:1≤m) (h2:lo+m≤a₀.size) (hx:x≤lo\/a₀.size≤lo) :
  SB κ a₀ (setPending st3 ((pendingOf st3).push (lo,m,0)))/\∃lo',((none,lo+m):Option Unit×Nat)=(none,lo')/\(x+1≤lo'\/a₀.size≤lo')/\lo'≤a₀.size/\Chain kf (arrOf (setPending st3 ((pendingOf st3).push (lo,m,0)))) 0 (pendingOf (setPending st3 ((pendingOf st3).push (lo,m,0)))).toList lo':=by
 refine ⟨⟨B3.perm,B3.kind,B3.failed⟩,lo+m,rfl,by omega,h2,?_⟩
 show Chain kf (arrOf st3) 0 ((pendingOf st3).push (lo,m,0)).toList (lo+m)
 rw [Array.toList_push]
 exact Chain.app.mpr ⟨lo,c3,rfl,h1,u3,rfl⟩
theorem Qa (C:Cmp prog w A s κ O kf a₀) (B:SB κ a₀ st) (p0:pendingOf st=#[]) {Q:Unit→SortSt→Prop}
    (h:∀st',SB κ a₀ st'→Up kf (arrOf st') 0 a₀.size→Q () st'):wpS (model prog w) A E s sortRuns' Q st:=by
  rw [sortRuns'_eq]
  refine wpS_bind (wpS_get ?_)
  dsimp only
  simp only [B.size]
  generalize minRun' a₀.size a₀.size 0=mr
  refine wpS_bind (wpS_mono (wpS_forRange
    (I:=fun x c st'=>SB κ a₀ st'/\∃lo,c=(none,lo)/\(x≤lo\/a₀.size≤lo)/\lo≤a₀.size/\Chain kf (arrOf st') 0 (pendingOf st').toList lo)
    (Q:=fun c st'=>SB κ a₀ st'/\c=(none,a₀.size)/\Chain kf (arrOf st') 0 (pendingOf st').toList a₀.size) ?step ?fin ?init) ?post)
  case init=>exact ⟨B,0,rfl,.inl (Nat.le_refl _),Nat.zero_le _,by rw [p0];rfl⟩
  case fin =>
    rintro c st' ⟨B',lo,rfl,q1,q2,c⟩
    obtain rfl:lo=a₀.size:=by omega
    exact ⟨B',rfl,c⟩
  case post =>
    rintro c st' ⟨B',rfl,c⟩
    dsimp only
    refine wpS_bind (wpS_mono (wpS_forRange
      (I:=fun x c st2=>c=(none,())/\SB κ a₀ st2/\Chain kf (arrOf st2) 0 (pendingOf st2).toList a₀.size/\((pendingOf st2).size+x≤a₀.size\/(pendingOf st2).size≤1))
      (Q:=fun c st2=>c=(none,())/\SB κ a₀ st2/\Chain kf (arrOf st2) 0 (pendingOf st2).toList a₀.size/\(pendingOf st2).size≤1) ?t1 ?t2 ?t3) ?t4)
    case t3=>exact ⟨rfl,B',c,.inl (by have:=c.le;simp at this;omega)⟩
    case t2 =>
      rintro c2 st2 ⟨rfl,B2,c2,q⟩
      exact ⟨rfl,B2,c2,by omega⟩
    case t4 =>
      rintro c2 st2 ⟨rfl,B2,c2,q⟩
      refine wpS_pure (h st2 B2 ?_)
      generalize (pendingOf st2)=P at c2 q
      obtain ⟨l⟩:=P
      match l,q,c2 with
      | [],_,c2 =>
        have c2:0=a₀.size:=c2
        intro i j _ _ q3
        omega
      | [(a,n,p)],_,c2 =>
        obtain ⟨e1,_,u,e2⟩:=c2
        have e2:0+n=a₀.size:=e2
        subst e1
        rw [←e2]
        exact u
    case t1 =>
      rintro x c2 st2 _ hx ⟨rfl,B2,c2,q⟩
      refine wpS_bind (wpS_get ?_)
      by_cases z:(pendingOf st2).size≤1
      · refine Ae z ?_
        exact wpS_pure ⟨rfl,B2,c2,z⟩
      · refine Ag z ?_
        generalize hi:(if Option.any (fun x=>decide (x<(pendingOf st2)[(pendingOf st2).size-2+1]?.elim 0 (fun x=>x.2.1))) (if (pendingOf st2).size-2 > 0 then Option.map (fun x=>x.2.1) (pendingOf st2)[(pendingOf st2).size-2-1]? else none)=true then (pendingOf st2).size-2-1 else (pendingOf st2).size-2)=i
        have aux:∀(c:Prop) [Decidable c] (u v N:Nat),u+1<N→v+1<N→(if c then u else v)+1<N:=fun c _ u v N h1 h2=>by split <;> assumption
        refine wpS_bind (Nv C B2 c2 (by rw [←hi];exact aux _ _ _ _ (by omega) (by omega)) (Nat.le_refl _) fun st3 B3 z3 c3 _=>?_)
        exact wpS_pure ⟨rfl,B3,c3,by omega⟩
  case step =>
    rintro x c st' _ hx ⟨B',lo,rfl,q1,q2,c⟩
    dsimp only
    by_cases z:lo≥a₀.size
    · refine Ae z ?_
      obtain rfl:lo=a₀.size:=by omega
      exact wpS_pure ⟨B',rfl,c⟩
    refine Ag z ?_
    refine wpS_bind (Pa C (by omega) (by omega) B' fun n st2 B2 K2 n1 n2 u2=>?_)
    have c2:Chain kf (arrOf st2) 0 (pendingOf st2).toList lo:=by
      rw [K2.pend]
      exact c.keep fun k _ k2=>Az (K2.low k k2)
    dsimp only
    by_cases hm:n<mr
    all_goals first
      | (refine Ae hm ?_
         refine wpS_bind (wpS_lift (wpAny_rule ⟨rfl,?_⟩))
         refine wpS_bind (Nw C (by omega) (by omega) B2 u2 fun st3 B3 K3 u3=>?_)
         refine Ag (by simp) ?_
         have n3:1≤min (a₀.size-lo) mr/\lo+min (a₀.size-lo) mr≤a₀.size:=by omega
         have c3:Chain kf (arrOf st3) 0 (pendingOf st3).toList lo:=by
           rw [K3.pend]
           exact c2.keep fun k _ k2=>Az (K3.low k k2)
         generalize min (a₀.size-lo) mr=m at u3 n3 ⊢)
      | (refine Ag hm ?_
         have n3:1≤n/\lo+n≤a₀.size:=by omega
         have B3:=B2
         have c3:=c2
         have u3:=u2
         generalize n=m at u3 n3 ⊢
         generalize st2=st3 at B3 c3 u3 ⊢)
    all_goals
      refine wpS_bind (wpS_get ?_)
      cases hb:(pendingOf st3).back? with
      | none=>exact wpS_bind (wpS_modify (wpS_pure (J4 B3 c3 u3 n3.1 n3.2 (by omega))))
      | some b =>
        obtain ⟨s1,m1,pw⟩:=b
        dsimp only
        generalize power' a₀.size (2 * s1+m1) (2 * s1+m1+m1+m) a₀.size=pp
        refine wpS_bind (wpS_mono (wpS_forRange
          (I:=fun _ c st4=>c=(none,())/\SB κ a₀ st4/\Chain kf (arrOf st4) 0 (pendingOf st4).toList lo/\Up kf (arrOf st4) lo (lo+m))
          (Q:=fun c st4=>c=(none,())/\SB κ a₀ st4/\Chain kf (arrOf st4) 0 (pendingOf st4).toList lo/\Up kf (arrOf st4) lo (lo+m)) ?r1 (fun _ _ q=>q) ⟨rfl,B3,c3,u3⟩) ?r2)
        case r1 =>
          rintro y c4 st4 _ hy ⟨rfl,B4,c4,u4⟩
          refine wpS_bind (wpS_get ?_)
          by_cases z4:(pendingOf st4).size > 1
          · have e4:=getElem?_pos (pendingOf st4) ((pendingOf st4).size-2) (by omega)
            simp only [if_pos z4,e4]
            split
            · exact wpS_pure ⟨rfl,B4,c4,u4⟩
            · refine wpS_bind (Nv C B4 c4 (by omega) q2 fun st5 B5 z5 c5 k5=>?_)
              exact wpS_pure ⟨rfl,B5,c5,fun i j w1 w2 w3=>by rw [k5 i w1,k5 j (by omega)];exact u4 i j w1 w2 w3⟩
          · simp only [if_neg z4]
            exact wpS_pure ⟨rfl,B4,c4,u4⟩
        case r2 =>
          rintro c4 st4 ⟨rfl,B4,c4,u4⟩
          dsimp only
          refine wpS_bind (wpS_modify (wpS_bind (wpS_modify (wpS_pure ?_))))
          have B5:SB κ a₀ (setPending st4 ((pendingOf st4).modify ((pendingOf st4).size-1) fun x=>(x.1,x.2.1,pp))):=⟨B4.perm,B4.kind,B4.failed⟩
          refine J4 B5 ?_ u4 n3.1 n3.2 (by omega)
          refine Chain.same (l:=(pendingOf st4).toList) ?_ c4
          show _=((pendingOf st4).modify ((pendingOf st4).size-1) fun x=>(x.1,x.2.1,pp)).toList.map _
          rw [Array.toList_modify]
          refine List.ext_getElem? fun k=>?_
          rw [List.getElem?_map,List.getElem?_map,List.getElem?_modify]
          cases (pendingOf st4).toList[k]? with
          | none=>rfl
          | some v =>
            show some _=some _
            by_cases w:(pendingOf st4).size-1=k
            · simp [w]
            · simp [w]
end
end Srt
namespace L2
open PySem PySem.Spec PyProof.Rows
def kLt:Key→Key→Bool
 | .inl a,.inl b=>decide (a<b)
 | .inl _,.inr _=>true
 | .inr _,.inl _=>false
 | .inr x,.inr y=>decide (x.cps.toList<y.cps.toList)
theorem L1:∀a,kLt a a=false
 | .inl a=>decide_eq_false (Int.lt_irrefl a)
 | .inr x=>decide_eq_false (List.lt_irrefl _)
theorem Mz:∀{a b c},kLt a b=true→kLt b c=true→kLt a c=true
 | .inl a,.inl b,.inl c,h1,h2=>decide_eq_true (Int.lt_trans (of_decide_eq_true h1) (of_decide_eq_true h2))
 | .inl _,.inl _,.inr _,_,_=>rfl
 | .inl _,.inr _,.inr _,_,_=>rfl
 | .inr x,.inr y,.inr z,h1,h2=>decide_eq_true (List.lt_trans (of_decide_eq_true h1) (of_decide_eq_true h2))
theorem M0:∀{a b},kLt a b=false→kLt b a=false→a=b
 | .inl a,.inl b,h1,h2=>by
  have h1:=of_decide_eq_false h1
  have h2:=of_decide_eq_false h2
  rw [show a=b by omega]
 | .inr x,.inr y,h1,h2=>by
  have h1:=of_decide_eq_false h1
  have h2:=of_decide_eq_false h2
  rw [Li (List.le_antisymm (List.not_lt.mp h2) (List.not_lt.mp h1))]
def BG:List Key→List Key→Bool
 | [],[]=>false
 | [],_::_=>true
 | _::_,[]=>false
 | a::x,b::y=>if a=b then BG x y else kLt a b
theorem Fm:∀x,BG x x=false
 | []=>rfl
 | a::x=>by rw [BG,if_pos rfl];exact Fm x
theorem FO:∀{x y z},BG x y=true→BG y z=true→BG x z=true
 | [],[],_,h,_=>by cases h
 | [],_::_,[],_,h=>by cases h
 | [],_::_,_::_,_,_=>rfl
 | _::_,[],_,h,_=>by cases h
 | _::_,_::_,[],_,h=>by cases h
 | a::x,b::y,c::z,h1,h2=>by
  unfold BG at h1 h2 ⊢
  by_cases e1:a=b
  ·subst e1
   rw [if_pos rfl] at h1
   by_cases e2:a=c
   ·subst e2
    rw [if_pos rfl] at h2 ⊢
    exact FO h1 h2
   ·rw [if_neg e2] at h2 ⊢
    exact h2
  ·rw [if_neg e1] at h1
   by_cases e2:b=c
   ·subst e2
    rw [if_neg e1]
    exact h1
   ·rw [if_neg e2] at h2
    have h3:=Mz h1 h2
    have:a≠c:=fun e=>by rw [e,L1] at h3;cases h3
    rw [if_neg this]
    exact h3
theorem ED:∀{x y},BG x y=false→BG y x=false→x=y
 | [],[],_,_=>rfl
 | [],_::_,h,_=>by cases h
 | _::_,[],_,h=>by cases h
 | a::x,b::y,h1,h2=>by
  unfold BG at h1 h2
  by_cases e:a=b
  ·subst e
   rw [if_pos rfl] at h1 h2
   rw [ED h1 h2]
  ·rw [if_neg e] at h1
   rw [if_neg (fun z=>e z.symm)] at h2
   exact absurd (M0 h1 h2) e
@[reducible] def lexOrd:KeyOrd where
 α:=List Key
 blt:=BG
 irrefl:=Fm
 trans _ _ _:=FO
 negTrans a b c h:=by
  cases e:BG a b with
  | true=>exact .inl rfl
  | false =>
   cases e2:BG b a with
   | true=>exact .inr (FO e2 h)
   | false=>rw [←ED e e2];exact .inr h
 total _ _:=ED
def Ao:Value→Key
 | .int i _=>.inl i
 | .str x _=>.inr x
 | _=>.inl 0
def kfH (h:Heap):Value→List Key
 | .int i _=>[.inl i]
 | .str x _=>[.inr x]
 | .ref a=>match h.get? a with
  | some o=>match o.data with
   | .seq xs _=>xs.toList.map Ao
   | _=>[]
  | none=>[]
 | _=>[]
end L2
namespace Srt
open PySem PyProof.Rows
section
variable {prog:Program}{w:World}{A:Around}{E:Value→Shared→Prop}{s:Shared}{O:KeyOrd}
theorem FI {a:Addr}{vs:List Value}{n:Nat}{P:PySem.Fin→Shared→Prop}(ho:s.heap.get? a=some (seqObj "list" vs.toArray n)) (hz:vs.length≤sizeLine) (kf:Value→O.α)
  (cmp:∀h',(∀b o,b≠a→s.heap.get? b=some o→h'.get? b=some o)→2≤vs.length→∃κ,(∀(Q:SortKind→Shared→Prop) (E:Value→Shared→Prop),Q κ { s with heap:=h' }→wpAny (model prog w) A (keyKind' vs.toArray) Q E { s with heap:=h' })/\Cmp prog w A { s with heap:=h' } κ O kf (pairsOf vs))
  (h:∀out:Array Keyed,out.Perm (pairsOf vs)→Up kf out 0 (pairsOf vs).size→P (.done (.ret .none)) { s with heap:=sortedHeap s.heap a vs (out.map (·.2)) }) :
  wpAny (model prog w) A (Builtin.«list.sort» ⟨[.ref a],[]⟩) P E s:=by
 rw [list_sort_plain]
 have ha:a<s.heap.objs.size:=Heap.lt_size ho
 refine wpAny_bind (listItems_at ho rfl (wpAny_bind (listUpdate_at ho rfl ?_)))
 obtain ⟨e1,ho1⟩:∃e1,(s.heap.update a (Obj.mapSeq fun _=>#[])).get? a=some (seqObj "list" #[] e1):=⟨_,get?_update_seq ho (fun _=>#[])⟩
 refine wpAny_bind (seqEpoch_at ho1 rfl (wpAny_bind (wpAny_newTuple (wpAny_bind (wpAny_newList (wpAny_holding ?_))))))
 generalize hh:((s.heap.update a (Obj.mapSeq fun _=>#[])).push (seqObj "tuple" vs.toArray 0)).push (seqObj "list" #[] 0)=h2
 have kp:∀b o,b≠a→s.heap.get? b=some o→h2.get? b=some o:=fun b o hb q=>by
  rw [←hh]
  exact Heap.get?_push_of_some _ (Heap.get?_push_of_some _ ((Heap.get?_update_ne _ _ _ _ hb).trans q))
 have ho6:h2.get? a=some (seqObj "list" #[] e1):=by
  rw [←hh]
  exact Heap.get?_push_of_some _ (Heap.get?_push_of_some _ ho1)
 have fin:∀out:Array Keyed,out.Perm (pairsOf vs)→Up kf out 0 (pairsOf vs).size→P (.done (.ret .none)) { s with heap:=h2.update a (Obj.mapSeq fun _=>out.map (·.2)) }:=fun out h1 h3=>by
  have:=h out h1 h3
  unfold sortedHeap at this
  rw [hh] at this
  exact this
 show wpAny (model prog w) A _ P E { s with heap:=h2 }
 dsimp only
 by_cases h2':vs.toArray.size<2
 ·rw [if_pos h2',if_pos h2']
  refine wpAny_bind (wpAny_pure ?_)
  rw [StateT.run_pure]
  refine wpAny_bind (wpAny_pure ?_)
  dsimp only
  refine wpAny_bind (seqEpoch_at ho6 rfl (wpAny_bind (listUpdate_at ho6 rfl ?_ (hsz2:=by rw [Array.size_map];show (pairsOf vs).size≤_;rw [pairsOf_size];omega))))
  simp only [bne_self_eq_false,Bool.false_eq_true,if_false]
  refine wpAny_pure (fin (vs.toArray.zip vs.toArray) (Array.Perm.refl _) fun i j _ q1 q2=>?_)
  rw [pairsOf_size] at q2
  have hsz:vs.toArray.size=vs.length:=by simp
  obtain rfl:i=j:=by omega
  exact KeyOrd.kle_refl _
 ·rw [if_neg h2',if_neg h2']
  obtain ⟨κ,kk,C⟩:=cmp h2 kp (by simpa using h2')
  refine wpAny_bind (kk _ _ ?_)
  refine wpAny_bind (wpAny_mono (Qa C (st:=SortSt.mk' κ (pairsOf vs) #[] 7 none) (Q:=fun _ st'=>SB κ (pairsOf vs) st'/\Up kf (arrOf st') 0 (pairsOf vs).size) ⟨Array.Perm.refl _,rfl,rfl⟩ rfl fun st' B u=>⟨B,u⟩) ?_ fun _ _ e=>e)
  rintro ⟨⟨⟩,st'⟩ s' ⟨rfl,B,u⟩
  dsimp only
  refine wpAny_bind (seqEpoch_at ho6 rfl (wpAny_bind (listUpdate_at ho6 rfl ?_ (hsz2:=by refine Nat.le_trans (Nat.le_of_eq ((Array.size_map ..).trans (B.perm.size_eq.trans (pairsOf_size _)))) ?_;omega))))
  rw [B.failed]
  simp only [bne_self_eq_false,Bool.false_eq_true,if_false]
  exact wpAny_pure (fin _ B.perm u)
end
end Srt
namespace L2
open PySem PySem.Spec PyProof.Rows
def isI:Key→Bool
 | .inl _=>true
 | .inr _=>false
def A8:Value→Prop
 | .int _ _=>True
 | .str _ _=>True
 | _=>False
section
variable {prog:Program}{w:World}{A:Around}{E:Value→Shared→Prop}{s:Shared}{b:Bool}{Q:Bool→Shared→Prop}
theorem OS (c:Bool) {x y:Value}(hx:A8 x) (hy:A8 y) (hs:isI (Ao x)=isI (Ao y)) (h:Q (kLt (Ao x) (Ao y)) s):wpAny (model prog w) A (oneLt' c x y) Q E s:=by
 cases x <;> first|exact hx.elim|skip
 all_goals (cases y <;> first|exact hy.elim|exact Bool.noConfusion (show true=false from hs)|exact Bool.noConfusion (show false=true from hs)|skip)
 ·cases c with
  | true=>exact oneLt_int h
  | false=>exact PySem.W.kat_one _ _ (PyProof.Rows.lt_int h)
 ·cases c with
  | true=>exact oneLt_str h
  | false=>exact PySem.W.kat_one _ _ (PyProof.Rows.lt_str h)
theorem LR {x y:Value}(hx:A8 x) (hy:A8 y) (hs:isI (Ao x)=isI (Ao y)) (h:Q (decide (Ao x=Ao y)) s):wpAny (model prog w) A (eqBool x y) Q E s:=by
 cases x <;> first|exact hx.elim|skip
 all_goals (cases y <;> first|exact hy.elim|exact Bool.noConfusion (show true=false from hs)|exact Bool.noConfusion (show false=true from hs)|skip)
 ·rename_i a t c u
  refine MeetsSeq.EqGives.int a c t u prog w A E s Q ?_
  have e:(a==c)=decide (Ao (.int a t)=Ao (.int c u)):=by
   show (a==c)=decide ((Sum.inl a:Key)=Sum.inl c)
   by_cases z:a=c
   ·subst z;simp
   ·rw [decide_eq_false (fun q=>z (Sum.inl.inj q))];simpa using z
  rw [e]
  exact h
 ·rename_i a t c u
  refine eqGives_str a c t u prog w A E s Q ?_
  have e:(a==c)=decide (Ao (.str a t)=Ao (.str c u)):=by
   show (a==c)=decide ((Sum.inr a:Key)=Sum.inr c)
   by_cases z:a=c
   ·subst z;simp
   ·rw [decide_eq_false (fun q=>z (Sum.inr.inj q))];simpa using z
  rw [e]
  exact h
theorem KZ:∀(xs ys:List Value) (i:Nat),(∀v∈xs,A8 v)→(∀v∈ys,A8 v)→xs.map (fun v=>isI (Ao v))=ys.map (fun v=>isI (Ao v))→Q (BG (xs.map Ao) (ys.map Ao)) s→PySem.W.KatLex prog w A b false Q (xs.zip ys) i s
 | [],[],_,_,_,_,h=>PySem.W.kat_nil h
 | [],_::_,_,_,_,e,_=>by cases e
 | _::_,[],_,_,_,e,_=>by cases e
 | x::xs,y::ys,i,hx,hy,e,h=>by
  obtain ⟨e1,e2⟩:=List.cons.inj e
  have fx:=hx x List.mem_cons_self
  have fy:=hy y List.mem_cons_self
  have h:Q (if Ao x=Ao y then BG (xs.map Ao) (ys.map Ao) else kLt (Ao x) (Ao y)) s:=h
  refine PySem.W.kat_cons (LR fx fy e1 (PySem.W.kat_go (fun q=>?_) fun q=>?_))
  ·rw [if_pos (of_decide_eq_true q)] at h
   exact PySem.W.kat_yes (KZ xs ys _ (fun v hv=>hx v (List.mem_cons_of_mem _ hv)) (fun v hv=>hy v (List.mem_cons_of_mem _ hv)) e2 h)
  ·rw [if_neg (of_decide_eq_false q)] at h
   exact PySem.W.kat_no (OS _ fx fy e1 h)
end
def Bo (h:Heap) (u:Value) (ks:List Key):Prop:=∃a o items m,u=.ref a/\h.get? a=some o/\o.cls=.type "tuple" /\ o.data=.seq items m/\items.toList.map Ao=ks/\∀v∈items.toList,A8 v
theorem Bo.kf {h:Heap}{u:Value}{ks:List Key}(t:Bo h u ks):kfH h u=ks:=by
 obtain ⟨a,o,items,m,rfl,e,_,d,k,_⟩:=t
 simp only [kfH,e,d]
 exact k
inductive Ct (h:Heap):List Value→List (List Key)→Prop
 | cI {vs kss}:vs.length=kss.length→(∀(i:Nat) u ks,vs[i]?=some u→kss[i]?=some ks→∃n t,u=.int n t/\ks=[.inl n])→Ct h vs kss
 | cS {vs kss}:vs.length=kss.length→(∀(i:Nat) u ks,vs[i]?=some u→kss[i]?=some ks→∃n t,u=.str n t/\ks=[.inr n])→Ct h vs kss
 | cT {vs kss} (sh:List Bool):vs.length=kss.length→sh≠[]→(∀(i:Nat) u ks,vs[i]?=some u→kss[i]?=some ks→Bo h u ks/\ks.map isI=sh)→Ct h vs kss
theorem Ct.len {h:Heap}{vs:List Value}{kss:List (List Key)}(x:Ct h vs kss):vs.length=kss.length:=by cases x <;> assumption
theorem Ct.kf {h:Heap}{vs:List Value}{kss:List (List Key)}(x:Ct h vs kss):∀(i:Nat) u ks,vs[i]?=some u→kss[i]?=some ks→kfH h u=ks:=by
 intro i u ks e1 e2
 cases x with
 | cI _ f=>obtain ⟨n,t,rfl,rfl⟩:=f i u ks e1 e2;rfl
 | cS _ f=>obtain ⟨n,t,rfl,rfl⟩:=f i u ks e1 e2;rfl
 | cT _ _ _ f=>exact (f i u ks e1 e2).1.kf
theorem Ei {α β:Type}{l:List α}{m:List β}(hl:l.length=m.length) {x:α}(h:x∈l):∃(i:Nat) (y:β),l[i]?=some x/\m[i]?=some y:=by
 obtain ⟨i,hi,e⟩:=List.mem_iff_getElem.mp h
 exact ⟨i,m[i]'(by omega),by rw [List.getElem?_eq_getElem hi,e],List.getElem?_eq_getElem _⟩
theorem Ct.cmp {prog:Program}{w:World}{A:Around}{s:Shared}{h:Heap}{vs:List Value}{kss:List (List Key)}(x:Ct h vs kss) (h2:2≤vs.length) (kp:∀a o items m,.ref a∈vs→h.get? a=some o→o.cls=.type "tuple" → o.data=.seq items m→s.heap.get? a=some o) :
  ∃κ,(∀(Q:SortKind→Shared→Prop) (E:Value→Shared→Prop),Q κ s→wpAny (model prog w) A (keyKind' vs.toArray) Q E s)/\Srt.Cmp prog w A s κ lexOrd (kfH h) (pairsOf vs):=by
 have mp:∀p∈(pairsOf vs).toList,p.1∈vs:=fun p hp=>by rw [pairsOf_toList] at hp;exact (mem_zip_self hp).2
 cases x with
 | cI hl f =>
  refine ⟨oneType',fun Q E q=>PySem.W.kas_kind (T:=.type "int") h2 (fun v hv=>?_) (by decide) (by decide) q,⟨fun p hp q hq Q E k=>?_⟩⟩
  ·obtain ⟨i,ks,e1,e2⟩:=Ei hl hv
   obtain ⟨n,t,rfl,_⟩:=f i _ _ e1 e2
   exact .now
  ·obtain ⟨i,ks,e1,e2⟩:=Ei hl (mp p hp)
   obtain ⟨j,ls,e3,e4⟩:=Ei hl (mp q hq)
   obtain ⟨n,t,u1,_⟩:=f i _ _ e1 e2
   obtain ⟨m,t',u2,_⟩:=f j _ _ e3 e4
   rw [u1,u2] at k ⊢
   rw [keyLt'_oneType]
   refine oneLt_int ?_
   have e:decide (n<m)=BG [.inl n] [.inl m]:=by
    show _=if (Sum.inl n:Key)=Sum.inl m then false else decide (n<m)
    split
    ·rename_i z
     have z:=Sum.inl.inj z
     rw [z];exact decide_eq_false (Int.lt_irrefl m)
    ·rfl
   rw [e]
   exact k
 | cS hl f =>
  refine ⟨oneType',fun Q E q=>PySem.W.kas_kind (T:=.type "str") h2 (fun v hv=>?_) (by decide) (by decide) q,⟨fun p hp q hq Q E k=>?_⟩⟩
  ·obtain ⟨i,ks,e1,e2⟩:=Ei hl hv
   obtain ⟨n,t,rfl,_⟩:=f i _ _ e1 e2
   exact .now
  ·obtain ⟨i,ks,e1,e2⟩:=Ei hl (mp p hp)
   obtain ⟨j,ls,e3,e4⟩:=Ei hl (mp q hq)
   obtain ⟨n,t,u1,_⟩:=f i _ _ e1 e2
   obtain ⟨m,t',u2,_⟩:=f j _ _ e3 e4
   rw [u1,u2] at k ⊢
   rw [keyLt'_oneType]
   refine oneLt_str ?_
   have e:decide (n.cps.toList<m.cps.toList)=BG [.inr n] [.inr m]:=by
    show _=if (Sum.inr n:Key)=Sum.inr m then false else decide (n.cps.toList<m.cps.toList)
    split
    ·rename_i z
     have z:=Sum.inr.inj z
     rw [z];exact decide_eq_false (List.lt_irrefl _)
    ·rfl
   rw [e]
   exact k
 | cT sh hl hn f =>
  have at':∀u∈vs,∃ks,Bo s.heap u ks/\kfH h u=ks/\ks.map isI=sh:=fun u hu=>by
   obtain ⟨i,ks,e1,e2⟩:=Ei hl hu
   obtain ⟨t,z⟩:=f i u ks e1 e2
   refine ⟨ks,?_,t.kf,z⟩
   obtain ⟨a,o,items,m,rfl,e,c,d,r⟩:=t
   exact ⟨a,o,items,m,rfl,kp a o items m hu e c d,c,d,r⟩
  refine ⟨tuples' true,fun Q E q=>?_,⟨fun p hp q hq Q E k=>?_⟩⟩
  ·-- the kind,by the firsts
   have key:∀(l:List Value),(∀u∈l,u∈vs)→∃fs,PySem.W.KatTups s.heap l fs/\fs.length=l.length/\∀v∈fs,A8 v/\isI (Ao v)=sh.headD true:=fun l=>by
    induction l with
    | nil=>exact fun _=>⟨[],trivial,rfl,fun v hv=>by cases hv⟩
    | cons u l ih =>
     intro hu
     obtain ⟨fs,k1,k2,k3⟩:=ih fun v hv=>hu v (List.mem_cons_of_mem _ hv)
     obtain ⟨ks,⟨a,o,items,m,rfl,e,c,d,r,fl⟩,_,z⟩:=at' u (hu u List.mem_cons_self)
     obtain ⟨l0⟩:=items
     match l0,r,fl with
     | [],r,_ =>
      have r:[]=ks:=r
      rw [←r] at z
      exact absurd z.symm hn
     | f0::l1,r,fl =>
      refine ⟨f0::fs,PySem.W.KatTups.cons e c d rfl k1,by rw [List.length_cons,List.length_cons,k2],fun v hv=>?_⟩
      rcases List.mem_cons.mp hv with rfl|hv
      ·refine ⟨fl _ (by simp),?_⟩
       have r:Ao v::l1.map Ao=ks:=r
       rw [←z,←r]
       rfl
      ·exact k3 v hv
   obtain ⟨fs,k1,k2,k3⟩:=key vs fun _ h=>h
   cases hh:sh.headD true with
   | true =>
    refine PySem.W.kat_kind (T:=.type "int") k1 (by omega) (fun v hv=>?_) (by decide) q
    obtain ⟨fl,z⟩:=k3 v hv
    rw [hh] at z
    cases v <;> first|exact fl.elim|exact Bool.noConfusion (show true=false from z)|exact Bool.noConfusion (show false=true from z)|exact .now
   | false =>
    refine PySem.W.kat_kind (T:=.type "str") k1 (by omega) (fun v hv=>?_) (by decide) q
    obtain ⟨fl,z⟩:=k3 v hv
    rw [hh] at z
    cases v <;> first|exact fl.elim|exact Bool.noConfusion (show true=false from z)|exact Bool.noConfusion (show false=true from z)|exact .now
  ·obtain ⟨ks,⟨a,o,items,m,u1,e,c,d,r,fl⟩,k1,z1⟩:=at' _ (mp p hp)
   obtain ⟨ls,⟨a',o',items',m',u2,e',c',d',r',fl'⟩,k2,z2⟩:=at' _ (mp q hq)
   have k:Q (BG (kfH h p.1) (kfH h q.1)) s:=k
   rw [k1,k2,←r,←r'] at k
   rw [u1,u2]
   have es:items.toList.map (fun v=>isI (Ao v))=items'.toList.map (fun v=>isI (Ao v)):=by
    have h1:(items.toList.map Ao).map isI=(items'.toList.map Ao).map isI:=by rw [r,r',z1,z2]
    rw [List.map_map,List.map_map] at h1
    exact h1
   have el:items.size=items'.size:=by
    have:=congrArg List.length es
    simpa using this
   refine PySem.W.kat_lt e d e' d' ?_
   rw [decide_eq_false (by omega)]
   exact KZ _ _ 0 fl fl' es k
inductive C4 (K:PySem.W.Frag) (H:Hp):List V→List (List Key)→Prop
 | cI (ns:List Int):C4 K H (ns.map V.int) (ns.map fun n=>[.inl n])
 | cS (zs:List Str):C4 K H (zs.map V.str) (zs.map fun z=>[.inr z])
 | cT {xs:List V} {kss:List (List Key)} (sh:List Bool):sh≠[]→Paired (fun x ks=>(∃a,x=.ref a/\SqT K H a (ks.map kV))/\ks.map isI=sh) xs kss→C4 K H xs kss
theorem Ee {α β:Type}{F:α→β→Prop}{bs bs':List β}(p:bs'.Perm bs):∀{as:List α},Paired F as bs→∃as',as'.Perm as/\Paired F as' bs':=by
 induction p with
 | nil=>intro as h;cases h;exact ⟨[],.nil,.nil⟩
 | cons x _ ih =>
  intro as h
  cases h with
  | cons h1 h2 =>
   obtain ⟨as',q1,q2⟩:=ih h2
   exact ⟨_::as',q1.cons _,.cons h1 q2⟩
 | swap x y l =>
  intro as h
  cases h with
  | cons h1 h2 =>
   cases h2 with
   | cons h3 h4=>exact ⟨_,List.Perm.swap _ _ _,.cons h3 (.cons h1 h4)⟩
 | trans _ _ ih1 ih2 =>
  intro as h
  obtain ⟨a1,q1,q2⟩:=ih2 h
  obtain ⟨a2,q3,q4⟩:=ih1 q2
  exact ⟨a2,q3.trans q1,q4⟩
theorem Am {α β:Type}{F:α→β→Prop}:∀{l:List α}{m:List β},Paired F l m→l.length=m.length/\∀(i:Nat) a b,l[i]?=some a→m[i]?=some b→F a b
 | _,_,.nil=>⟨rfl,fun i a b h=>by simp at h⟩
 | _,_,.cons h r=>by
  obtain ⟨h1,h2⟩:=Am r
  refine ⟨by rw [List.length_cons,List.length_cons,h1],fun i a b e1 e2=>?_⟩
  cases i with
  | zero=>simp at e1 e2;subst e1 e2;exact h
  | succ i=>exact h2 i a b (by simpa using e1) (by simpa using e2)
theorem Dt:∀{ks:List Key}{us:List Value},Vals (ks.map kV) us→us.map Ao=ks/\∀v∈us,A8 v
 | [],_,h=>by cases h;exact ⟨rfl,fun v hv=>by cases hv⟩
 | k::ks,_,h=>by
  cases h with
  | cons h1 h2 =>
   obtain ⟨e,f⟩:=Dt h2
   cases k with
   | inl i =>
    obtain ⟨t,rfl⟩:=h1
    exact ⟨by rw [List.map_cons,e];rfl,fun v hv=>by rcases List.mem_cons.mp hv with rfl|hv;exact True.intro;exact f v hv⟩
   | inr x =>
    obtain ⟨t,rfl⟩:=h1
    exact ⟨by rw [List.map_cons,e];rfl,fun v hv=>by rcases List.mem_cons.mp hv with rfl|hv;exact True.intro;exact f v hv⟩
section
variable {X:Cx}{pins:List (Addr×Obj)}{σ:St}{H:Hp}{s:Shared}
theorem C4.vals (I:Inv X pins σ H s) {xs:List V}{kss:List (List Key)}{its:List Value}(h:C4 X.K H xs kss) (r:Vals xs its):Ct s.heap its kss:=by
 have hl:=r.length
 cases h with
 | cI ns =>
  rw [List.length_map] at hl
  refine .cI (by rw [List.length_map,hl]) fun i u ks e1 e2=>?_
  rw [List.getElem?_map] at e2
  obtain ⟨n,e3,rfl⟩:=Option.map_eq_some_iff.mp e2
  obtain ⟨u',e4,t,e5⟩:=r.get (i:=i) (x:=.int n) (by rw [List.getElem?_map,e3];rfl)
  rw [e1] at e4
  cases e4
  exact ⟨n,t,e5,rfl⟩
 | cS zs =>
  rw [List.length_map] at hl
  refine .cS (by rw [List.length_map,hl]) fun i u ks e1 e2=>?_
  rw [List.getElem?_map] at e2
  obtain ⟨n,e3,rfl⟩:=Option.map_eq_some_iff.mp e2
  obtain ⟨u',e4,t,e5⟩:=r.get (i:=i) (x:=.str n) (by rw [List.getElem?_map,e3];rfl)
  rw [e1] at e4
  cases e4
  exact ⟨n,t,e5,rfl⟩
 | cT sh hn p =>
  obtain ⟨h1,h2⟩:=Am p
  refine .cT sh (by omega) hn fun i u ks e1 e2=>?_
  have hi:=(List.getElem?_eq_some_iff.mp e2).1
  have e3:xs[i]?=some xs[i]:=List.getElem?_eq_getElem (by omega)
  obtain ⟨⟨a,ea,hq⟩,z⟩:=h2 i _ _ e3 e2
  obtain ⟨u',e4,e5⟩:=r.get e3
  rw [e1] at e4
  cases e4
  rw [ea] at e5
  obtain rfl:u=Value.ref a:=e5
  obtain ⟨its2,rv,⟨o,ho,hc,n,hd⟩,_⟩:=I.tuple hq
  obtain ⟨k1,k2⟩:=Dt rv
  exact ⟨⟨a,o,its2.toArray,n,rfl,ho,hc,hd,by simpa using k1,by simpa using k2⟩,z⟩
end
theorem OA {X:Cx}{its:List Value}{ys:List V}{kss:List (List Key)}{h:Heap}(r:Vals ys its) (sv:Ct h its kss) {out:Array Keyed}(p:out.Perm (pairsOf its)) (u:Srt.Up (O:=lexOrd) (kfH h) out 0 (pairsOf its).size) :
    ∃qs:List (V×List Key),qs.Perm (ys.zip kss)/\Vals (qs.map (·.1)) (out.map (·.2)).toList/\(qs.map (·.2)).Pairwise (fun a b=>BG b a=false):=by
  have pl:out.toList.Perm (its.zip its):=by rw [←pairsOf_toList];exact Array.perm_iff_toList_perm.mp p
  have me:∀q∈out.toList,q.1=q.2/\q.1∈its:=fun q hq=>mem_zip_self (pl.mem_iff.mp hq)
  have e0:(out.map (·.2)).toList=out.toList.map (·.2):=Array.toList_map ..
  have pu:(out.toList.map (·.2)).Perm its:=by
    have:=pl.map (·.2)
    rwa [List.map_snd_zip (Nat.le_refl _)] at this
  have hl:=r.length
  have hk:=sv.len
  have pf:Paired (fun (q:V×List Key) v=>RelV q.1 v/\kfH h v=q.2) (ys.zip kss) its:=by
    refine A3 (by rw [List.length_zip];omega) fun i a b e1 e2=>?_
    obtain ⟨e3,e4⟩:=List.getElem?_zip_eq_some.mp e1
    obtain ⟨v,e5,e6⟩:=r.get e3
    rw [e2] at e5
    cases e5
    exact ⟨e6,sv.kf i b a.2 e2 e4⟩
  obtain ⟨qs,q1,q2⟩:=Ee pu pf
  obtain ⟨l2,g2⟩:=Am q2
  refine ⟨qs,q1,?_,?_⟩
  · rw [e0]
    refine A3 (by rw [List.length_map,l2]) fun i a b e1 e2=>?_
    rw [List.getElem?_map] at e1
    obtain ⟨q,e3,rfl⟩:=Option.map_eq_some_iff.mp e1
    exact (g2 i q b e3 e2).1
  · rw [List.pairwise_iff_getElem]
    intro i j hi hj hij
    rw [List.length_map] at hi hj
    rw [List.length_map] at l2
    have hs:(pairsOf its).size=out.size:=p.size_eq.symm
    have ko:∀k (hk:k<qs.length),(qs[k]).2=Srt.KX (O:=lexOrd) (kfH h) out k:=fun k hk=>by
      have hk2 : k < out.size := by have : out.toList.length = out.size := by simp
                                    omega
      rw [Srt.A4 hk2]
      have e1:qs[k]?=some qs[k]:=List.getElem?_eq_getElem hk
      have e2:(out.toList.map (·.2))[k]?=some out[k].2:=by rw [List.getElem?_map,Array.getElem?_toList,getElem?_pos out k hk2];rfl
      have:=(g2 k _ _ e1 e2).2
      rw [(me out[k] (by simp)).1,this]
    have := u i j (Nat.zero_le _) (Nat.le_of_lt hij) (by have : out.toList.length = out.size := by simp
                                                         omega)
    rw [←ko i hi,←ko j hj] at this
    rw [List.getElem_map,List.getElem_map]
    exact this
section
variable {X:Cx}{K:PySem.W.Frag}
theorem Fw (hK:X.K=K:=by rfl):Cy X (.builtin "sorted") (fun xs H Q=>∃(p:Addr) (ys:List V) (kss:List (List Key)),xs=[.ref p]/\SqL K H p ys/\C4 K H ys kss /\
  ∀l (qs:List (V×List Key)),H l=none→qs.Perm (ys.zip kss)→(qs.map (·.2)).Pairwise (fun a b=>BG b a=false)→Q (.ref l) (upd H l (.lst (qs.map (·.1))))):=by
 subst hK
 intro pins s σ H xs us Q I r h
 obtain ⟨p,ys,kss,rfl,hq,so,q⟩:=h
 obtain ⟨u,rfl,ru⟩:=vals1 r
 cases ru
 obtain ⟨its,rv,pl,hz⟩:=I.list hq
 have sv:=so.vals I rv
 have hl:=pl.isList
 have hlen:=rv.length
 refine Calls.call_function_entry kind_sorted plain_sorted entry_sorted (args_sorted1 _) ?_
 unfold Builtin.«sorted»
 refine wpAny_bind (m:=checkCount "sorted" 1 1 _) (wpAny_pure ?_)
 refine wpAny_bind (collect_list hl ?_ (by omega))
 refine wpAny_bind (wpAny_newList ?_ (by omega))
 have hsz:((s.heap.push (seqObj "list" #[] 0)).update s.heap.objs.size (Obj.mapSeq (·++its.toArray))).objs.size=s.heap.objs.size+1:=by
  rw [Heap.size_update,size_push']
 have hoL:(((s.heap.push (seqObj "list" #[] 0)).update s.heap.objs.size (Obj.mapSeq (·++its.toArray))).push (seqObj "list" its.toArray 0)).get? (s.heap.objs.size+1)=some (seqObj "list" its.toArray 0):=by
  rw [←hsz];exact Heap.get?_push_size _ rfl
 have kp:∀b o,s.heap.get? b=some o→(((s.heap.push (seqObj "list" #[] 0)).update s.heap.objs.size (Obj.mapSeq (·++its.toArray))).push (seqObj "list" its.toArray 0)).get? b=some o:=fun b o e =>
  Heap.get?_push_of_some _ ((Heap.get?_update_ne _ _ _ _ (Nat.ne_of_lt (Heap.lt_size e))).trans (Heap.get?_push_of_some _ e))
 show wpAny _ _ _ _ _ { s with heap:=((s.heap.push (seqObj "list" #[] 0)).update s.heap.objs.size (Obj.mapSeq (·++its.toArray))).push (seqObj "list" its.toArray 0) }
 rw [hsz]
 refine wpAny_bind (wpAny_holding (wpAny_call_entry slot_list_sort ⟨_,hoL,rfl⟩ entry_list_sort (Srt.FI (O:=lexOrd) hoL (by omega) (kfH s.heap) (fun h' k' h2=>?_) fun out p u=>⟨_,rfl,wpAny_pure ⟨_,rfl,?_⟩⟩) (args_list_sort _)))
 ·refine sv.cmp h2 fun a o items m _ e _ _=>?_
  exact k' a o (Nat.ne_of_lt (Nat.lt_succ_of_lt (Heap.lt_size e))) (kp a o e)
 ·obtain ⟨qs,q1,q2,q3⟩:=OA (X:=X) rv sv p u
  obtain ⟨e,ho⟩:=sortedAll_at s.heap its (out.map (·.2))
  have lz:(qs.map (·.1)).length≤sizeLine:=by
   rw [List.length_map,q1.length_eq,List.length_zip]
   omega
  refine ⟨.ref (s.heap.objs.size+1),_,I.laid (a:=s.heap.objs.size+1) (o:=.lst (qs.map (·.1))) (t':=s.toks) (fun b o e=>sortedAll_old e) (Nat.le_succ _) ⟨lz,_,e,q2,by rw [Array.toArray_toList];exact ho⟩,rfl,q _ qs (I.hok.fresh (Nat.le_succ _)) q1 q3⟩
end
end L2
namespace L2
open PySem PySem.Spec PyProof.Rows
section
open PySem.SeqAt
open PySem.AutoSeq1 (wpAny_loadPart')
open PySem.MeetsSeq PySem.MeetsSeq2 PySem.MeetsSeq3
theorem Og (A:Around) (s:Shared) {x y:Value}(hx:A8 x) (hy:A8 y) (hs:isI (Ao x)=isI (Ao y)):SeqAt.EqAt A s x y (decide (Ao x=Ao y)):=by
 intro prog w E Q h
 exact LR hx hy hs h
theorem Nq (A:Around) (s:Shared) {x y:Value}(hx:A8 x) (hy:A8 y) (hs:isI (Ao x)=isI (Ao y)) (prog:Program) (w:World) (E:Value→Shared→Prop) (Q:Value→Shared→Prop) (h:Q (.bool (kLt (Ao x) (Ao y))) s) :
  wpAny (model prog w) A (richCompare .Lt x y) Q E s:=by
 cases x <;> first|exact hx.elim|skip
 all_goals (cases y <;> first|exact hy.elim|exact Bool.noConfusion (show true=false from hs)|exact Bool.noConfusion (show false=true from hs)|skip)
 ·exact (PyProof.Rows.lt_int h:wpAny (model prog w) A (compareOp .Lt _ _) Q E s)
 ·exact (PyProof.Rows.lt_str h:wpAny (model prog w) A (compareOp .Lt _ _) Q E s)
structure MM (vs ws:List Value) (n m:Nat) (r:Bool):Prop where
 ex:∃(us zs:List Value),vs=us++zs/\(zs=[]\/ws.length≤us.length)/\(∀v∈us,A8 v)/\(∀v∈ws,A8 v)/\(∀(i:Nat) x y,us[i]?=some x→ws[i]?=some y→isI (Ao x)=isI (Ao y))/\BG (us.map Ao) (ws.map Ao)=r
 len:vs.length+m=ws.length+n
theorem ID (l b:Addr) (items items2:Array Value) (n n2:Nat) (dd dd2:Option Addr) (sl sl2:Array (Option Value)) (r:Bool) (hx:MM items.toList items2.toList items.size items2.size r) :
  Meets (Builtin.«tuple.__lt__» ⟨[.ref l,.ref b],[]⟩)
   (fun _ R s=>s.heap.get? l=some { cls:=.type "tuple", dict:=dd,data:=.seq items n,slots:=sl }/\s.heap.get? b=some { cls:=.type "tuple", dict:=dd2,data:=.seq items2 n2,slots:=sl2 } /\
    R (.ok (.ret (.bool r))) s) :=
 .of_wp fun prog w A R s h=>by
  obtain ⟨hp,g,d,tk,os⟩:=s;obtain ⟨hl,hb,h⟩:=h
  have f2:=AutoSeq1.sub_tuple_tuple
  wp_walk using wpAny_loadPart' hl,wpAny_loadPart' hb,wpAny_forIn_list _ (fun rest b s'=>b.1=none/\s'=⟨hp,g,d,tk,os⟩/\∃(vs ws:List Value) (q:Bool),rest=vs.zip ws /\
   MM vs ws items.size items2.size q/\R (.ok (.ret (.bool q))) ⟨hp,g,d,tk,os⟩) _
  case turn =>
   rintro ⟨y,x⟩ rest b s' ⟨hb',rfl,vs,ws,q,hz,hx',hR⟩
   obtain ⟨⟨us,zs,rfl,h1,h2,h3,h4,h5⟩,hlen⟩:=hx'
   cases ws with
   | nil=>rw [List.zip_nil_right] at hz;cases hz
   | cons c ws =>
    cases us with
    | nil =>
     rcases h1 with h1|h1
     ·subst h1;cases hz
     ·exact absurd h1 (by simp)
    | cons a us =>
     rw [List.cons_append,List.zip_cons_cons] at hz
     injection hz with hyx hrest
     injection hyx with hy hx
     subst hy hx
     have fa:=h2 y List.mem_cons_self
     have fc:=h3 x List.mem_cons_self
     have ks:=h4 0 y x rfl rfl
     have h5:(if Ao y=Ao x then BG (us.map Ao) (ws.map Ao) else kLt (Ao y) (Ao x))=q:=h5
     refine wpAny_bind (Og A.in1 ⟨hp,g,d,tk,os⟩ fa fc ks prog w _ _ ?_)
     cases e:decide (Ao y=Ao x) with
     | true =>
      rw [if_pos (of_decide_eq_true e)] at h5
      wp_walk
      refine ⟨rfl,rfl,us++zs,ws,q,hrest,⟨⟨us,zs,rfl,?_,fun v hv=>h2 v (List.mem_cons_of_mem _ hv),fun v hv=>h3 v (List.mem_cons_of_mem _ hv),fun i x y e1 e2=>h4 (i+1) x y (by simpa using e1) (by simpa using e2),h5⟩,?_⟩,hR⟩
      ·rcases h1 with h1|h1
       ·exact .inl h1
       ·refine .inr ?_
        simp only [List.length_cons] at h1
        omega
      ·simp only [List.length_cons,List.cons_append] at hlen
       omega
     | false =>
      rw [if_neg (of_decide_eq_false e)] at h5
      have hri:=Nq A.in1 ⟨hp,g,d,tk,os⟩ fa fc ks prog w
      wp_walk using hri
      exact ⟨_,rfl,by rw [h5];exact hR⟩
  case fin =>
   rintro ⟨b1,b2⟩ s' ⟨hb',rfl,vs,ws,q,hz,⟨⟨us,zs,rfl,h1,h2,h3,h4,h5⟩,hlen⟩,hR⟩
   simp only at hb'
   subst hb'
   have hv:q=decide (items.size<items2.size):=by
    rw [←h5]
    cases us with
    | nil =>
     rcases h1 with h1|h1
     ·subst h1
      cases ws with
      | nil =>
       simp only [List.length_nil,List.append_nil] at hlen
       exact (decide_eq_false (by omega)).symm
      | cons c ws =>
       simp only [List.length_nil,List.append_nil,List.length_cons] at hlen
       exact (decide_eq_true (by omega)).symm
     ·have:ws=[]:=List.eq_nil_of_length_eq_zero (by simpa using h1)
      subst this
      simp only [List.length_nil,List.nil_append] at hlen
      exact (decide_eq_false (by omega)).symm
    | cons a us =>
     cases ws with
     | nil =>
      simp only [List.length_nil,List.length_cons,List.cons_append] at hlen
      exact (decide_eq_false (by omega)).symm
     | cons c ws =>
      rw [List.cons_append,List.zip_cons_cons] at hz
      cases hz
   rw [hv] at hR
   wp_walk
   exact ⟨_,rfl,by simpa [Builtin.Tuple.tupleCompareSizes] using hR⟩
  case h =>
   exact ⟨rfl,rfl,items.toList,items2.toList,r,rfl,hx,h⟩
end
section
variable {X:Cx}{K:PySem.W.Frag}
def SE (K:PySem.W.Frag):R2:=fun x y H Q=>∃a b ks zs ms,x=.ref a/\y=.ref b/\SqT K H a (ks.map kV++zs)/\SqT K H b (ms.map kV)/\(zs=[]\/ms.length≤ks.length)/\(∀(i:Nat) k m,ks[i]?=some k→ms[i]?=some m→isI k=isI m)/\Q (.bl (BG ks ms)) H
theorem Gj:∀{xs ys:List V}{us:List Value},Vals (xs++ys) us→∃vs ws,us=vs++ws/\Vals xs vs/\Vals ys ws
 | [],ys,us,h=>⟨[],us,rfl,.nil,h⟩
 | x::xs,ys,_,h=>by
  cases h with
  | cons h1 h2 =>
   obtain ⟨vs,ws,e,p1,p2⟩:=Gj h2
   exact ⟨_::vs,ws,by rw [e];rfl,.cons h1 p1,p2⟩
theorem Qk (hu:X.A.units<cLine) (hK:X.K=K:=by rfl):OpR X (compareOp .Lt) (SE K):=by
  subst hK
  intro pins s σ H x y v u Q I rx ry h
  obtain ⟨a,b,ks,zs,ms,rfl,rfl,ha,hb,hz,hs,q⟩:=h
  cases rx
  cases ry
  obtain ⟨its,r1,p1,_⟩:=I.tuple ha
  obtain ⟨its2,r2,p2,_⟩:=I.tuple hb
  obtain ⟨us,ws,rfl,q1,q2⟩:=Gj r1
  obtain ⟨k1,f1⟩:=Dt q1
  obtain ⟨k2,f2⟩:=Dt r2
  have l1:=q1.length
  have l2:=r2.length
  have l3:=q2.length
  rw [List.length_map] at l1 l2
  obtain ⟨⟨cls,dd,data,sl⟩,ho,hc,n,hd⟩:=id p1
  obtain ⟨⟨cls2,dd2,data2,sl2⟩,ho2,hc2,n2,hd2⟩:=id p2
  simp only at hc hd hc2 hd2
  subst hc hd hc2 hd2
  have lx:MM (us++ws).toArray.toList its2.toArray.toList (us++ws).toArray.size its2.toArray.size (BG ks ms):=by
    refine ⟨⟨us,ws,by simp,?_,f1,by simpa using f2,fun i x y e1 e2=>?_,by simp [k1,k2]⟩,by simp;omega⟩
    · rcases hz with rfl|hz
      · exact .inl (List.eq_nil_of_length_eq_zero (by simpa using l3.symm))
      · exact .inr (by simp;omega)
    · refine hs i _ _ (by rw [← k1, List.getElem?_map, e1]; rfl) (by rw [← k2, List.getElem?_map]; have e2 : its2[i]? = some y := by simpa using e2
                                                                     rw [e2];rfl)
  exact richCompare_meets_room (op:=.Lt) ⟨_,ho,rfl⟩ ⟨_,ho2,rfl⟩ PySem.F.slot_tuple_lt PySem.F.entry_tuple_lt (PySem.F.args_tuple_lt_2 _ _) (ID a b _ _ n n2 dd dd2 sl sl2 _ lx)
    ⟨ho,ho2,show Value.bool (BG ks ms)≠Value.notImplemented/\EP X pins σ Q (.bool (BG ks ms)) s from ⟨(fun x=>nomatch x),⟨.bl _,H,I,rfl,q⟩⟩⟩ hu
end
def Rws (H:Hp) (xs:List V) (kss:List (List Key)):Prop:=Paired (fun x ks=>∃a,x=.ref a/\H a=some (.tup (ks.map kV))) xs kss
def Tp (H H':Hp):Prop:=∀p xs,H p=some (.tup xs)→H' p=some (.tup xs)
theorem AJ.tp {H H':Hp}(s:AJ H H'):Tp H H':=fun p xs e=>s _ _ e
theorem Tp.refl (H:Hp):Tp H H:=fun _ _ h=>h
theorem Tp.trans {H H1 H2:Hp}(a:Tp H H1) (b:Tp H1 H2):Tp H H2:=fun p xs e=>b _ _ (a _ _ e)
theorem Tp.upd {H H':Hp}{b:Addr}{o u:HO}(t:Tp H H') (h:H' b=some u) (hn:∀xs,u≠.tup xs):Tp H (L2.upd H' b o):=fun p xs e=>by
 have e:=t p xs e
 have:p≠b:=fun z=>by rw [z,h] at e;exact hn xs (Option.some.inj e)
 rw [AV this]
 exact e
theorem CN {α β:Type}{F G:α→β→Prop}(h:∀a b,F a b→G a b):∀{l:List α}{m:List β},Paired F l m→Paired G l m
 | _,_,.nil=>.nil
 | _,_,.cons a r=>.cons (h _ _ a) (CN h r)
theorem An {α β:Type}{F:α→β→Prop}:∀{l l':List α}{m m':List β},Paired F l m→Paired F l' m'→Paired F (l++l') (m++m')
 | _,_,_,_,.nil,h=>h
 | _,_,_,_,.cons a r,h=>.cons a (An r h)
theorem DY {α β:Type}{F:α→β→Prop}:∀{l:List α}{m:List β}(n:Nat),Paired F l m→Paired F (l.take n) (m.take n)
 | _,_,0,_=>.nil
 | _,_,_+1,.nil=>.nil
 | _,_,n+1,.cons a r=>.cons a (DY n r)
theorem Eg {α β:Type}{F:α→β→Prop}:∀{l:List α}{m:List β}(n:Nat),Paired F l m→Paired F (l.drop n) (m.drop n)
 | _,_,0,h=>h
 | _,_,_+1,.nil=>.nil
 | _,_,n+1,.cons a r=>Eg n r
theorem Rws.keep {H H':Hp}{xs:List V}{kss:List (List Key)}(h:Rws H xs kss) (t:Tp H H'):Rws H' xs kss:=CN (fun x ks ⟨a,e,q⟩=>⟨a,e,t _ _ q⟩) h
theorem Rws.len {H:Hp}{xs:List V}{kss:List (List Key)}(h:Rws H xs kss):xs.length=kss.length:=(Am h).1
theorem Rws.at {H:Hp}{xs:List V}{kss:List (List Key)}(h:Rws H xs kss) {i:Nat}{x:V}(e:xs[i]?=some x):∃a ks,x=.ref a/\kss[i]?=some ks/\H a=some (.tup (ks.map kV)):=by
 have hi:=(List.getElem?_eq_some_iff.mp e).1
 have e2:kss[i]?=some (kss[i]'(by rw [←h.len];exact hi)):=List.getElem?_eq_getElem _
 obtain ⟨a,ea,q⟩:=(Am h).2 i _ _ e e2
 exact ⟨a,_,ea,e2,q⟩
theorem Rws.snoc {H:Hp}{xs:List V}{kss:List (List Key)}{p:Addr}{ks:List Key}(h:Rws H xs kss) (e:H p=some (.tup (ks.map kV))):Rws H (xs++[.ref p]) (kss++[ks]):=An h (.cons ⟨p,rfl,e⟩ .nil)
theorem DV (H:Hp):Rws H [] []:=Paired.nil
def kD:Key→PyData
 | .inl i=>.int i
 | .inr x=>.str x
def ktD (ks:List Key):PyData:=.tuple (ks.map kD)
def kOk:Key→Bool
 | .inl _=>true
 | .inr x=>PyData.strOk x
def JQ (ks:List Key):Bool:=ks.all kOk
theorem HV {K:PySem.W.Frag}{H:Hp}:∀ks:List Key,Dvs K H (ks.map kV) (ks.map kD)
 | []=>.nil
 | .inl i::r=>.cons (.int i) (HV r)
 | .inr x::r=>.cons (.str x) (HV r)
theorem Rws.dvs {K:PySem.W.Frag}{H:Hp}:∀{xs:List V}{kss:List (List Key)},Rws H xs kss→Dvs K H xs (kss.map ktD)
 | _,_,Paired.nil=>.nil
 | _,_,Paired.cons ⟨a,e,q⟩ r=>by
  subst e
  exact .cons (.tup (SqT.of q) (HV _)) (Rws.dvs r)
theorem Kc:∀ks:List Key,JQ ks=true→PyData.canLayAll0 (ks.map kD)=true/\PyData.depthAll (ks.map kD)=0
 | [],_=>⟨rfl,rfl⟩
 | k::r,h=>by
  have h:(kOk k&&JQ r)=true:=h
  obtain ⟨h1,h2⟩:=Bool.and_eq_true_iff.mp h
  obtain ⟨a,b⟩:=Kc r h2
  cases k with
  | inl i=>simp [kD,PyData.canLayAll0,PyData.canLay0,PyData.depthAll,PyData.depth,a,b]
  | inr x =>
   have h1:PyData.strOk x=true:=h1
   simp [kD,PyData.canLayAll0,PyData.canLay0,PyData.depthAll,PyData.depth,a,b,h1]
theorem Fn:∀kss:List (List Key),(∀ks∈kss,JQ ks=true)→PyData.canLayAll0 (kss.map ktD)=true/\PyData.depthAll (kss.map ktD)≤1
 | [],_=>⟨rfl,by decide⟩
 | ks::r,h=>by
  obtain ⟨a,b⟩:=Fn r fun z hz=>h z (List.mem_cons_of_mem _ hz)
  obtain ⟨c,d⟩:=Kc ks (h ks List.mem_cons_self)
  refine ⟨by simp [ktD,PyData.canLayAll0,PyData.canLay0,a,c],?_⟩
  simp [ktD,PyData.depthAll,PyData.depth,d]
  omega
theorem Jw {kss:List (List Key)}(h:∀ks∈kss,JQ ks=true):SeqAt.shaped (.list (kss.map ktD))=true:=by
 obtain ⟨a,b⟩:=Fn kss h
 simp [SeqAt.shaped,PyData.canLay0,PyData.depth,a]
 omega
theorem Rws.dv {K:PySem.W.Frag}{H:Hp}{l:Addr}{xs:List V}{kss:List (List Key)}(h:Rws H xs kss) (e:H l=some (.lst xs)):Dv K H (.ref l) (.list (kss.map ktD)):=.lst (SqL.of e) h.dvs
theorem Rws.sorts {K:PySem.W.Frag}{H:Hp}{xs:List V}{kss:List (List Key)}(h:Rws H xs kss) {sh:List Bool}(hn:sh≠[]) (hs:∀ks∈kss,ks.map isI=sh):C4 K H xs kss:=by
 refine .cT sh hn (A3 h.len fun i a b e1 e2=>?_)
 obtain ⟨p,ep,q⟩:=(Am h).2 i a b e1 e2
 exact ⟨⟨p,ep,SqT.of q⟩,hs b (List.mem_of_getElem? e2)⟩
def Sd (kss:List (List Key)):Prop:=kss.Pairwise fun a b=>BG b a=false
theorem II:∀{a b:List (List Key)},a.Perm b→Sd a→Sd b→a=b
 | [],b,p,_,_=>by rw [p.nil_eq]
 | x::a,[],p,_,_=>by have:=p.length_eq;simp at this
 | x::a,y::b,p,ha,hb=>by
  obtain ⟨h1,h2⟩:=List.pairwise_cons.mp ha
  obtain ⟨h3,h4⟩:=List.pairwise_cons.mp hb
  have e:x=y:=by
   have m1:y∈x::a:=p.mem_iff.mpr List.mem_cons_self
   have m2:x∈y::b:=p.mem_iff.mp List.mem_cons_self
   rcases List.mem_cons.mp m1 with e|m1
   ·exact e.symm
   ·rcases List.mem_cons.mp m2 with e|m2
    ·exact e
    ·exact ED (h3 x m2) (h1 y m1)
  subst e
  rw [II (List.Perm.cons_inv p) h2 h4]
end L2
namespace L2
open PySem PySem.Spec PyProof.Rows
theorem D2 {K:PySem.W.Frag}{a:Addr}{n0:Nat}{fr:List Nat}{g:TG}{tt:TT}{te:TE}{σ:St}{H:Hp}{Q:VK}{xs:List V}(Pv:Nat→St→List V→Hp→Prop) (hn:xs.length≤sizeLine)
  (h0:Pv 0 (List.replicate n0 none++fr.map (pick σ)) [] H) (hl:∀i τ acc H1,Pv i τ acc H1→SqL K H1 a xs)
  (hs:∀(i:Nat) x τ acc H1 (R1:V→St→Hp→Prop) (R0:St→Hp→Prop),xs[i]?=some x→acc.length≤i→Pv i τ acc H1→(∀y τ' H2,Pv (i+1) τ' (acc++[y]) H2→R1 y τ' H2)→(∀τ' H2,Pv (i+1) τ' acc H2→R0 τ' H2) →
   g x τ H1 fun τ1 H2=>tt τ1 H2 fun b H3=>if b=true then te τ1 H3 fun y H4=>R1 y τ1 H4 else R0 τ1 H3)
  (hd:∀τ acc H1,acc.length≤xs.length→Pv xs.length τ acc H1→∀D,H1 D=none→Q (.ref D) (upd H1 D (.lst acc))) :
  Il n0 fr g tt te σ Q (Itl K a) H:=by
 refine ⟨fun i m τ acc H'=>m=xs.length-i/\i≤xs.length/\acc.length≤i/\Pv i τ acc H',⟨xs.length,by simp,Nat.zero_le _,Nat.zero_le _,h0⟩,?_⟩
 rintro i m τ acc H' ⟨rfl,hi,ha,p⟩
 have q:=hl i τ acc H' p
 by_cases hlt:i<xs.length
 ·refine .inr ⟨⟨xs,xs[i],q,by simp [hlt]⟩,by omega,fun x H1 y=>?_⟩
  obtain ⟨e,y⟩:=y
  subst e
  have ex:=y xs q
  exact hs i x τ acc _ (fun y τ1 H4=>∃m',m'<xs.length-i/\m'=xs.length-(i+1)/\i+1≤xs.length/\(acc++[y]).length≤i+1/\Pv (i+1) τ1 (acc++[y]) H4) (fun τ1 H3=>∃m',m'<xs.length-i/\m'=xs.length-(i+1)/\i+1≤xs.length/\acc.length≤i+1/\Pv (i+1) τ1 acc H3) ex ha p
   (fun y τ' H2 h=>⟨_,by omega,rfl,hlt,by rw [List.length_append,List.length_singleton];omega,h⟩) fun τ' H2 h=>⟨_,by omega,rfl,hlt,by omega,h⟩
 ·have e:i=xs.length:=by omega
  subst e
  exact .inl ⟨⟨xs,q,Nat.le_refl _⟩,hd τ acc H' ha p⟩
theorem Bu {K:PySem.W.Frag}{a:Addr}{n0:Nat}{fr:List Nat}{g:TG}{te:TE}{σ:St}{H:Hp}{Q:VK}{xs:List V}(Pv:Nat→St→List V→Hp→Prop) (hn:xs.length≤sizeLine)
  (h0:Pv 0 (List.replicate n0 none++fr.map (pick σ)) [] H) (hl:∀i τ acc H1,Pv i τ acc H1→SqL K H1 a xs)
  (hs:∀(i:Nat) x τ acc H1 (R1:V→St→Hp→Prop),xs[i]?=some x→acc.length≤i→Pv i τ acc H1→(∀y τ' H2,Pv (i+1) τ' (acc++[y]) H2→R1 y τ' H2)→g x τ H1 fun τ1 H2=>te τ1 H2 fun y H4=>R1 y τ1 H4)
  (hd:∀τ acc H1,acc.length≤xs.length→Pv xs.length τ acc H1→∀D,H1 D=none→Q (.ref D) (upd H1 D (.lst acc))) :
  Il n0 fr g NZ te σ Q (Itl K a) H:=by
 refine D2 (K:=K) (xs:=xs) Pv hn h0 hl (fun i x τ acc H1 R1 R0 e1 e2 p k1 _=>?_) hd
 have e:(fun (τ1:St) (H2:Hp)=>NZ τ1 H2 fun b H3=>if b=true then te τ1 H3 fun y H4=>R1 y τ1 H4 else R0 τ1 H3)=fun τ1 H2=>te τ1 H2 fun y H4=>R1 y τ1 H4:=by
  funext τ1 H2
  show (if true=true then te τ1 H2 fun y H4=>R1 y τ1 H4 else R0 τ1 H2)=_
  rw [if_pos rfl]
 rw [e]
 exact hs i x τ acc H1 R1 e1 e2 p k1
section
variable {X:Cx}
theorem N8 {iter elt:Expr}{ifs:List Expr}{scope osc:Scope}{wi:TI}{tt:TT}{te:TE}{x y z:Str}{px py pz tpos:Pos}{kk}{pos:Pos}(fr:List (Str×Nat))
  (hc:X.calm=true) (hi:PI X (.Tuple [.Name x px,.Name y py,.Name z pz] kk tpos) iter wi) (ho:X.env.scope=osc)
  (hk:scope.kind=.function) (hcell:∀y∈scope.names,y.2≠.cell) (hnames:∀y∈scope.names,y.2=.local→scope.names.lookup y.1=some .local)
  (hfree:∀y∈scope.names,y.2=.free→osc.names.lookup y.1=some .cell\/osc.names.lookup y.1=some .free) (hfr:Jj X scope fr)
  (hx:scope.names.lookup x=some .local) (hy:scope.names.lookup y=some .local) (hz:scope.names.lookup z=some .local) (hnd:(x::y::z::fr.map (·.1)).Nodup)
  (ht:∀C s H ex,PTs (Ap X scope (x::y::z::fr.map (·.1)) C s H ex) ifs tt)
  (he:∀C s H ex,PE (Ap X scope (x::y::z::fr.map (·.1)) C s H ex) elt te)
  (hs:∀x,foldedSetIterable iter X.env x=pure x:=by intro _;rfl) :
  PE X (.ListComp elt [⟨.Tuple [.Name x px,.Name y py,.Name z pz] kk tpos,iter,ifs,0⟩] scope pos) (IF 3 (fr.map (·.2)) wi (Rk X.K 3 (L5 (DI 0) (L5 (DI 1) (L5 (DI 2) Rm)))) tt te) :=
 Lo (own:=[x,y,z]) hc hi hk hcell hnames (fun y hy e=>by show X.env.scope.names.lookup y.1=_\/X.env.scope.names.lookup y.1=_;rw [ho];exact hfree y hy e) hfr
  (fun C s H ex=>G9 (show (Ap X scope (x::y::z::fr.map (fun p:Str×Nat=>p.1)) C s H ex).calm=true from hc) (BA (Au (i:=0) hnd rfl (.inl (lookup_relabel_local hx)) (.inr (lookup_relabel_local hx)))
   (BA (Au (i:=1) hnd rfl (.inl (lookup_relabel_local hy)) (.inr (lookup_relabel_local hy))) (BA (Au (i:=2) hnd rfl (.inl (lookup_relabel_local hz)) (.inr (lookup_relabel_local hz))) Ff)))) ht he hs
end
section
variable {κ:Type}[DecidableEq κ]
theorem Eh {kvs:List (κ×V)}{k:κ}{v:V}{q:κ×V}(h:q∈putK kvs k v):q=(k,v)\/(q∈kvs/\q.1≠k):=by
 unfold putK at h
 split at h
 ·obtain ⟨p,hp,e⟩:=List.mem_map.mp h
  by_cases z:p.1=k
  ·rw [if_pos z] at e;rw [←e,z];exact .inl rfl
  ·rw [if_neg z] at e;rw [←e];exact .inr ⟨hp,z⟩
 ·rename_i hn
  rcases List.mem_append.mp h with h|h
  ·refine .inr ⟨h,fun z=>hn (List.any_eq_true.mpr ⟨q,h,decide_eq_true z⟩)⟩
  ·exact .inl (List.mem_singleton.mp h)
theorem IZ (kvs:List (κ×V)) (k:κ) (v:V):(putK kvs k v).map (·.1)=if k∈kvs.map (·.1) then kvs.map (·.1) else kvs.map (·.1)++[k]:=by
 by_cases h:k∈kvs.map (·.1)
 ·rw [if_pos h]
  obtain ⟨p,hp,e⟩:=List.mem_map.mp h
  unfold putK
  rw [if_pos (List.any_eq_true.mpr ⟨p,hp,decide_eq_true e⟩),List.map_map]
  refine List.map_congr_left fun q _=>?_
  show (if q.1=k then (q.1,v) else q).1=q.1
  split <;> rfl
 ·rw [if_neg h]
  unfold putK
  rw [if_neg (fun q=>?_),List.map_append]
  ·rfl
  ·obtain ⟨p,hp,e⟩:=List.any_eq_true.mp q
   exact h (List.mem_map.mpr ⟨p,hp,of_decide_eq_true e⟩)
theorem LI {kvs:List (κ×V)}{k:κ}{v:V}(h:(kvs.map (·.1)).Nodup):((putK kvs k v).map (·.1)).Nodup:=by
 rw [IZ]
 split
 ·exact h
 ·rename_i hn
  exact Lq h hn
theorem Kb (kvs:List (κ×V)) (k:κ) (v:V):(putK kvs k v).length≤kvs.length+1:=by
 have e:=congrArg List.length (IZ kvs k v)
 rw [List.length_map] at e
 rw [e]
 split
 ·rw [List.length_map];omega
 ·rw [List.length_append,List.length_map];simp
theorem Dm {kvs:List (κ×V)}{k:κ}{v:V}(h:A7 kvs k=some v):(k,v)∈kvs:=by
 unfold A7 at h
 obtain ⟨p,h1,h2⟩:=Option.map_eq_some_iff.mp h
 have:=List.find?_some (p:=fun kv:κ×V=>decide (kv.1=k)) h1
 have e:p.1=k:=of_decide_eq_true this
 rw [←e,←h2]
 exact List.mem_of_find?_eq_some h1
theorem Io {kvs:List (κ×V)}{k:κ}(h:k∈kvs.map (·.1)):∃v,A7 kvs k=some v:=by
 cases e:A7 kvs k with
 | some v=>exact ⟨v,rfl⟩
 | none=>exact absurd h (NW e)
end
theorem EH {α:Type}{p:α→Bool}:∀{l:List α}{n m:Nat},(∀(i:Nat) x,l[i]?=some x→(p x=true↔n≤i/\i<m))→(l.drop n).take (m-n)=l.filter p
 | [],n,m,_=>by simp
 | x::l,0,0,h=>by
  have h0:=h 0 x rfl
  have ih:=EH (l:=l) (n:=0) (m:=0) fun i y e=>(h (i+1) y (by simpa using e)).trans (by omega)
  rw [List.filter_cons,if_neg (fun z=>by have:=h0.mp z;omega),←ih]
  rfl
 | x::l,0,m+1,h=>by
  have h0:=h 0 x rfl
  have ih:=EH (l:=l) (n:=0) (m:=m) fun i y e=>(h (i+1) y (by simpa using e)).trans (by omega)
  rw [List.filter_cons,if_pos (h0.mpr ⟨Nat.le_refl _,Nat.succ_pos _⟩),←ih]
  rfl
 | x::l,n+1,m,h=>by
  have h0:=h 0 x rfl
  have ih:=EH (l:=l) (n:=n) (m:=m-1) fun i y e=>(h (i+1) y (by simpa using e)).trans (by omega)
  rw [List.filter_cons,if_neg (fun z=>by have:=h0.mp z;omega),←ih,List.drop_succ_cons]
  congr 1
  omega
def ML (d:Addr) (H H':Hp):Prop:=∀b o,b≠d→H b=some o→H' b=some o
theorem AJ.x {H H':Hp}(s:AJ H H') (d:Addr):ML d H H':=fun b o _ e=>s b o e
end L2
namespace Rev
open PySem PySem.Builtin PySem.W PyProof.Rows
section
variable {prog:Program}{w:World}{A:Around}{E:Value→Shared→Prop}{s:Shared}{I:Addr}{fp wr:List Addr}{G:Array GenState→Array GenState→Prop}{n:Nat}{P:Nat→Value→Prop}{St:Nat→Shared→Prop}{Live:Shared→Prop}
end
end Rev
namespace L2
open PySem PySem.Spec PyProof.Rows
section
variable {X:Cx}{K:PySem.W.Frag}
end
end L2
namespace L2
open PySem PySem.Spec PyProof.Rows
section
variable {X:Cx}{K:PySem.W.Frag}
end
end L2
namespace Sdf
open PySem PySem.Spec PyProof.Rows
section
variable {prog:Program}{w:World}{K:Type}[DecidableEq K] {knd:KeyKind prog w K}{A:Around}{E:Value→Shared→Prop}{s:Shared}
theorem F1 {d:Addr}{kvs:List (K×Value)}{k:K}{key dflt:Value}{Q:Value→Shared→Prop}(hkey:knd.is k key=true) (hm:s.heap.DictOf knd d kvs)
  (hthere:∀v,valueAt kvs k=some v→Q v { s with toks:=s.toks+1 })
  (hnew:valueAt kvs k=none→∀h',h'.DictOf knd d (stored kvs k dflt)→Heap.SameBut d s.heap h'→Q dflt { s with heap:=h',toks:=s.toks+1 })
  (hsz:kvs.length≤sizeLine) :
  wpAny (model prog w) A (dictSetDefault d key dflt) Q E s:=by
 have hmo:=hm.mapOf
 obtain ⟨o,es,ep,ho,hc,hd,hk,hp,hn⟩:=hm
 have hf:∀x,findBy knd.is es x=valueAt kvs x:=fun x=>by
  rw [←hp.find x]
  obtain ⟨l⟩:=es
  simp [findBy]
 have hes:es.size≤sizeLine:=by
  have e1:=hp.length
  have e2:es.toList.length=es.size:=by simp
  omega
 unfold dictSetDefault
 try with_reducible refine wpAny_holding ?_
 refine wpAny_bind (knd.pyHash hkey ?_)
 refine wpAny_bind (wpAny_dictFind_of (s:={ s with toks:=s.toks+1 }) hkey ho hd hk ?_)
 have hidx:(es.findIdx? fun e=>knd.is k e.key)=kvs.findIdx? fun kv=>decide (kv.1=k):=by
  rw [←hp.findIdx k];obtain ⟨l⟩:=es;simp
 cases hi:es.findIdx? fun e=>knd.is k e.key with
 | some i =>
  have hfk:valueAt kvs k=(es[i]?).map (·.val):=by rw [←hf k,findBy_of_findIdx?,hi]
  refine wpAny_bind (wpAny_dictEntries (s:={ s with toks:=s.toks+1 }) ho hd ?_)
  cases he:es[i]? with
  | none =>
   exfalso
   have:=Array.findIdx?_eq_some_iff_findIdx_eq.mp hi
   have hlt:i<es.size:=this.1
   rw [Array.getElem?_eq_getElem hlt] at he
   exact nomatch he
  | some e =>
   rw [he] at hfk
   exact wpAny_bind (wpAny_rule (wpAny_pure (hthere e.val hfk)))
 | none =>
  have hfk:valueAt kvs k=none:=by rw [←hf k,findBy_of_findIdx?,hi]
  have hnot:k∉kvs.map (·.1):=not_mem_of_findIdx_none (hidx ▸ hi)
  have hany:¬ (kvs.any fun kv=>decide (kv.1=k))=true:=by
   rw [List.any_eq_true];rintro ⟨kv,hkv,he⟩
   exact hnot (List.mem_map.mpr ⟨kv,hkv,of_decide_eq_true he⟩)
  refine wpAny_bind (wpAny_rule (wpAny_bind (wpAny_updateDictKeys (hz:=hes) (s:={ s with toks:=s.toks+1 }) ho hd (wpAny_pure (hnew hfk _ ⟨_,_,ep+1,Heap.get?_update_self _ ho (Obj.isFreed_of_dict (Obj.data_mapDictKeys hd _)),
   hc.mapDictKeys _,Obj.data_mapDictKeys hd _,hk.push hkey _,?_,?_⟩ (Heap.SameBut.update ..))))))
  ·rw [stored,if_neg hany]
   have:=hp.append hkey (knd.hash k) dflt
   obtain ⟨l⟩:=es
   simpa using this
  ·rw [stored,if_neg hany,List.map_append,List.nodup_append]
   refine ⟨hn,by simp,?_⟩
   intro a ha b hb
   simp only [List.map_cons,List.map_nil,List.mem_singleton] at hb
   subst hb
   exact fun e=>hnot (e ▸ ha)
theorem GC {d:Addr}{k:K}{key:Value}(hkey:knd.is k key=true) (hd:(d==sysModules)=false) (dflt:Value) :
  MeetsIn prog w (Builtin.«dict.setdefault» ⟨[.ref d,key,dflt],[]⟩) (fun _ R s=>∃kvs,s.heap.DictOf knd d kvs/\kvs.length≤sizeLine/\(∀v,valueAt kvs k=some v→R (.ok (.ret v)) { s with toks:=s.toks+1 }) /\
   (valueAt kvs k=none→∀h',h'.DictOf knd d (stored kvs k dflt)→Heap.SameBut d s.heap h'→R (.ok (.ret dflt)) { s with heap:=h',toks:=s.toks+1 })) :=
 .of_wp fun A R s ⟨kvs,hm,hsz,h1,h2⟩=>by
  unfold Builtin.«dict.setdefault»
  refine wpAny_bind ?_
  unfold Builtin.Dict.keyAndDefault
  refine wpAny_bind (wpAny_notOrdered_dict hm.typeIs ?_)
  show wpAny _ _ (pure (d,key,some dflt)) _ _ s
  refine wpAny_pure ?_
  simp only [hd,Bool.false_eq_true,if_false]
  exact wpAny_bind (F1 hkey hm (fun v hv=>wpAny_pure ⟨v,rfl,h1 v hv⟩) (fun hn h' hm' hs'=>wpAny_pure ⟨dflt,rfl,h2 hn h' hm' hs'⟩) hsz)
end
end Sdf
namespace L2
open PySem PySem.Spec PyProof.Rows
section
variable {X:Cx}{o e f:Expr}{apos cpos:Pos}{td ty tx:TE}
def QO (td ty tx:TE):TE:=fun σ H Q=>td σ H fun x H1=>∃a,x=.ref a/\IsD H1 a/\ty σ H1 fun y H2=>tx σ H2 fun z H3=>∃kvs k,H3 a=some (.dK kvs)/\y=kV k/\kvs.length<sizeLine /\
 (∀v,A7 kvs k=some v→Q v H3)/\(A7 kvs k=none→Q z (upd H3 a (.dK (putK kvs k z))))
theorem N6 (ho:PE X o td) (he:PE X e ty) (hf:PE X f tx) (m:M2 X o "setdefault" apos e f cpos):PE X (.Call (.Attribute o "setdefault" apos) [e,f] [] cpos) (QO td ty tx):=by
 intro pins s σ H Q I h
 refine wpAny_Call_method m.base m.few m.line PySem.F.plainAttrs_dict PySem.F.slot_dict_setdefault PySem.F.type_dict_setdefault (thn (ho pins s σ H _ I h) fun u s1 ⟨x,H1,I1,rx,a,ex,d,q1⟩=>?_)
 subst ex
 obtain rfl:u=Value.ref a:=rx
 obtain ⟨t1,t2,_⟩:=OY I1 d
 refine ⟨t1,t2,?_⟩
 rw [m.trees]
 refine Calls.callWith_builtin rfl (Calls.evalArgs_plain (Calls.spliced_cons (thn (he pins s1 σ H1 _ I1 q1) fun iv s2 ⟨y,H2,I2,ry,q2⟩ =>
  Calls.spliced_cons (thn (hf pins s2 σ H2 _ I2 q2) fun fv s3 ⟨z,H3,I3,rz,kvs,k,ea,ey,hl,q3,q4⟩=>Calls.spliced_nil ?_))))
 subst ey
 obtain ⟨zz,hd,vs,rel,dd⟩:=Oh I3.hok ea
 refine call_meetsIn PySem.F.slot_dict_setdefault dd.typeIs PySem.F.entry_dict_setdefault (PySem.F.args_dict_setdefault_3 _ _ _) (Sdf.GC (knd:=Af X.prog X.w) (Kf ry) hd fv) ⟨vs,dd,by rw [←rel.length];exact zz,fun w' hw=>?_,fun hn h' dd' hs=>?_⟩
 ·cases l:A7 kvs k with
  | none=>have:=EX.none_of (o:=valueAt vs k) (by rw [←l];exact rel.val k);rw [hw] at this;cases this
  | some v =>
   obtain ⟨w2,hw2,rw2⟩:=EX.some_of (v:=v) (o:=valueAt vs k) (by rw [←l];exact rel.val k)
   rw [hw] at hw2
   cases hw2
   exact ⟨v,H3,I3.tok _,rw2,q3 v l⟩
 ·have l:A7 kvs k=none:=by
   cases l:A7 kvs k with
   | none=>rfl
   | some v =>
    obtain ⟨w2,hw2,_⟩:=EX.some_of (v:=v) (o:=valueAt vs k) (by rw [←l];exact rel.val k)
    rw [hn] at hw2
    cases hw2
  have he:∃q,h'.get? a=some q:=let ⟨q,_,_,hq,_⟩:=dd';⟨q,hq⟩
  have hl2:(putK kvs k z).length≤sizeLine:=by have:=Ej kvs k z;omega
  exact ⟨z,_,JW I3 (by rw [ea];exact True.intro) hs he (Oi hl2 hd (rel.put k rz) dd'),rz,q4 l⟩
end
end L2
namespace Upk
open PySem PySem.Spec PyProof.Rows
section
variable {prog:Program}{w:World}{A:Around}{E:Value→Shared→Prop}{s:Shared}
end
end Upk
namespace L2
open PySem PySem.Spec PyProof.Rows
section
variable {X:Cx}{pos:Pos}
end
end L2
namespace L2
open PySem PySem.Spec PyProof.Rows
section
variable {X:Cx}
end
section
variable {X:Cx}{e:Expr}{es:List Expr}{te:TX}{pos:Pos}
end
section
variable {prog:Program}{w:World}{A:Around}{E:Value→Shared→Prop}{s:Shared}
end
section
variable {X:Cx}{o value lo hi:Expr}{pos pos' p2:Pos}{td tv:TE}{tl th:TO}
end
section
variable {prog:Program}{w:World}{A:Around}{E:Value→Shared→Prop}{s:Shared}
end
section
variable {X:Cx}
end
section
theorem Kn {lo:Int}{n n0:Nat}{fr:List Nat}{g:TG}{te:TE}{σ:St}{H:Hp}{Q:VK}(Pv:Nat→St→List V→Hp→Prop) (hn:n≤sizeLine)
  (h0:Pv 0 (List.replicate n0 none++fr.map (pick σ)) [] H)
  (hs:∀(i:Nat) τ acc H1 (R1:V→St→Hp→Prop),i<n→acc.length≤i→Pv i τ acc H1→(∀y τ' H2,Pv (i+1) τ' (acc++[y]) H2→R1 y τ' H2)→g (.int (lo+i)) τ H1 fun τ1 H2=>te τ1 H2 fun y H4=>R1 y τ1 H4)
  (hd:∀τ acc H1,acc.length≤n→Pv n τ acc H1→∀D,H1 D=none→Q (.ref D) (upd H1 D (.lst acc))) :
  Il n0 fr g NZ te σ Q (Itr lo n) H:=by
 refine ⟨fun i m τ acc H'=>m=n-i/\i≤n/\acc.length≤i/\Pv i τ acc H',⟨n,by simp,Nat.zero_le _,Nat.zero_le _,h0⟩,?_⟩
 rintro i m τ acc H' ⟨rfl,hi,ha,p⟩
 by_cases hlt:i<n
 ·refine .inr ⟨hlt,by omega,fun x H1 y=>?_⟩
  obtain ⟨e1,e2⟩:=y
  subst e1 e2
  have e:(fun (τ1:St) (H2:Hp)=>NZ τ1 H2 fun b H3=>if b=true then te τ1 H3 fun y H4=>∃m',m'<n-i/\m'=n-(i+1)/\i+1≤n/\(acc++[y]).length≤i+1/\Pv (i+1) τ1 (acc++[y]) H4 else ∃m',m'<n-i/\m'=n-(i+1)/\i+1≤n/\acc.length≤i+1/\Pv (i+1) τ1 acc H3)=fun τ1 H2=>te τ1 H2 fun y H4=>∃m',m'<n-i/\m'=n-(i+1)/\i+1≤n/\(acc++[y]).length≤i+1/\Pv (i+1) τ1 (acc++[y]) H4:=by
   funext τ1 H2
   show (if true=true then (te τ1 H2 fun y H4=>∃m',m'<n-i/\m'=n-(i+1)/\i+1≤n/\(acc++[y]).length≤i+1/\Pv (i+1) τ1 (acc++[y]) H4) else ∃m',m'<n-i/\m'=n-(i+1)/\i+1≤n/\acc.length≤i+1/\Pv (i+1) τ1 acc H2)=_
   rw [if_pos rfl]
  rw [e]
  exact hs i τ acc _ (fun y τ1 H4=>∃m',m'<n-i/\m'=n-(i+1)/\i+1≤n/\(acc++[y]).length≤i+1/\Pv (i+1) τ1 (acc++[y]) H4) hlt ha p (fun y τ' H2 h=>⟨_,by omega,rfl,hlt,by rw [List.length_append,List.length_singleton];omega,h⟩)
 ·have e:i=n:=by omega
  subst e
  exact .inl ⟨Nat.le_refl _,hd τ acc H' ha p⟩
end
end L2
namespace L2
open PySem PySem.Spec PyProof.Rows
section
variable {X:Cx}
end
section
variable {X:Cx}
end
end L2
namespace L2
open PySem PySem.Spec PyProof.Rows
section
variable {X:Cx}{pins:List (Addr×Obj)}{σ:St}{k:Nat}{f:Addr}{fd:FuncData}{ps:List Str}{sp:Sp}
def SV (H:Hp) (us:List Value) (kss:List (List Key)):Prop:=us.length=kss.length/\∀(i:Nat) u ks,us[i]?=some u→kss[i]?=some ks→∃q,u=.ref q/\H q=some (.tup (ks.map kV))
end
section
variable {X:Cx}{k:Nat}{f:Addr}{fd:FuncData}{ps:List Str}{sp:Sp}{x y:Str}{p p2 pk pos:Pos}{e:Expr}{t:TE}{K:PySem.W.Frag}
end
end L2
namespace L2
open PySem PySem.Spec PyProof.Rows
section
variable {X:Cx}
end
end L2
namespace Sdf
open PySem PySem.Spec PyProof.Rows
section
variable {prog:Program}{w:World}{K:Type}[DecidableEq K] {knd:HeapKind prog w K}{A:Around}{E:Value→Shared→Prop}{s:Shared}
end
end Sdf
namespace Sdf
open PySem PySem.Spec PyProof.Rows
section
variable {prog:Program}{w:World}{K:Type}[DecidableEq K] {knd:HeapKind prog w K}{A:Around}{E:Value→Shared→Prop}{s:Shared}
end
end Sdf
namespace L2
open PySem PySem.Spec PyProof.Rows
section
variable {X:Cx}{o e f:Expr}{apos cpos:Pos}{td ty tx:TE}
end
end L2
namespace Dkr
open PySem PySem.Spec PyProof.Rows
def Raw (h:Heap) (d:Addr) (es:Array DictEntry) (ep:Nat):Prop:=∃o,h.get? d=some o/\o.ExactDict/\o.data=.dict es ep
section
variable {prog:Program}{w:World}{A:Around}{E:Value→Shared→Prop}{s:Shared}{d it:Addr}{es:Array DictEntry}{ep i:Nat}
theorem Raw.type (r:Raw s.heap d es ep):s.TypeIs (.ref d) "dict" := let ⟨o,e,c,_⟩:=r;⟨o,e,c.1⟩
theorem Raw.lt {h:Heap}(r:Raw h d es ep):d<h.objs.size:=let ⟨_,e,_⟩:=r;Heap.lt_size e
theorem Raw.keep {h h':Heap}(r:Raw h d es ep) (k:∀o,h.get? d=some o→h'.get? d=some o):Raw h' d es ep:=let ⟨o,e,c⟩:=r;⟨o,k o e,c⟩
theorem iter (lo:(d==sysModules)=false) (r:Raw s.heap d es ep) {Q:Value→Shared→Prop}
  (hQ:Q (.ref s.heap.objs.size) { s with heap:=s.heap.push { cls:=.type "dict_keyiterator", data:=.fields #[.ref d,.int 0 0,.int es.size 0,.int ep 0] } }):wpAny (model prog w) A (pyIter (.ref d)) Q E s:=by
 have t:=r.type
 obtain ⟨o,ho,c,hd⟩:=r
 refine wpAny_pyIter_slot t F.slot_dict_iter (wpAny_call_entry F.slot_dict_iter t F.entry_dict_iter ?_ (F.args_dict_iter_1 _))
 unfold Builtin.«dict.__iter__» Builtin.Dict.dictSlotNone
 refine wpAny_bind (wpAny_bind (wpAny_notOrdered_dict t (wpAny_pure ?_)))
 show wpAny _ _ (Builtin.Dict.showsAll d >>= _) _ _ s
 unfold Builtin.Dict.showsAll
 rw [if_neg (by rw [lo];exact Bool.false_ne_true)]
 refine wpAny_bind (wpAny_pure (wpAny_bind (wpAny_dictEntries ho hd (wpAny_bind (wpAny_dictEpoch ho hd ?_)))))
 refine wpAny_bind (wpAny_newObj_type (wpAny_pure ⟨_,rfl, "dict_keyiterator", _,⟨_,Heap.get?_push_size _ rfl,rfl⟩,F.slot_dict_keyiterator_next.lookup,?_⟩))
 simpa [rawInt] using hQ
theorem next_item (k:s.heap.IsKeyIter it d i es.size ep) (r:Raw s.heap d es ep) (hl:i<es.size) {Q:Option Value→Shared→Prop}
  (hQ:∀h',h'.IsKeyIter it d (i+1) es.size ep→Heap.SameBut it s.heap h'→Q (some es[i].key) { s with heap:=h' }):wpAny (model prog w) A (pyNext (.ref it)) Q E s:=by
 have t:=k.typeIs
 obtain ⟨o,ho,hc,hd⟩:=id k
 obtain ⟨od,ho2,c2,hd2⟩:=r
 have k':(s.heap.update it (Obj.mapFields (·.setIfInBounds 1 (rawInt ((i:Int)+1))))).IsKeyIter it d (i+1) es.size ep :=
  ⟨_,Heap.get?_update_self _ ho (Obj.isFreed_of_fields (Obj.data_mapFields hd _)),(Obj.cls_mapFields ..).trans hc,by rw [Obj.data_mapFields hd];simp [rawInt]⟩
 unfold pyNext
 refine wpAny_bind (wpAny_attempt (wpAny_callSpecial?_slot (name:=Str.ofString "__next__") t F.slot_dict_keyiterator_next (wpAny_call_entry F.slot_dict_keyiterator_next t F.entry_dict_keyiterator_next ?_ (F.args_dict_keyiterator_next_1 _))))
 refine wpAny_bind (wpAny_pure (wpAny_bind (wpAny_bind ?_)))
 first|refine wpAny_bind (wpAny_typeNameOfWhole_keyiter t (wpAny_pure (wpAny_bind (wpAny_fieldsOf ho hd ?_))))|refine wpAny_bind (wpAny_typeNameOf_keyiter t (wpAny_pure (wpAny_bind (wpAny_fieldsOf ho hd ?_))))
 simp only [show Builtin.Dict_items.ownsTuple "dict_keyiterator" = false from by decide,Bool.false_eq_true,if_false]
 show wpAny _ _ (if (Value.ref d==Value.none)=true then _ else _) _ _ s
 rw [if_neg (show ¬ ((Value.ref d==Value.none)=true) from Bool.false_ne_true)]
 refine wpAny_bind (wpAny_pure (wpAny_bind (wpAny_dictEntries ho2 hd2 ?_)))
 rw [if_neg (by simp)]
 refine wpAny_bind (wpAny_pure (wpAny_bind (wpAny_dictEpoch ho2 hd2 ?_)))
 rw [if_neg (by simp)]
 refine wpAny_pure ?_
 simp only [show ¬ ((i:Int)<0) from by omega,if_false,Int.toNat_natCast,Array.getElem?_eq_getElem hl]
 refine wpAny_bind ?_
 first|refine wpAny_bind (wpAny_typeNameOfWhole_keyiter t (wpAny_pure (wpAny_bind (wpAny_isOneOf_keyiter t ?_))))|refine wpAny_bind (wpAny_typeNameOf_keyiter t (wpAny_pure (wpAny_bind (wpAny_isOneOf_keyiter t ?_))))
 show wpAny _ _ (setField (.ref it) 1 (rawInt ((i:Int)+1)) >>= _) _ _ s
 refine wpAny_bind (wpAny_setField ho hd (by simp) (wpAny_bind (wpAny_holding (wpAny_bind (wpAny_isOneOf_keyiter (s:={ s with heap:=s.heap.update it (Obj.mapFields (·.setIfInBounds 1 (rawInt ((i:Int)+1)))) }) k'.typeIs ?_)))))
 show wpAny _ _ (pure es[i].key) _ _ _
 exact wpAny_pure (wpAny_pure ⟨_,rfl,wpAny_pure (hQ _ k' (Heap.SameBut.update ..))⟩)
theorem next_end (hh:A.handled=none) (k:s.heap.IsKeyIter it d i es.size ep) (r:Raw s.heap d es ep) (hl:es.size≤i) {Q:Option Value→Shared→Prop}
  (hQ:∀h',Heap.ExtBut it s.heap h'→Q none { s with heap:=h' }):wpAny (model prog w) A (pyNext (.ref it)) Q E s:=by
 have t:=k.typeIs
 obtain ⟨o,ho,hc,hd⟩:=id k
 obtain ⟨od,ho2,c2,hd2⟩:=r
 unfold pyNext
 refine wpAny_bind (wpAny_attempt (wpAny_callSpecial?_slot (name:=Str.ofString "__next__") t F.slot_dict_keyiterator_next (wpAny_call_entry F.slot_dict_keyiterator_next t F.entry_dict_keyiterator_next ?_ (F.args_dict_keyiterator_next_1 _))))
 refine wpAny_bind (wpAny_pure (wpAny_bind (wpAny_bind ?_)))
 first|refine wpAny_bind (wpAny_typeNameOfWhole_keyiter t (wpAny_pure (wpAny_bind (wpAny_fieldsOf ho hd ?_))))|refine wpAny_bind (wpAny_typeNameOf_keyiter t (wpAny_pure (wpAny_bind (wpAny_fieldsOf ho hd ?_))))
 simp only [show Builtin.Dict_items.ownsTuple "dict_keyiterator" = false from by decide,Bool.false_eq_true,if_false]
 show wpAny _ _ (if (Value.ref d==Value.none)=true then _ else _) _ _ s
 rw [if_neg (show ¬ ((Value.ref d==Value.none)=true) from Bool.false_ne_true)]
 refine wpAny_bind (wpAny_pure (wpAny_bind (wpAny_dictEntries ho2 hd2 ?_)))
 rw [if_neg (by simp)]
 refine wpAny_bind (wpAny_pure (wpAny_bind (wpAny_dictEpoch ho2 hd2 ?_)))
 rw [if_neg (by simp)]
 refine wpAny_pure ?_
 simp only [show ¬ ((i:Int)<0) from by omega,if_false,Int.toNat_natCast,Array.getElem?_eq_none hl]
 refine wpAny_bind ?_
 first|refine wpAny_bind (wpAny_typeNameOfWhole_keyiter t (wpAny_pure ?_))|refine wpAny_bind (wpAny_typeNameOf_keyiter t (wpAny_pure ?_))
 show wpAny _ _ (setField (.ref it) 0 .none >>= _) _ _ s
 refine wpAny_bind (wpAny_setField ho hd (by simp) ?_)
 show wpAny _ _ (newExc (.type "StopIteration") [] >>= _) _ _ _
 refine wpAny_bind ?_
 simp only [newExc,newTuple]
 refine wpAny_bind (wpAny_newObj_type (wpAny_bind (m:=firstArgMember _ _) (wpAny_of_eq (a:=Value.none) (by first|rfl|(simp only [firstArgMember];rfl)) (wpAny_newObj_type ?_ (by size_fits)))) (by size_fits))
 simp only [raiseNew]
 refine wpAny_bind (wpAny_handled ?_)
 rw [show A.in1.handled=none from hh]
 refine wpAny_bind (wpAny_pure (wpAny_throw ?_))
 refine wpAny_bind (wpAny_isInstance (T := "StopIteration") (b:=true) ⟨_,Heap.get?_push_size _ rfl,rfl⟩ isSubtype_stop ?_)
 exact wpAny_pure (hQ _ (((Heap.SameBut.update ..).extBut.push _).push _))
theorem walks (hh:A.handled=none) (I:Addr) (hne:d≠I):Walks prog w A I [I,d] [I] es.size (fun j v=>∃h:j<es.size,v=es[j].key) (fun j h=>h.IsKeyIter I d j es.size ep/\Raw h d es ep) where
 sub:=fun b hb=>by simp at hb;simp [hb]
 frame:=fun _ _ _ st hk=>⟨st.1.at fun o e=>hk I (by simp) o e,st.2.keep fun o e=>hk d (by simp) o e⟩
 item:=fun j s Q E hj st hQ=>next_item st.1 st.2 hj fun h' k' sb=>hQ _ h' s.toks ⟨hj,rfl⟩ ⟨k',st.2.keep fun o e=>sb.extBut d o hne e⟩ fun b o hb e=>sb.extBut b o (fun h=>hb (by simp [h])) e
 done:=fun s Q E st hQ=>next_end hh st.1 st.2 (Nat.le_refl _) fun h' he=>hQ h' s.toks fun b o hb e=>he b o (fun h=>hb (by simp [h])) e
 self:=fun _ _ _ _ st hQ=>wpAny_pyIter_keyiter st.1 hQ
theorem src (lo:(d==sysModules)=false):PySem.W.KdlSrc prog w "dict" d d es.size (fun j v=>∃h:j<es.size,v=es[j].key) (fun h=>Raw h d es ep) where
 type:=fun _ r=>r.type
 there:=fun _ r=>⟨r.lt,r.lt⟩
 keep:=fun _ _ r hk=>r.keep fun o e=>hk d (.inl rfl) o e
 notList:=by decide
 notTuple:=by decide
 hint:=fun _ _ _ _ r hq=>PySem.W.kdl_hint_dict r.type hq
 iter:=fun _ _ hh r=>⟨_,_,(fun _ _ hq=>iter lo r hq),walks hh _ (Nat.ne_of_lt r.lt),⟨⟨_,Heap.get?_push_size _ rfl,rfl,rfl⟩,r.keep fun o e=>Heap.get?_push_of_some _ e⟩⟩
end
end Dkr
namespace L2
open PySem PySem.Spec PyProof.Rows
section
variable {X:Cx}{K:PySem.W.Frag}
end
end L2
namespace Stk
open PySem PySem.Spec PyProof.Rows L2
theorem J8:Manifest.owners.lookup (String.ofList ['r','o','t','a','r','e','t','i','_','t','e','s'].reverse)=some Manifest.sig_set_iterator:=by kernel_rfl
theorem slot_next:Slot "set_iterator" "__next__" "set_iterator.__next__" :=
 .of (owner := "set_iterator") (n := "__next__") (by rw [typeLookup_type,builtinLookup_eq_fast];kernel_rfl) (by decide +kernel) (by decide +kernel) (by decide +kernel)
  (by first|exact .inl (by decide +kernel)|exact .inr (by decide +kernel)) (by rw [isSubtype_type];kernel_rfl)
theorem entry_next:entryFor table "set_iterator.__next__" = some Builtin.«set_iterator.__next__»:=entryFor_of_tree (by kernel_rfl)
theorem args_next (a:Value):argsOk "set_iterator.__next__" ⟨[a],[]⟩:=by
 unfold argsOk;rw [signature?_of (id := "set_iterator.__next__") (n:=['_','_','t','x','e','n','_','_']) (o:=['r','o','t','a','r','e','t','i','_','t','e','s']) (by kernel_rfl) J8];kernel_rfl
theorem IH:Slot "set_iterator" "__iter__" "set_iterator.__iter__" :=
 .of (owner := "set_iterator") (n := "__iter__") (by rw [typeLookup_type,builtinLookup_eq_fast];kernel_rfl) (by decide +kernel) (by decide +kernel) (by decide +kernel)
  (by first|exact .inl (by decide +kernel)|exact .inr (by decide +kernel)) (by rw [isSubtype_type];kernel_rfl)
theorem HS:entryFor table "set.__iter__" = some Builtin.«frozenset.__iter__» :=
 entryFor_alias (id' := "frozenset.__iter__") (by kernel_rfl) rfl (by decide +kernel) (by kernel_rfl)
def Hw (xs:Array Nat):Prop:=∀i j:Nat,i<j→∀a b:Nat,xs[i]?=some a→xs[j]?=some b→a<b
theorem HZ {xs:Array Nat}{j:Nat}(hr:Hw xs):∀(fuel lo hi:Nat),hi-lo≤fuel→lo≤hi→hi≤xs.size→(∀i a,i<lo→xs[i]?=some a→a<j)→(∀i a,hi≤i→xs[i]?=some a→j≤a) →
  SetTable.below.go xs j fuel lo hi≤xs.size/\(∀i a,i<SetTable.below.go xs j fuel lo hi→xs[i]?=some a→a<j)/\∀i a,SetTable.below.go xs j fuel lo hi≤i→xs[i]?=some a→j≤a
 | 0,lo,hi,h1,h2,h3,h4,h5=>by
  unfold SetTable.below.go
  exact ⟨by omega,h4,fun i a hi=>h5 i a (by omega)⟩
 | fuel+1,lo,hi,h1,h2,h3,h4,h5=>by
  unfold SetTable.below.go
  split
  ·next hlt =>
   have hm:(lo+hi) / 2<xs.size:=by omega
   have e:xs[(lo+hi) / 2]?=some xs[(lo+hi) / 2]:=Array.getElem?_eq_getElem hm
   have eg:xs.getD ((lo+hi) / 2) j=xs[(lo+hi) / 2]:=by simp [Array.getD,hm]
   dsimp only
   rw [eg]
   split
   ·next hx =>
    refine HZ hr fuel _ _ (by omega) (by omega) h3 (fun i a hq ea=>?_) h5
    by_cases h:i=(lo+hi) / 2
    ·subst h;rw [e] at ea;cases ea;exact hx
    ·have:=hr i _ (by omega) a _ ea e;omega
   ·next hx =>
    refine HZ hr fuel _ _ (by omega) (by omega) (by omega) h4 (fun i a hq ea=>?_)
    by_cases h:i=(lo+hi) / 2
    ·subst h;rw [e] at ea;cases ea;omega
    ·have:=hr _ i (by omega) _ a e ea;omega
  ·exact ⟨by omega,h4,fun i a hi=>h5 i a (by omega)⟩
theorem HY {xs:Array Nat}(hr:Hw xs) (j:Nat):SetTable.below xs j≤xs.size/\(∀i a,i<SetTable.below xs j→xs[i]?=some a→a<j)/\∀i a,SetTable.below xs j≤i→xs[i]?=some a→j≤a :=
 HZ hr xs.size 0 xs.size (by omega) (by omega) (Nat.le_refl _) (fun i a h=>absurd h (by omega)) fun i a h e=>by
  rw [Array.getElem?_eq_none h] at e;cases e
theorem LX {xs:Array Nat}(hr:Hw xs) {i a:Nat}(e:xs[i]?=some a):SetTable.below xs (a+1)=i+1:=by
 obtain ⟨h1,h2,h3⟩:=HY hr (a+1)
 have hi:i<xs.size:=by rcases Nat.lt_or_ge i xs.size with h|h;exact h;rw [Array.getElem?_eq_none h] at e;cases e
 rcases Nat.lt_trichotomy (SetTable.below xs (a+1)) (i+1) with h|h|h
 ·have:=h3 i a (by omega) e;omega
 ·exact h
 ·have hx:i+1<xs.size:=by omega
  have e2:xs[i+1]?=some xs[i+1]:=Array.getElem?_eq_getElem hx
  have:=h2 (i+1) _ h e2
  have:=hr i (i+1) (by omega) _ _ e e2
  omega
theorem LW {xs:Array Nat}(hr:Hw xs):SetTable.below xs 0=0:=by
 obtain ⟨h1,h2,h3⟩:=HY hr 0
 rcases Nat.eq_zero_or_pos (SetTable.below xs 0) with h|h
 ·exact h
 ·have hx:0<xs.size:=by omega
  have:=h2 0 _ h (Array.getElem?_eq_getElem hx)
  omega
theorem J2 {xs:Array Nat}(hr:Hw xs) {j:Nat}(hn:xs[SetTable.below xs j]?≠some j):Hw (SetTable.insertAt xs (SetTable.below xs j) j):=by
 obtain ⟨h1,h2,h3⟩:=HY hr j
 generalize SetTable.below xs j=p at *
 have key:∀i,(SetTable.insertAt xs p j)[i]?=if i<p then xs[i]? else if i=p then some j else xs[i-1]?:=fun i=>by
  unfold SetTable.insertAt
  rw [Array.getElem?_append]
  have hs:((xs.extract 0 p).push j).size=p+1:=by simp;omega
  rw [hs]
  by_cases a1:i<p
  ·rw [if_pos a1,if_pos (by omega),Array.getElem?_push,if_neg (by simp;omega)]
   simp [Array.getElem?_extract];omega
  ·rw [if_neg a1]
   by_cases a2:i=p
   ·rw [if_pos a2,if_pos (by omega),Array.getElem?_push,if_pos (by simp;omega)]
   ·rw [if_neg a2,if_neg (by omega)]
    simp only [Array.getElem?_extract]
    have:p+(i-(p+1))=i-1:=by omega
    rw [this]
    split
    ·rfl
    ·rw [Array.getElem?_eq_none (by omega)]
 intro i k hik a b ea eb
 rw [key] at ea eb
 have lt3:∀i b,p≤i→xs[i]?=some b→j<b:=fun i b hi e=>by
  have l1:=h3 i b hi e
  rcases Nat.lt_or_ge j b with h|h
  ·exact h
  ·have hb:b=j:=by omega
   subst hb
   rcases Nat.lt_or_ge p i with h4|h4
   ·have hx:p<xs.size:=by
     rcases Nat.lt_or_ge i xs.size with h|h
     ·omega
     ·rw [Array.getElem?_eq_none h] at e;cases e
    have e2:=Array.getElem?_eq_getElem hx
    have:=hr p i h4 _ _ e2 e
    have:=h3 p _ (Nat.le_refl _) e2
    omega
   ·have:i=p:=by omega
    subst this
    exact absurd e hn
 split at ea
 ·split at eb
  ·exact hr i k hik a b ea eb
  ·split at eb
   ·cases eb;exact h2 i a (by assumption) ea
   ·have:=h2 i a (by assumption) ea;have:=h3 (k-1) b (by omega) eb;omega
 ·split at ea
  ·cases ea
   split at eb
   ·omega
   ·split at eb
    ·omega
    ·exact lt3 (k-1) b (by omega) eb
  ·split at eb
   ·omega
   ·split at eb
    ·omega
    ·exact hr (i-1) (k-1) (by omega) a b ea eb
theorem FL {t:SetTable}{h:Int}:∀(fuel:Nat) (p:SetTable.Probe),(∀d,p.dummy=some d→t.slot d=.dummy)→∀j dm,SetTable.probe.go t (fun _=>h+1) h fuel p=some (.empty j dm)→t.slot j=.empty/\∀d,dm=some d→t.slot d=.dummy
 | 0,p,hp,j,dm,e=>by unfold SetTable.probe.go at e;cases e
 | fuel+1,p,hp,j,dm,e=>by
  unfold SetTable.probe.go at e
  have adv:∀q:SetTable.Probe,(t.advance q).dummy=q.dummy:=fun q=>by
   unfold SetTable.advance;split <;> rfl
  split at e
  ·next hs=>cases e;exact ⟨hs,hp⟩
  ·next hs=>exact FL fuel _ (fun d hd=>by rw [adv] at hd;cases hd;exact hs) j dm e
  ·split at e
   ·cases e
   ·exact FL fuel _ (fun d hd=>by rw [adv] at hd;exact hp d hd) j dm e
theorem OJ {t:SetTable}{j:Nat}(h:∀i,t.slot j≠.live i):t.place[SetTable.below t.place j]?≠some j:=fun e=>by
 refine h (SetTable.below t.place j) ?_
 unfold SetTable.slot
 simp only [e]
 simp
def Good (l:Bool) (t:SetTable):Prop:=t.led=l/\(t.plain=true→Hw t.place)
theorem LQ (l:Bool):Good l (.fresh 0 0 l):=⟨rfl,fun _ i j h a b e=>by simp [SetTable.fresh] at e⟩
theorem EF {l:Bool}{t:SetTable}(h:t.led=l) (n:Nat):Good l (t.standIn n):=⟨h,fun e=>by simp [SetTable.standIn] at e⟩
theorem Ob {l:Bool} {t:SetTable} (h:Good l t):Good l { t with plain:=false }:=⟨h.1,fun e=>by simp at e⟩
theorem Oc {l:Bool}{t:SetTable}(g:Good l t) (es:Array (Int×Value)) (h:Int) (x:Value):Good l (layNew t es h x).2.1:=by
 unfold layNew
 split
 ·next slot wd hf =>
  dsimp only
  unfold SetTable.orStandIn
  have hl:(t.put slot).1.led=l:=g.1
  split
  ·refine ⟨hl,fun hp=>?_⟩
   refine J2 (g.2 hp) (OJ fun i=>?_)
   unfold SetTable.freeSlot at hf
   split at hf
   ·next j dm e =>
    obtain ⟨z1,z2⟩:=FL _ _ (fun d hd=>by simp [SetTable.probeStart] at hd) j dm e
    cases hf
    cases dm with
    | none=>rw [show (none:Option Nat).getD j=j from rfl,z1];exact fun e=>nomatch e
    | some d=>rw [show (some d:Option Nat).getD j=d from rfl,z2 d rfl];exact fun e=>nomatch e
   ·cases hf
  ·exact EF hl _
 ·exact EF g.1 _
theorem LP {l:Bool}{t:SetTable}(g:t.led=l) (es:Array (Int×Value)) (n:Nat):Good l (relayAll t es n).2.1:=by
 unfold relayAll
 split
 ·next t' order e =>
  dsimp only
  split
  ·unfold SetTable.relaid SetTable.laid at e
   simp only [Option.bind_eq_bind,Option.bind_eq_some_iff,Option.pure_def,Option.some.injEq,Prod.mk.injEq] at e
   obtain ⟨ow,_,e1,_⟩:=e
   subst e1
   refine ⟨g,fun _=>?_⟩
   dsimp only
   have pw:(((List.range (SetTable.sizeAbove n-1+1)).filterMap fun j=>(ow.getD j none).map (j,·)).map (·.1)).Pairwise (· < ·):=by
    rw [List.pairwise_map]
    refine List.Pairwise.filterMap _ ?_ List.pairwise_lt_range
    intro a b hab c hc d hd
    obtain ⟨_,_,rfl⟩:=Option.map_eq_some_iff.mp hc
    obtain ⟨_,_,rfl⟩:=Option.map_eq_some_iff.mp hd
    exact hab
   intro i j hij a b ea eb
   rw [List.getElem?_toArray] at ea eb
   obtain ⟨hi,rfl⟩:=List.getElem?_eq_some_iff.mp ea
   obtain ⟨hj,rfl⟩:=List.getElem?_eq_some_iff.mp eb
   exact List.pairwise_iff_getElem.mp pw i j hi hj hij
  ·exact EF g _
 ·exact EF g _
end Stk
namespace Stk
open PySem PySem.Spec PyProof.Rows L2
instance decMem (k:Key):∀L:List Key,Decidable (k∈L)
 | []=>.isFalse (by simp)
 | x::L=>if h:k=x then .isTrue (by simp [h]) else match decMem k L with
  | .isTrue h2=>.isTrue (by simp [h2])
  | .isFalse h2=>.isFalse (by simp [h,h2])
def keyOf:Value→Option Key
 | .int i _=>some (.inl i)
 | .str x _=>some (.inr x)
 | _=>none
theorem Ke {k:Key}{v:Value}(h:DZ k v=true):keyOf v=some k:=by
 rcases Ax h with ⟨i,t,rfl,rfl⟩|⟨x,t,rfl,rfl⟩ <;> rfl
theorem OW {k:Key}{v:Value}(h:keyOf v=some k):DZ k v=true:=by
 cases v <;> first|cases h|skip
 ·exact GG _ _
 ·exact GF _ _
theorem PX {k:Key}{v:Value}(h:DZ k v=true):v.scannable=true:=by
 rcases Ax h with ⟨i,t,rfl,rfl⟩|⟨x,t,rfl,rfl⟩ <;> rfl
def byT (w:World):Bool:=w.params.followText "set-order"
def Dj (prog:Program) (w:World) (h:Heap) (a:Addr) (L:List Key):Prop :=
 ∃o es ep t,h.get? a=some o/\o.ExactSet/\o.data=.set es ep t/\ElemsOf (Af prog w) es.toList/\(es.toList.map fun e=>keyOf e.2).Perm (L.map some)/\es.size<scanBound/\t.fits es.size=true/\Good (!byT w) t
section
variable {prog:Program}{w:World}{A:Around}{E:Value→Shared→Prop}{s:Shared}{a:Addr}{L:List Key}
theorem Dj.at' {h h':Heap}(x:Dj prog w h a L) (k:∀o,h.get? a=some o→h'.get? a=some o):Dj prog w h' a L :=
 let ⟨o,es,ep,t,ho,r⟩:=x;⟨o,es,ep,t,k o ho,r⟩
theorem Dj.type (x:Dj prog w s.heap a L):s.TypeIs (.ref a) "set" := let ⟨o,_,_,_,ho,hc,_⟩:=x;⟨o,ho,hc.1⟩
theorem Dj.lt {h:Heap}(x:Dj prog w h a L):a<h.objs.size:=let ⟨_,_,_,_,ho,_⟩:=x;Heap.lt_size ho
theorem store {h:Heap}{o:Obj}{es:Array (Int×Value)}{ep:Nat}{t:SetTable}(ho:h.get? a=some o) (hd:o.data=.set es ep t) {es':Array (Int×Value)}{t':SetTable} :
  (h.update a (Obj.putSet es' t')).get? a=some { o with data:=.set es' (ep+1) t' }:=by
 have:=Heap.get?_update_self (Obj.putSet es' t') ho (by rw [putSet_of es' t' hd];rfl)
 rw [putSet_of es' t' hd] at this;exact this
theorem Kv {g:Bool→Sem Unit}(hg:∀(b:Bool) (s₁:Shared) (Q':Unit→Shared→Prop),Q' () s₁→wpAny (model prog w) A (g b) Q' E s₁)
  {o:Obj} {es:Array (Int×Value)} {ep:Nat} {t:SetTable} (ho:s.heap.get? a=some o) (hex:o.ExactSet) (hd:o.data=.set es ep t)
  {es1:Array (Int×Value)} {t2:SetTable} (hel1:ElemsOf (Af prog w) es1.toList) (hp1:(es1.toList.map fun e=>keyOf e.2).Perm (L.map some))
  (hb1:es1.size<scanBound) (hf2:t2.fits es1.size=true) (hgd:Good (!byT w) t2) {wasDummy:Bool} {R:Option Bool→Shared→Prop}
  (h:∀h',Heap.SameBut a s.heap h'→Dj prog w h' a L→R (some true) { s with heap:=h' }) :
  wpAny (model prog w) A (do
    storeSet a es1 t2
    if (!wasDummy&&t2.tooFull)=true then do
      g (relayAll t2 es1 (SetTable.grown es1.size)).2.2
      storeSet a (relayAll t2 es1 (SetTable.grown es1.size)).1 (relayAll t2 es1 (SetTable.grown es1.size)).2.1
      pure (some true)
     else pure (some true)) R E s:=by
 refine wpAny_bind (wpAny_storeSet_of ho hd ?_ (fits_of_scanBound hb1))
 have ho1:=store (es':=es1) (t':=t2) ho hd
 have hsb1:=Heap.SameBut.update s.heap a (Obj.putSet es1 t2)
 split
 ·have hp:=relayAll_perm t2 es1 (SetTable.grown es1.size)
  have hfr:=relayAll_fits t2 es1 (SetTable.grown es1.size)
  have hgr:=LP hgd.1 es1 (SetTable.grown es1.size)
  generalize hRl:relayAll t2 es1 (SetTable.grown es1.size)=Rl at hp hfr hgr ⊢
  obtain ⟨es2,t3,gave2⟩:=Rl
  dsimp only at hp hfr hgr ⊢
  have hsz:es2.size=es1.size:=by rw [←Array.length_toList,hp.length_eq,Array.length_toList]
  have hb2:es2.size<scanBound:=by rw [hsz];exact hb1
  refine wpAny_bind (hg _ _ _ ?_)
  refine wpAny_bind (wpAny_storeSet_of ho1 rfl ?_ (fits_of_scanBound hb2))
  exact wpAny_pure (h _ (hsb1.trans (Heap.SameBut.update _ a _)) ⟨_,es2,_,t3,store ho1 rfl,hex,rfl,hel1.perm hp,(hp.map _).trans hp1,hb2,hfr,hgr⟩)
 ·exact wpAny_pure (h _ hsb1 ⟨_,es1,_,t2,ho1,hex,rfl,hel1,hp1,hb1,hf2,hgd⟩)
theorem Lc {k:Key}{x:Value}{Q:Bool→Shared→Prop}(hkey:DZ k x=true) (hS:Dj prog w s.heap a L) (hroom:L.length+1<scanBound)
  (h:∀h',Heap.SameBut a s.heap h'→Dj prog w h' a (if k∈L then L else L++[k])→Q (!decide (k∈L)) { s with heap:=h' }) :
  wpAny (model prog w) A (setAddHashed a x ((Af prog w).hash k)) Q E s:=by
 obtain ⟨o,es,ep,t,ho,hex,hd,hel,hpm,hb,hf,hgd⟩:=hS
 have hn:es.size=L.length:=by have:=hpm.length_eq;simpa using this
 have hsc:=PX hkey
 have hkey':(Af prog w).is k x=true:=hkey
 have hmem:∀k,k∈L↔∃e∈es.toList,(Af prog w).is k e.2=true:=fun k=>by
  have:=hpm.mem_iff (a:=some k)
  simp only [List.mem_map,Option.some.injEq,exists_eq_right] at this
  rw [←this]
  exact ⟨fun ⟨e,he,hk⟩=>⟨e,he,OW hk⟩,fun ⟨e,he,hk⟩=>⟨e,he,Ke hk⟩⟩
 unfold setAddHashed setAddHashedIn
 refine wpAny_holding (wpAny_bind (wpAny_setState_of ho hd hf ?_))
 dsimp only
 rw [byScan_of hsc hb hel]
 simp only [↓reduceIte]
 unfold setAddByScan
 refine wpAny_bind ?_
 refine wpAny_bind (wpAny_rule ?_)
 refine wpAny_bind (wpAny_setScan_of hkey' ho hd hf hel ?_)
 cases hr:List.findIdx? (fun e=>(Af prog w).is k e.2) es.toList with
 | some j =>
  dsimp only
  obtain ⟨hj,hpj,_⟩:=List.findIdx?_eq_some_iff_getElem.mp hr
  have hk:k∈L:=(hmem k).mpr ⟨es.toList[j],List.getElem_mem hj,hpj⟩
  refine wpAny_pure (wpAny_pure ?_)
  have:=h s.heap (Heap.SameBut.refl a s.heap) (by rw [if_pos hk];exact ⟨o,es,ep,t,ho,hex,hd,hel,hpm,hb,hf,hgd⟩)
  rw [decide_eq_true hk] at this
  exact this
 | none =>
  dsimp only
  have hk:k∉L:=fun hk=>by
   obtain ⟨e,he,hp⟩:=(hmem k).mp hk
   have:=List.findIdx?_eq_none_iff.mp hr e he
   rw [hp] at this;exact Bool.noConfusion this
  have hgw:∀(b:Bool) {s₁:Shared} {Q':Unit→Shared→Prop},Q' () s₁→wpAny (model prog w) A (match b with|true=>rule "set.scan.the-table-gave-way" | false=>pure ()) Q' E s₁ :=
   fun b s₁ Q' hq=>by cases b <;> first|exact wpAny_pure hq|exact wpAny_rule hq
  have hperm:=layNew_perm t es ((Af prog w).hash k) x
  have hfits:=layNew_fits t es ((Af prog w).hash k) x
  have hgl:=Oc hgd es ((Af prog w).hash k) x
  generalize hL:layNew t es ((Af prog w).hash k) x=Ly at hperm hfits hgl ⊢
  obtain ⟨es1,t1,wasDummy,gave⟩:=Ly
  dsimp only at hperm hfits hgl ⊢
  rw [Array.toList_push] at hperm
  have hel1:ElemsOf (Af prog w) es1.toList:=(hel.push hkey' hsc).perm hperm
  have hp1:(es1.toList.map fun e=>keyOf e.2).Perm ((L++[k]).map some):=by
   refine (hperm.map _).trans ?_
   rw [List.map_append,List.map_append]
   refine hpm.append ?_
   simp only [List.map_cons,List.map_nil]
   rw [Ke hkey]
  have hb1':es1.size<scanBound:=by
   have:=hp1.length_eq
   simp at this
   omega
  refine wpAny_bind (hgw _ ?_)
  have hend:∀h',Heap.SameBut a s.heap h'→Dj prog w h' a (L++[k])→Q true { s with heap:=h' }:=by
   intro h' hsb hS'
   have:=h h' hsb (by rw [if_neg hk];exact hS')
   rw [decide_eq_false hk] at this
   exact this
  split
  ·refine wpAny_bind ?_
   rw [hashByValue_scannable 8 hsc]
   refine wpAny_pure ?_
   refine Kv ?_ ho hex hd hel1 hp1 hb1' ?_ ?_ ?_
   ·intro b s₁ Q' hq;cases b <;> first|exact wpAny_pure hq|exact wpAny_rule hq
   ·split
    ·exact hfits
    ·exact SetTable.fits_plain_off hfits
   ·split
    ·exact hgl
    ·exact Ob hgl
   ·intro h' hsb hS';dsimp only;exact wpAny_pure (hend h' hsb hS')
  ·refine wpAny_bind (wpAny_pure ?_)
   simp only [↓reduceIte]
   refine Kv ?_ ho hex hd hel1 hp1 hb1' hfits hgl ?_
   ·intro b s₁ Q' hq;cases b <;> first|exact wpAny_pure hq|exact wpAny_rule hq
   ·intro h' hsb hS';dsimp only;exact wpAny_pure (hend h' hsb hS')
end
def once:List Key→List Key→List Key
 | L,[]=>L
 | L,k::ks=>once (if k∈L then L else L++[k]) ks
theorem KD:∀(ks L:List Key),(once L ks).length≤L.length+ks.length
 | [],L=>by simp [once]
 | k::ks,L=>by
  have:=KD ks (if k∈L then L else L++[k])
  unfold once
  by_cases hx:k∈L
  ·simp only [if_pos hx] at this ⊢;simp only [List.length_cons];omega
  ·simp only [if_neg hx,List.length_append,List.length_cons,List.length_nil] at this ⊢;omega
theorem GV (k:Key):∀(ks L:List Key),once L (ks++[k])=if k∈once L ks then once L ks else once L ks++[k]
 | [],L=>rfl
 | x::ks,L=>by simp only [List.cons_append,once];exact GV k ks _
theorem HH (k:Key):∀(ks L:List Key),k∈once L ks↔k∈L\/k∈ks
 | [],L=>by simp [once]
 | x::ks,L=>by
  unfold once
  rw [HH k ks]
  split
  ·simp only [List.mem_cons];constructor
   ·rintro (h|h);exact .inl h;exact .inr (.inr h)
   ·rintro (h|rfl|h);exact .inl h;exact .inl (by assumption);exact .inr h
  ·simp only [List.mem_append,List.mem_singleton,List.mem_cons,List.not_mem_nil,or_false,or_assoc]
theorem HF:∀(ks L:List Key),L.Nodup→(once L ks).Nodup
 | [],L,h=>h
 | x::ks,L,h=>by
  unfold once
  refine HF ks _ ?_
  split
  ·exact h
  ·next hx =>
   rw [List.nodup_append]
   refine ⟨h,by simp,fun a ha b hb e=>?_⟩
   simp at hb
   subst hb;subst e
   exact hx ha
section
variable {prog:Program}{w:World}{A:Around}{R:Result→Shared→Prop}{I:Addr}{fp wr:List Addr}{G:Array GenState→Array GenState→Prop}{n:Nat}{P:Nat→Value→Prop}{St:Nat→Shared→Prop}
theorem Jo (W:WalksS prog w A.in1 I fp wr G n P St) (S:Addr) (hSf:S∉fp) (ks:List Key) (hn:ks.length=n) (hval:∀(i:Nat) k v,ks[i]?=some k→P i v→DZ k v=true) (hb:n+1<scanBound) :
  ∀(k i:Nat) (s:Shared),n-i=k→i≤n→St i s→Dj prog w s.heap S (once [] (ks.take i))→(∀s',Moved (S::wr) G s s'→Dj prog w s'.heap S (once [] ks)→R (.ok (.ret .none)) s') →
   codeAny (model prog w) A (.builtin "set.update.loop" ⟨[.ref S,.ref I],[]⟩) R s:=by
 have hSw:S∉wr:=fun h=>hSf (W.sub _ h)
 have hsub:∀b∈wr,b∈S::wr:=fun b hb=>List.mem_cons_of_mem _ hb
 intro k
 induction k with
 | zero =>
  intro i s hk hi hst hS hR
  have hin:i=n:=by omega
  subst hin
  refine codeAny_builtin PyProof.Rows.F.entry_set_update_loop ?_
  rw [Around.under_plainId PyProof.Rows.F.plain_set_update_loop _]
  show wpAny _ A.in1 (pyNext (.ref I) >>= _) _ _ s
  refine wpAny_bind (W.done s _ _ hst fun s' hm=>?_)
  show wpAny _ A.in1 (ret Value.none) _ _ s'
  rw [List.take_of_length_le (by omega)] at hS
  exact wpAny_pure (hR s' (hm.mono hsub) (hS.at' fun o e=>hm.heap S _ hSw e))
 | succ k ih =>
  intro i s hk hi hst hS hR
  have hlt:i<n:=by omega
  refine codeAny_builtin PyProof.Rows.F.entry_set_update_loop ?_
  rw [Around.under_plainId PyProof.Rows.F.plain_set_update_loop _]
  show wpAny _ A.in1 (pyNext (.ref I) >>= _) _ _ s
  refine wpAny_bind (W.item i s _ _ hlt hst fun v s' hP hst' hm=>?_)
  have hki:ks[i]?=some (ks[i]'(by omega)):=List.getElem?_eq_getElem (by omega)
  have hv:=hval i _ v hki hP
  have hS':Dj prog w s'.heap S (once [] (ks.take i)):=hS.at' fun o e=>hm.heap S _ hSw e
  show wpAny _ A.in1 (holding [v] (setAdd S v) >>= _) _ _ s'
  refine wpAny_bind (wpAny_holding ?_)
  unfold setAdd
  refine wpAny_holding ?_
  refine wpAny_bind ((Af prog w).pyHash (show (Af prog w).is _ v=true from hv) ?_)
  have hroom:(once [] (ks.take i)).length+1<scanBound:=by have:=KD (ks.take i) [];simp at this;omega
  refine Lc (s:={ s' with toks:=s'.toks+1 }) hv hS' hroom fun h' hsb hS2=>?_
  have hSi:Dj prog w h' S (once [] (ks.take (i+1))):=by
   rw [List.take_add_one,hki]
   rw [show (some (ks[i]'(by omega))).toList=[ks[i]'(by omega)] from rfl,GV]
   exact hS2
  refine wpAny_pure ⟨plainId_quiet PyProof.Rows.F.plain_set_update_loop _,ih (i+1) _ (by omega) hlt (W.frame _ s' _ _ hst' (Nat.le_succ _) fun b hb o e=>?_) hSi fun s'' hm'' hS''=>?_⟩
  ·rw [hsb.2 b (fun h:b=S=>hSf (by rw [←h];exact hb))];exact e
  ·refine hR s'' (Moved.trans W.gtrans ((hm.mono hsub).then_heap (Nat.le_succ _) fun b o hb e=>?_) hm'') hS''
   rw [hsb.2 b (fun h:b=S=>hb (by rw [h];exact List.mem_cons_self))];exact e
end
end Stk
namespace Stk
open PySem PySem.Spec PyProof.Rows L2
section
variable {prog:Program}{w:World}{A:Around}{E:Value→Shared→Prop}{s:Shared}
abbrev HG (w:World):Obj:={ cls:=.type "set", dict:=none,data:=.set #[] 0 (.fresh 0 0 (!byT w)) }
theorem PV (a:Value) {Q₁:Value→Shared→Prop} (h:Q₁ (.ref s.heap.objs.size) { s with heap:=s.heap.push (HG w) }) :
  codeAny (model prog w) A (.call (.builtin "set.__new__") ⟨[.type "set", a],[]⟩) (wants Q₁ E) s:=by
 refine codeAny_of_tree ?_
 show wpAny _ A.in1 (do checkBuiltinCall "set.__new__" ⟨[.type "set", a],[]⟩;again (.builtin "set.__new__" ⟨[.type "set", a],[]⟩)) _ _ s
 refine wpAny_bind (wpAny_of_eq (PySem.F.newCall_set_1 a) (wpAny_pure ⟨plainId_quiet PySem.F.plain_set_new _,codeAny_builtin PySem.F.entry_set_new ?_⟩))
 rw [Around.under_plainId PySem.F.plain_set_new _]
 unfold Builtin.«set.__new__» Builtin.Frozenset.newClass
 have hsub:=sub_set_self
 obtain ⟨hp,g,d,tk,os⟩:=s
 dsimp only
 wp_walk
 refine wpAny_askSetting (wpAny_pure ?_)
 dsimp only
 simp only [newObj]
 refine wpAny_bind (wpAny_alloc (wpAny_pure ?_))
 exact wpAny_pure h
theorem K8 {h:Heap}{a:Addr}(e:h.get? a=some (HG w)):Dj prog w h a [] :=
 ⟨_,#[],0,_,e,⟨rfl,rfl,rfl⟩,rfl,fun e he=>by simp at he,by simp,by decide,by rfl,LQ _⟩
end
end Stk
namespace Stk
open PySem PySem.Spec PyProof.Rows L2
theorem FT {α:Type}:∀(xs:List α) (i:Nat) (h:i<xs.length),(xs[i]::xs.eraseIdx i).Perm xs
 | x::xs,0,h=>.refl _
 | x::xs,i+1,h=>by
  simp only [List.getElem_cons_succ,List.eraseIdx_cons_succ]
  exact (List.Perm.swap ..).trans ((FT xs i (by simpa using h)).cons x)
theorem NG {M:Model} {A:Around} {E:Value→Shared→Prop} {s:Shared} {src:Source} {n:Nat} {Q:Nat→Shared→Prop} (hn:n≠0) (h:∀i d,i<n→Q i { s with drawn:=d }):wpAny M A (choose src n) Q E s:=fun Γ p hΓ=>by
 unfold choose
 rw [Sem.wp_choose]
 refine ⟨hn,?_⟩
 exact wpAny_pure (M:=M) (A:=A) (E:=E) (Q:=Q) (h _ _ (Nat.mod_lt _ (Nat.pos_of_ne_zero hn))) Γ p hΓ
theorem Fs {M:Model} {A:Around} {E:Value→Shared→Prop} {α:Type}:∀(n:Nat) (xs:List α) (s:Shared) (Q:List α→Shared→Prop),xs.length=n→(∀ys d,ys.Perm xs→Q ys { s with drawn:=d })→wpAny M A (drawOrder n xs) Q E s
 | 0,xs,s,Q,hl,h=>by
  unfold drawOrder
  exact wpAny_pure (h [] s.drawn (by rw [List.length_eq_zero_iff.mp hl]))
 | n+1,[],s,Q,hl,h=>by simp at hl
 | n+1,x::xs,s,Q,hl,h=>by
  unfold drawOrder
  refine wpAny_bind (NG (by simp) fun i d hi=>?_)
  have e:(x::xs)[i]?=some (x::xs)[i]:=List.getElem?_eq_getElem hi
  rw [e]
  dsimp only
  refine wpAny_bind (Fs n _ _ _ (by rw [List.length_eraseIdx,if_pos hi];omega) fun ys d' hp=>wpAny_pure ?_)
  exact h _ d' ((hp.cons _).trans (FT _ _ hi))
theorem IP {α:Type}(nx:Nat→Nat):∀(n k:Nat) (xs:List α) (out:Array α),xs.length=n→(pickOrder.go nx n k xs out).toList.Perm (out.toList++xs)
 | 0,k,xs,out,hl=>by
  unfold pickOrder.go
  rw [List.length_eq_zero_iff.mp hl,List.append_nil]
 | n+1,k,xs,out,hl=>by
  unfold pickOrder.go
  have hi:nx k % xs.length<xs.length:=Nat.mod_lt _ (by omega)
  rw [List.getElem?_eq_getElem hi]
  dsimp only
  refine (IP nx n (k+1) _ _ (by rw [List.length_eraseIdx,if_pos hi];omega)).trans ?_
  rw [Array.toList_push,List.append_assoc,List.singleton_append]
  exact List.Perm.append_left _ (FT _ _ hi)
theorem CH {α:Type}(nx:Nat→Nat) (xs:Array α):(pickOrder nx xs).toList.Perm xs.toList:=by
 unfold pickOrder
 simpa using IP nx xs.size 0 xs.toList #[] (by simp)
def Dl (h:Heap) (it:Addr) (first:Value) (i:Nat) (S:Addr) (n ep:Nat):Prop:=∃o,h.get? it=some o/\o.cls=.type "set_iterator" /\ o.data=.fields #[first,.int i 0,.ref S,.int n 0,.int ep 0]
def GO (h:Heap) (S:Addr) (es:Array (Int×Value)) (ep:Nat) (t:SetTable):Prop:=∃o,h.get? S=some o/\o.ExactSet/\o.data=.set es ep t/\t.fits es.size=true
section
variable {prog:Program}{w:World}{A:Around}{E:Value→Shared→Prop}{s:Shared}{S it:Addr}{es:Array (Int×Value)}{ep i n:Nat}{t:SetTable}{first:Value}
theorem Dl.type (x:Dl s.heap it first i S n ep):s.TypeIs (.ref it) "set_iterator" := let ⟨o,e,c,_⟩:=x;⟨o,e,c⟩
theorem GO.keep {h h':Heap}(r:GO h S es ep t) (k:∀o,h.get? S=some o→h'.get? S=some o):GO h' S es ep t:=let ⟨o,e,c⟩:=r;⟨o,k o e,c⟩
theorem Dl.keep {h h':Heap}(r:Dl h it first i S n ep) (k:∀o,h.get? it=some o→h'.get? it=some o):Dl h' it first i S n ep:=let ⟨o,e,c⟩:=r;⟨o,k o e,c⟩
theorem Dl.Qb {h:Heap}(x:Dl h it first i S n ep) (v:Value):Dl (h.update it (Obj.mapFields (·.setIfInBounds 0 v))) it v i S n ep:=by
 obtain ⟨o,e,c,d⟩:=x
 exact ⟨_,Heap.get?_update_self _ e (Obj.isFreed_of_fields (Obj.data_mapFields d _)),(Obj.cls_mapFields ..).trans c,by rw [Obj.data_mapFields d];simp⟩
theorem Dl.RW {h:Heap}(x:Dl h it first i S n ep):Dl (h.update it (Obj.mapFields (·.setIfInBounds 1 (rawInt ((i:Int)+1))))) it first (i+1) S n ep:=by
 obtain ⟨o,e,c,d⟩:=x
 exact ⟨_,Heap.get?_update_self _ e (Obj.isFreed_of_fields (Obj.data_mapFields d _)),(Obj.cls_mapFields ..).trans c,by rw [Obj.data_mapFields d];simp [rawInt]⟩
theorem LJ {T:Addr}{ps:List Nat}{p:Nat}{e:Int×Value}(x:Dl s.heap it (.ref T) i S es.size ep) (r:GO s.heap S es ep t) (hT:s.heap.IsTuple T (ps.map fun (p:Nat)=>rawInt p).toArray) (hp:ps[i]?=some p) (he:es[p]?=some e) {Q:Option Value→Shared→Prop}
  (hQ:∀h',Dl h' it (.ref T) (i+1) S es.size ep→Heap.SameBut it s.heap h'→Q (some e.2) { s with heap:=h' }):wpAny (model prog w) A (pyNext (.ref it)) Q E s:=by
 have ty:=x.type
 obtain ⟨o,ho,hc,hd⟩:=id x
 obtain ⟨od,ho2,c2,hd2,hf⟩:=r
 unfold pyNext
 refine wpAny_bind (wpAny_attempt (wpAny_callSpecial?_slot (name:=Str.ofString "__next__") ty slot_next (wpAny_call_entry slot_next ty entry_next ?_ (args_next _))))
 unfold Builtin.«set_iterator.__next__»
 refine wpAny_bind (wpAny_pure (wpAny_bind (wpAny_fieldsOf ho hd ?_)))
 show wpAny _ _ (setEntries S >>= _) _ _ s
 refine wpAny_bind (wpAny_setEntries_of ho2 hd2 hf ?_)
 rw [if_neg (by simp)]
 obtain ⟨oT,hoT,cT,mT,dT⟩:=hT
 refine wpAny_bind (wpAny_seqItems hoT dT ?_)
 have e1:(ps.map fun (p:Nat)=>rawInt p).toArray[(i:Int).toNat]?=some (.int (p:Int) 0):=by
  rw [Int.toNat_natCast,List.getElem?_toArray,List.getElem?_map,hp];rfl
 simp only [e1]
 refine wpAny_bind ?_
 unfold setNextDrawn
 refine wpAny_bind (wpAny_setState_of ho2 hd2 hf ?_)
 dsimp only
 rw [if_neg (by simp)]
 simp only [Int.toNat_natCast,he]
 refine wpAny_pure ?_
 refine wpAny_bind (wpAny_setField ho hd (by simp) ?_)
 exact wpAny_pure ⟨_,rfl,wpAny_pure (hQ _ x.RW (Heap.SameBut.update ..))⟩
theorem Lj (hh:A.handled=none) {s₂:Shared} {Q:Option Value→Shared→Prop} (hQ:∀h',(∀b o,s₂.heap.get? b=some o→h'.get? b=some o)→Q none { s₂ with heap:=h' }) :
  wpAny (model prog w) A.in1 (newExc (.type "StopIteration") [] >>= fun e=>raiseNew (α:=Fin) e) (fun fin s'=>∃v, fin=Fin.done (Flow.ret v)/\wpAny (model prog w) A (match (Except.ok (some v):Except Value (Option Value)) with
        | Except.ok (some v)=>pure (some v)
        | Except.ok none=>unsupported "iter:the-iterator's-class-has-lost-its-__next__-amid-the-walk"
        | Except.error e=>do
         let b ← isInstance e (Value.type "StopIteration")
         if b=true then pure none else throw e) Q E s') (fun e s'=>wpAny (model prog w) A (match (Except.error e:Except Value (Option Value)) with
        | Except.ok (some v)=>pure (some v)
        | Except.ok none=>unsupported "iter:the-iterator's-class-has-lost-its-__next__-amid-the-walk"
        | Except.error e=>do
         let b ← isInstance e (Value.type "StopIteration")
         if b=true then pure none else throw e) Q E s') s₂:=by
 refine wpAny_bind ?_
 simp only [newExc,newTuple]
 refine wpAny_bind (wpAny_newObj_type (wpAny_bind (m:=firstArgMember _ _) (wpAny_of_eq (a:=Value.none) (by first|rfl|(simp only [firstArgMember];rfl)) (wpAny_newObj_type ?_ (by size_fits)))) (by size_fits))
 simp only [raiseNew]
 refine wpAny_bind (wpAny_handled ?_)
 rw [show A.in1.handled=none from hh]
 refine wpAny_bind (wpAny_pure (wpAny_throw ?_))
 refine wpAny_bind (wpAny_isInstance (T := "StopIteration") (b:=true) ⟨_,Heap.get?_push_size _ rfl,rfl⟩ isSubtype_stop ?_)
 exact wpAny_pure (hQ _ fun b o e=>Heap.get?_push_of_some _ (Heap.get?_push_of_some _ e))
theorem NA (hh:A.handled=none) {T:Addr}{ps:List Nat}(x:Dl s.heap it (.ref T) i S es.size ep) (r:GO s.heap S es ep t) (hT:s.heap.IsTuple T (ps.map fun (p:Nat)=>rawInt p).toArray) (hp:ps[i]?=none) {Q:Option Value→Shared→Prop}
  (hQ:∀h',Heap.ExtBut it s.heap h'→Q none { s with heap:=h' }):wpAny (model prog w) A (pyNext (.ref it)) Q E s:=by
 have ty:=x.type
 obtain ⟨o,ho,hc,hd⟩:=id x
 obtain ⟨od,ho2,c2,hd2,hf⟩:=r
 unfold pyNext
 refine wpAny_bind (wpAny_attempt (wpAny_callSpecial?_slot (name:=Str.ofString "__next__") ty slot_next (wpAny_call_entry slot_next ty entry_next ?_ (args_next _))))
 unfold Builtin.«set_iterator.__next__»
 refine wpAny_bind (wpAny_pure (wpAny_bind (wpAny_fieldsOf ho hd ?_)))
 show wpAny _ _ (setEntries S >>= _) _ _ s
 refine wpAny_bind (wpAny_setEntries_of ho2 hd2 hf ?_)
 rw [if_neg (by simp)]
 obtain ⟨oT,hoT,cT,mT,dT⟩:=hT
 refine wpAny_bind (wpAny_seqItems hoT dT ?_)
 have e1:(ps.map fun (p:Nat)=>rawInt p).toArray[(i:Int).toNat]?=none:=by
  rw [Int.toNat_natCast,List.getElem?_toArray,List.getElem?_map,hp];rfl
 simp only [e1]
 refine wpAny_bind (wpAny_setField ho hd (by simp) ?_)
 obtain ⟨o1,h1,c1,d1⟩:=x.Qb (rawInt 0)
 refine wpAny_bind (wpAny_setField h1 d1 (by simp) ?_)
 refine Lj hh fun h' k=>hQ _ fun b o hb e=>k b o ?_
 exact ((Heap.SameBut.update ..).trans (Heap.SameBut.update ..)).extBut b o hb e
theorem KL {slot j:Nat}{v:Value}(x:Dl s.heap it (.int slot 0) i S es.size ep) (r:GO s.heap S es ep t)
  (hn:∀Q':Option (Value×Nat)→Shared→Prop,Q' (some (v,j)) s→∀E,wpAny (model prog w) A.in1 (setNext S slot i ep) Q' E s) {Q:Option Value→Shared→Prop}
  (hQ:∀h',Dl h' it (.int j 0) (i+1) S es.size ep→Heap.SameBut it s.heap h'→Q (some v) { s with heap:=h' }):wpAny (model prog w) A (pyNext (.ref it)) Q E s:=by
 have ty:=x.type
 obtain ⟨o,ho,hc,hd⟩:=id x
 obtain ⟨od,ho2,c2,hd2,hf⟩:=r
 unfold pyNext
 refine wpAny_bind (wpAny_attempt (wpAny_callSpecial?_slot (name:=Str.ofString "__next__") ty slot_next (wpAny_call_entry slot_next ty entry_next ?_ (args_next _))))
 unfold Builtin.«set_iterator.__next__»
 refine wpAny_bind (wpAny_pure (wpAny_bind (wpAny_fieldsOf ho hd ?_)))
 show wpAny _ _ (setEntries S >>= _) _ _ s
 refine wpAny_bind (wpAny_setEntries_of ho2 hd2 hf ?_)
 rw [if_neg (by simp)]
 show wpAny _ _ (setNext S (slot:Int).toNat (i:Int).toNat (ep:Int).toNat >>= _) _ _ s
 rw [Int.toNat_natCast,Int.toNat_natCast,Int.toNat_natCast]
 refine wpAny_bind (hn _ ?_ _)
 dsimp only
 refine wpAny_bind (wpAny_setField ho hd (by simp) ?_)
 obtain ⟨o1,h1,c1,d1⟩:=x.Qb (rawInt j)
 refine wpAny_bind (wpAny_setField h1 d1 (by simp) ?_)
 exact wpAny_pure ⟨_,rfl,wpAny_pure (hQ _ (x.Qb (rawInt j)).RW ((Heap.SameBut.update ..).trans (Heap.SameBut.update ..)))⟩
theorem L8 (hh:A.handled=none) {slot:Nat}(x:Dl s.heap it (.int slot 0) i S es.size ep) (r:GO s.heap S es ep t)
  (hn:∀Q':Option (Value×Nat)→Shared→Prop,Q' none s→∀E,wpAny (model prog w) A.in1 (setNext S slot i ep) Q' E s) {Q:Option Value→Shared→Prop}
  (hQ:∀h',Heap.ExtBut it s.heap h'→Q none { s with heap:=h' }):wpAny (model prog w) A (pyNext (.ref it)) Q E s:=by
 have ty:=x.type
 obtain ⟨o,ho,hc,hd⟩:=id x
 obtain ⟨od,ho2,c2,hd2,hf⟩:=r
 unfold pyNext
 refine wpAny_bind (wpAny_attempt (wpAny_callSpecial?_slot (name:=Str.ofString "__next__") ty slot_next (wpAny_call_entry slot_next ty entry_next ?_ (args_next _))))
 unfold Builtin.«set_iterator.__next__»
 refine wpAny_bind (wpAny_pure (wpAny_bind (wpAny_fieldsOf ho hd ?_)))
 show wpAny _ _ (setEntries S >>= _) _ _ s
 refine wpAny_bind (wpAny_setEntries_of ho2 hd2 hf ?_)
 rw [if_neg (by simp)]
 show wpAny _ _ (setNext S (slot:Int).toNat (i:Int).toNat (ep:Int).toNat >>= _) _ _ s
 rw [Int.toNat_natCast,Int.toNat_natCast,Int.toNat_natCast]
 refine wpAny_bind (hn _ ?_ _)
 dsimp only
 refine wpAny_bind (wpAny_setField ho hd (by simp) ?_)
 refine Lj hh fun h' k=>hQ _ fun b o hb e=>k b o ?_
 exact (Heap.SameBut.update ..).extBut b o hb e
theorem FZ {E:Value→Shared→Prop}(hb:byT w=true) (r:GO s.heap S es ep t) (slot:Nat) (Q':Option (Value×Nat)→Shared→Prop) (h:Q' (((pickOrder (w.params.setOrder S ep) es)[i]?).map fun e=>(e.2,slot)) s):wpAny (model prog w) A (setNext S slot i ep) Q' E s:=by
 obtain ⟨od,ho2,c2,hd2,hf⟩:=r
 unfold setNext
 refine wpAny_bind (wpAny_setState_of ho2 hd2 hf ?_)
 dsimp only
 refine wpAny_bind (m:=setsByText) ?_
 unfold setsByText
 refine wpAny_bind (wpAny_askSetting (wpAny_pure ?_))
 show wpAny _ _ (if byT w=true then _ else _) _ _ s
 rw [if_pos hb,if_neg (by simp)]
 refine wpAny_bind ?_
 unfold setWalk
 refine wpAny_bind (wpAny_setState_of ho2 hd2 hf ?_)
 dsimp only
 refine wpAny_bind (m:=setsByText) ?_
 unfold setsByText
 refine wpAny_bind (wpAny_askSetting (wpAny_pure ?_))
 show wpAny _ _ (if byT w=true then _ else _) _ _ s
 rw [if_pos hb]
 exact wpAny_bind (wpAny_askSetting (wpAny_pure (wpAny_pure h)))
theorem GQ {E:Value→Shared→Prop}(hb:byT w=false) (r:GO s.heap S es ep t) (hl:t.led=true) (hd:(!t.plain&&decide (es.size > 1))=false) (hr:Hw t.place) (slot:Nat) (hs:SetTable.below t.place slot=i) (Q':Option (Value×Nat)→Shared→Prop)
  (h1:∀e j,es[i]?=some e→t.place[i]?=some j→Q' (some (e.2,j+1)) s) (h2:es.size≤i→Q' none s):wpAny (model prog w) A (setNext S slot i ep) Q' E s:=by
 obtain ⟨od,ho2,c2,hd2,hf⟩:=r
 have hps:t.place.size=es.size:=by
  simp only [SetTable.fits,Bool.and_eq_true,beq_iff_eq] at hf
  exact hf.1
 unfold setNext
 refine wpAny_bind (wpAny_setState_of ho2 hd2 hf ?_)
 dsimp only
 refine wpAny_bind (m:=setsByText) ?_
 unfold setsByText
 refine wpAny_bind (wpAny_askSetting (wpAny_pure ?_))
 show wpAny _ _ (if byT w=true then _ else if (!t.plain&&decide (es.size > 1))=true then _ else _) _ _ s
 rw [if_neg (by rw [hb];exact Bool.false_ne_true),if_neg (by rw [hd];exact Bool.false_ne_true)]
 refine wpAny_bind (m:=if (!t.led&&!es.isEmpty)=true then _ else _) ?_
 rw [if_neg (by rw [hl];simp)]
 refine wpAny_pure ?_
 rw [hs]
 rcases Nat.lt_or_ge i es.size with h|h
 ·have e1:es[i]?=some es[i]:=Array.getElem?_eq_getElem h
  have e2:t.place[i]?=some (t.place[i]'(by omega)):=Array.getElem?_eq_getElem (by omega)
  rw [e1,e2]
  exact wpAny_pure (h1 _ _ e1 e2)
 ·rw [Array.getElem?_eq_none h]
  exact wpAny_pure (h2 h)
end
end Stk
namespace Stk
open PySem PySem.Spec PyProof.Rows L2
theorem NO (a:Value):argsOk "set_iterator.__iter__" ⟨[a],[]⟩:=by
 unfold argsOk;rw [signature?_of (id := "set_iterator.__iter__") (n:=['_','_','r','e','t','i','_','_']) (o:=['r','o','t','a','r','e','t','i','_','t','e','s']) (by kernel_rfl) J8];kernel_rfl
theorem LS:entryFor table "set_iterator.__iter__" = some Builtin.«dict_keyiterator.__iter__» :=
 entryFor_alias (id' := "dict_keyiterator.__iter__") (by kernel_rfl) rfl (by decide +kernel) (by kernel_rfl)
section
variable {prog:Program}{w:World}{A:Around}{E:Value→Shared→Prop}{s:Shared}{S it:Addr}{es:Array (Int×Value)}{ep i n:Nat}{t:SetTable}{first:Value}
theorem GH (x:Dl s.heap it first i S n ep) {Q:Value→Shared→Prop}(h:Q (.ref it) s):wpAny (model prog w) A (pyIter (.ref it)) Q E s:=by
 refine wpAny_pyIter_slot x.type IH (wpAny_call_entry IH x.type LS ?_ (NO _))
 show wpAny _ _ (ret (.ref it)) _ _ s
 exact wpAny_pure ⟨_,rfl, "set_iterator", _,x.type,slot_next.lookup,h⟩
theorem Kx (hh:A.handled=none) (I T:Addr) (h1:S≠I) (h2:T≠I) (ps:List Nat) (vs:List Value) (hl:ps.length=es.size) (hv:∀(i p:Nat),ps[i]?=some p→∃e,es[p]?=some e/\vs[i]?=some e.2) :
  Walks prog w A I [I,S,T] [I] es.size (fun i v=>vs[i]?=some v) (fun i h=>Dl h I (.ref T) i S es.size ep/\GO h S es ep t/\h.IsTuple T (ps.map fun (p:Nat)=>rawInt p).toArray) where
 sub:=fun b hb=>by simp at hb;simp [hb]
 frame:=fun i h h' st k=>⟨st.1.keep (k I (by simp)),st.2.1.keep (k S (by simp)),let ⟨o,e,c⟩:=st.2.2;⟨o,k T (by simp) o e,c⟩⟩
 item:=fun i s Q E hi st hQ=>by
  have hp:ps[i]?=some (ps[i]'(by omega)):=List.getElem?_eq_getElem (by omega)
  obtain ⟨e,he,hve⟩:=hv i _ hp
  refine LJ st.1 st.2.1 st.2.2 hp he fun h' k' sb=>hQ _ h' s.toks hve ⟨k',st.2.1.keep fun o e=>sb.extBut S o h1 e,let ⟨o,e,c⟩:=st.2.2;⟨o,sb.extBut T o h2 e,c⟩⟩ fun b o hb e=>sb.extBut b o (fun h=>hb (by simp [h])) e
 done:=fun s Q E st hQ=>NA hh st.1 st.2.1 st.2.2 (List.getElem?_eq_none (by omega)) fun h' he=>hQ h' s.toks fun b o hb e=>he b o (fun h=>hb (by simp [h])) e
 self:=fun i s Q E st hQ=>GH st.1 hQ
theorem MR (hh:A.handled=none) (hb:byT w=true) (I:Addr) (h1:S≠I) :
  Walks prog w A I [I,S] [I] es.size (fun i v=>((pickOrder (w.params.setOrder S ep) es).toList.map (·.2))[i]?=some v) (fun i h=>Dl h I (.int (0:Nat) 0) i S es.size ep/\GO h S es ep t) where
 sub:=fun b hb=>by simp at hb;simp [hb]
 frame:=fun i h h' st k=>⟨st.1.keep (k I (by simp)),st.2.keep (k S (by simp))⟩
 item:=fun i s Q E hi st hQ=>by
  have hsz:(pickOrder (w.params.setOrder S ep) es).size=es.size:=by have:=(CH (w.params.setOrder S ep) es).length_eq;simpa using this
  have e:(pickOrder (w.params.setOrder S ep) es)[i]?=some ((pickOrder (w.params.setOrder S ep) es)[i]'(by omega)):=Array.getElem?_eq_getElem (by omega)
  refine KL (v:=((pickOrder (w.params.setOrder S ep) es)[i]'(by omega)).2) (j:=0) st.1 st.2 (fun Q' q E=>FZ hb st.2 0 Q' (by rw [e];exact q)) fun h' k' sb=>hQ _ h' s.toks (by rw [List.getElem?_map,Array.getElem?_toList,e];rfl) ⟨k',st.2.keep fun o e=>sb.extBut S o h1 e⟩ fun b o hb e=>sb.extBut b o (fun h=>hb (by simp [h])) e
 done:=fun s Q E st hQ=>by
  have hsz:(pickOrder (w.params.setOrder S ep) es).size=es.size:=by have:=(CH (w.params.setOrder S ep) es).length_eq;simpa using this
  exact L8 hh st.1 st.2 (fun Q' q E=>FZ hb st.2 0 Q' (by rw [Array.getElem?_eq_none (by omega)];exact q)) fun h' he=>hQ h' s.toks fun b o hb e=>he b o (fun h=>hb (by simp [h])) e
 self:=fun i s Q E st hQ=>GH st.1 hQ
theorem NU (hh:A.handled=none) (hb:byT w=false) (hl:t.led=true) (hd:(!t.plain&&decide (es.size > 1))=false) (hr:Hw t.place) (I:Addr) (h1:S≠I) :
  Walks prog w A I [I,S] [I] es.size (fun i v=>(es.toList.map (·.2))[i]?=some v) (fun i h=>(∃slot:Nat,SetTable.below t.place slot=i/\Dl h I (.int slot 0) i S es.size ep)/\GO h S es ep t) where
 sub:=fun b hb=>by simp at hb;simp [hb]
 frame:=fun i h h' st k=>⟨let ⟨sl,e,x⟩:=st.1;⟨sl,e,x.keep (k I (by simp))⟩,st.2.keep (k S (by simp))⟩
 item:=fun i s Q E hi st hQ=>by
  obtain ⟨⟨sl,hs,x⟩,r⟩:=st
  have hps:t.place.size=es.size:=by
   obtain ⟨_,_,_,_,hf⟩:=r
   simp only [SetTable.fits,Bool.and_eq_true,beq_iff_eq] at hf
   exact hf.1
  have e2:t.place[i]?=some (t.place[i]'(by omega)):=Array.getElem?_eq_getElem (by omega)
  refine KL (v:=(es[i]).2) (j:=(t.place[i]'(by omega))+1) x r (fun Q' q E=>GQ hb r hl hd hr sl hs Q' (fun e j e3 e4=>?_) fun h=>absurd hi (by omega)) fun h' k' sb=>hQ _ h' s.toks ?_ ⟨⟨_,LX hr e2,k'⟩,r.keep fun o e=>sb.extBut S o h1 e⟩ fun b o hb e=>sb.extBut b o (fun h=>hb (by simp [h])) e
  ·rw [Array.getElem?_eq_getElem hi] at e3
   rw [e2] at e4
   cases e3;cases e4
   exact q
  ·rw [List.getElem?_map,Array.getElem?_toList,Array.getElem?_eq_getElem hi];rfl
 done:=fun s Q E st hQ=>by
  obtain ⟨⟨sl,hs,x⟩,r⟩:=st
  refine L8 hh x r (fun Q' q E=>GQ hb r hl hd hr sl hs Q' (fun e j e3 e4=>?_) fun h=>q) fun h' he=>hQ h' s.toks fun b o hb e=>he b o (fun h=>hb (by simp [h])) e
  rw [Array.getElem?_eq_none (Nat.le_refl _)] at e3
  cases e3
 self:=fun i s Q E st hQ=>let ⟨⟨_,_,x⟩,_⟩:=st;GH x hQ
theorem OX {L:List Key}(hh:A.handled=none) (x:Dj prog w s.heap S L) {Q:Value→Shared→Prop}
  (hQ:∀(h':Heap) (d:Drawn) (I:Addr) (fp:List Addr) (St:Nat→Heap→Prop) (vs:List Value) (n:Nat),vs.length=n→(∀b o,s.heap.get? b=some o→h'.get? b=some o)→(∀b∈fp,b=S\/s.heap.objs.size≤b)→s.heap.objs.size≤I →
   Walks prog w A I fp [I] n (fun i v=>vs[i]?=some v) St→St 0 h'→(vs.map keyOf).Perm (L.map some)→n<scanBound→Q (.ref I) { s with heap:=h',drawn:=d }) :
  wpAny (model prog w) A (pyIter (.ref S)) Q E s:=by
 have ty:=x.type
 have hlt:=x.lt
 obtain ⟨o,es,ep,t,ho,hex,hd,hel,hpm,hb,hf,hgd⟩:=x
 have raw:GO s.heap S es ep t:=⟨o,ho,hex,hd,hf⟩
 refine wpAny_pyIter_slot ty PySem.F.slot_set_iter (wpAny_call_entry PySem.F.slot_set_iter ty HS ?_ (PySem.F.args_set_iter_1 _))
 unfold Builtin.«frozenset.__iter__» Builtin.Frozenset.slot0 Builtin.Frozenset.addrOf
 refine wpAny_bind (wpAny_bind (wpAny_pure (wpAny_pure ?_)))
 dsimp only
 unfold Builtin.Frozenset.sizeOf
 refine wpAny_bind (wpAny_bind (wpAny_setEntries_of ho hd hf (wpAny_pure ?_)))
 refine wpAny_bind (m:=setDrawn S) ?_
 unfold setDrawn
 refine wpAny_bind (wpAny_setState_of ho hd hf ?_)
 dsimp only
 refine wpAny_bind (m:=setsByText) ?_
 unfold setsByText
 refine wpAny_bind (wpAny_askSetting (wpAny_pure ?_))
 refine wpAny_pure ?_
 show wpAny _ _ (if (!byT w&&(!t.plain&&decide (es.size > 1)))=true then _ else _) _ _ s
 by_cases hdr:(!byT w&&(!t.plain&&decide (es.size > 1)))=true
 ·rw [if_pos hdr]
  refine wpAny_bind (Fs es.size (List.range es.size) s _ (by simp) fun ys d hp=>wpAny_bind ?_)
  refine wpAny_newTuple ?_ (by have:=hp.length_eq;simp at this ⊢;rw [this];exact fits_of_scanBound hb)
  have hly:ys.length=es.size:=by have:=hp.length_eq;simpa using this
  refine wpAny_bind (wpAny_setEpoch_of (s:={ s with heap:=s.heap.push _,drawn:=d }) (Heap.get?_push_of_some _ ho) hd hf ?_)
  simp only [newFields]
  refine wpAny_bind (wpAny_newObj_type (wpAny_pure ⟨_,rfl, "set_iterator", _,⟨_,Heap.get?_push_size _ rfl,rfl⟩,slot_next.lookup,?_⟩))
  have key:∀p∈ys,∃e,es[p]?=some e:=fun p hp2=>by
   have:=hp.mem_iff.mp hp2
   rw [List.mem_range] at this
   exact ⟨_,Array.getElem?_eq_getElem this⟩
  refine hQ _ d _ [_,S,s.heap.objs.size] _ (ys.map fun p=>((es[p]?).map (·.2)).getD .none) es.size (by simpa using hly) (fun b o e=>Heap.get?_push_of_some _ (Heap.get?_push_of_some _ e)) ?_ ?_ (Kx (t:=t) (ep:=ep) hh _ _ ?_ ?_ ys _ hly fun i p e=>?_) ⟨⟨_,Heap.get?_push_size _ rfl,rfl,?_⟩,raw.keep fun o e=>Heap.get?_push_of_some _ (Heap.get?_push_of_some _ e),⟨_,Heap.get?_push_of_some _ (Heap.get?_push_size _ rfl),rfl,_,rfl⟩⟩ ?_ hb
  ·intro b hb2
   simp only [List.mem_cons,List.not_mem_nil,or_false] at hb2
   rcases hb2 with rfl|rfl|rfl
   ·right;rw [Heap.size_push];omega
   ·exact .inl rfl
   ·right;exact Nat.le_refl _
  ·rw [Heap.size_push];omega
  ·rw [Heap.size_push];exact Nat.ne_of_lt (Nat.lt_succ_of_lt hlt)
  ·rw [Heap.size_push];exact Nat.ne_of_lt (Nat.lt_succ_self _)
  ·obtain ⟨e2,he2⟩:=key p (List.mem_of_getElem? e)
   refine ⟨e2,he2,?_⟩
   rw [List.getElem?_map,e]
   simp [he2]
  ·simp [rawInt]
  ·refine List.Perm.trans ?_ hpm
   refine ((hp.map (fun p=>((es[p]?).map (·.2)).getD .none)).map keyOf).trans ?_
   have:(List.range es.size).map (fun p=>((es[p]?).map (·.2)).getD .none)=es.toList.map (·.2):=by
    refine List.ext_getElem (by simp) fun i h1 h2=>?_
    simp at h1 h2
    simp [h1]
   rw [this,List.map_map]
   exact .refl _
 ·rw [if_neg hdr]
  refine wpAny_bind (wpAny_pure ?_)
  refine wpAny_bind (wpAny_setEpoch_of ho hd hf ?_)
  simp only [newFields]
  refine wpAny_bind (wpAny_newObj_type (wpAny_pure ⟨_,rfl, "set_iterator", _,⟨_,Heap.get?_push_size _ rfl,rfl⟩,slot_next.lookup,?_⟩))
  have fpo:∀b∈[s.heap.objs.size,S],b=S\/s.heap.objs.size≤b:=fun b hb2=>by
   simp only [List.mem_cons,List.not_mem_nil,or_false] at hb2
   rcases hb2 with rfl|rfl
   ·right;exact Nat.le_refl _
   ·exact .inl rfl
  cases hbt:byT w with
  | true =>
   refine hQ _ s.drawn _ [_,S] _ ((pickOrder (w.params.setOrder S ep) es).toList.map (·.2)) es.size ?_ (fun b o e=>Heap.get?_push_of_some _ e) fpo (Nat.le_refl _) (MR (t:=t) (ep:=ep) hh hbt _ (Nat.ne_of_lt hlt)) ⟨⟨_,Heap.get?_push_size _ rfl,rfl,?_⟩,raw.keep fun o e=>Heap.get?_push_of_some _ e⟩ ?_ hb
   ·have:=(CH (w.params.setOrder S ep) es).length_eq;simpa using this
   ·refine List.Perm.trans ?_ hpm
    rw [List.map_map]
    exact (CH (w.params.setOrder S ep) es).map _
   ·simp [rawInt]
  | false =>
   have hd2:(!t.plain&&decide (es.size > 1))=false:=by rw [hbt] at hdr;simpa using hdr
   have hps:t.place.size=es.size:=by
    simp only [SetTable.fits,Bool.and_eq_true,beq_iff_eq] at hf
    exact hf.1
   have hr:Hw t.place:=by
    cases hpl:t.plain with
    | true=>exact hgd.2 hpl
    | false =>
     rw [hpl] at hd2
     simp at hd2
     intro i j hij a b ea eb
     rw [Array.getElem?_eq_none (by omega)] at eb
     cases eb
   refine hQ _ s.drawn _ [_,S] _ (es.toList.map (·.2)) es.size (by simp) (fun b o e=>Heap.get?_push_of_some _ e) fpo (Nat.le_refl _) (NU (t:=t) (ep:=ep) hh hbt (by rw [hgd.1,hbt];rfl) hd2 hr _ (Nat.ne_of_lt hlt)) ⟨⟨0,LW hr,_,Heap.get?_push_size _ rfl,rfl,?_⟩,raw.keep fun o e=>Heap.get?_push_of_some _ e⟩ ?_ hb
   ·rw [List.map_map]
    exact hpm
   ·simp [rawInt]
theorem OZ (hT:s.TypeIs (.ref S) "set") {Q:Bool→Shared→Prop}(h:Q false s):wpAny (model prog w) A (Builtin.List.listLengthHint (.ref S)) Q E s:=by
 unfold Builtin.List.listLengthHint
 refine wpAny_bind (wpAny_specialOf hT PySem.F.slot_set_len.lookup ?_)
 generalize hid:("set.__len__" : String)=id0
 wp_delta
 rw [show splitId id0=some ("set", "__len__") from by subst hid;decide +kernel]
 subst hid
 refine wpAny_bind (wpAny_isInstance (T := "set") (b:=true) hT (by rw [isSubtype_type];kernel_rfl) ?_)
 refine wpAny_ite_split (fun hab=>absurd hab (by decide)) (fun _=>?_)
 refine wpAny_ite_split (fun _=>?_) (fun hab=>absurd (by decide +kernel) hab)
 refine wpAny_bind (wpAny_typeOf hT ?_)
 exact wpAny_pure h
theorem Ko {L:List Key}(hh:A.handled=none) (x:Dj prog w s.heap S L) {Q:List Value→Shared→Prop}
  (hQ:∀h' tk d (vs:List Value),(∀b o,s.heap.get? b=some o→h'.get? b=some o)→s.heap.objs.size<h'.objs.size→(vs.map keyOf).Perm (L.map some)→vs.length<scanBound→Q vs { s with heap:=h',toks:=tk,drawn:=d }):wpAny (model prog w) A (collect (.ref S)) Q E s:=by
 unfold collect
 refine wpAny_bind (wpAny_runValue (codeAny_builtin F.entry_proto_collect ?_))
 rw [Around.under_plainId F.plain_proto_collect _]
 show wpAny _ A.in1 (newList [] >>= fun l=>again (.builtin "list.__iadd__" ⟨[l,.ref S],[]⟩)) _ _ s
 refine wpAny_bind (wpAny_newObj_type ?_)
 refine wpAny_pure ⟨plainId_quiet F.plain_list_iadd _,codeAny_builtin F.entry_list_iadd ?_⟩
 rw [Around.under_plainId F.plain_list_iadd _]
 have hS₁:(s.heap.push { cls:=.type "list", data:=.seq ([]:List Value).toArray }).get? s.heap.objs.size=some { cls:=.type "list", data:=.seq ([]:List Value).toArray }:=Heap.get?_push_size _ rfl
 have kp:∀b o,s.heap.get? b=some o→(s.heap.push { cls:=.type "list", data:=.seq ([]:List Value).toArray }).get? b=some o:=fun b o e=>Heap.get?_push_of_some _ e
 have hne:s.heap.objs.size≠S:=Nat.ne_of_gt x.lt
 have x1:Dj prog w (s.heap.push { cls:=.type "list", data:=.seq ([]:List Value).toArray }) S L:=x.at' fun o e=>kp S o e
 show wpAny _ A.in1 (Builtin.List.listExtendWith (.ref s.heap.objs.size) (.ref S) (.ref s.heap.objs.size)) _ _ _
 unfold Builtin.List.listExtendWith
 refine wpAny_bind (wpAny_typeOf (T := "set") (s:={ s with heap:=s.heap.push { cls:=.type "list", data:=.seq ([]:List Value).toArray } }) x1.type ?_)
 have h1:Builtin.List.listSameRef (.ref s.heap.objs.size) (.ref S)=false:=by simp [Builtin.List.listSameRef,hne]
 simp only [h1,show (Value.type "set" == Value.type "list")=false from by decide,show (Value.type "set" == Value.type "tuple")=false from by decide,Bool.or_false,Bool.false_eq_true,if_false]
 refine wpAny_bind (OX (A:=A.in1) (s:={ s with heap:=s.heap.push { cls:=.type "list", data:=.seq ([]:List Value).toArray } }) hh x1 fun h' d I fp St vs n hvl k1 hfp hI W st pm hb=>?_)
 have hS₂:=k1 _ _ hS₁
 have hSI:s.heap.objs.size<I:=by have h2:(s.heap.push { cls:=.type "list", data:=.seq ([]:List Value).toArray }).objs.size=s.heap.objs.size+1:=Heap.size_push ..;rw [h2] at hI;exact hI
 have hSf:s.heap.objs.size∉fp:=fun hm=>by
  rcases hfp _ hm with e|e
  ·exact hne e
  ·have h2:(s.heap.push { cls:=.type "list", data:=.seq ([]:List Value).toArray }).objs.size=s.heap.objs.size+1:=Heap.size_push ..
   rw [h2] at e;exact absurd e (Nat.not_le_of_lt (Nat.lt_succ_self _))
 refine wpAny_bind (wpAny_holding (OZ (s:={ s with heap:=h',drawn:=d }) (x1.at' fun o e=>k1 S o e).type ?_))
 have key:∀(h:Heap) (c₁:Nat) (R:Result→Shared→Prop),St 0 h→(∀b o,b≠s.heap.objs.size→h'.get? b=some o→h.get? b=some o)→h.get? s.heap.objs.size=some { cls:=.type "list", data:=.seq #[] c₁ } →
   (∀h2 tk c',(∀b o,s.heap.get? b=some o→h2.get? b=some o)→h2.get? s.heap.objs.size=some { cls:=.type "list", dict:=none,data:=.seq vs.toArray c',slots:=#[] }→R (.ok (.ret (.ref s.heap.objs.size))) { s with heap:=h2,toks:=tk,drawn:=d }) →
   codeAny (model prog w) A (.builtin "list.extend.loop" ⟨[.ref s.heap.objs.size,.ref I,.ref s.heap.objs.size],[]⟩) R { s with heap:=h,drawn:=d }:=by
  intro h c₁ R hst hk hS₃ hR
  refine codeAny_extend_loopS W.toS (fits_of_scanBound hb) s.heap.objs.size hSf _ n 0 _ #[] c₁ rfl (Nat.zero_le _) hst hS₃ (ItemsOf.nil _) fun s' acc' c' hm hS' hacc=>?_
  rw [Moved.eq_with hm]
  have ea:acc'=vs.toArray:=by
   refine Array.ext (by rw [hacc.1];simpa using hvl.symm) fun i h1 h2=>?_
   have this:vs[i]?=some acc'[i]:=hacc.2 i acc'[i] (Array.getElem?_eq_getElem h1)
   simp at h2
   rw [List.getElem?_eq_getElem h2] at this
   simpa using (Option.some.inj this).symm
  subst ea
  refine hR s'.heap s'.toks c' (fun b o e=>hm.heap b o (fun hmem=>?_) (hk b o (Nat.ne_of_lt (Heap.lt_size e)) (k1 b o (kp b o e)))) hS'
  rcases List.mem_cons.mp hmem with e'|hmem
  ·exact absurd (Heap.lt_size e) (by rw [e'];exact Nat.lt_irrefl _)
  ·have:=Heap.lt_size e;rw [List.mem_singleton.mp hmem] at this;exact absurd (Nat.lt_trans this hSI) (Nat.lt_irrefl _)
 have fin:∀h2 tk c',(∀b o,s.heap.get? b=some o→h2.get? b=some o)→h2.get? s.heap.objs.size=some { cls:=.type "list", dict:=none,data:=.seq vs.toArray c',slots:=#[] } →
   wpAny (model prog w) A (load s.heap.objs.size >>= fun o=>match o.data with
    | .seq xs _=>pure xs.toList
    | _=>unsupported "internal:collect") Q E { s with heap:=h2,toks:=tk,drawn:=d }:=fun h2 tk c' a1 a2=>by
  refine wpAny_bind (wpAny_load a2 ?_)
  exact wpAny_pure (hQ h2 tk d vs a1 (Heap.lt_size a2) pm (by rw [hvl];exact hb))
 refine wpAny_ite_split (fun _=>?_) (fun _=>wpAny_pure ⟨plainId_quiet PySem.F.plain_extend_loop _,key _ 0 _ st (fun b o _ e=>e) hS₂ fun h2 tk c' a1 a2=>fin h2 tk c' a1 a2⟩)
 refine wpAny_bind (wpAny_rule ?_)
 refine wpAny_bind ?_
 show wpAny _ _ (updateSeq s.heap.objs.size (·.push .none) >>= fun _=>updateSeq s.heap.objs.size (·.pop)) _ _ _
 refine wpAny_bind (wpAny_updateSeq hS₂ rfl ?_)
 have hS₄:=Heap.get?_update_self (Obj.mapSeq (·.push Value.none)) hS₂ rfl
 refine wpAny_updateSeq (hz:=by seq_fits) hS₄ rfl ?_
 have hS₅:=Heap.get?_update_self (Obj.mapSeq (·.pop)) hS₄ rfl
 refine wpAny_pure ⟨plainId_quiet PySem.F.plain_extend_loop _,key _ _ _ ?_ (fun b o hb e=>?_) hS₅ fun h2 tk c' a1 a2=>fin h2 tk c' a1 a2⟩
 ·refine W.frame 0 _ _ st fun b hb o e=>?_
  have hbS:b≠s.heap.objs.size:=fun h=>hSf (h ▸ hb)
  exact (Heap.get?_update_other _ _ (Ne.symm hbS)).trans ((Heap.get?_update_other _ _ (Ne.symm hbS)).trans e)
 ·exact (Heap.get?_update_other _ _ (Ne.symm hb)).trans ((Heap.get?_update_other _ _ (Ne.symm hb)).trans e)
end
end Stk
namespace L2
open PySem PySem.Spec PyProof.Rows
theorem Inv.drawn {X:Cx} {pins:List (Addr×Obj)} {σ:St} {H:Hp} {s:Shared} (I:Inv X pins σ H s) (d:Drawn):Inv X pins σ H { s with drawn:=d }:=by
 obtain ⟨a1,a2,a3,a4,a5,a6,a7,a8,a9,a10,a11⟩:=I
 exact ⟨a1,a2,a3,a4,a5,a6,a7,a8,a9,a10,a11⟩
theorem Pm:∀{vs:List Value}{L:List Key},(vs.map Stk.keyOf).Perm (L.map some)→∃L':List Key,vs.map Stk.keyOf=L'.map some/\L'.Perm L:=fun {vs L} h=>by
 refine ⟨vs.map fun v=>(Stk.keyOf v).getD (.inl 0),?_,?_⟩
 ·rw [List.map_map]
  refine List.map_congr_left fun v hv=>?_
  have:=h.mem_iff.mp (List.mem_map_of_mem hv)
  obtain ⟨k,_,e⟩:=List.mem_map.mp this
  simp [←e]
 ·have:=h.map fun o=>o.getD (.inl 0)
  rw [List.map_map,List.map_map] at this
  simpa [Function.comp_def] using this
theorem JD {k:Key}{v:Value}(h:Stk.keyOf v=some k):RelV (kV k) v:=by
 cases v <;> first|cases h|skip
 ·exact ⟨_,rfl⟩
 ·exact ⟨_,rfl⟩
section
variable {X:Cx}{K:PySem.W.Frag}{e:Expr}{te:TE}{p1 p2 pos1 pos2:Pos}
end
end L2
namespace Dpr
open PySem PySem.Spec PyProof.Rows L2
theorem HU:entryFor table "dict.update.loop" = some Builtin.«dict.update.loop»:=entryFor_of_tree (by kernel_rfl)
theorem FN:plainId "dict.update.loop" = true:=by decide +kernel
theorem L4 {prog:Program}{w:World}{h h':Heap}{k:List Key}{a:Addr}(x:(tupleKind (Af prog w)).is h k a) (m:∀o,h.get? a=some o→h'.get? a=some o):(tupleKind (Af prog w)).is h' k a :=
 let ⟨o,i,n,e,r⟩:=(show IsTupleKey (Af prog w) h k a from x);(show IsTupleKey (Af prog w) h' k a from ⟨o,i,n,m o e,r⟩)
def DW (prog:Program) (w:World) (h:Heap) (d:Addr) (xs:List (List Key×Addr×Value)):Prop :=
 ∃o es ep,h.get? d=some o/\o.ExactDict/\o.data=.dict es ep/\es.toList=xs.map (entryOfKey (tupleKind (Af prog w)))
theorem DW.keep {prog:Program}{w:World}{h h':Heap}{d:Addr}{xs:List (List Key×Addr×Value)}(x:DW prog w h d xs) (k:∀o,h.get? d=some o→h'.get? d=some o):DW prog w h' d xs:=let ⟨o,es,ep,e,r⟩:=x;⟨o,es,ep,k o e,r⟩
theorem La {xs:List (List Key×Addr×Value)}{k:List Key}(h:k∉xs.map (·.1)):atKey xs k=none:=by
 unfold atKey
 rw [Option.map_eq_none_iff,List.find?_eq_none]
 intro x hx e
 exact h (List.mem_map.mpr ⟨x,hx,by simpa using e⟩)
section
variable {prog:Program}{w:World}{A:Around}{R:Result→Shared→Prop}{I:Addr}{fp wr:List Addr}{G:Array GenState→Array GenState→Prop}{n:Nat}{P:Nat→Value→Prop}{St:Nat→Shared→Prop}
theorem loop (W:WalksS prog w A.in1 I fp wr G n P St) (d:Addr) (hdf:d∉fp) (h0:Heap) (hwr:∀b o,h0.get? b=some o→b∉wr) (hd0:h0.get? d=none) (ps:List (List Key×Addr×Value)) (hn:ps.length=n) (hnd:(ps.map (·.1)).Nodup) (hsz:n≤sizeLine) (hu:A.in1.units<cLine)
  (hval:∀(i:Nat) p v,ps[i]?=some p→P i v→∃b,v=.ref b/\h0.IsTuple b #[.ref p.2.1,p.2.2]) (his:∀p∈ps,(tupleKind (Af prog w)).is h0 p.1 p.2.1) :
  ∀(k i:Nat) (s:Shared),n-i=k→i≤n→St i s→(∀b o,h0.get? b=some o→s.heap.get? b=some o)→DW prog w s.heap d (ps.take i) →
   (∀s',Moved (d::wr) G s s'→DW prog w s'.heap d ps→R (.ok (.ret .none)) s') →
   codeAny (model prog w) A (.builtin "dict.update.loop" ⟨[.ref d,.ref I,.int i 0,.none],[]⟩) R s:=by
 have hdw:d∉wr:=fun h=>hdf (W.sub _ h)
 have hsub:∀b∈wr,b∈d::wr:=fun b hb=>List.mem_cons_of_mem _ hb
 intro k
 induction k with
 | zero =>
  intro i s hk hi hst hold hD hR
  have hin:i=n:=by omega
  subst hin
  refine codeAny_builtin HU ?_
  rw [Around.under_plainId FN _]
  show wpAny _ A.in1 (pyNext (.ref I) >>= _) _ _ s
  refine wpAny_bind (W.done s _ _ hst fun s' hm=>?_)
  show wpAny _ A.in1 (Builtin.Dict.addKeywords d [] >>= fun _=>ret Value.none) _ _ s'
  rw [List.take_of_length_le (by omega)] at hD
  refine wpAny_bind (wpAny_pure ?_)
  exact wpAny_pure (hR s' (hm.mono hsub) (hD.keep fun o e=>hm.heap d _ hdw e))
 | succ k ih =>
  intro i s hk hi hst hold hD hR
  have hlt:i<n:=by omega
  refine codeAny_builtin HU ?_
  rw [Around.under_plainId FN _]
  show wpAny _ A.in1 (pyNext (.ref I) >>= _) _ _ s
  refine wpAny_bind (W.item i s _ _ hlt hst fun v s' hP hst' hm=>?_)
  have hpi:ps[i]?=some (ps[i]'(by omega)):=List.getElem?_eq_getElem (by omega)
  generalize hp:ps[i]'(by omega)=p at hpi
  have hmemp:p∈ps:=List.mem_of_getElem? hpi
  obtain ⟨b,rfl,ob,hob,hcb,nb,hdb⟩:=hval i p v hpi hP
  have hold':∀b o,h0.get? b=some o→s'.heap.get? b=some o:=fun b o e=>hm.heap b o (hwr b o e) (hold b o e)
  have hob':=hold' b ob hob
  show wpAny _ A.in1 (holding [Value.ref b] _ >>= _) _ _ s'
  refine wpAny_bind (wpAny_holding ?_)
  refine wpAny_bind (wpAny_tryCatch ?_)
  unfold Builtin.Dict.pairItems
  refine wpAny_bind (wpAny_typeOf (T := "tuple") ⟨_,hob',hcb⟩ ?_)
  rw [if_pos (by decide)]
  refine wpAny_bind (wpAny_seqItems hob' hdb (wpAny_pure ?_))
  show wpAny _ A.in1 (holding [.ref p.2.1,p.2.2] (dictSet d (.ref p.2.1) p.2.2)) _ _ s'
  refine wpAny_holding ?_
  have hD':DW prog w s'.heap d (ps.take i):=hD.keep fun o e=>hm.heap d _ hdw e
  obtain ⟨od,es,ep,e1,e2,e3,e4⟩:=hD'
  have hndi:((ps.take i).map (·.1)).Nodup:=by
   rw [List.map_take]
   exact hnd.sublist (List.take_sublist _ _)
  have hnot:p.1∉(ps.take i).map (·.1):=fun hmem=>by
   have h1:(ps.map (·.1))=((ps.take i).map (·.1))++p.1::(ps.drop (i+1)).map (·.1):=by
    have h2:ps.take i++p::ps.drop (i+1)=ps:=by
     rw [←hp,List.getElem_cons_drop,List.take_append_drop]
    conv=>lhs;rw [←h2]
    rw [List.map_append,List.map_cons]
   rw [h1,List.nodup_append] at hnd
   exact hnd.2.2 _ hmem _ (List.mem_cons_self) rfl
  have hk:(tupleKind (Af prog w)).is s'.heap p.1 p.2.1:=L4 (his p hmemp) fun o e=>hold' _ _ e
  refine wpAny_dictSet_heap (knd:=tupleKind (Af prog w)) (xs:=ps.take i) (k:=p.1) hu hk ⟨od,es,ep,e1,e2,e3,e4,fun x hx=>L4 (his x (List.mem_of_mem_take hx)) fun o e=>hold' _ _ e,hndi⟩ (fun h' dd hs=>?_) (by rw [List.length_take];omega)
  rw [storedH_new (La hnot)] at dd
  have hDn:DW prog w h' d (ps.take (i+1)):=by
   obtain ⟨o2,es2,ep2,f1,f2,f3,f4,_,_⟩:=dd
   refine ⟨o2,es2,ep2,f1,f2,f3,?_⟩
   rw [List.take_add_one,hpi]
   exact f4
  have hbd:∀b o,h0.get? b=some o→b≠d:=fun b o e h=>by rw [h,hd0] at e;cases e
  refine wpAny_pure ⟨plainId_quiet FN _,?_⟩
  have:=ih (i+1) { s' with heap:=h',toks:=s'.toks+(tupleKind (Af prog w)).draws p.1 } (by omega) hlt (W.frame _ s' _ _ hst' (Nat.le_add_right _ _) fun b hb o e=>?_) (fun b o e=>?_) hDn fun s'' hm'' hD''=>?_
  ·rw [show ((i+1:Nat):Int)=(i:Int)+1 from by omega] at this
   exact this
  ·rw [hs.2 b (fun h:b=d=>hdf (by rw [←h];exact hb))];exact e
  ·show h'.get? b=some o
   rw [hs.2 b (hbd b o e)];exact hold' b o e
  ·refine hR s'' (Moved.trans W.gtrans ((hm.mono hsub).then_heap (Nat.le_add_right _ _) fun b o hb e=>?_) hm'') hD''
   rw [hs.2 b (fun h:b=d=>hb (by rw [h];exact List.mem_cons_self))];exact e
end
end Dpr
namespace Dpr
open PySem PySem.Spec PyProof.Rows L2
end Dpr
namespace L2
open PySem PySem.Spec PyProof.Rows
section
variable {X:Cx}
end
end L2
namespace L2
open PySem PySem.Spec PyProof.Rows
def NP (h:Heap) (u:Value) (ks:List Key) (rs:List Addr):Prop:=∃a o items m us,u=.ref a/\h.get? a=some o/\o.cls=.type "tuple" /\ o.data=.seq items m/\items.toList=us++rs.map Value.ref/\us.map Ao=ks/\∀v∈us,A8 v
def Rp (h:Heap) (rs:List Addr) (tl:List Key) (rs':List Addr) (tl':List Key):Prop :=
 (rs=rs'/\tl=tl')\/∃(p q:Addr) (ns ms:List Int),rs=[p]/\rs'=[q]/\tl=ns.map Sum.inl/\tl'=ms.map Sum.inl/\Bo h (.ref p) tl/\Bo h (.ref q) tl'
abbrev Dn:=List Key×List Addr×List Key
def Cv (d:Dn):List Key:=d.1++d.2.2
structure Hi (h:Heap) (vs:List Value) (ds:List Dn) (sh:List Bool):Prop where
 len:vs.length=ds.length
 hn:sh≠[]
 one:∀(i:Nat) u d,vs[i]?=some u→ds[i]?=some d→NP h u d.1 d.2.1/\d.1.map isI=sh
 two:∀(i j:Nat) d e,ds[i]?=some d→ds[j]?=some e→d.1=e.1→Rp h d.2.1 d.2.2 e.2.1 e.2.2
theorem HR:∀{us us':List Value}{rs rs':List Addr},(∀v∈us,A8 v)→(∀v∈us',A8 v)→us++rs.map Value.ref=us'++rs'.map Value.ref→us=us'/\rs=rs'
 | [],[],rs,rs',_,_,e=>⟨rfl,by
   have e:rs.map Value.ref=rs'.map Value.ref:=e
   exact (List.map_inj_right (fun a b q=>by injection q)).mp e⟩
 | [],v::us',rs,rs',_,h,e=>by
  cases rs with
  | nil=>cases e
  | cons r rs =>
   have e:Value.ref r::rs.map Value.ref=v::(us'++rs'.map Value.ref):=e
   injection e with e1 _
   have:=h v List.mem_cons_self
   rw [←e1] at this
   exact this.elim
 | v::us,[],rs,rs',h,_,e=>by
  cases rs' with
  | nil=>cases e
  | cons r rs' =>
   have e:v::(us++rs.map Value.ref)=Value.ref r::rs'.map Value.ref:=e
   injection e with e1 _
   have:=h v List.mem_cons_self
   rw [e1] at this
   exact this.elim
 | v::us,v'::us',rs,rs',h,h',e=>by
  have e:v::(us++rs.map Value.ref)=v'::(us'++rs'.map Value.ref):=e
  injection e with e1 e2
  obtain ⟨a,b⟩:=HR (fun w hw=>h w (List.mem_cons_of_mem _ hw)) (fun w hw=>h' w (List.mem_cons_of_mem _ hw)) e2
  exact ⟨by rw [e1,a],b⟩
theorem NP.one {h:Heap}{u:Value}{ks ks':List Key}{rs rs':List Addr}(t:NP h u ks rs) (t':NP h u ks' rs'):ks=ks'/\rs=rs':=by
 obtain ⟨a,o,items,m,us,rfl,e,_,d,l,k,f⟩:=t
 obtain ⟨a',o',items',m',us',q,e',_,d',l',k',f'⟩:=t'
 injection q with q
 subst q
 rw [e] at e'
 cases e'
 rw [d] at d'
 cases d'
 obtain ⟨x,y⟩:=HR f f' (l.symm.trans l')
 exact ⟨by rw [←k,←k',x],y⟩
theorem Bo.one {h:Heap}{u:Value}{ks ks':List Key}(t:Bo h u ks) (t':Bo h u ks'):ks=ks':=t.kf.symm.trans t'.kf
noncomputable def kfC (vs:List Value) (kss:List (List Key)) (u:Value):List Key:=by
 classical exact if hx:∃ks,(u,ks)∈vs.zip kss then hx.choose else []
theorem Hi.kf {h:Heap}{vs:List Value}{ds:List Dn}{sh:List Bool}(x:Hi h vs ds sh):∀(i:Nat) u d,vs[i]?=some u→ds[i]?=some d→kfC vs (ds.map Cv) u=Cv d:=by
 intro i u d e1 e2
 have hx:∃ks,(u,ks)∈vs.zip (ds.map Cv):=⟨Cv d,List.mem_iff_getElem?.mpr ⟨i,List.getElem?_zip_eq_some.mpr ⟨e1,by rw [List.getElem?_map,e2];rfl⟩⟩⟩
 unfold kfC
 rw [dif_pos hx]
 obtain ⟨j,hj⟩:=List.mem_iff_getElem?.mp hx.choose_spec
 obtain ⟨e3,e4⟩:=List.getElem?_zip_eq_some.mp hj
 rw [List.getElem?_map] at e4
 obtain ⟨d',e5,e6⟩:=Option.map_eq_some_iff.mp e4
 have e3:vs[j]?=some u:=e3
 have e6:Cv d'=hx.choose:=e6
 rw [←e6]
 obtain ⟨a,b⟩:=(x.one i u d e1 e2).1.one (x.one j u d' e3 e5).1
 have tl:d.2.2=d'.2.2:=by
  rcases x.two i j d d' e2 e5 a with ⟨_,q⟩|⟨p,q,_,_,r1,r2,_,_,t1,t2⟩
  ·exact q
  ·rw [b,r2] at r1
   injection r1 with r1
   subst r1
   exact t1.one t2
 unfold Cv
 rw [a,tl]
section
variable {prog:Program}{w:World}{A:Around}{E:Value→Shared→Prop}{s:Shared}{b:Bool}{Q:Bool→Shared→Prop}
theorem Lz {fin:Bool}:∀(xs ys:List Value) (zs zs':List Value) (i:Nat),(∀v∈xs,A8 v)→(∀v∈ys,A8 v)→xs.map (fun v=>isI (Ao v))=ys.map (fun v=>isI (Ao v)) →
  (xs.map Ao=ys.map Ao→∀j,i+xs.length≤j→PySem.W.KatLex prog w A b fin Q (zs.zip zs') j s)→(xs.map Ao≠ys.map Ao→Q (BG (xs.map Ao) (ys.map Ao)) s)→PySem.W.KatLex prog w A b fin Q ((xs++zs).zip (ys++zs')) i s
 | [],[],zs,zs',i,_,_,_,h,_=>h rfl i (Nat.le_refl _)
 | [],_::_,_,_,_,_,_,e,_,_=>by cases e
 | _::_,[],_,_,_,_,_,e,_,_=>by cases e
 | x::xs,y::ys,zs,zs',i,hx,hy,e,h,h'=>by
  obtain ⟨e1,e2⟩:=List.cons.inj e
  have fx:=hx x List.mem_cons_self
  have fy:=hy y List.mem_cons_self
  refine PySem.W.kat_cons (LR fx fy e1 (PySem.W.kat_go (fun q=>?_) fun q=>?_))
  ·have q:=of_decide_eq_true q
   refine PySem.W.kat_yes (Lz xs ys zs zs' _ (fun v hv=>hx v (List.mem_cons_of_mem _ hv)) (fun v hv=>hy v (List.mem_cons_of_mem _ hv)) e2 (fun z j hj=>h (by rw [List.map_cons,List.map_cons,q,z]) j (by rw [List.length_cons];omega)) fun z=>?_)
   have:=h' (fun k=>z (List.cons.inj k).2)
   rw [List.map_cons,List.map_cons,BG,if_pos q] at this
   exact this
  ·have q:=of_decide_eq_false q
   have:=h' (fun k=>q (List.cons.inj k).1)
   rw [List.map_cons,List.map_cons,BG,if_neg q] at this
   exact PySem.W.kat_no (OS _ fx fy e1 this)
theorem KY:∀(rs:List Addr) (i:Nat),Q false s→PySem.W.KatLex prog w A b false Q ((rs.map Value.ref).zip (rs.map Value.ref)) i s
 | [],_,h=>PySem.W.kat_nil h
 | r::rs,i,h=>PySem.W.kat_cons (PySem.SeqAt.EqAt.same (.ref r) prog w _ _ (PySem.W.kat_yes (KY rs _ h)))
theorem Ka:∀{ks ls xs ys:List Key},ks.length=ls.length→BG (ks++xs) (ls++ys)=if ks=ls then BG xs ys else BG ks ls
 | [],[],_,_,_=>by rw [if_pos rfl];rfl
 | [],_::_,_,_,e=>by cases e
 | _::_,[],_,_,e=>by cases e
 | k::ks,l::ls,xs,ys,e=>by
  have ih:=Ka (ks:=ks) (ls:=ls) (xs:=xs) (ys:=ys) (by simpa using e)
  show (if k=l then BG (ks++xs) (ls++ys) else kLt k l)=if k::ks=l::ls then BG xs ys else (if k=l then BG ks ls else kLt k l)
  by_cases h:k=l
  ·subst h
   rw [if_pos rfl,ih]
   by_cases h2:ks=ls
   ·subst h2;rw [if_pos rfl,if_pos rfl]
   ·rw [if_neg h2,if_neg (fun q=>h2 (List.cons.inj q).2),if_pos rfl]
  ·rw [if_neg h,if_neg (fun q=>h (List.cons.inj q).1),if_neg h]
theorem FH {h:Heap}:∀{us:List Value},(∀v∈us,A8 v)→∃as,ReadsAll h us ((us.map Ao).map kD) as
 | [],_=>⟨_,.nil⟩
 | v::us,f=>by
  obtain ⟨as,r⟩:=FH (h:=h) (fun w hw=>f w (List.mem_cons_of_mem _ hw))
  have fv:=f v List.mem_cons_self
  cases v <;> first|exact fv.elim|skip
  ·exact ⟨_,.cons (.int _ _) r⟩
  ·exact ⟨_,.cons (.str _ _) r⟩
theorem JS:∀ns:List Int,(ns.map (Sum.inl:Int→Key)).map kD=ns.map PyData.int
 | []=>rfl
 | n::ns=>by rw [List.map_cons,List.map_cons,List.map_cons,JS ns];rfl
theorem M9 {p q:Addr}{ns ms:List Int}(t1:Bo s.heap (.ref p) (ns.map Sum.inl)) (t2:Bo s.heap (.ref q) (ms.map Sum.inl)) (hu:A.units+64<cLine):SeqAt.EqAt A s (.ref p) (.ref q) (decide (ns=ms)):=by
 obtain ⟨a,o,items,m,e0,e,c,d,k,f⟩:=t1
 obtain ⟨a',o',items',m',e0',e',c',d',k',f'⟩:=t2
 injection e0 with e0
 injection e0' with e0'
 subst e0 e0'
 obtain ⟨as,r⟩:=FH (h:=s.heap) f
 obtain ⟨as',r'⟩:=FH (h:=s.heap) f'
 rw [k,JS] at r
 rw [k',JS] at r'
 have:=SeqAt.eqAt_reads (.tuple (ns.map PyData.int)) (.tuple (ms.map PyData.int)) A s (.ref p) (.ref q) as as' (.tuple e c d r) (.tuple e' c' d' r') (by simp [PyData.canLay0,(lay_ints ns).1]) (by simp [PyData.canLay0,(lay_ints ms).1]) (by
  have h1:(PyData.tuple (ns.map PyData.int)).depth≤1:=by simp [PyData.depth,(lay_ints ns).2]
  omega)
 have e3:PyData.eqv (.tuple (ns.map PyData.int)) (.tuple (ms.map PyData.int))=decide (ns=ms):=by
  simp only [PyData.eqv]
  exact Ki ns ms
 rw [e3] at this
 exact this
theorem Mw {p q:Addr}{ns ms:List Int}(t1:Bo s.heap (.ref p) (ns.map Sum.inl)) (t2:Bo s.heap (.ref q) (ms.map Sum.inl)) (hu:A.units+64<cLine) (h:Q (BG (ns.map Sum.inl) (ms.map Sum.inl)) s):wpAny (model prog w) A (oneLt' false (.ref p) (.ref q)) Q E s:=by
 obtain ⟨a,o,items,m,e0,e,c,d,k,f⟩:=t1
 obtain ⟨a',o',items',m',e0',e',c',d',k',f'⟩:=t2
 injection e0 with e0
 injection e0' with e0'
 subst e0 e0'
 obtain ⟨cls,dd,data,sl⟩:=o
 obtain ⟨cls2,dd2,data2,sl2⟩:=o'
 simp only at c d c' d'
 subst c d c' d'
 have isn:∀(l:List Int) (i:Nat) (z:Key),(l.map (Sum.inl:Int→Key))[i]?=some z→isI z=true:=fun l i z hz=>by
  rw [List.getElem?_map] at hz
  obtain ⟨n,_,rfl⟩:=Option.map_eq_some_iff.mp hz
  rfl
 have lx:MM items.toList items'.toList items.size items'.size (BG (ns.map Sum.inl) (ms.map Sum.inl)):=by
  refine ⟨⟨items.toList,[],by simp,.inl rfl,f,f',fun i x y e1 e2=>?_,by rw [k,k']⟩,by simp;omega⟩
  rw [isn ns i (Ao x) (by rw [←k,List.getElem?_map,e1];rfl),isn ms i (Ao y) (by rw [←k',List.getElem?_map,e2];rfl)]
 refine PySem.W.kat_one _ _ ?_
 exact richCompare_meets_room (op:=.Lt) ⟨_,e,rfl⟩ ⟨_,e',rfl⟩ PySem.F.slot_tuple_lt PySem.F.entry_tuple_lt (PySem.F.args_tuple_lt_2 _ _) (ID p q _ _ m m' dd dd2 sl sl2 _ lx)
  ⟨e,e',⟨(fun x=>nomatch x),h⟩⟩ (by omega)
theorem Hi.cmp {h:Heap}{vs:List Value}{ds:List Dn}{sh:List Bool}(x:Hi h vs ds sh) (hu:A.units+64<cLine) (h2:2≤vs.length) (kp:∀a o items m,h.get? a=some o→o.cls=.type "tuple" → o.data=.seq items m→s.heap.get? a=some o) :
  ∃κ,(∀(Q:SortKind→Shared→Prop) (E:Value→Shared→Prop),Q κ s→wpAny (model prog w) A (keyKind' vs.toArray) Q E s)/\Srt.Cmp prog w A s κ lexOrd (kfC vs (ds.map Cv)) (pairsOf vs):=by
 have mp:∀p∈(pairsOf vs).toList,p.1∈vs:=fun p hp=>by rw [pairsOf_toList] at hp;exact (mem_zip_self hp).2
 have kn:∀{u ks rs},NP h u ks rs→NP s.heap u ks rs:=fun ⟨a,o,items,m,us,e0,e,c,d,r⟩=>⟨a,o,items,m,us,e0,kp a o items m e c d,c,d,r⟩
 have kt:∀{u ks},Bo h u ks→Bo s.heap u ks:=fun ⟨a,o,items,m,e0,e,c,d,r⟩=>⟨a,o,items,m,e0,kp a o items m e c d,c,d,r⟩
 have at':∀u∈vs,∃(i:Nat) (d:Dn),vs[i]?=some u/\ds[i]?=some d:=fun u hu=>Ei x.len hu
 refine ⟨tuples' true,fun Q E q=>?_,⟨fun p hp q hq Q E k=>?_⟩⟩
 ·have key:∀(l:List Value),(∀u∈l,u∈vs)→∃fs,PySem.W.KatTups s.heap l fs/\fs.length=l.length/\∀v∈fs,A8 v/\isI (Ao v)=sh.headD true:=fun l=>by
   induction l with
   | nil=>exact fun _=>⟨[],trivial,rfl,fun v hv=>by cases hv⟩
   | cons u l ih =>
    intro hu
    obtain ⟨fs,k1,k2,k3⟩:=ih fun v hv=>hu v (List.mem_cons_of_mem _ hv)
    obtain ⟨i,d,e1,e2⟩:=at' u (hu u List.mem_cons_self)
    obtain ⟨t,z⟩:=x.one i u d e1 e2
    obtain ⟨a,o,items,m,us,rfl,e,c,d',l0,r,fl⟩:=kn t
    match us,l0,r,fl with
    | [],_,r,_ =>
     have r:[]=d.1:=r
     rw [←r] at z
     exact absurd z.symm x.hn
    | f0::l1,l0,r,fl =>
     have g0:items[0]?=some f0:=by rw [←Array.getElem?_toList,l0];rfl
     refine ⟨f0::fs,PySem.W.KatTups.cons e c d' g0 k1,by rw [List.length_cons,List.length_cons,k2],fun v hv=>?_⟩
     rcases List.mem_cons.mp hv with rfl|hv
     ·refine ⟨fl _ (by simp),?_⟩
      have r:Ao v::l1.map Ao=d.1:=r
      rw [←z,←r]
      rfl
     ·exact k3 v hv
  obtain ⟨fs,k1,k2,k3⟩:=key vs fun _ h=>h
  cases hh:sh.headD true with
  | true =>
   refine PySem.W.kat_kind (T:=.type "int") k1 (by omega) (fun v hv=>?_) (by decide) q
   obtain ⟨fl,z⟩:=k3 v hv
   rw [hh] at z
   cases v <;> first|exact fl.elim|exact Bool.noConfusion (show true=false from z)|exact Bool.noConfusion (show false=true from z)|exact .now
  | false =>
   refine PySem.W.kat_kind (T:=.type "str") k1 (by omega) (fun v hv=>?_) (by decide) q
   obtain ⟨fl,z⟩:=k3 v hv
   rw [hh] at z
   cases v <;> first|exact fl.elim|exact Bool.noConfusion (show true=false from z)|exact Bool.noConfusion (show false=true from z)|exact .now
 ·obtain ⟨i,d,e1,e2⟩:=at' _ (mp p hp)
  obtain ⟨j,d',e3,e4⟩:=at' _ (mp q hq)
  have k:Q (BG (kfC vs (ds.map Cv) p.1) (kfC vs (ds.map Cv) q.1)) s:=k
  rw [x.kf i _ d e1 e2,x.kf j _ d' e3 e4] at k
  obtain ⟨t,z1⟩:=x.one i _ d e1 e2
  obtain ⟨t',z2⟩:=x.one j _ d' e3 e4
  obtain ⟨a,o,items,m,us,u1,e,c,dd,l0,r,fl⟩:=kn t
  obtain ⟨a',o',items',m',us',u2,e',c',dd',l0',r',fl'⟩:=kn t'
  have es:us.map (fun v=>isI (Ao v))=us'.map (fun v=>isI (Ao v)):=by
   have h1:(us.map Ao).map isI=(us'.map Ao).map isI:=by rw [r,r',z1,z2]
   rw [List.map_map,List.map_map] at h1
   exact h1
  have el:d.1.length=d'.1.length:=by have:=congrArg List.length (z1.trans z2.symm);simpa using this
  unfold Cv at k
  rw [Ka el] at k
  rw [u1,u2]
  refine PySem.W.kat_lt e dd e' dd' ?_
  rw [l0,l0']
  have lu:us.length=d.1.length:=by rw [←r,List.length_map]
  have lu':us'.length=d'.1.length:=by rw [←r',List.length_map]
  have sz1:items.size=us.length+d.2.1.length:=by rw [←Array.length_toList,l0];simp
  have sz2:items'.size=us'.length+d'.2.1.length:=by rw [←Array.length_toList,l0'];simp
  have hpos:0<us.length:=by
   rw [lu]
   refine Nat.pos_of_ne_zero fun z=>x.hn ?_
   rw [←z1,List.eq_nil_of_length_eq_zero z];rfl
  refine Lz us us' _ _ 0 fl fl' es (fun q j hj=>?_) fun q=>?_
  ·rw [r,r'] at q
   rw [if_pos q] at k
   rcases x.two i _ d d' e2 e4 q with ⟨q1,q2⟩|⟨p',q',ns,ms,r1,r2,r3,r4,t1,t2⟩
   ·rw [decide_eq_false (by rw [sz1,sz2,lu,lu',el,q1];omega),q1]
    rw [q2,Fm] at k
    exact KY _ _ k
   ·rw [decide_eq_false (by rw [sz1,sz2,lu,lu',el,r1,r2];simp),r1,r2]
    rw [r3] at t1
    rw [r4] at t2
    rw [r3,r4] at k
    refine PySem.W.kat_cons (M9 (kt t1) (kt t2) hu prog w _ _ (PySem.W.kat_go (fun z=>?_) fun z=>?_))
    ·have z:=of_decide_eq_true z
     rw [z,Fm] at k
     exact PySem.W.kat_yes (PySem.W.kat_nil k)
    ·refine PySem.W.kat_no ?_
     have j0:(j==0)=false:=by simp;omega
     rw [j0,Bool.and_false]
     exact Mw (kt t1) (kt t2) hu k
  ·rw [r,r'] at q ⊢
   rw [if_neg q] at k
   exact k
end
def Gh (K:PySem.W.Frag) (H:Hp) (xs:List V) (ds:List Dn) (sh:List Bool):Prop:=sh≠[]/\Paired (fun x (d:Dn)=>(∃a,x=.ref a/\SqT K H a (d.1.map kV++d.2.1.map V.ref))/\d.1.map isI=sh) xs ds /\
 ∀(i j:Nat) d e,ds[i]?=some d→ds[j]?=some e→d.1=e.1→(d.2.1=e.2.1/\d.2.2=e.2.2)\/∃(p q:Addr) (ns ms:List Int),d.2.1=[p]/\e.2.1=[q]/\d.2.2=ns.map Sum.inl/\e.2.2=ms.map Sum.inl/\SqT K H p (ns.map V.int)/\SqT K H q (ms.map V.int)
section
variable {X:Cx}{pins:List (Addr×Obj)}{σ:St}{H:Hp}{s:Shared}
theorem J3:∀{rs:List Addr}{us:List Value},Vals (rs.map V.ref) us→us=rs.map Value.ref
 | [],_,h=>by cases h;rfl
 | r::rs,_,h=>by
  cases h with
  | cons h1 h2 =>
   cases h1
   rw [J3 h2]
   rfl
theorem IE (I:Inv X pins σ H s) {p:Addr}{ns:List Int}(h:SqT X.K H p (ns.map V.int)):Bo s.heap (.ref p) (ns.map Sum.inl):=by
 have h':SqT X.K H p ((ns.map (Sum.inl:Int→Key)).map kV):=by rw [List.map_map];exact h
 obtain ⟨its2,rv,⟨o,ho,hc,n,hd⟩,_⟩:=I.tuple h'
 obtain ⟨k1,k2⟩:=Dt rv
 exact ⟨p,o,its2.toArray,n,rfl,ho,hc,hd,by simpa using k1,by simpa using k2⟩
theorem Gh.vals (I:Inv X pins σ H s) {xs:List V}{ds:List Dn}{sh:List Bool}{its:List Value}(h:Gh X.K H xs ds sh) (r:Vals xs its):Hi s.heap its ds sh:=by
 obtain ⟨hn,p,two⟩:=h
 have hl:=r.length
 obtain ⟨h1,h2⟩:=Am p
 refine ⟨by omega,hn,fun i u d e1 e2=>?_,fun i j d e e1 e2 q=>?_⟩
 ·have hi:=(List.getElem?_eq_some_iff.mp e2).1
  have e3:xs[i]?=some xs[i]:=List.getElem?_eq_getElem (by omega)
  obtain ⟨⟨a,ea,hq⟩,z⟩:=h2 i _ _ e3 e2
  obtain ⟨u',e4,e5⟩:=r.get e3
  rw [e1] at e4
  cases e4
  rw [ea] at e5
  obtain rfl:u=Value.ref a:=e5
  obtain ⟨its2,rv,⟨o,ho,hc,n,hd⟩,_⟩:=I.tuple hq
  obtain ⟨us,ws,rfl,v1,v2⟩:=Gj rv
  obtain ⟨k1,k2⟩:=Dt v1
  rw [J3 v2] at hd
  exact ⟨⟨a,o,_,n,us,rfl,ho,hc,hd,by simp,k1,k2⟩,z⟩
 ·rcases two i j d e e1 e2 q with h|⟨p,q,ns,ms,r1,r2,r3,r4,t1,t2⟩
  ·exact .inl h
  ·exact .inr ⟨p,q,ns,ms,r1,r2,r3,r4,by rw [r3];exact IE I t1,by rw [r4];exact IE I t2⟩
end
theorem Pd {its:List Value}{ys:List V}{kss:List (List Key)}{kf:Value→List Key}(r:Vals ys its) (hk:its.length=kss.length) (hkf:∀(i:Nat) u ks,its[i]?=some u→kss[i]?=some ks→kf u=ks) {out:Array Keyed}(p:out.Perm (pairsOf its)) (u:Srt.Up (O:=lexOrd) kf out 0 (pairsOf its).size) :
    ∃qs:List (V×List Key),qs.Perm (ys.zip kss)/\Vals (qs.map (·.1)) (out.map (·.2)).toList/\(qs.map (·.2)).Pairwise (fun a b=>BG b a=false):=by
  have pl:out.toList.Perm (its.zip its):=by rw [←pairsOf_toList];exact Array.perm_iff_toList_perm.mp p
  have me:∀q∈out.toList,q.1=q.2/\q.1∈its:=fun q hq=>mem_zip_self (pl.mem_iff.mp hq)
  have e0:(out.map (·.2)).toList=out.toList.map (·.2):=Array.toList_map ..
  have pu:(out.toList.map (·.2)).Perm its:=by
    have:=pl.map (·.2)
    rwa [List.map_snd_zip (Nat.le_refl _)] at this
  have hl:=r.length
  have pf:Paired (fun (q:V×List Key) v=>RelV q.1 v/\kf v=q.2) (ys.zip kss) its:=by
    refine A3 (by rw [List.length_zip];omega) fun i a b e1 e2=>?_
    obtain ⟨e3,e4⟩:=List.getElem?_zip_eq_some.mp e1
    obtain ⟨v,e5,e6⟩:=r.get e3
    rw [e2] at e5
    cases e5
    exact ⟨e6,hkf i b a.2 e2 e4⟩
  obtain ⟨qs,q1,q2⟩:=Ee pu pf
  obtain ⟨l2,g2⟩:=Am q2
  refine ⟨qs,q1,?_,?_⟩
  · rw [e0]
    refine A3 (by rw [List.length_map,l2]) fun i a b e1 e2=>?_
    rw [List.getElem?_map] at e1
    obtain ⟨q,e3,rfl⟩:=Option.map_eq_some_iff.mp e1
    exact (g2 i q b e3 e2).1
  · rw [List.pairwise_iff_getElem]
    intro i j hi hj hij
    rw [List.length_map] at hi hj
    rw [List.length_map] at l2
    have hs:(pairsOf its).size=out.size:=p.size_eq.symm
    have ko:∀k (hk:k<qs.length),(qs[k]).2=Srt.KX (O:=lexOrd) kf out k:=fun k hk=>by
      have hk2 : k < out.size := by have : out.toList.length = out.size := by simp
                                    omega
      rw [Srt.A4 hk2]
      have e1:qs[k]?=some qs[k]:=List.getElem?_eq_getElem hk
      have e2:(out.toList.map (·.2))[k]?=some out[k].2:=by rw [List.getElem?_map,Array.getElem?_toList,getElem?_pos out k hk2];rfl
      have:=(g2 k _ _ e1 e2).2
      rw [(me out[k] (by simp)).1,this]
    have := u i j (Nat.zero_le _) (Nat.le_of_lt hij) (by have : out.toList.length = out.size := by simp
                                                         omega)
    rw [←ko i hi,←ko j hj] at this
    rw [List.getElem_map,List.getElem_map]
    exact this
section
variable {X:Cx}{K:PySem.W.Frag}
theorem JY {k:Nat}(hr:DQ k X.A) (hK:X.K=K:=by rfl):Cy X (.builtin "sorted") (fun xs H Q=>∃(p:Addr) (ys:List V) (ds:List Dn) (sh:List Bool),xs=[.ref p]/\SqL K H p ys/\Gh K H ys ds sh /\
  ∀l (qs:List (V×List Key)),H l=none→qs.Perm (ys.zip (ds.map Cv))→(qs.map (·.2)).Pairwise (fun a b=>BG b a=false)→Q (.ref l) (upd H l (.lst (qs.map (·.1))))):=by
 subst hK
 intro pins s σ H xs us Q I r h
 obtain ⟨p,ys,ds,sh,rfl,hq,so,q⟩:=h
 obtain ⟨u,rfl,ru⟩:=vals1 r
 cases ru
 obtain ⟨its,rv,pl,hz⟩:=I.list hq
 have sv:=so.vals I rv
 have hl:=pl.isList
 have hlen:=rv.length
 refine Calls.call_function_entry kind_sorted plain_sorted entry_sorted (args_sorted1 _) ?_
 unfold Builtin.«sorted»
 refine wpAny_bind (m:=checkCount "sorted" 1 1 _) (wpAny_pure ?_)
 refine wpAny_bind (collect_list hl ?_ (by omega))
 refine wpAny_bind (wpAny_newList ?_ (by omega))
 have hsz:((s.heap.push (seqObj "list" #[] 0)).update s.heap.objs.size (Obj.mapSeq (·++its.toArray))).objs.size=s.heap.objs.size+1:=by
  rw [Heap.size_update,size_push']
 have hoL:(((s.heap.push (seqObj "list" #[] 0)).update s.heap.objs.size (Obj.mapSeq (·++its.toArray))).push (seqObj "list" its.toArray 0)).get? (s.heap.objs.size+1)=some (seqObj "list" its.toArray 0):=by
  rw [←hsz];exact Heap.get?_push_size _ rfl
 have kp:∀b o,s.heap.get? b=some o→(((s.heap.push (seqObj "list" #[] 0)).update s.heap.objs.size (Obj.mapSeq (·++its.toArray))).push (seqObj "list" its.toArray 0)).get? b=some o:=fun b o e =>
  Heap.get?_push_of_some _ ((Heap.get?_update_ne _ _ _ _ (Nat.ne_of_lt (Heap.lt_size e))).trans (Heap.get?_push_of_some _ e))
 show wpAny _ _ _ _ _ { s with heap:=((s.heap.push (seqObj "list" #[] 0)).update s.heap.objs.size (Obj.mapSeq (·++its.toArray))).push (seqObj "list" its.toArray 0) }
 rw [hsz]
 refine wpAny_bind (wpAny_holding (wpAny_call_entry slot_list_sort ⟨_,hoL,rfl⟩ entry_list_sort (Srt.FI (O:=lexOrd) hoL (by omega) (kfC its (ds.map Cv)) (fun h' k' h2=>?_) fun out p u=>⟨_,rfl,wpAny_pure ⟨_,rfl,?_⟩⟩) (args_list_sort _)))
 ·refine sv.cmp ?_ h2 fun a o items m e _ _=>?_
  ·have:=hr.un
   have e1:X.A.in1.units≤X.A.units+1:=by first|exact Nat.le_refl _|(simp [Around.in1];omega)
   have e2:X.A.in1.in1.units≤X.A.in1.units+1:=by first|exact Nat.le_refl _|(simp [Around.in1];omega)
   omega
  ·exact k' a o (Nat.ne_of_lt (Nat.lt_succ_of_lt (Heap.lt_size e))) (kp a o e)
 ·obtain ⟨qs,q1,q2,q3⟩:=Pd (kss:=ds.map Cv) (kf:=kfC its (ds.map Cv)) rv (by rw [List.length_map];exact sv.len) (fun i u ks e1 e2=>by
   rw [List.getElem?_map] at e2
   obtain ⟨d,e3,rfl⟩:=Option.map_eq_some_iff.mp e2
   exact sv.kf i u d e1 e3) p u
  obtain ⟨e,ho⟩:=sortedAll_at s.heap its (out.map (·.2))
  have lz:(qs.map (·.1)).length≤sizeLine:=by
   rw [List.length_map,q1.length_eq,List.length_zip]
   omega
  refine ⟨.ref (s.heap.objs.size+1),_,I.laid (a:=s.heap.objs.size+1) (o:=.lst (qs.map (·.1))) (t':=s.toks) (fun b o e=>sortedAll_old e) (Nat.le_succ _) ⟨lz,_,e,q2,by rw [Array.toArray_toList];exact ho⟩,rfl,q _ qs (I.hok.fresh (Nat.le_succ _)) q1 q3⟩
end
end L2
namespace Stk
open PySem PySem.Spec PyProof.Rows L2
section
variable {prog:Program}{w:World}{A:Around}{E:Value→Shared→Prop}{s:Shared}
theorem NI {l:Addr}{items:Array Value}{ks:List Key}{Q:Value→Shared→Prop}
  (hh:A.handled=none) (hl:s.heap.IsTuple l items) (hlen:ks.length=items.size) (hi:∀(i:Nat) k v,ks[i]?=some k→items[i]?=some v→DZ k v=true) (hb:items.size+1<scanBound)
  (h:∀(h':Heap) (tk:Nat),Dj prog w h' s.heap.objs.size (once [] ks)→(∀b o,b<s.heap.objs.size→s.heap.get? b=some o→h'.get? b=some o)→Q (.ref s.heap.objs.size) { s with heap:=h',toks:=tk }) :
  wpAny (model prog w) A (call (.type "set") [.ref l]) Q E s:=by
 obtain ⟨c,tl,hmro⟩:=PySem.F.called_set.mro
 have hmade:=PySem.F.called_set.made
 have hsub:=PySem.F.called_set.sub
 refine wpAny_call (codeAny_of_tree ?_)
 show wpAny _ _ (callAny (.type "set") _) _ _ _
 refine wpAny_pure ⟨Code.quiet_builtin _ (by decide +kernel),codeAny_builtin PySem.F.entry_type_call ?_⟩
 rw [Around.under_plain (weight_type_call_type "set" [.ref l] []) rfl]
 have h1:=PySem.F.called_set.notType
 have h2:=PySem.F.called_set.canCreate
 have hct:=PySem.F.typeCall_set_1 (.ref l)
 repeat (any_goals (first|assumption|wp_step))
 refine codeAny_mono (PV (.ref l) (E:=E) (Q₁:=fun obj s₁=>obj=.ref s.heap.objs.size/\s₁={ s with heap:=s.heap.push (HG w) }) ⟨rfl,rfl⟩) fun r s₁ hr=>?_
 cases r with
 | error e=>exact hr
 | ok fl =>
  cases fl with
  | ret obj =>
   obtain ⟨rfl,rfl⟩:=hr
   have hS:(s.heap.push (HG w)).get? s.heap.objs.size=some (HG w):=Heap.get?_push_size _ rfl
   have hT:Shared.TypeIs { s with heap:=s.heap.push (HG w) } (.ref s.heap.objs.size) "set" := ⟨_,hS,rfl⟩
   have hli:=PySem.F.called_set.init.lookup
   have hbi:=PySem.F.called_set.init.bind (.ref s.heap.objs.size)
   repeat (any_goals (first|assumption|wp_step))
   refine codeAny_mono (codeAny_call_builtin (R:=wants (fun r s₂=>r=.none/\∃h' tk,s₂={ s with heap:=h',toks:=tk }/\Dj prog w h' s.heap.objs.size (once [] ks) /\
     (∀b o,b<s.heap.objs.size→s.heap.get? b=some o→h'.get? b=some o)) E) PySem.F.called_set.init.plain PySem.F.entry_set_init (check_set_init_1 hT ?_)) fun r₂ s₂ hr₂=>?_
   ·obtain ⟨ol,hol,hcl,nl,hdl⟩:=hl
    obtain ⟨ocls,odict,odata,oslots⟩:=ol
    simp only at hcl hdl
    subst hcl;subst hdl
    have hol':(s.heap.push (HG w)).get? l=some { cls:=.type "tuple", dict:=odict,data:=.seq items nl,slots:=oslots }:=Heap.get?_push_of_some _ hol
    have hsls:=PySem.F.sub_tuple_set
    have hslf:=PySem.F.sub_tuple_frozenset
    have hne:(Value.type "tuple" == Value.type "dict")=false:=by decide
    have hl1:(s.heap.push (HG w)).IsTuple l items:=⟨_,hol',rfl,nl,rfl⟩
    unfold Builtin.«set.__init__» noKeywords Builtin.Frozenset.updateFrom
    generalize hPI:pyIter=PI
    wp_walk
    subst hPI
    refine wpAny_pyIter_tuple hl1 ?_
    refine wpAny_bind (wpAny_runValue ?_)
    have hlS:l<s.heap.objs.size:=Heap.lt_size hol
    have hh3:A.in1.in1.in1.handled=none:=by simp [hh]
    have hneI:l≠(s.heap.push (HG w)).objs.size:=by
     rw [Heap.size_push];exact Nat.ne_of_lt (Nat.lt_succ_of_lt hlS)
    have hSf:s.heap.objs.size∉[(s.heap.push (HG w)).objs.size,l]:=by
     rw [Heap.size_push];simp only [List.mem_cons,List.mem_singleton,List.not_mem_nil,or_false,not_or]
     exact ⟨Nat.ne_of_lt (Nat.lt_succ_self _),Nat.ne_of_gt hlS⟩
    refine Jo ((Walks.tuple hh3 _ l hneI items).toS) s.heap.objs.size hSf ks hlen (fun i k v e1 e2=>hi i k v e1 e2) hb (items.size-0) 0 _ (by omega) (Nat.zero_le _)
     ⟨⟨_,Heap.get?_push_size _ rfl,rfl,rfl⟩,(hl1.push _)⟩ ?hS0 ?hR
    case hS0=>exact K8 (Heap.get?_push_of_some _ hS)
    case hR =>
     intro s' hm hS'
     obtain ⟨h',g',d',tk',os'⟩:=s'
     have eg:g'=s.gens:=hm.gens
     have ed:d'=s.drawn:=hm.drawn
     have eo:os'=s.os:=hm.os
     subst eg;subst ed;subst eo
     show wpAny _ _ _ _ _ _
     refine wpAny_pure ?_
     show wpAny _ _ (ret Value.none) _ _ _
     refine wpAny_pure ⟨rfl,h',tk',rfl,hS',fun b o hb e=>?_⟩
     have hb1:b≠s.heap.objs.size:=Nat.ne_of_lt hb
     have hb2:b≠(s.heap.push (HG w)).objs.size:=by
      rw [Heap.size_push];exact Nat.ne_of_lt (Nat.lt_succ_of_lt hb)
     exact hm.heap b o (by simp only [List.mem_cons,List.mem_singleton,List.not_mem_nil,or_false,not_or];exact ⟨hb1,hb2⟩) (Heap.get?_push_of_some _ (Heap.get?_push_of_some _ e))
   ·cases r₂ with
    | error e=>exact hr₂
    | ok fl₂ =>
     cases fl₂ with
     | ret r =>
      obtain ⟨rfl,h',tk,rfl,hS',hk'⟩:=hr₂
      repeat (any_goals (first|assumption|wp_step))
      exact h _ _ hS' hk'
     | _=>exact hr₂.elim
  | _=>exact hr.elim
end
end Stk
namespace L2
open PySem PySem.Spec PyProof.Rows
section
variable {X:Cx}{K:PySem.W.Frag}{e:Expr}{te:TE}{p1 p2 pos1 pos2:Pos}
def Nb (K:PySem.W.Frag) (te:TE):TE:=fun σ H Q=>te σ H fun x H1=>∃(a:Addr) (ks:List Key),x=.ref a/\SqT K H1 a (ks.map kV)/\((∀k∈ks,∃i,k=.inl i)\/∀k∈ks,∃i,k=.inr i)/\ks.length+1<scanBound /\
 ∀l (rs:List Key),H1 l=none→rs.Perm (Stk.once [] ks)→rs.Pairwise (fun a b=>kLt b a=false)→Q (.ref l) (upd H1 l (.lst (rs.map kV)))
theorem LA (hc:X.calm=true) (hg1:Gl X "sorted") (hm1:X.mg "sorted" = none) (hg2:Gl X "set") (hm2:X.mg "set" = none) (he0:PE X e te) (hK:X.K=K:=by rfl)
  (hs2:starEach [e] X.env=(false,eval e X.env)::starEach [] X.env:=by rfl) (hs1:starEach [.Call (.Name "set" p2) [e] [] pos2] X.env=(false,eval (.Call (.Name "set" p2) [e] [] pos2) X.env)::starEach [] X.env:=by rfl) :
  PE X (.Call (.Name "sorted" p1) [.Call (.Name "set" p2) [e] [] pos2] [] pos1) (Nb K te):=by
 subst hK
 intro pins s0 σ H Q I0 h
 refine wpAny_Call_Name_kw (FP I0 hg1 hm1 PyProof.Rows.boot_sorted ?_ (by decide) (by decide))
 refine PyProof.Rows.callWith_builtin1 ?_ hs1 rfl
 rw [hs1]
 refine Calls.spliced_cons (Q:=fun us s1=>wpAny (model X.prog X.w) X.A (call (.builtin "sorted") us) (EP X pins σ Q) X.xe s1) ?_
 refine wpAny_Call_Name_kw (FP I0 hg2 hm2 PyProof.Rows.boot_set ?_ (by decide) (by decide))
 refine PyProof.Rows.callWith_type1 ?_ hs2 rfl
 rw [hs2]
 refine Calls.spliced_cons (thn (he0 pins s0 σ H _ I0 h) fun u s ⟨x,H1,I,rx,a,ks,ex,hq,hty,hb,q⟩=>Calls.spliced_nil ?_)
 subst ex
 obtain rfl:u=Value.ref a:=rx
 obtain ⟨its0,rv0,pl,hz⟩:=I.tuple hq
 have hl:=pl
 have hlen:=rv0.length
 rw [List.length_map] at hlen
 refine Stk.NI (items:=its0.toArray) (ks:=ks) (I.ok.hd hc) hl (by simpa using hlen) (fun i k v e1 e2=>?_) (by simp;omega) fun h0 tk0 sk old0=>Calls.spliced_nil ?_
 ·rw [List.getElem?_toArray] at e2
  obtain ⟨u',e4,e5⟩:=rv0.get (i:=i) (x:=kV k) (by rw [List.getElem?_map,e1];rfl)
  rw [e2] at e4
  cases e4
  cases k with
  | inl n=>obtain ⟨t,rfl⟩:=e5;exact GG _ _
  | inr n=>obtain ⟨t,rfl⟩:=e5;exact GF _ _
 have hlt0:s.heap.objs.size<h0.objs.size:=sk.lt
 refine Calls.call_function_entry kind_sorted plain_sorted entry_sorted (args_sorted1 _) ?_
 unfold Builtin.«sorted»
 refine wpAny_bind (m:=checkCount "sorted" 1 1 _) (wpAny_pure ?_)
 refine wpAny_bind (Stk.Ko (A:=X.A.in1) (s:={ s with heap:=h0,toks:=tk0 }) (I.ok.hd hc) sk fun h1 tk d its k1 gr pm0 hbs=>?_)
 obtain ⟨L,eL,pL⟩:=Pm pm0
 have hmem:∀k∈L,k∈ks:=fun k hk=>by
  have:=(Stk.HH k ks []).mp (pL.mem_iff.mp hk)
  simpa using this
 have hLl:its.length=L.length:=by have:=congrArg List.length eL;simpa using this
 have kat:∀(i:Nat) v k,its[i]?=some v→L[i]?=some k→Stk.keyOf v=some k:=fun i v k e1 e2=>by
  have:=congrArg (fun l=>l[i]?) eL
  simp only [List.getElem?_map,e1,e2] at this
  simpa using this
 have rv:Vals (L.map kV) its:=by
  refine A3 (by rw [List.length_map];omega) fun i x v e1 e2=>?_
  rw [List.getElem?_map] at e1
  obtain ⟨k,e3,rfl⟩:=Option.map_eq_some_iff.mp e1
  exact JD (kat i v k e2 e3)
 have ra:=rv.length
 rw [List.length_map] at ra
 have sv:Ct h1 its (L.map fun k=>[k]):=by
  rcases hty with hty|hty
  ·refine .cI (by rw [List.length_map];omega) fun i u ks e1 e2=>?_
   rw [List.getElem?_map] at e2
   obtain ⟨p,e3,rfl⟩:=Option.map_eq_some_iff.mp e2
   obtain ⟨n,en⟩:=hty p (hmem p (List.mem_of_getElem? e3))
   have e5:=JD (kat i u p e1 e3)
   rw [en] at e5 ⊢
   obtain ⟨t,rfl⟩:=e5
   exact ⟨n,t,rfl,rfl⟩
  ·refine .cS (by rw [List.length_map];omega) fun i u ks e1 e2=>?_
   rw [List.getElem?_map] at e2
   obtain ⟨p,e3,rfl⟩:=Option.map_eq_some_iff.mp e2
   obtain ⟨n,en⟩:=hty p (hmem p (List.mem_of_getElem? e3))
   have e5:=JD (kat i u p e1 e3)
   rw [en] at e5 ⊢
   obtain ⟨t,rfl⟩:=e5
   exact ⟨n,t,rfl,rfl⟩
 have hsl:its.length≤sizeLine:=fits_of_scanBound hbs
 refine wpAny_bind (wpAny_newList ?_ (by omega))
 have hoL:(h1.push (seqObj "list" its.toArray 0)).get? h1.objs.size=some (seqObj "list" its.toArray 0):=Heap.get?_push_size _ rfl
 have grow:s.heap.objs.size≤h1.objs.size:=Nat.le_of_lt (Nat.lt_trans hlt0 gr)
 refine wpAny_bind (wpAny_holding (wpAny_call_entry (s:={ s with heap:=h1.push (seqObj "list" its.toArray 0),toks:=tk,drawn:=d }) slot_list_sort ⟨_,hoL,rfl⟩ entry_list_sort (Srt.FI (O:=lexOrd) hoL (by omega) (kfH h1) (fun h' k' h2=>?_) fun out p u=>⟨_,rfl,wpAny_pure ⟨_,rfl,?_⟩⟩) (args_list_sort _)))
 ·refine sv.cmp h2 fun a o items m _ e _ _=>?_
  exact k' a o (Nat.ne_of_lt (Heap.lt_size e)) (Heap.get?_push_of_some _ e)
 ·obtain ⟨qs,q1,q2,q3⟩:=OA (X:=X) rv sv p u
  obtain ⟨e',ho⟩:=sortedHeap_at (h:=h1.push (seqObj "list" its.toArray 0)) (a:=h1.objs.size) (vs:=its) (out:=out.map (·.2)) hoL
  have one:∀x∈qs,∃k,x.1=kV k/\x.2=[k]:=fun x hx=>by
   have hm:=q1.mem_iff.mp hx
   obtain ⟨i,hi⟩:=List.mem_iff_getElem?.mp hm
   obtain ⟨e3,e4⟩:=List.getElem?_zip_eq_some.mp hi
   rw [List.getElem?_map] at e3 e4
   obtain ⟨p3,e5,e6⟩:=Option.map_eq_some_iff.mp e3
   rw [e5] at e4
   have e4:some [p3]=some x.2:=e4
   exact ⟨p3,e6.symm,(Option.some.inj e4).symm⟩
  have ep:qs.map (·.1)=(qs.map fun x=>x.2.headD (.inl 0)).map kV:=by
   rw [List.map_map]
   refine List.map_congr_left fun x hx=>?_
   obtain ⟨k,e1,e2⟩:=one x hx
   show x.1=kV (x.2.headD (.inl 0))
   rw [e1,e2]
   rfl
  have pm:(qs.map fun x=>x.2.headD (.inl 0)).Perm L:=by
   refine (q1.map _).trans (List.Perm.of_eq ?_)
   rw [show (fun x:V×List Key=>x.2.headD (.inl 0))=(fun l:List Key=>l.headD (.inl 0)) ∘ Prod.snd from rfl,←List.map_map,List.map_snd_zip (by simp),List.map_map]
   exact List.map_id _
  have pw:(qs.map fun x=>x.2.headD (.inl 0)).Pairwise (fun a b=>kLt b a=false):=by
   rw [List.pairwise_map]
   rw [List.pairwise_map] at q3
   refine q3.imp_of_mem fun {a b} ha hb hab=>?_
   obtain ⟨x,_,ex⟩:=one a ha
   obtain ⟨y,_,ey⟩:=one b hb
   rw [ex,ey] at hab ⊢
   show kLt y x=false
   have hab:(if y=x then false else kLt y x)=false:=hab
   by_cases z:y=x
   ·rw [z];exact L1 x
   ·rw [if_neg z] at hab;exact hab
  have lz:(qs.map (·.1)).length≤sizeLine:=by
   rw [List.length_map,q1.length_eq,List.length_zip,List.length_map]
   omega
  have old:∀b o,s.heap.get? b=some o→(sortedHeap (h1.push (seqObj "list" its.toArray 0)) h1.objs.size its (out.map (·.2))).get? b=some o:=fun b o e=>by
   have e1:=k1 b o (old0 b o (Heap.lt_size e) e)
   have hlt:=Heap.lt_size e1
   rw [sortedHeap_old (Nat.ne_of_lt hlt) (by rw [size_push'];exact Nat.lt_succ_of_lt hlt)]
   exact Heap.get?_push_of_some _ e1
  refine ⟨.ref h1.objs.size,_,(I.drawn d).laid (a:=h1.objs.size) (o:=.lst (qs.map (·.1))) (t':=tk) old grow ⟨lz,_,e',q2,by rw [Array.toArray_toList];exact ho⟩,rfl,?_⟩
  rw [ep]
  exact q _ _ (I.hok.fresh grow) (pm.trans pL) pw
end
end L2
namespace L2
open PySem PySem.Spec PyProof.Rows
theorem N4 (its:List Value):slicePick its.toArray none none (some (-1))=its.reverse.toArray:=by
 have hb:sliceBounds none none (some (-1)) its.length=((its.length:Int)-1,-1,-1):=by
  unfold sliceBounds
  rfl
 have hr:sliceRange ((its.length:Int)-1) (-1) (-1)=(List.range its.length).map fun k=>its.length-1-k:=by
  have hc:(if ((its.length:Int)-1) > -1 then (((its.length:Int)-1) - -1 - -1-1) / -(-1:Int) else 0).toNat=its.length:=by
   split
   ·have:(((its.length:Int)-1) - -1 - -1-1) / -(-1:Int)=its.length:=by
     rw [show -(-1:Int)=1 by decide,Int.ediv_one];omega
    rw [this];rfl
   ·have:its.length=0:=by omega
    rw [this];rfl
  unfold sliceRange
  show List.map (fun k:Nat=>(((its.length:Int)-1)+(-1) * (k:Int)).toNat) (List.range (if ((its.length:Int)-1) > -1 then (((its.length:Int)-1) - -1 - -1-1) / -(-1:Int) else 0).toNat)=_
  rw [hc]
  refine List.map_congr_left fun k _=>?_
  omega
 have key:((List.range its.length).map fun k=>its.length-1-k).map (fun x=>its.toArray[x]?)=its.reverse.map some:=by
  refine List.ext_getElem? fun k=>?_
  rw [List.map_map,List.getElem?_map,List.getElem?_map]
  by_cases h:k<its.length
  ·rw [List.getElem?_range h,List.getElem?_reverse h]
   show some (its.toArray[its.length-1-k]?)=_
   rw [List.getElem?_toArray,List.getElem?_eq_getElem (by omega)]
   rfl
  ·rw [List.getElem?_eq_none (by simpa using h),List.getElem?_eq_none (by simpa using h)]
   rfl
 unfold slicePick
 have hs:its.toArray.size=its.length:=by simp
 rw [hs,hb]
 show (List.filterMap (fun x=>its.toArray[x]?) (sliceRange ((its.length:Int)-1) (-1) (-1))).toArray=_
 rw [hr]
 have e:List.filterMap (fun x=>its.toArray[x]?) ((List.range its.length).map fun k=>its.length-1-k)=its.reverse:=by
  have:=List.filterMap_map (f:=fun x=>its.toArray[x]?) (g:=id) (l:=(List.range its.length).map fun k=>its.length-1-k)
  rw [key,List.filterMap_map] at this
  simp only [Function.comp_def,id] at this
  rw [←this]
  simp
 rw [e]
section
variable {X:Cx}{K:PySem.W.Frag}{e st:Expr}{te ts:TE}{p2 pos:Pos}
def Rv (K:PySem.W.Frag) (te ts:TE):TE:=fun σ H Q=>te σ H fun x H1=>ts σ H1 fun y H2=>y=.int (-1)/\∃a xs,x=.ref a/\SqL K H2 a xs/\∀p,H2 p=none→Q (.ref p) (upd H2 p (.lst xs.reverse))
theorem Qe (he:PE X e te) (hs:PE X st ts) (hK:X.K=K:=by rfl):PE X (.Subscript e (.Slice none none (some st) p2) pos) (Rv K te ts):=by
 subst hK
 intro pins s σ H Q I h
 refine Lg slot_list_getitem.lookup (fun _ _=>rfl) (thn (he pins s σ H _ I h) fun v s1 ⟨x,H1,I1,r1,q1⟩=>?_)
 refine wpAny_Slice ?_
 rw [evalPart_none]
 refine wpAny_pure ?_
 refine wpAny_pure ?_
 rw [evalPart_some]
 refine thn (hs pins s1 σ H1 _ I1 q1) fun u s2 ⟨y,H2,I2,r2,q2⟩=>?_
 obtain ⟨rfl,a,xs,rfl,hx,q⟩:=q2
 cases r1
 obtain ⟨t,rfl⟩:=r2
 have I4:Inv X pins σ H2 { s2 with heap:=s2.heap.push { cls:=.type "slice", data:=.fields #[.none,.none,.int (-1) t] } }:=I2.kept (t':=s2.toks) fun b ob q=>Heap.get?_push_of_some _ q
 obtain ⟨its,r,ht,hz⟩:=I4.list hx
 have hlen:=r.length
 refine ⟨ht.isList.typeIs,?_⟩
 refine wpAny_getItem_list_slice ht.isList (Heap.IsSliceOf.new ..) .none .none (.int (-1) t) (by decide) ?_ (by rw [List.size_toArray];omega)
 rw [N4]
 refine ⟨.ref (s2.heap.push { cls:=.type "slice", data:=.fields #[.none,.none,.int (-1) t] }).objs.size,_,I4.laid (t':=s2.toks) (o:=.lst xs.reverse) (fun b ob q=>Heap.get?_push_of_some _ q) (Nat.le_refl _) ?_,rfl,q _ (I4.hok.fresh (Nat.le_refl _))⟩
 exact ⟨by rw [List.length_reverse];exact hz,_,0,r.reverse,Heap.get?_push_size _ rfl⟩
end
end L2
set_option maxHeartbeats 4000000
namespace K28
open PySem L2
seal PE PT PW PA PS PSs PG PGs PI PTs PC PO OpR UnR Cy SR IxR SlR
def top (i:Nat):Stmt:=PySem.Challenge.pw_brooktally_k28_streams_by_sets.main.body.getD i (.Pass ⟨0,0,0,0⟩)
abbrev Ed:Stmt:=top 2
abbrev F6:Stmt:=top 3
abbrev F7:Stmt:=top 4
abbrev D6:Stmt:=top 6
abbrev JC:Stmt:=top 8
abbrev JB:Stmt:=top 10
abbrev G6:Stmt:=top 11
abbrev Ec:Stmt:=top 12
abbrev DU:Stmt:=top 14
abbrev F8:Stmt:=top 15
abbrev F9:Stmt:=top 16
abbrev FG:Stmt:=top 17
abbrev C1:Stmt:=top 18
abbrev C0:Stmt:=top 19
abbrev D7:Stmt:=top 20
abbrev Nn:Stmt:=top 22
abbrev Ep:Stmt:=top 23
abbrev F4:Stmt:=top 24
abbrev Iy:Stmt:=top 25
abbrev G5:Stmt:=top 26
abbrev JA:Stmt:=top 27
abbrev D5:Stmt:=top 28
abbrev DF:Stmt:=top 29
abbrev Cf:Stmt:=top 30
abbrev F5:Stmt:=top 31
abbrev DG:Stmt:=top 32
abbrev G4:Stmt:=top 33
abbrev Iz:Stmt:=top 34
abbrev Np:Stmt:=top 35
theorem Fc:Ak ["step"] ["step"] (AR Ed):=⟨rfl,rfl,rfl,by decide +kernel,rfl,by decide +kernel,by decide +kernel⟩
theorem Gy:Ak ["step"] ["step"] (AR F6):=⟨rfl,rfl,rfl,by decide +kernel,rfl,by decide +kernel,by decide +kernel⟩
theorem Gz:Ak ["step"] ["step"] (AR F7):=⟨rfl,rfl,rfl,by decide +kernel,rfl,by decide +kernel,by decide +kernel⟩
theorem GR:Ak ["plan", "name"] ["plan", "name"] (AR D6):=⟨rfl,rfl,rfl,by decide +kernel,rfl,by decide +kernel,by decide +kernel⟩
theorem J1:Ak ["rows", "mark", "low", "high", "middle"] ["rows", "mark"] (AR JC):=⟨rfl,rfl,rfl,by decide +kernel,rfl,by decide +kernel,by decide +kernel⟩
theorem J0:Ak ["step", "event"] ["step", "event"] (AR JB):=⟨rfl,rfl,rfl,by decide +kernel,rfl,by decide +kernel,by decide +kernel⟩
theorem IL:Ak ["step", "item"] ["step", "item"] (AR G6):=⟨rfl,rfl,rfl,by decide +kernel,rfl,by decide +kernel,by decide +kernel⟩
theorem IM:Ak ["step", "streams"] ["step", "streams"] (AR Ec):=⟨rfl,rfl,rfl,by decide +kernel,rfl,by decide +kernel,by decide +kernel⟩
theorem Fb:Ak ["step", "events", "items", "place", "event"] ["step", "events"] (AR DU):=⟨rfl,rfl,rfl,by decide +kernel,rfl,by decide +kernel,by decide +kernel⟩
theorem G0:Ak ["items", "rows", "time", "key", "amount", "places"] ["items"] (AR F8):=⟨rfl,rfl,rfl,by decide +kernel,rfl,by decide +kernel,by decide +kernel⟩
theorem G1:Ak ["row", "low", "high"] ["row", "low", "high"] (AR F9):=⟨rfl,rfl,rfl,by decide +kernel,rfl,by decide +kernel,by decide +kernel⟩
theorem GS:Ak ["item", "other", "places"] ["item", "other"] (AR FG):=⟨rfl,rfl,rfl,by decide +kernel,rfl,by decide +kernel,by decide +kernel⟩
theorem E9:Ak ["within", "streams", "rows", "made", "item", "near"] ["within", "streams"] (AR C1):=⟨rfl,rfl,rfl,by decide +kernel,rfl,by decide +kernel,by decide +kernel⟩
theorem E8:Ak ["plan", "events", "told", "step", "streams"] ["plan", "events"] (AR C0):=⟨rfl,rfl,rfl,by decide +kernel,rfl,by decide +kernel,by decide +kernel⟩
theorem GU:Ak ["plan", "name", "events", "streams"] ["plan", "name", "events"] (AR D7):=⟨rfl,rfl,rfl,by decide +kernel,rfl,by decide +kernel,by decide +kernel⟩
theorem Nl:Ak ["_law_script", "_law_k"] ["_law_script", "_law_k"] (AR Nn):=⟨rfl,rfl,rfl,by decide +kernel,rfl,by decide +kernel,by decide +kernel⟩
theorem Gx:Ak ["_law_cell", "_law_k", "_law_signs", "_law_letters", "_law_turned", "_law_size", "_law_tail", "_law_at_here"] ["_law_cell", "_law_k", "_law_signs"] (AR Ep):=⟨rfl,rfl,rfl,by decide +kernel,rfl,by decide +kernel,by decide +kernel⟩
theorem Gv:Ak ["_law_cell", "_law_most"] ["_law_cell", "_law_most"] (AR F4):=⟨rfl,rfl,rfl,by decide +kernel,rfl,by decide +kernel,by decide +kernel⟩
theorem Jx:Ak ["_law_cell", "_law_name", "_law_streams", "_law_kind_here", "_law_way", "_law_one", "_law_other", "_law_more", "_law_tally", "_law_low", "_law_high", "_law_step_here"] ["_law_cell", "_law_name", "_law_streams", "_law_kind_here"] (AR Iy):=⟨rfl,rfl,rfl,by decide +kernel,rfl,by decide +kernel,by decide +kernel⟩
theorem IK:Ak ["_law_step_here", "_law_sizes", "_law_many"] ["_law_step_here", "_law_sizes", "_law_many"] (AR G5):=⟨rfl,rfl,rfl,by decide +kernel,rfl,by decide +kernel,by decide +kernel⟩
theorem Jz:Ak ["_law_base", "_law_j"] ["_law_base", "_law_j"] (AR JA):=⟨rfl,rfl,rfl,by decide +kernel,rfl,by decide +kernel,by decide +kernel⟩
theorem E7:Ak ["_law_base", "_law_k", "_law_signs", "_law_words"] ["_law_base", "_law_k", "_law_signs"] (AR D5):=⟨rfl,rfl,rfl,by decide +kernel,rfl,by decide +kernel,by decide +kernel⟩
theorem EU:Ak ["_law_base", "_law_cell", "_law_many", "_law_plan", "_law_one", "_law_other", "_law_ways"] ["_law_base", "_law_cell", "_law_many"] (AR DF):=⟨rfl,rfl,rfl,by decide +kernel,rfl,by decide +kernel,by decide +kernel⟩
theorem Eb:Ak ["_law_script", "_law_first", "_law_most", "_law_many", "_law_base", "_law_letters", "_law_plan", "_law_sizes", "_law_count", "_law_joined", "_law_k", "_law_cell", "_law_name", "_law_kind_here", "_law_step_here", "_law_streams"] ["_law_script", "_law_first", "_law_most", "_law_many"] (AR Cf):=⟨rfl,rfl,rfl,by decide +kernel,rfl,by decide +kernel,by decide +kernel⟩
theorem Gw:Ak ["_law_script", "_law_cells", "_law_base", "_law_scale", "_law_events_here", "_law_k", "_law_cell", "_law_mixed", "_law_time", "_law_kind_here", "_law_at_here", "_law_key", "_law_amount"] ["_law_script", "_law_cells"] (AR F5):=⟨rfl,rfl,rfl,by decide +kernel,rfl,by decide +kernel,by decide +kernel⟩
theorem F3:Ak ["_law_plan", "_law_name", "_law_events_here", "_law_step_here", "_law_ones", "_law_others", "_law_found", "_law_time", "_law_key", "_law_amount", "_law_other"] ["_law_plan", "_law_name", "_law_events_here"] (AR DG):=⟨rfl,rfl,rfl,by decide +kernel,rfl,by decide +kernel,by decide +kernel⟩
theorem IJ:Ak ["_law_thing"] ["_law_thing"] (AR G4):=⟨rfl,rfl,rfl,by decide +kernel,rfl,by decide +kernel,by decide +kernel⟩
theorem Jy:Ak ["_law_found", "_law_due", "_law_item"] ["_law_found", "_law_due"] (AR Iz):=⟨rfl,rfl,rfl,by decide +kernel,rfl,by decide +kernel,by decide +kernel⟩
theorem Nm:Ak ["_law_script", "_law_many", "_law_plan", "_law_events_here", "_law_cut", "_law_other", "_law_handed", "_law_step_here", "_law_due"] ["_law_script"] (AR Np):=⟨rfl,rfl,rfl,by decide +kernel,rfl,by decide +kernel,by decide +kernel⟩
structure Ad where
 Be:Addr
 CA:FuncData
 CV:Addr
 C8:FuncData
 CW:Addr
 C9:FuncData
 Bv:Addr
 CO:FuncData
 EN:Addr
 E2:FuncData
 EM:Addr
 E1:FuncData
 DO:Addr
 Dz:FuncData
 DP:Addr
 D1:FuncData
 Bd:Addr
 B9:FuncData
 CY:Addr
 DA:FuncData
 CZ:Addr
 DB:FuncData
 Bw:Addr
 CP:FuncData
 BR:Addr
 Bl:FuncData
 BQ:Addr
 Bk:FuncData
 Bx:Addr
 CQ:FuncData
 Hg:Addr
 Ie:FuncData
 CU:Addr
 C7:FuncData
 CS:Addr
 C5:FuncData
 EJ:Addr
 Ex:FuncData
 DN:Addr
 Dy:FuncData
 EL:Addr
 Ez:FuncData
 BP:Addr
 Bj:FuncData
 A5:Addr
 BM:FuncData
 BJ:Addr
 BX:FuncData
 CT:Addr
 C6:FuncData
 DM:Addr
 Dx:FuncData
 DL:Addr
 Dw:FuncData
 EK:Addr
 Ey:FuncData
 Hh:Addr
 HW:FuncData
 Cm:Addr
structure Tx (K:W.Frag) (mg:Str→Option Value) (ad:Ad):Prop where
 Bg:Fun K "names_end" "names_end" Ed ad.Be ad.CA
 Kt:Binds K ad.CA ["step"] []
 KU:mg "names_end" = some (.ref ad.Be)
 BZ:Fun K "name_of" "name_of" F6 ad.CV ad.C8
 E4:Binds K ad.C8 ["step"] []
 Ew:mg "name_of" = some (.ref ad.CV)
 Cc:Fun K "feeders" "feeders" F7 ad.CW ad.C9
 NL:Binds K ad.C9 ["step"] []
 Mt:mg "feeders" = some (.ref ad.CW)
 By:Fun K "place_of" "place_of" D6 ad.Bv ad.CO
 LY:Binds K ad.CO ["plan", "name"] []
 LL:mg "place_of" = some (.ref ad.Bv)
 Dg:Fun K "ahead" "ahead" JC ad.EN ad.E2
 MK:Binds K ad.E2 ["rows", "mark"] []
 Lx:mg "ahead" = some (.ref ad.EN)
 ES:Fun K "taken" "taken" JB ad.EM ad.E1
 Py:Binds K ad.E1 ["step", "event"] []
 Pk:mg "taken" = some (.ref ad.EM)
 DR:Fun K "turned" "turned" G6 ad.DO ad.Dz
 Ow:Binds K ad.Dz ["step", "item"] []
 OP:mg "turned" = some (.ref ad.DO)
 DS:Fun K "passed" "passed" Ec ad.DP ad.D1
 Ox:Binds K ad.D1 ["step", "streams"] []
 OQ:mg "passed" = some (.ref ad.DP)
 Bf:Fun K "taken_all" "taken_all" DU ad.Bd ad.B9
 Ks:Binds K ad.B9 ["step", "events"] []
 KS:mg "taken_all" = some (.ref ad.Bd)
 Cd:Fun K "by_keys" "by_keys" F8 ad.CY ad.DA
 NM:Binds K ad.DA ["items"] []
 Mu:mg "by_keys" = some (.ref ad.CY)
 Ce:Fun K "between" "between" F9 ad.CZ ad.DB
 NN:Binds K ad.DB ["row", "low", "high"] []
 Mv:mg "between" = some (.ref ad.CZ)
 Bz:Fun K "met_once" "met_once" FG ad.Bw ad.CP
 LZ:Binds K ad.CP ["item", "other"] []
 LM:mg "met_once" = some (.ref ad.Bw)
 BV:Fun K "joined_all" "joined_all" C1 ad.BR ad.Bl
 Je:Binds K ad.Bl ["within", "streams"] []
 JP:mg "joined_all" = some (.ref ad.BR)
 BU:Fun K "streams_of" "streams_of" C0 ad.BQ ad.Bk
 Jd:Binds K ad.Bk ["plan", "events"] []
 JO:mg "streams_of" = some (.ref ad.BQ)
 Bh:Fun K "items_of" "items_of" D7 ad.Bx ad.CQ
 He:Binds K ad.CQ ["plan", "name", "events"] []
 HM:mg "items_of" = some (.ref ad.Bx)
 Cw:Fun K "_law_at" "_law_at" Nn ad.Hg ad.Ie
 FF:Binds K ad.Ie ["_law_script", "_law_k"] []
 FC:mg "_law_at" = some (.ref ad.Hg)
 Aw:Fun K "_law_called" "_law_called" Ep ad.CU ad.C7
 BY:Binds K ad.C7 ["_law_cell", "_law_k", "_law_signs"] []
 BW:mg "_law_called" = some (.ref ad.CU)
 A1:Fun K "_law_number" "_law_number" F4 ad.CS ad.C5
 CB:Binds K ad.C5 ["_law_cell", "_law_most"] []
 B8:mg "_law_number" = some (.ref ad.CS)
 De:Fun K "_law_step" "_law_step" Iy ad.EJ ad.Ex
 MI:Binds K ad.Ex ["_law_cell", "_law_name", "_law_streams", "_law_kind_here"] []
 Lv:mg "_law_step" = some (.ref ad.EJ)
 Cr:Fun K "_law_bound" "_law_bound" G5 ad.DN ad.Dy
 Kr:Binds K ad.Dy ["_law_step_here", "_law_sizes", "_law_many"] []
 KR:mg "_law_bound" = some (.ref ad.DN)
 Cj:Fun K "_law_kind" "_law_kind" JA ad.EL ad.Ez
 Gg:Binds K ad.Ez ["_law_base", "_law_j"] []
 Ge:mg "_law_kind" = some (.ref ad.EL)
 BS:Fun K "_law_step_name" "_law_step_name" D5 ad.BP ad.Bj
 Jc:Binds K ad.Bj ["_law_base", "_law_k", "_law_signs"] []
 JN:mg "_law_step_name" = some (.ref ad.BP)
 A6:Fun K "_law_joined_plan" "_law_joined_plan" DF ad.A5 ad.BM
 Hc:Binds K ad.BM ["_law_base", "_law_cell", "_law_many"] []
 HJ:mg "_law_joined_plan" = some (.ref ad.A5)
 BK:Fun K "_law_small_plan" "_law_small_plan" Cf ad.BJ ad.BX
 Hu:Binds K ad.BX ["_law_script", "_law_first", "_law_most", "_law_many"] []
 Hr:mg "_law_small_plan" = some (.ref ad.BJ)
 Cb:Fun K "_law_events" "_law_events" F5 ad.CT ad.C6
 NK:Binds K ad.C6 ["_law_script", "_law_cells"] []
 Mr:mg "_law_events" = some (.ref ad.CT)
 Br:Fun K "_law_items" "_law_items" DG ad.DM ad.Dx
 Hd:Binds K ad.Dx ["_law_plan", "_law_name", "_law_events_here"] []
 HK:mg "_law_items" = some (.ref ad.DM)
 Cq:Fun K "_law_whole" "_law_whole" G4 ad.DL ad.Dw
 Kq:Binds K ad.Dw ["_law_thing"] []
 KQ:mg "_law_whole" = some (.ref ad.DL)
 Df:Fun K "_law_same" "_law_same" Iz ad.EK ad.Ey
 MJ:Binds K ad.Ey ["_law_found", "_law_due"] []
 Lw:mg "_law_same" = some (.ref ad.EK)
 Hj:Fun K "law" "law" Np ad.Hh ad.HW
 Sa:Binds K ad.HW ["_law_script"] []
 Rb:mg "law" = some (.ref ad.Hh)
 Ek:mg "PAIRED" = some (.ref ad.Cm)
 Nx:∀H,SqT K H ad.Cm [.str "both", .str "join"]
 Rh:∃o,K.lookup ad.Cm=some o/\o.cls=.type "tuple" /\ o.dict=none
 Gi:mg "bool" = none
 B0:mg "enumerate" = none
 IA:mg "int" = none
 A2:mg "isinstance" = none
 ET:mg "len" = none
 DD:mg "list" = none
 GP:mg "max" = none
 E6:mg "min" = none
 Cz:mg "range" = none
 Jl:mg "set" = none
 Ck:mg "sorted" = none
 Jk:mg "str" = none
 Eo:mg "tuple" = none
theorem us1 {α:Type}{us:List α}(h:us.length=1):∃a0,us=[a0]:=by match us,h with|[a0],_=>exact ⟨a0,rfl⟩
theorem us2 {α:Type}{us:List α}(h:us.length=2):∃a0 a1,us=[a0,a1]:=by match us,h with|[a0,a1],_=>exact ⟨a0,a1,rfl⟩
theorem us3 {α:Type}{us:List α}(h:us.length=3):∃a0 a1 a2,us=[a0,a1,a2]:=by match us,h with|[a0,a1,a2],_=>exact ⟨a0,a1,a2,rfl⟩
theorem us4 {α:Type}{us:List α}(h:us.length=4):∃a0 a1 a2 a3,us=[a0,a1,a2,a3]:=by match us,h with|[a0,a1,a2,a3],_=>exact ⟨a0,a1,a2,a3,rfl⟩
theorem Q9 {K:W.Frag}{h:Heap}{mg:Str→Option Value}(X:K.In h) (G:h.Ns mainGlobals mg)
  {f_names_end:Addr} {CA:FuncData}
  {f_name_of:Addr} {C8:FuncData}
  {f_feeders:Addr} {C9:FuncData}
  {f_place_of:Addr} {CO:FuncData}
  {f_ahead:Addr} {E2:FuncData}
  {f_taken:Addr} {E1:FuncData}
  {f_turned:Addr} {Dz:FuncData}
  {f_passed:Addr} {D1:FuncData}
  {f_taken_all:Addr} {B9:FuncData}
  {f_by_keys:Addr} {DA:FuncData}
  {f_between:Addr} {DB:FuncData}
  {f_met_once:Addr} {CP:FuncData}
  {f_joined_all:Addr} {Bl:FuncData}
  {f_streams_of:Addr} {Bk:FuncData}
  {f_items_of:Addr} {CQ:FuncData}
  {f_uat:Addr} {Ie:FuncData}
  {f_ucalled:Addr} {C7:FuncData}
  {f_unumber:Addr} {C5:FuncData}
  {f_ustep:Addr} {Ex:FuncData}
  {f_ubound:Addr} {Dy:FuncData}
  {f_ukind:Addr} {Ez:FuncData}
  {f_ustep_name:Addr} {Bj:FuncData}
  {f_ujoined_plan:Addr} {BM:FuncData}
  {f_usmall_plan:Addr} {BX:FuncData}
  {f_uevents:Addr} {C6:FuncData}
  {f_uitems:Addr} {Dx:FuncData}
  {f_uwhole:Addr} {Dw:FuncData}
  {f_usame:Addr} {Ey:FuncData}
  {f_law:Addr} {HW:FuncData}
  {Cm:Addr}
  {t0_PAIRED t1_PAIRED:Tok}
  {n_PAIRED:Nat} {sl_PAIRED:Array (Option Value)}
  (Be:W.nsIn K mainGlobals "names_end" = some (some (.ref f_names_end)))
  (Bg:Fun K "names_end" "names_end" Ed f_names_end CA)
  (CV:W.nsIn K mainGlobals "name_of" = some (some (.ref f_name_of)))
  (BZ:Fun K "name_of" "name_of" F6 f_name_of C8)
  (CW:W.nsIn K mainGlobals "feeders" = some (some (.ref f_feeders)))
  (Cc:Fun K "feeders" "feeders" F7 f_feeders C9)
  (Bv:W.nsIn K mainGlobals "place_of" = some (some (.ref f_place_of)))
  (By:Fun K "place_of" "place_of" D6 f_place_of CO)
  (EN:W.nsIn K mainGlobals "ahead" = some (some (.ref f_ahead)))
  (Dg:Fun K "ahead" "ahead" JC f_ahead E2)
  (EM:W.nsIn K mainGlobals "taken" = some (some (.ref f_taken)))
  (ES:Fun K "taken" "taken" JB f_taken E1)
  (DO:W.nsIn K mainGlobals "turned" = some (some (.ref f_turned)))
  (DR:Fun K "turned" "turned" G6 f_turned Dz)
  (DP:W.nsIn K mainGlobals "passed" = some (some (.ref f_passed)))
  (DS:Fun K "passed" "passed" Ec f_passed D1)
  (Bd:W.nsIn K mainGlobals "taken_all" = some (some (.ref f_taken_all)))
  (Bf:Fun K "taken_all" "taken_all" DU f_taken_all B9)
  (CY:W.nsIn K mainGlobals "by_keys" = some (some (.ref f_by_keys)))
  (Cd:Fun K "by_keys" "by_keys" F8 f_by_keys DA)
  (CZ:W.nsIn K mainGlobals "between" = some (some (.ref f_between)))
  (Ce:Fun K "between" "between" F9 f_between DB)
  (Bw:W.nsIn K mainGlobals "met_once" = some (some (.ref f_met_once)))
  (Bz:Fun K "met_once" "met_once" FG f_met_once CP)
  (BR:W.nsIn K mainGlobals "joined_all" = some (some (.ref f_joined_all)))
  (BV:Fun K "joined_all" "joined_all" C1 f_joined_all Bl)
  (BQ:W.nsIn K mainGlobals "streams_of" = some (some (.ref f_streams_of)))
  (BU:Fun K "streams_of" "streams_of" C0 f_streams_of Bk)
  (Bx:W.nsIn K mainGlobals "items_of" = some (some (.ref f_items_of)))
  (Bh:Fun K "items_of" "items_of" D7 f_items_of CQ)
  (Hg:W.nsIn K mainGlobals "_law_at" = some (some (.ref f_uat)))
  (Cw:Fun K "_law_at" "_law_at" Nn f_uat Ie)
  (CU:W.nsIn K mainGlobals "_law_called" = some (some (.ref f_ucalled)))
  (Aw:Fun K "_law_called" "_law_called" Ep f_ucalled C7)
  (CS:W.nsIn K mainGlobals "_law_number" = some (some (.ref f_unumber)))
  (A1:Fun K "_law_number" "_law_number" F4 f_unumber C5)
  (EJ:W.nsIn K mainGlobals "_law_step" = some (some (.ref f_ustep)))
  (De:Fun K "_law_step" "_law_step" Iy f_ustep Ex)
  (DN:W.nsIn K mainGlobals "_law_bound" = some (some (.ref f_ubound)))
  (Cr:Fun K "_law_bound" "_law_bound" G5 f_ubound Dy)
  (EL:W.nsIn K mainGlobals "_law_kind" = some (some (.ref f_ukind)))
  (Cj:Fun K "_law_kind" "_law_kind" JA f_ukind Ez)
  (BP:W.nsIn K mainGlobals "_law_step_name" = some (some (.ref f_ustep_name)))
  (BS:Fun K "_law_step_name" "_law_step_name" D5 f_ustep_name Bj)
  (A5:W.nsIn K mainGlobals "_law_joined_plan" = some (some (.ref f_ujoined_plan)))
  (A6:Fun K "_law_joined_plan" "_law_joined_plan" DF f_ujoined_plan BM)
  (BJ:W.nsIn K mainGlobals "_law_small_plan" = some (some (.ref f_usmall_plan)))
  (BK:Fun K "_law_small_plan" "_law_small_plan" Cf f_usmall_plan BX)
  (CT:W.nsIn K mainGlobals "_law_events" = some (some (.ref f_uevents)))
  (Cb:Fun K "_law_events" "_law_events" F5 f_uevents C6)
  (DM:W.nsIn K mainGlobals "_law_items" = some (some (.ref f_uitems)))
  (Br:Fun K "_law_items" "_law_items" DG f_uitems Dx)
  (DL:W.nsIn K mainGlobals "_law_whole" = some (some (.ref f_uwhole)))
  (Cq:Fun K "_law_whole" "_law_whole" G4 f_uwhole Dw)
  (EK:W.nsIn K mainGlobals "_law_same" = some (some (.ref f_usame)))
  (Df:Fun K "_law_same" "_law_same" Iz f_usame Ey)
  (Hh:W.nsIn K mainGlobals "law" = some (some (.ref f_law)))
  (Hj:Fun K "law" "law" Np f_law HW)
  (Ek:W.nsIn K mainGlobals "PAIRED" = some (some (.ref Cm)))
  (l_PAIRED:K.lookup Cm=some ⟨.type "tuple", none,.seq #[.str "both" t0_PAIRED,.str "join" t1_PAIRED] n_PAIRED,sl_PAIRED⟩)
  (Gi:W.nsIn K mainGlobals "bool" = some none)
  (B0:W.nsIn K mainGlobals "enumerate" = some none)
  (IA:W.nsIn K mainGlobals "int" = some none)
  (A2:W.nsIn K mainGlobals "isinstance" = some none)
  (ET:W.nsIn K mainGlobals "len" = some none)
  (DD:W.nsIn K mainGlobals "list" = some none)
  (GP:W.nsIn K mainGlobals "max" = some none)
  (E6:W.nsIn K mainGlobals "min" = some none)
  (Cz:W.nsIn K mainGlobals "range" = some none)
  (Jl:W.nsIn K mainGlobals "set" = some none)
  (Ck:W.nsIn K mainGlobals "sorted" = some none)
  (Jk:W.nsIn K mainGlobals "str" = some none)
  (Eo:W.nsIn K mainGlobals "tuple" = some none)
  : Tx K mg (⟨f_names_end,CA,f_name_of,C8,f_feeders,C9,f_place_of,CO,f_ahead,E2,f_taken,E1,f_turned,Dz,f_passed,D1,f_taken_all,B9,f_by_keys,DA,f_between,DB,f_met_once,CP,f_joined_all,Bl,f_streams_of,Bk,f_items_of,CQ,f_uat,Ie,f_ucalled,C7,f_unumber,C5,f_ustep,Ex,f_ubound,Dy,f_ukind,Ez,f_ustep_name,Bj,f_ujoined_plan,BM,f_usmall_plan,BX,f_uevents,C6,f_uitems,Dx,f_uwhole,Dw,f_usame,Ey,f_law,HW,Cm⟩:Ad) :=
 ⟨Bg,
  Bg.binds fun _ _ _ _ _ _ us hl=>by obtain ⟨a0,rfl⟩:=us1 hl;rfl,
  W.mg_of X G Be,
  BZ,
  BZ.binds fun _ _ _ _ _ _ us hl=>by obtain ⟨a0,rfl⟩:=us1 hl;rfl,
  W.mg_of X G CV,
  Cc,
  Cc.binds fun _ _ _ _ _ _ us hl=>by obtain ⟨a0,rfl⟩:=us1 hl;rfl,
  W.mg_of X G CW,
  By,
  By.binds fun _ _ _ _ _ _ us hl=>by obtain ⟨a0,a1,rfl⟩:=us2 hl;rfl,
  W.mg_of X G Bv,
  Dg,
  Dg.binds fun _ _ _ _ _ _ us hl=>by obtain ⟨a0,a1,rfl⟩:=us2 hl;rfl,
  W.mg_of X G EN,
  ES,
  ES.binds fun _ _ _ _ _ _ us hl=>by obtain ⟨a0,a1,rfl⟩:=us2 hl;rfl,
  W.mg_of X G EM,
  DR,
  DR.binds fun _ _ _ _ _ _ us hl=>by obtain ⟨a0,a1,rfl⟩:=us2 hl;rfl,
  W.mg_of X G DO,
  DS,
  DS.binds fun _ _ _ _ _ _ us hl=>by obtain ⟨a0,a1,rfl⟩:=us2 hl;rfl,
  W.mg_of X G DP,
  Bf,
  Bf.binds fun _ _ _ _ _ _ us hl=>by obtain ⟨a0,a1,rfl⟩:=us2 hl;rfl,
  W.mg_of X G Bd,
  Cd,
  Cd.binds fun _ _ _ _ _ _ us hl=>by obtain ⟨a0,rfl⟩:=us1 hl;rfl,
  W.mg_of X G CY,
  Ce,
  Ce.binds fun _ _ _ _ _ _ us hl=>by obtain ⟨a0,a1,a2,rfl⟩:=us3 hl;rfl,
  W.mg_of X G CZ,
  Bz,
  Bz.binds fun _ _ _ _ _ _ us hl=>by obtain ⟨a0,a1,rfl⟩:=us2 hl;rfl,
  W.mg_of X G Bw,
  BV,
  BV.binds fun _ _ _ _ _ _ us hl=>by obtain ⟨a0,a1,rfl⟩:=us2 hl;rfl,
  W.mg_of X G BR,
  BU,
  BU.binds fun _ _ _ _ _ _ us hl=>by obtain ⟨a0,a1,rfl⟩:=us2 hl;rfl,
  W.mg_of X G BQ,
  Bh,
  Bh.binds fun _ _ _ _ _ _ us hl=>by obtain ⟨a0,a1,a2,rfl⟩:=us3 hl;rfl,
  W.mg_of X G Bx,
  Cw,
  Cw.binds fun _ _ _ _ _ _ us hl=>by obtain ⟨a0,a1,rfl⟩:=us2 hl;rfl,
  W.mg_of X G Hg,
  Aw,
  Aw.binds fun _ _ _ _ _ _ us hl=>by obtain ⟨a0,a1,a2,rfl⟩:=us3 hl;rfl,
  W.mg_of X G CU,
  A1,
  A1.binds fun _ _ _ _ _ _ us hl=>by obtain ⟨a0,a1,rfl⟩:=us2 hl;rfl,
  W.mg_of X G CS,
  De,
  De.binds fun _ _ _ _ _ _ us hl=>by obtain ⟨a0,a1,a2,a3,rfl⟩:=us4 hl;rfl,
  W.mg_of X G EJ,
  Cr,
  Cr.binds fun _ _ _ _ _ _ us hl=>by obtain ⟨a0,a1,a2,rfl⟩:=us3 hl;rfl,
  W.mg_of X G DN,
  Cj,
  Cj.binds fun _ _ _ _ _ _ us hl=>by obtain ⟨a0,a1,rfl⟩:=us2 hl;rfl,
  W.mg_of X G EL,
  BS,
  BS.binds fun _ _ _ _ _ _ us hl=>by obtain ⟨a0,a1,a2,rfl⟩:=us3 hl;rfl,
  W.mg_of X G BP,
  A6,
  A6.binds fun _ _ _ _ _ _ us hl=>by obtain ⟨a0,a1,a2,rfl⟩:=us3 hl;rfl,
  W.mg_of X G A5,
  BK,
  BK.binds fun _ _ _ _ _ _ us hl=>by obtain ⟨a0,a1,a2,a3,rfl⟩:=us4 hl;rfl,
  W.mg_of X G BJ,
  Cb,
  Cb.binds fun _ _ _ _ _ _ us hl=>by obtain ⟨a0,a1,rfl⟩:=us2 hl;rfl,
  W.mg_of X G CT,
  Br,
  Br.binds fun _ _ _ _ _ _ us hl=>by obtain ⟨a0,a1,a2,rfl⟩:=us3 hl;rfl,
  W.mg_of X G DM,
  Cq,
  Cq.binds fun _ _ _ _ _ _ us hl=>by obtain ⟨a0,rfl⟩:=us1 hl;rfl,
  W.mg_of X G DL,
  Df,
  Df.binds fun _ _ _ _ _ _ us hl=>by obtain ⟨a0,a1,rfl⟩:=us2 hl;rfl,
  W.mg_of X G EK,
  Hj,
  Hj.binds fun _ _ _ _ _ _ us hl=>by obtain ⟨a0,rfl⟩:=us1 hl;rfl,
  W.mg_of X G Hh,
  W.mg_of X G Ek,
  fun H=>.inr ⟨_,_,_,l_PAIRED,rfl,rfl,by first|decide|exact (by decide:2≤sizeLine),by repeat (first|exact .nil|refine .cons ?_ ?_|exact ⟨_,rfl⟩|rfl)⟩,
  ⟨_,l_PAIRED,rfl,rfl⟩,
  W.mg_none_of X G Gi,
  W.mg_none_of X G B0,
  W.mg_none_of X G IA,
  W.mg_none_of X G A2,
  W.mg_none_of X G ET,
  W.mg_none_of X G DD,
  W.mg_none_of X G GP,
  W.mg_none_of X G E6,
  W.mg_none_of X G Cz,
  W.mg_none_of X G Jl,
  W.mg_none_of X G Ck,
  W.mg_none_of X G Jk,
  W.mg_none_of X G Eo⟩
variable {P:Program}{w:World}{K:W.Frag}{mg:Str→Option Value}{base:Heap}{ad:Ad}
def Iv (K:W.Frag):Sp:=fun vs H Q _=>∃(a:Addr) (ns:List Int),vs=[.ref a]/\SqL K H a (ns.map V.int)/\ns.length≤63/\∀H',Q (.bl true) H'
theorem Qs (K:W.Frag) (H:Hp) (a:Addr) (ns:List Int) (hl:ns.length≤63) (_:Oy H) (hS:SqL K H a (ns.map V.int)):Iv K [.ref a] H (fun v _=>v=.bl true) fun _ _ _=>False:=⟨a,ns,rfl,hS,hl,fun _=>rfl⟩
abbrev depth:Nat:=60
abbrev LET:Str := "abcdefghijklmnopqrstuvwxyz"
def inL:V→Bool
 | .str y=>!(Builtin.Str.occurrences LET y 0 LET.length 1).isEmpty|_=>false
def IU:V→Bool
 | .str z=>(decide ((1:Int)≤(z.length:Int))&&decide ((z.length:Int)≤12))&&(Gu z).all inL|_=>false
theorem join_le {zs:List Str}(h:∀z∈zs,z.length=1):(Txt.join "" zs).length≤zs.length/\(zs.map (·.length)).sum=zs.length:=by
 have e:Txt.join "" zs=Str.join "" zs:=eq_of_beq (PyProof.Rows.join_plain_closes "" zs)
 have l:=StrLaws.join_length_le ("" : Str) zs
 have z:(("" : Str)).length=0:=rfl
 have q:(zs.map (·.length)).sum=zs.length:=by
  clear l e
  induction zs with
  | nil=>rfl
  | cons a r ih =>
   rw [List.map_cons,List.sum_cons,h a List.mem_cons_self,ih fun z hz=>h z (List.mem_cons_of_mem _ hz),List.length_cons]
   omega
 rw [z,Nat.mul_zero,q] at l
 rw [e]
 exact ⟨l,q⟩
def ltr (m:Int):Str:=⟨#[LET.cps.toList.getD (m % 26).toNat 0]⟩
theorem Qq (m:Int):atI LET.cps.toList (m % 26)=some (LET.cps.toList.getD (m % 26).toNat 0):=by
 obtain ⟨v,hv,_⟩:=BL LET.cps.toList 26 (by decide +kernel) (by decide) m
 have h1:0≤m % 26:=Int.emod_nonneg _ (by decide)
 have e:((m % 26).toNat:Int)=m % 26:=Int.toNat_of_nonneg h1
 have h2:m % 26<26:=Int.emod_lt_of_pos _ (by decide)
 have hl:LET.cps.toList.length=26:=by decide +kernel
 have hlt:(m % 26).toNat<LET.cps.toList.length:=by omega
 rw [←e]
 refine AI ?_
 rw [List.getElem?_eq_getElem (by simpa using hlt),List.getD_eq_getElem?_getD,e,List.getElem?_eq_getElem hlt]
 rfl
def R8 (K:W.Frag):Sp:=fun vs H Q _=>∃(a:Addr) (ns:List Int) (i:Int),vs=[.ref a,.int i]/\SqL K H a (ns.map V.int)/\ns.length≤63/\0≤i/\∀j:Int,Q (.int j) H
theorem OH (T:Tx K mg ad):Ba P w K mg base CX0 1 ad.Hg ad.Ie ["_law_script", "_law_k"] (R8 K):=by
 refine T.Cw.ok Nl (fun vs H Q E h=>?_) (fun cdv A outer s H vs Q E hr h=>?_)
 ·obtain ⟨a,ns,i,rfl,_⟩:=h
  rfl
 ·obtain ⟨a,ns,i,rfl,hS,hl,h0,k⟩:=h
  have nd:=Nl.nd
  refine ⟨_,(AF (Aq (AU KA (pv 1) (Al (BI (K:=K)) (by rfl) T.ET PySem.boot_len (AA (pv 0) AE)) (AZ _))
    (AH (AW (AM (Ac (K:=K)) (pv 0) (pv 1) (fun _ _=>rfl))))
    Aa)
    (AH (AW AB))),?_⟩
  refine ⟨_,rfl,_,rfl,a,_,rfl,.inl hS,_,_,rfl,rfl,_,rfl,Fo (fun e=>?_) fun e=>?_⟩
  ·have e:=of_decide_eq_true e
   have hlt:i.toNat<ns.length:=by
    have e:i<((ns.map V.int).length:Int):=e
    rw [List.length_map] at e
    omega
   refine ⟨_,rfl,_,rfl,a,_,_,.int ns[i.toNat],rfl,rfl,hS,?_,k _⟩
   have q:=AI (xs:=ns.map V.int) (j:=i.toNat) (v:=.int ns[i.toNat]) (by rw [List.getElem?_map,List.getElem?_eq_getElem hlt];rfl)
   rw [Int.toNat_of_nonneg h0] at q
   exact q
  ·exact k 0
def Ju:Sp:=fun vs H Q _=>∃c m:Int,vs=[.int c,.int m]/\1≤m/\∀r:Int,0≤r→r≤m→Q (.int r) H
theorem Mj (T:Tx K mg ad):Ba P w K mg base CX0 1 ad.CS ad.C5 ["_law_cell", "_law_most"] Ju:=by
 refine T.A1.ok Gv (fun vs H Q E h=>?_) (fun cdv A outer s H vs Q E hr h=>?_)
 ·obtain ⟨c,m,rfl,_⟩:=h
  rfl
 ·obtain ⟨c,m,rfl,hm,k⟩:=h
  have nd:=Gv.nd
  refine ⟨_,(AF (Aq (AU A0 (AG AX (pv 0) AB) AB (AZ _))
    (AH (AW (AG AX (AG AY (pv 0) AB) (AG Ah (pv 1) AB))))
    Aa)
    (AF (Aq (AU A0 (AG AX (pv 0) AB) AB (AZ _))
    (AH (AW (AG CI (pv 1) (AG AX (AG AY (pv 0) AB) AB))))
    Aa)
    (AH (AW (AG AX (AG AY (pv 0) AB) (Al (DC rfl) (by rfl) T.E6 PyProof.Rows.boot_min (AA AB (AA (AG Ah (pv 1) AB) AE)))))))),?_⟩
  have d4:(0:Int)<4:=by decide
  have b2:0≤c / 4 % 2/\c / 4 % 2<2:=⟨Int.emod_nonneg _ (by decide),Int.emod_lt_of_pos _ (by decide)⟩
  refine ⟨_,rfl,_,_,rfl,rfl,d4,rfl,_,rfl,Fo (fun _=>?_) fun _=>?_⟩
  ·have b:0≤c / 4 % (m+1)/\c / 4 % (m+1)<m+1:=⟨Int.emod_nonneg _ (by omega),Int.emod_lt_of_pos _ (by omega)⟩
   exact ⟨_,rfl,_,_,rfl,rfl,⟨by decide,by decide⟩,_,rfl,_,_,rfl,rfl,_,_,rfl,rfl,(by show (0:Int)<m+1;omega),k _ b.1 (by omega)⟩
  refine ⟨_,rfl,_,_,rfl,rfl,d4,rfl,_,rfl,Fo (fun _=>?_) fun _=>?_⟩
  ·exact ⟨_,rfl,_,rfl,_,_,rfl,rfl,⟨by decide,by decide⟩,_,_,rfl,rfl,(by decide:(0:Int)<2),_,_,rfl,rfl,k _ (by omega) (by omega)⟩
  ·have p:(0:Int)<(if m+1<13 then m+1 else 13):=by split <;> omega
   have b:0≤c / 4 % (if m+1<13 then m+1 else 13)/\c / 4 % (if m+1<13 then m+1 else 13)<(if m+1<13 then m+1 else 13):=⟨Int.emod_nonneg _ (by omega),Int.emod_lt_of_pos _ p⟩
   have b3:(if m+1<13 then m+1 else (13:Int))≤m+1:=by split <;> omega
   exact ⟨_,rfl,_,_,rfl,rfl,⟨by decide,by decide⟩,_,rfl,_,_,rfl,rfl,_,_,rfl,_,_,rfl,rfl,p,k _ b.1 (by omega)⟩
def AL (y:Str):Prop:=∀c∈y.cps.toList,inL (.str ⟨#[c]⟩)=true
theorem C3 (z:Str):z.length=z.cps.toList.length:=by simp [Str.length]
theorem ME (a b:Str):(a++b).cps.toList=a.cps.toList++b.cps.toList:=by
 show (a.cps++b.cps).toList=_
 simp
theorem LK {y:Str}(h:AL y) (h1:1≤y.length) (h2:y.length≤12):IU (.str y)=true:=by
 show ((decide ((1:Int)≤(y.length:Int))&&decide ((y.length:Int)≤12))&&(Gu y).all inL)=true
 rw [decide_eq_true (by omega),decide_eq_true (by omega),Bool.true_and,Bool.true_and]
 unfold Gu
 rw [List.all_map,List.all_eq_true]
 exact h
theorem AL.app {a b:Str}(ha:AL a) (hb:AL b):AL (a++b):=fun c hc=>by
 rw [ME] at hc
 rcases List.mem_append.mp hc with h|h
 ·exact ha c h
 ·exact hb c h
theorem Ig {x:Str}{j:Int}(h0:0≤j) (h1:j≤(x.length:Int)) (hx:AL x):AL (Txt.slice x none (some j))/\AL (Txt.slice x (some j) none)/\(Txt.slice x none (some j)).length+(Txt.slice x (some j) none).length=x.length:=by
 have e1:Txt.slice x none (some j)=StrLaws.sliceText x none (some j):=rfl
 have e2:Txt.slice x (some j) none=StrLaws.sliceText x (some j) none:=rfl
 have hl:=C3 x
 rw [e1,e2,StrLaws.sliceText_to ⟨h0,by omega⟩,StrLaws.sliceText_from ⟨h0,by omega⟩]
 refine ⟨fun c hc=>hx c (List.mem_of_mem_drop (List.mem_of_mem_take hc)),fun c hc=>hx c (List.mem_of_mem_drop (List.mem_of_mem_take hc)),?_⟩
 rw [C3,C3,C3]
 show (List.take _ (List.drop 0 _)).length+(List.take _ (List.drop _ _)).length=_
 rw [List.length_take,List.length_take,List.length_drop,List.length_drop]
 omega
theorem OR (m:Int):AL (ltr m):=by
 have hl:LET.cps.toList.length=26:=by decide +kernel
 have all:∀d:Nat,d<26→inL (.str ⟨#[LET.cps.toList.getD d 0]⟩)=true:=by decide +kernel
 intro c hc
 have h1:0≤m % 26:=Int.emod_nonneg _ (by decide)
 have h2:m % 26<26:=Int.emod_lt_of_pos _ (by decide)
 have e:c=LET.cps.toList.getD (m % 26).toNat 0:=by simpa [ltr] using hc
 rw [e]
 exact all _ (by omega)
theorem JT:∀{zs:List Str},(∀z∈zs,AL z/\z.length=1)→AL (Str.join ⟨#[]⟩ zs)/\(Str.join ⟨#[]⟩ zs).length=zs.length
 | [],_=>⟨fun c hc=>absurd (show c∈([]:List Nat) from hc) (by simp),rfl⟩
 | a::r,h=>by
  obtain ⟨i1,i2⟩:=JT fun z hz=>h z (List.mem_cons_of_mem _ hz)
  obtain ⟨j1,j2⟩:=h a List.mem_cons_self
  rw [PyProof.Rows.join_nil_cons]
  exact ⟨j1.app i1,by rw [PySem.Str.length_append,i2,j2,List.length_cons];omega⟩
def CC (t:Int) (n:Nat):Str:=Txt.join "" ((Cu 0 n).map (fun x=>match x with|.int j=>ltr (t+5 * j * (1+t % 3))|_=>("" : Str)))
def DT (c k:Int):Int:=c+31 * k * (c % 2)
def Bp (c k:Int) (z:Str):Int:=DT c k / 26 % (13-(z.length:Int))
def atF (c n:Int):Int:=if c % 2=0 then c / 4 % (n+1) else n
def Aj (c k:Int) (z:Str):Str:=Txt.slice (CC (DT c k) (Bp c k z).toNat) none (some (atF c (Bp c k z)))++z++Txt.slice (CC (DT c k) (Bp c k z).toNat) (some (atF c (Bp c k z))) none
def Ni:Sp:=fun vs H Q _=>∃(c k:Int) (z:Str),vs=[.int c,.int k,.str z]/\AL z/\1≤z.length/\z.length≤2/\(IU (.str (Aj c k z))=true→∀H',AJ H H'→Q (.str (Aj c k z)) H')
def RH:TS:=fun D σ H=>∃(o1 o2 o3 o4 o6:Option V) (c n:Int),σ=[some (.int c),o1,o2,o3,o4,some (.int n),o6,some (.int n)]/\0≤n/\D.nx [some (.int c),o1,o2,o3,o4,some (.int n),o6,some (.int (atF c n))] H
theorem Q6 {c n:Int}(hn:0≤n):0≤atF c n/\atF c n≤n:=by
 unfold atF
 have b:0≤c / 4 % (n+1)/\c / 4 % (n+1)<n+1:=⟨Int.emod_nonneg _ (by omega),Int.emod_lt_of_pos _ (by omega)⟩
 split <;> omega
theorem Q5:∀D σ H,RH D σ H→O8 (Js (tOp rEq (tOp (rI (fun _ j=>0<j) fun i j=>.int (i % j)) (Gq 0) (tC (.int 2))) (tC (.int 0))))
  (K4 (tOp (rI (fun _ j=>0<j) fun i j=>.int (i % j)) (tOp (rI Ld fun i j=>.int (i / j)) (Gq 0) (tC (.int 4))) (tOp (rI0 fun i j=>.int (i+j)) (Gq 5) (tC (.int 1)))) (DI 7)) Lf D σ H:=by
 rintro D σ H ⟨o1,o2,o3,o4,o6,c,n,rfl,hn,q⟩
 unfold atF at q
 refine ⟨_,rfl,_,_,rfl,rfl,(by decide:(0:Int)<2),rfl,_,rfl,Fo (fun e=>?_) fun e=>?_⟩
 ·have e:c % 2=0:=V.int.inj (of_decide_eq_true e)
  rw [if_pos e] at q
  exact ⟨_,rfl,_,_,rfl,rfl,⟨by decide,by decide⟩,_,rfl,_,_,rfl,rfl,_,_,rfl,rfl,(by show (0:Int)<n+1;omega),q⟩
 ·have e:¬ c % 2=0:=fun z=>of_decide_eq_false e (congrArg V.int z)
  rw [if_neg e] at q
  exact q
theorem Ds (T:Tx K mg ad):Ba P w K mg base CX0 1 ad.CU ad.C7 ["_law_cell", "_law_k", "_law_signs"] Ni:=by
 refine T.Aw.ok Gx (fun vs H Q E h=>?_) (fun cdv A outer s H vs Q E hr h=>?_)
 ·obtain ⟨c,i,z,rfl,_⟩:=h
  rfl
 ·obtain ⟨c,i,z,rfl,hz,hz0,hz1,k⟩:=h
  have nd:=Gx.nd
  refine ⟨_,(AF (AQ (i:=3) nd rfl (Or.inr rfl) AO)
    (AF (AQ (i:=4) nd rfl (Or.inr rfl) (AG Ah (pv 0) (AG BE (AG BE AB (pv 1)) (AG AX (pv 0) AB))))
    (AF (AQ (i:=5) nd rfl (Or.inl rfl) (AG AX (AG AY (pv 4) AB) (AG CI AB (Al Ja (by rfl) T.ET PySem.boot_len (AA (pv 2) AE)))))
    (AF (AQ (i:=6) nd rfl (Or.inl rfl) (CM (K:=K) F.plainAttrs_str F.slot_str_join F.type_str_join (Pj (K:=K)) AO (AA (Bq (osc:=AR Ep) [("_law_letters", 3),("_law_turned", 4)] rfl (Dr (by rfl) T.Cz (AA (pv 5) AE)) rfl rfl (by decide +kernel) (by decide +kernel) (by decide +kernel) ⟨rfl,rfl,rfl,rfl,trivial⟩ rfl (by decide +kernel) (fun _ _ _ _=>C2) (fun _ _ _ _=>(AM FQ (pv 1) (AG AX (AG Ah (pv 2) (AG BE (AG BE AB (pv 0)) (AG Ah AB (AG AX (pv 2) AB)))) AB) (fun _ _=>rfl)))) AE)))
    (AF (AQ (i:=7) nd rfl (Or.inl rfl) (pv 5))
    (AF (JF (t':=RH) (Aq (AU A0 (AG AX (pv 0) AB) AB (AZ _))
    (AH (AQ (i:=7) nd rfl (Or.inl rfl) (AG AX (AG AY (pv 0) AB) (AG Ah (pv 5) AB))))
    Aa) Q5)
    (AH (AW (AG DH (AG DH (BB Nk (pv 6) CG (A9 (pv 7))) (pv 2)) (BB Nk (pv 6) (A9 (pv 7)) CG)))))))))),?_⟩
  have b2:0≤c % 2/\c % 2<2:=⟨Int.emod_nonneg _ (by decide),Int.emod_lt_of_pos _ (by decide)⟩
  refine ⟨_,rfl,_,rfl,_,_,rfl,rfl,.inl ⟨by decide,by decide⟩,_,rfl,_,_,rfl,rfl,(by decide:(0:Int)<2),_,_,rfl,rfl,.inr ⟨by omega,by omega⟩,_,_,rfl,rfl,?_⟩
  have sz:sizeLine=16777216:=sizeLine_eq
  refine ⟨_,rfl,_,_,rfl,rfl,⟨by decide,by decide⟩,_,rfl,z,rfl,by omega,_,_,rfl,rfl,_,_,rfl,rfl,(by show (0:Int)<13-(z.length:Int);omega),?_⟩
  have bn:0≤(c+31 * i * (c % 2)) / 26 % (13-(z.length:Int))/\(c+31 * i * (c % 2)) / 26 % (13-(z.length:Int))<13-(z.length:Int):=⟨Int.emod_nonneg _ (by omega),Int.emod_lt_of_pos _ (by omega)⟩
  refine ⟨rfl,_,rfl,_,rfl,by omega,by omega,?_⟩
  refine Ga (fun _=>true) (fun x=>.str (match x with|.int j=>ltr ((c+31 * i * (c % 2))+5 * j * (1+(c+31 * i * (c % 2)) % 3))|_ => "")) (by omega) (fun x R _ q=>q) (fun x R hx _ q=>?_) fun D hD=>?_
  ·obtain ⟨j,_,rfl⟩:=List.mem_map.mp hx
   have h3:0≤(c+31 * i * (c % 2)) % 3:=Int.emod_nonneg _ (by decide)
   have h4:(c+31 * i * (c % 2)) % 3<3:=Int.emod_lt_of_pos _ (by decide)
   refine ⟨_,rfl,_,rfl,_,rfl,_,_,rfl,rfl,.inl ⟨by decide,by decide⟩,_,rfl,_,_,rfl,rfl,(by decide:(0:Int)<3),_,_,rfl,rfl,_,_,rfl,rfl,.inr ⟨by omega,by omega⟩,_,_,rfl,rfl,_,_,rfl,rfl,(by decide:(0:Int)<26),?_⟩
   exact ⟨_,_,_,rfl,rfl,by decide +kernel,Qq _,q⟩
  ·have hall:∀y∈(Cu 0 ((c+31 * i * (c % 2)) / 26 % (13-(z.length:Int))).toNat).map (fun x=>match x with|.int j=>ltr ((c+31 * i * (c % 2))+5 * j * (1+(c+31 * i * (c % 2)) % 3))|_=>("" : Str)),AL y/\y.length=1:=fun y hy=>by
    obtain ⟨x,hx,rfl⟩:=List.mem_map.mp hy
    obtain ⟨j,_,rfl⟩:=List.mem_map.mp hx
    exact ⟨OR _,rfl⟩
   obtain ⟨_,j2⟩:=join_le fun y hy=>(hall y hy).2
   obtain ⟨g1,g2⟩:=JT hall
   have ej:Txt.join "" ((Cu 0 ((c+31 * i * (c % 2)) / 26 % (13-(z.length:Int))).toNat).map (fun x=>match x with|.int j=>ltr ((c+31 * i * (c % 2))+5 * j * (1+(c+31 * i * (c % 2)) % 3))|_=>("" : Str)))=Str.join ⟨#[]⟩ _:=eq_of_beq (PyProof.Rows.join_plain_closes "" _)
   rw [←ej] at g1 g2
   have hlen:((Cu 0 ((c+31 * i * (c % 2)) / 26 % (13-(z.length:Int))).toNat).map (fun x=>match x with|.int j=>ltr ((c+31 * i * (c % 2))+5 * j * (1+(c+31 * i * (c % 2)) % 3))|_=>("" : Str))).length=((c+31 * i * (c % 2)) / 26 % (13-(z.length:Int))).toNat:=by
    rw [List.length_map,Cu,List.length_map,List.length_range]
   rw [hlen] at g2 j2
   refine ⟨"", D,(Cu 0 ((c+31 * i * (c % 2)) / 26 % (13-(z.length:Int))).toNat).map (fun x=>match x with|.int j=>ltr ((c+31 * i * (c % 2))+5 * j * (1+(c+31 * i * (c % 2)) % 3))|_=>("" : Str)),rfl,rfl,SqL.of ?_,?_,?_⟩
   ·rw [AD,List.filter_eq_self.mpr (fun _ _=>rfl),List.map_map]
    rfl
   ·rw [j2,hlen]
    have:(("" : Str)).length=0:=rfl
    rw [this]
    omega
   have ey:Txt.join "" ((Cu 0 ((c+31 * i * (c % 2)) / 26 % (13-(z.length:Int))).toNat).map (fun x=>match x with|.int j=>ltr ((c+31 * i * (c % 2))+5 * j * (1+(c+31 * i * (c % 2)) % 3))|_=>("" : Str)))=CC (DT c i) (Bp c i z).toNat:=rfl
   rw [ey] at g1 g2 ⊢
   have sm:∀o,AJ H (upd H D o):=fun o=>(AJ.refl H).upd hD
   have en:(c+31 * i * (c % 2)) / 26 % (13-(z.length:Int))=Bp c i z:=rfl
   rw [en] at bn g2
   obtain ⟨m0,m1⟩:=Q6 (c:=c) bn.1
   refine ⟨_,rfl,_,_,_,_,_,_,_,rfl,bn.1,?_⟩
   obtain ⟨p1,p2,p3⟩:=Ig (x:=CC (DT c i) (Bp c i z).toNat) (j:=atF c (Bp c i z)) m0 (by omega) g1
   have nv:IU (.str (Aj c i z))=true:=LK ((p1.app hz).app p2) (by unfold Aj;rw [PySem.Str.length_append,PySem.Str.length_append];omega) (by unfold Aj;rw [PySem.Str.length_append,PySem.Str.length_append];omega)
   have q1:(Txt.slice (CC (DT c i) (Bp c i z).toNat) none (some (atF c (Bp c i z)))).length+z.length≤sizeLine:=by omega
   have q2:(Txt.slice (CC (DT c i) (Bp c i z).toNat) none (some (atF c (Bp c i z)))++z).length+(Txt.slice (CC (DT c i) (Bp c i z).toNat) (some (atF c (Bp c i z))) none).length≤sizeLine:=by rw [PySem.Str.length_append];omega
   have q3:(CC (DT c i) (Bp c i z).toNat).length≤sizeLine:=by omega
   exact ⟨_,rfl,_,rfl,_,rfl,CC (DT c i) (Bp c i z).toNat,rfl,q3,_,rfl,_,_,rfl,rfl,q1,_,rfl,_,rfl,_,rfl,CC (DT c i) (Bp c i z).toNat,rfl,q3,_,_,rfl,rfl,q2,k nv _ (sm _)⟩
theorem Fx (a b:Str):(a++b).cps.toList=a.cps.toList++b.cps.toList:=ME a b
theorem Ir {a b:Str}(h:a.cps.toList=b.cps.toList):a=b:=Li h
theorem LU {c k k':Int}{z z':Str}(hz:z.length=z'.length) (h2:z.length≤2) (h:Aj c k z=Aj c k' z'):z=z':=by
 unfold Aj at h
 by_cases he:c % 2=0
 ·have t1:DT c k=DT c k':=by unfold DT;rw [he];omega
  have s1:Bp c k z=Bp c k' z':=by unfold Bp;rw [t1,hz]
  rw [t1,s1] at h
  have h:=congrArg (fun y:Str=>y.cps.toList) h
  simp only [Fx] at h
  have h:=List.append_cancel_right h
  exact Ir (List.append_cancel_left h)
 ·have n0:∀(k:Int) (z:Str),z.length≤2→0≤Bp c k z:=fun k z hz=>Int.emod_nonneg _ (by omega)
  have a1:∀n,atF c n=n:=fun n=>by unfold atF;rw [if_neg he]
  have tl:∀(t:Int) (n:Int),0≤n→(Txt.slice (CC t n.toNat) (some n) none).cps.toList=[]:=fun t n hn=>by
   have hall:∀y∈(Cu 0 n.toNat).map (fun x=>match x with|.int j=>ltr (t+5 * j * (1+t % 3))|_=>("" : Str)),AL y/\y.length=1:=fun y hy=>by
    obtain ⟨x,hx,rfl⟩:=List.mem_map.mp hy
    obtain ⟨j,_,rfl⟩:=List.mem_map.mp hx
    exact ⟨OR _,rfl⟩
   obtain ⟨g1,g2⟩:=JT hall
   have ej:CC t n.toNat=Str.join ⟨#[]⟩ _:=eq_of_beq (PyProof.Rows.join_plain_closes "" _)
   have g1:AL (CC t n.toNat):=by rw [ej];exact g1
   rw [List.length_map,Cu,List.length_map,List.length_range] at g2
   have g2:(CC t n.toNat).length=n.toNat:=by rw [ej];exact g2
   obtain ⟨_,_,p3⟩:=Ig (x:=CC t n.toNat) (j:=n) hn (by omega) g1
   have e1:Txt.slice (CC t n.toNat) none (some n)=StrLaws.sliceText (CC t n.toNat) none (some n):=rfl
   have lc:=C3 (CC t n.toNat)
   have q:(Txt.slice (CC t n.toNat) none (some n)).length=n.toNat:=by
    rw [e1,StrLaws.sliceText_to ⟨hn,by omega⟩,C3]
    show (List.take _ (List.drop 0 _)).length=_
    rw [List.length_take,List.length_drop]
    omega
   refine List.length_eq_zero_iff.mp ?_
   rw [←C3]
   omega
  have h:=congrArg (fun y:Str=>y.cps.toList) h
  simp only [Fx,a1] at h
  rw [tl _ _ (n0 k z h2),tl _ _ (n0 k' z' (by omega)),List.append_nil,List.append_nil] at h
  refine Ir (List.append_inj_right' h ?_)
  rw [←C3,←C3,hz]
abbrev chL (j:Nat):Str:=⟨#[LET.cps.toList.getD j 0]⟩
theorem JX (j:Nat) (h:j<26):atI LET.cps.toList (j:Int)=some (LET.cps.toList.getD j 0):=by
 refine AI ?_
 have hl:LET.cps.toList.length=26:=by decide +kernel
 rw [List.getElem?_eq_getElem (by omega),List.getD_eq_getElem?_getD,List.getElem?_eq_getElem (by omega)]
 rfl
theorem Ot (j:Nat) (h:j<26):AL (chL j):=by
 have all:∀d:Nat,d<26→inL (.str ⟨#[LET.cps.toList.getD d 0]⟩)=true:=by decide +kernel
 intro c hc
 have e:c=LET.cps.toList.getD j 0:=by simpa [chL] using hc
 rw [e]
 exact all _ h
theorem MG {i j:Nat}(hi:i<26) (hj:j<26) (h:chL i=chL j):i=j:=by
 have all:∀i:Nat,i<26→∀j:Nat,j<26→LET.cps.toList.getD i 0=LET.cps.toList.getD j 0→i=j:=by decide +kernel
 refine all i hi j hj ?_
 have q:=congrArg (fun y:Str=>y.cps.toList) h
 simpa [chL] using q
def EO:List Str:=["take", "only", "turn", "both", "join", "each", "gap", "count", "sum", "least", "greatest", "late", "end"]
theorem MQ:∀z∈EO,IU (.str z)=true:=by decide +kernel
theorem NT:∀i:Nat,i<13→∀j:Nat,j<13→EO.getD i "" = EO.getD j "" → i=j:=by decide +kernel
def snF (b k:Int) (z:Str):Str:=if b % 9=4 then EO.getD ((k+b / 9) % 13).toNat "" else Aj b k z
theorem LN (i j:Nat):(chL i++chL j).length=2:=by rw [PySem.Str.length_append];rfl
theorem O5 {i j i' j':Nat}(h:chL i++chL j=chL i'++chL j') (hi:i<26) (hj:j<26) (hi':i'<26) (hj':j'<26):i=i'/\j=j':=by
 have q:=congrArg (fun y:Str=>y.cps.toList) h
 simp only [Fx] at q
 obtain ⟨q1,q2⟩:=List.append_inj q rfl
 exact ⟨MG hi hi' (Ir q1),MG hj hj' (Ir q2)⟩
def PJ:Sp:=fun vs H Q _=>∃(b k:Int) (z:Str),vs=[.int b,.int k,.str z]/\AL z/\z.length=2/\0≤k/\k<13/\(IU (.str (snF b k z))=true→∀H',AJ H H'→Q (.str (snF b k z)) H')
theorem JK (T:Tx K mg ad):Ba P w K mg base CX0 2 ad.BP ad.Bj ["_law_base", "_law_k", "_law_signs"] PJ:=by
 have G_ucalled:=Ds (P:=P) (w:=w) (base:=base) T
 refine T.BS.ok E7 (fun vs H Q E h=>?_) (fun cdv A outer s H vs Q E hr h=>?_)
 ·obtain ⟨b,k,z,rfl,_⟩:=h
  rfl
 ·obtain ⟨b,k,z,rfl,hz,hz2,k0,k1,kk⟩:=h
  have nd:=E7.nd
  refine ⟨_,(AF (AQ (i:=3) nd rfl (Or.inl rfl) (As (AA AO (AA AO (AA AO (AA AO (AA AO (AA AO (AA AO (AA AO (AA AO (AA AO (AA AO (AA AO (AA AO AE)))))))))))))))
    (AF (Aq (PW.pt (GA (AU A0 (AG AX (pv 0) AB) AB (AZ _)) (Es (AU KA (pv 1) AB (AZ _)))))
    (AH (AW (AM (Ac (K:=K)) (pv 3) (AG AX (AG Ah (pv 1) (AG AY (pv 0) AB)) AB) (fun _ _=>rfl))))
    Aa)
    (AH (AW (AN G_ucalled (hr.mono (by decide)) (by rfl) T.BW T.Aw.kp T.BY .nil Ab (AA (pv 0) (AA (pv 1) (AA (pv 2) AE)))))))),?_⟩
  refine ⟨by show 13≤sizeLine;decide,fun l hl=>?_⟩
  have s1:AJ H (upd H l (.lst (EO.map V.str))):=(AJ.refl H).upd hl
  have e1:(upd H l (.lst (EO.map V.str))) l=some (.lst (EO.map V.str)):=AD
  unfold snF at kk
  refine ⟨_,rfl,_,_,rfl,rfl,(by decide:(0:Int)<9),rfl,_,rfl,Fo (fun q=>?_) fun q=>?_⟩
  ·have q:b % 9=4:=V.int.inj (of_decide_eq_true q)
   rw [if_pos q] at kk
   refine ⟨_,rfl,_,_,rfl,rfl,_,rfl,SN (show k<13 from k1) ?_⟩
   have b13:0≤(k+b / 9) % 13/\(k+b / 9) % 13<13:=⟨Int.emod_nonneg _ (by decide),Int.emod_lt_of_pos _ (by decide)⟩
   have hlt:((k+b / 9) % 13).toNat<EO.length:=by show _<13;omega
   have hg:EO.getD ((k+b / 9) % 13).toNat "" = EO[((k+b / 9) % 13).toNat]:=by
    rw [List.getD_eq_getElem?_getD,List.getElem?_eq_getElem hlt]
    rfl
   have ha:atI (EO.map V.str) ((k+b / 9) % 13)=some (.str (EO.getD ((k+b / 9) % 13).toNat "")):=by
    have q:=AI (xs:=EO.map V.str) (j:=((k+b / 9) % 13).toNat) (v:=.str (EO.getD ((k+b / 9) % 13).toNat "")) (by rw [List.getElem?_map,List.getElem?_eq_getElem hlt,hg];rfl)
    rw [Int.toNat_of_nonneg b13.1] at q
    exact q
   refine ⟨_,rfl,_,rfl,_,rfl,_,_,rfl,rfl,⟨by decide,by decide⟩,_,_,rfl,rfl,_,_,rfl,rfl,(by decide:(0:Int)<13),l,_,_,_,rfl,rfl,SqL.of e1,ha,?_⟩
   exact kk (MQ _ (by rw [hg];exact List.getElem_mem hlt)) _ s1
  ·have q:¬ b % 9=4:=fun z=>of_decide_eq_false q (congrArg V.int z)
   rw [if_neg q] at kk
   refine ⟨_,rfl,_,rfl,_,rfl,b,k,z,rfl,hz,by omega,by omega,fun nv H' s'=>kk nv H' (s1.trans s')⟩
inductive Stp where
 | take (n k:Str)
 | only (n a:Str) (lo hi:Int)
 | turn (n a:Str) (f g:Int)
 | both (n a b:Str)
 | join (n a b:Str) (wi:Int)
 | gap (n a s:Str) (m:Int)
 | each (n a s:Str) (sz st:Int)
namespace Stp
def key:Stp→List Key
 | take n k=>[.inr "take", .inr n,.inr k]
 | only n a lo hi=>[.inr "only", .inr n,.inr a,.inl lo,.inl hi]
 | turn n a f g=>[.inr "turn", .inr n,.inr a,.inl f,.inl g]
 | both n a b=>[.inr "both", .inr n,.inr a,.inr b]
 | join n a b wi=>[.inr "join", .inr n,.inr a,.inr b,.inl wi]
 | gap n a s m=>[.inr "gap", .inr n,.inr a,.inr s,.inl m]
 | each n a s sz st=>[.inr "each", .inr n,.inr a,.inr s,.inl sz,.inl st]
def word:Stp→Str
 | take .. => "take"
 | only .. => "only"
 | turn .. => "turn"
 | both .. => "both"
 | join .. => "join"
 | gap .. => "gap"
 | each .. => "each"
def nm:Stp→Str
 | take n _|only n _ _ _|turn n _ _ _|both n _ _|join n _ _ _|gap n _ _ _|each n _ _ _ _=>n
def BN:Stp→List Str
 | take ..=>[]
 | only _ a _ _|turn _ a _ _|gap _ a _ _|each _ a _ _ _=>[a]
 | both _ a b|join _ a b _=>[a,b]
def tell:Stp→Bool
 | gap ..|each ..=>true
 | _=>false
def ends:Stp→Int
 | both ..|join ..=>4
 | _=>3
def pair:Stp→Bool
 | both ..|join ..=>true
 | _=>false
end Stp
def StA (H:Hp) (p:Addr) (s:Stp):Prop:=H p=some (.tup (s.key.map kV))
theorem StA.tp {H H':Hp}{p:Addr}{s:Stp}(h:StA H p s) (t:Tp H H'):StA H' p s:=t _ _ h
def PAI:List V:=[.str "both", .str "join"]
theorem StA.word {H:Hp}{p:Addr}{s:Stp}(h:StA H p s):SqT K H p (s.key.map kV)/\atI (s.key.map kV) 0=some (.str s.word)/\atI (s.key.map kV) 1=some (.str s.nm):=by
 refine ⟨SqT.of h,?_⟩
 cases s <;> exact ⟨AI (j:=0) rfl,AI (j:=1) rfl⟩
theorem MP:∀st:Stp,inV (.str st.word) PAI=st.pair
 | .take ..=>(by decide +kernel:inV (.str "take") PAI=false)
 | .only ..=>(by decide +kernel:inV (.str "only") PAI=false)
 | .turn ..=>(by decide +kernel:inV (.str "turn") PAI=false)
 | .both ..=>(by decide +kernel:inV (.str "both") PAI=true)
 | .join ..=>(by decide +kernel:inV (.str "join") PAI=true)
 | .gap ..=>(by decide +kernel:inV (.str "gap") PAI=false)
 | .each ..=>(by decide +kernel:inV (.str "each") PAI=false)
def Stp.no:Stp→Nat
 | .take ..=>0
 | .only ..=>1
 | .turn ..=>2
 | .both ..=>3
 | .join ..=>4
 | .gap ..=>5
 | .each ..=>6
def wordAt:List Str:=["take", "only", "turn", "both", "join", "gap", "each"]
theorem Im (st:Stp):wordAt[st.no]?=some st.word:=by cases st <;> rfl
theorem O1 {st:Stp}{i:Nat}{z:Str}(hz:wordAt[i]?=some z) (e:st.word=z):st.no=i:=by
 have nd:wordAt.Nodup:=by decide +kernel
 have h:=Im st
 rw [e] at h
 obtain ⟨h1,g1⟩:=List.getElem?_eq_some_iff.mp h
 obtain ⟨h2,g2⟩:=List.getElem?_eq_some_iff.mp hz
 have pw:=List.pairwise_iff_getElem.mp nd
 rcases Nat.lt_trichotomy st.no i with q|q|q
 ·exact absurd (g1.trans g2.symm) (pw _ _ h1 h2 q)
 ·exact q
 ·exact absurd (g2.trans g1.symm) (pw _ _ h2 h1 q)
theorem O2 {st:Stp}{i:Nat}{z:Str}(hz:wordAt[i]?=some z) (e:st.no≠i):st.word≠z:=fun q=>e (O1 hz q)
theorem EW {st:Stp}{i:Nat}{z:Str}{A B:Prop}(hz:wordAt[i]?=some z) (ha:st.no=i→A) (hb:st.no≠i→B):if decide (V.str st.word=V.str z)=true then A else B:=by
 by_cases h:st.no=i
 ·have e:st.word=z:=by have:=Im st;rw [h,hz] at this;exact (Option.some.inj this).symm
  rw [if_pos (by rw [e];exact decide_eq_true rfl)]
  exact ha h
 ·rw [if_neg (by rw [decide_eq_true_eq];exact fun q=>O2 hz h (V.str.inj q))]
  exact hb h
def RL:Sp:=fun vs H Q _=>∃(p:Addr) (s:Stp),vs=[.ref p]/\StA H p s/\Q (.int s.ends) H
theorem JL (T:Tx K mg ad):Ba P w K mg base CX0 1 ad.Be ad.CA ["step"] RL:=by
 refine T.Bg.ok Fc (fun vs H Q E h=>?_) (fun cdv A outer s H vs Q E hr h=>?_)
 ·obtain ⟨p,s,rfl,_⟩:=h
  rfl
 ·obtain ⟨p,st,rfl,e,k⟩:=h
  have nd:=Fc.nd
  refine ⟨_,(AH (AW (Fg (AU (HC (K:=K)) (AM (AK (K:=K)) (pv 0) AB (fun _ _=>rfl)) (Pc (v:=.ref ad.Cm) (by rfl) T.Ek rfl) (by with_unfolding_all rfl)) AB AB))),?_⟩
  obtain ⟨e0,e1,e2⟩:=e.word (K:=K)
  refine ⟨_,rfl,p,_,_,_,rfl,rfl,e0,e1,_,PAI,rfl,.inr (T.Nx H),rfl,rfl,_,rfl,?_⟩
  have ew:=MP st
  refine Fo (fun q=>?_) fun q=>?_
  ·have q:inV (.str st.word) PAI=true:=q
   rw [ew] at q
   cases st <;> first|exact k|cases q
  ·have q:inV (.str st.word) PAI=false:=q
   rw [ew] at q
   cases st <;> first|exact k|cases q
def R6:Sp:=fun vs H Q _=>∃(p:Addr) (s:Stp),vs=[.ref p]/\StA H p s/\Q (.str s.nm) H
theorem HE (T:Tx K mg ad):Ba P w K mg base CX0 1 ad.CV ad.C8 ["step"] R6:=by
 refine T.BZ.ok Gy (fun vs H Q E h=>?_) (fun cdv A outer s H vs Q E hr h=>?_)
 ·obtain ⟨p,s,rfl,_⟩:=h
  rfl
 ·obtain ⟨p,st,rfl,e,k⟩:=h
  have nd:=Gy.nd
  refine ⟨_,(AH (AW (AM (AK (K:=K)) (pv 0) AB (fun _ _=>rfl)))),?_⟩
  obtain ⟨e0,e1,e2⟩:=e.word (K:=K)
  exact ⟨_,rfl,p,_,_,_,rfl,rfl,e0,e2,k⟩
def PM:Sp:=fun vs H Q _=>∃(p:Addr) (s:Stp),vs=[.ref p]/\StA H p s/\∀l H',AJ H H'→H l=none→H' l=some (.lst (s.BN.map V.str))→Q (.ref l) H'
theorem LF (T:Tx K mg ad):Ba P w K mg base CX0 2 ad.CW ad.C9 ["step"] PM:=by
 have G_names_end:=JL (P:=P) (w:=w) (base:=base) T
 refine T.Cc.ok Gz (fun vs H Q E h=>?_) (fun cdv A outer s H vs Q E hr h=>?_)
 ·obtain ⟨p,s,rfl,_⟩:=h
  rfl
 ·obtain ⟨p,st,rfl,e,k⟩:=h
  have nd:=Gz.nd
  refine ⟨_,(AF (Aq (AU A0 (AM (AK (K:=K)) (pv 0) AB (fun _ _=>rfl)) AO (AZ _))
    (AH (AW (As AE)))
    Aa)
    (AH (AW (B6 (Ci (K:=K)) (by rfl) T.DD PyProof.Rows.boot_list (AA (BB (D4 (K:=K)) (pv 0) (A9 AB) (A9 (AN G_names_end (hr.mono (by decide)) (by rfl) T.KU T.Bg.kp T.Kt .nil Ab (AA (pv 0) AE)))) AE))))),?_⟩
  obtain ⟨e0,e1,e2⟩:=e.word (K:=K)
  refine ⟨_,rfl,p,_,_,_,rfl,rfl,e0,e1,rfl,_,rfl,EW (i:=0) rfl (fun q1=>?_) fun q1=>?_⟩
  ·have ef:st.BN=[]:=by cases st <;> first|rfl|cases q1
   exact ⟨Nat.zero_le _,fun l hl=>k l _ ((AJ.refl H).upd hl) hl (by rw [ef];exact AD)⟩
  ·have ef:EI (st.key.map kV) (some 2) (some st.ends)=st.BN.map V.str:=by
    cases st <;> first|rfl|exact absurd rfl q1
   refine ⟨_,rfl,_,rfl,_,rfl,p,st,rfl,e,_,rfl,p,_,rfl,e0,?_,fun p2 hp2=>⟨p2,_,rfl,.inr (SqT.of AD),fun l hl=>k l _ (((AJ.refl H).upd hp2).upd hl) (by have hl':=hl;rw [AV (AS AD hl').symm] at hl;exact hl) ?_⟩⟩
   ·rintro ⟨q,_⟩
    have hl:3≤(st.key.map kV).length:=by cases st <;> exact Nat.le_of_ble_eq_true rfl
    have q2:=(HT.Er (st.key.map kV).length 0 2).symm.trans q
    omega
   ·rw [AD,ef]
abbrev It:=Int×Str×Int
def itK (i:It):List Key:=[.inl i.1,.inr i.2.1,.inl i.2.2]
abbrev Ev:=Int×Str×Str×Int
def evK (e:Ev):List Key:=[.inl e.1,.inr e.2.1,.inr e.2.2.1,.inl e.2.2.2]
def evI (e:Ev):It:=(e.1,e.2.2.1,e.2.2.2)
def EvA (H:Hp) (p:Addr) (e:Ev):Prop:=H p=some (.tup ((evK e).map kV))
def QJ (H:Hp) (c:Addr) (L:List It):Prop:=∃xs,H c=some (.lst xs)/\Rws H xs (L.map itK)
def Hy (H:Hp) (l:Addr) (evs:List Ev):Prop:=∃xs,H l=some (.lst xs)/\Rws H xs (evs.map evK)
abbrev It4:=It×List Int
def I4 (H:Hp) (x:V) (i:It4):Prop:=∃a p,x=.ref a/\H a=some (.tup [.int i.1.1,.str i.1.2.1,.int i.1.2.2,.ref p])/\H p=some (.tup (i.2.map V.int))
def Ca (H:Hp) (xs:List V) (M:List It4):Prop:=Paired (I4 H) xs M
def Dd (H:Hp) (l:Addr) (M:List It4):Prop:=∃xs,H l=some (.lst xs)/\Ca H xs M
def Hx (ns:List Int):Prop:=ns.Nodup/\∀k∈ns,0≤k/\k<10
def MOk (M:List It4):Prop:=∀i∈M,Hx i.2
theorem I4.keep {H H':Hp}{x:V}{i:It4}(h:I4 H x i) (t:Tp H H'):I4 H' x i:=let ⟨a,p,e,e1,e2⟩:=h;⟨a,p,e,t _ _ e1,t _ _ e2⟩
theorem Ca.keep {H H':Hp}{xs:List V}{M:List It4}(h:Ca H xs M) (t:Tp H H'):Ca H' xs M:=CN (fun _ _ q=>q.keep t) h
theorem Ca.len {H:Hp}{xs:List V}{M:List It4}(h:Ca H xs M):xs.length=M.length:=(Am h).1
theorem Dd.same {H H':Hp}{l:Addr}{M:List It4}(h:Dd H l M) (s:AJ H H'):Dd H' l M:=let ⟨xs,e,q⟩:=h;⟨xs,s _ _ e,q.keep s.tp⟩
theorem Hy.same {H H':Hp}{l:Addr}{M:List Ev}(h:Hy H l M) (s:AJ H H'):Hy H' l M:=let ⟨xs,e,q⟩:=h;⟨xs,s _ _ e,q.keep s.tp⟩
theorem Ca.ix {H:Hp}{xs:List V}{M:List It4}(h:Ca H xs M) {i:Nat}{x:V}(e:xs[i]?=some x):∃m,M[i]?=some m/\I4 H x m:=by
 obtain ⟨l,f⟩:=Am h
 have hi:=(List.getElem?_eq_some_iff.mp e).1
 have e2:=List.getElem?_eq_getElem (show i<M.length by omega)
 exact ⟨_,e2,f i x _ e e2⟩
theorem N3 {k:Nat}(h:k<10):Hx [(k:Int)]:=⟨by simp,fun n hn=>by rw [List.mem_singleton.mp hn];omega⟩
theorem IT:∀{ks js:List Int},ks.Nodup→(∀z∈ks,z∈js)→ks.length≤js.length
 | [],_,_,_=>Nat.zero_le _
 | k::ks,js,nd,h=>by
  obtain ⟨n1,n2⟩:=List.nodup_cons.mp nd
  have hk:k∈js:=h k List.mem_cons_self
  have ih:=IT (js:=js.erase k) n2 fun z hz=>(List.mem_erase_of_ne (fun e=>n1 (by rw [←e];exact hz))).mpr (h z (List.mem_cons_of_mem _ hz))
  rw [List.length_erase_of_mem hk] at ih
  have:=List.length_pos_of_mem hk
  rw [List.length_cons]
  omega
theorem Hx.len {ns:List Int}(h:Hx ns):ns.length≤10:=by
 have:=IT (js:=(List.range 10).map fun n:Nat=>(n:Int)) h.1 fun z hz=>by
  obtain ⟨a,b⟩:=h.2 z hz
  exact List.mem_map.mpr ⟨z.toNat,List.mem_range.mpr (by omega),by omega⟩
 simpa using this
theorem Jp {H:Hp}{p l:Addr}{o:HO}(h:(upd H p o) l=none):H l=none:=by
 have hn:l≠p:=(AS AD h).symm
 rw [AV hn] at h
 exact h
def Dp (k:Str) (e:Ev):List It:=if e.2.1=k then [evI e] else []
def PD:Sp:=fun vs H Q _=>∃(p q:Addr) (n k:Str) (e:Ev),vs=[.ref p,.ref q]/\StA H p (.take n k)/\EvA H q e/\∀l H',AJ H H'→H l=none→QJ H' l (Dp k e)→Q (.ref l) H'
theorem OD (T:Tx K mg ad):Ba P w K mg base CX0 1 ad.EM ad.E1 ["step", "event"] PD:=by
 refine T.ES.ok J0 (fun vs H Q E h=>?_) (fun cdv A outer s H vs Q E hr h=>?_)
 ·obtain ⟨p,q,n,k,e,rfl,_⟩:=h
  rfl
 ·obtain ⟨p,q,n,kd,⟨t,ki,z,am⟩,rfl,e,eq,k⟩:=h
  have nd:=J0.nd
  refine ⟨_,(AH (AW (Fg (AU A0 (AM (AK (K:=K)) (pv 1) AB (fun _ _=>rfl)) (AM (AK (K:=K)) (pv 0) AB (fun _ _=>rfl)) (AZ _)) (As (AA (Ar (AA (AM (AK (K:=K)) (pv 1) AB (fun _ _=>rfl)) (AA (AM (AK (K:=K)) (pv 1) AB (fun _ _=>rfl)) (AA (AM (AK (K:=K)) (pv 1) AB (fun _ _=>rfl)) AE)))) AE)) (As AE)))),?_⟩
  have e0:SqT K H p _:=SqT.of e
  have q0:SqT K H q _:=SqT.of eq
  refine ⟨_,rfl,q,_,_,_,rfl,rfl,q0,AI (j:=1) rfl,_,rfl,p,_,_,_,rfl,rfl,e0,AI (j:=2) rfl,rfl,_,rfl,L3 (fun h=>?_) fun h=>?_⟩
  ·refine ⟨_,rfl,q,_,_,_,rfl,rfl,q0,AI (j:=0) rfl,_,rfl,q,_,_,_,rfl,rfl,q0,AI (j:=2) rfl,_,rfl,q,_,_,_,rfl,rfl,q0,AI (j:=3) rfl,Nat.le_of_ble_eq_true rfl,fun p1 hp1=>⟨Nat.le_of_ble_eq_true rfl,fun l hl=>k l _ (((AJ.refl H).upd hp1).upd hl) (Jp hl) ⟨[.ref p1],AD,?_⟩⟩⟩
   show Rws _ [.ref p1] ((Dp kd (t,ki,z,am)).map itK)
   rw [show Dp kd (t,ki,z,am)=[(t,z,am)] from if_pos h]
   exact (DV _).snoc (ks:=itK (t,z,am)) (by rw [AV (AS AD hl)];exact AD)
  ·refine ⟨Nat.zero_le _,fun l hl=>k l _ ((AJ.refl H).upd hl) hl ⟨[],AD,?_⟩⟩
   show Rws _ [] ((Dp kd (t,ki,z,am)).map itK)
   rw [show Dp kd (t,ki,z,am)=[] from if_neg h]
   exact DV _
def FW (k:Str) (evs:List Ev):List It:=(evs.filter fun e=>decide (e.2.1=k)).map evI
theorem K0 (k:Str) (evs:List Ev) (e:Ev):FW k (evs++[e])=FW k evs++Dp k e:=by
 unfold FW Dp
 rw [List.filter_append,List.map_append]
 congr 1
 by_cases h:e.2.1=k
 ·rw [if_pos h,List.filter_cons,if_pos (decide_eq_true h)];rfl
 ·rw [if_neg h,List.filter_cons,if_neg (fun q=>h (of_decide_eq_true q))];rfl
def K7:Sp:=fun vs H Q _=>∃(p l:Addr) (n k:Str) (evs:List Ev),vs=[.ref p,.ref l]/\StA H p (.take n k)/\Hy H l evs/\evs.length≤10/\∀r H' M,AJ H H'→H r=none→Dd H' r M→M.map (·.1)=FW k evs→MOk M→Q (.ref r) H'
theorem JJ (T:Tx K mg ad):Ba P w K mg base CX0 2 ad.Bd ad.B9 ["step", "events"] K7:=by
 have G_taken:=OD (P:=P) (w:=w) (base:=base) T
 refine T.Bf.ok Fb (fun vs H Q E h=>?_) (fun cdv A outer s H vs Q E hr h=>?_)
 ·obtain ⟨p,l,n,k,evs,rfl,_⟩:=h
  rfl
 ·obtain ⟨p,l,n,kd,evs,rfl,st,⟨xs,el,hw⟩,le,k⟩:=h
  have nd:=Fb.nd
  refine ⟨_,(AF (AQ (i:=2) nd rfl (Or.inl rfl) (As AE))
    (AF (Cs PassesOwn.never rfl (Ln (K:=K) (by rfl) T.B0 (pv 1)) (G9 rfl (BA (Au (i:=3) nd rfl (Or.inr rfl)) (BA (Au (i:=4) nd rfl (Or.inl rfl)) Ff)))
    (AH (CD (CM (K:=K) F.plainAttrs_list F.slot_list_extend F.type_list_extend IV (pv 2) (AA (Bq (osc:=AR DU) [("place", 3)] rfl (Ay (K:=K) (AN G_taken (hr.mono (by decide)) (by rfl) T.Pk T.ES.kp T.Py .nil Ab (AA (pv 0) (AA (pv 4) AE)))) rfl rfl (by decide +kernel) (by decide +kernel) (by decide +kernel) ⟨rfl,rfl,trivial⟩ rfl (by decide +kernel) (fun _ _ _ _=>C2) (fun _ _ _ _=>(AG (HD (K:=K)) (pv 0) (Ar (AA (Ar (AA (pv 1) AE)) AE))))) AE)))))
    (AH (AW (pv 2))))),?_⟩
  have sz:sizeLine=16777216:=sizeLine_eq
  have lx:=hw.len
  rw [List.length_map] at lx
  refine ⟨Nat.zero_le _,fun il hil=>?_⟩
  have s0:=AJ.Ai (o:=.lst []) hil
  have eil:(upd H il (.lst [])) il=some (.lst []):=AD
  generalize upd H il (.lst [])=H0 at s0 eil ⊢
  refine ⟨_,rfl,l,rfl,⟨_,SqL.of (s0 _ _ el)⟩,Kg (K:=K) (xs:=xs) (fun m σ H'=>∃(o3 o4:Option V) (acc:List V) (M:List It4),σ=[some (.ref p),some (.ref l),some (.ref il),o3,o4]/\AJ H H'/\H' il=some (.lst acc)/\Ca H' acc M/\M.map (·.1)=FW kd (evs.take m)/\MOk M/\acc.length≤m)
   ⟨none,none,[],[],rfl,s0,eil,.nil,rfl,fun i hi=>(by cases hi),Nat.le_refl _⟩ (fun m σ H' _ ⟨_,_,_,_,_,s',_⟩=>SqL.of (s' _ _ el)) ?_ ?_⟩
  ·rintro m x σ H1 pp hx ⟨o3,o4,acc,M,rfl,s1,ei1,st1,e1,ok1,la1⟩ hpp
   obtain ⟨b,ks,rfl,ek,eb⟩:=hw.at hx
   rw [List.getElem?_map] at ek
   obtain ⟨e,ee,rfl⟩:=Option.map_eq_some_iff.mp ek
   have hm:m<evs.length:=(List.getElem?_eq_some_iff.mp ee).1
   have t1:=AJ.Ai (o:=.tup [.int (m:Int),.ref b]) hpp
   refine ⟨pp,_,rfl,SqT.of AD,rfl,_,_,rfl,_,_,rfl,rfl,?_⟩
   generalize upd H1 pp (.tup [.int (m:Int),.ref b])=H2 at t1 ⊢
   have s2:=s1.trans t1
   refine ⟨_,rfl,.inl ⟨rfl,_,SqL.of (t1 _ _ ei1)⟩,_,rfl,_,rfl,p,b,n,kd,e,rfl,s2 _ _ st,s2 _ _ eb,fun l2 H3 t2 hl2 ⟨zs,ez,rz⟩=>⟨l2,rfl,⟨_,SqL.of ez⟩,?_⟩⟩
   have s3:=s2.trans t2
   have lz:zs.length≤1:=by
    rw [rz.len,List.length_map]
    unfold Dp
    split <;> simp
   have hil3:H3 il=some (.lst acc):=t2 _ _ (t1 _ _ ei1)
   refine Bu (K:=K) (xs:=zs) (fun j τ acc' H'=>(∃o,τ=[o,some (.int (m:Int))])/\AJ H3 H'/\Ca H' acc' (((Dp kd e).take j).map fun i=>(i,[(m:Int)]))) (by omega) ⟨⟨none,rfl⟩,AJ.refl _,.nil⟩ (fun j τ acc' H' ⟨_,s',_⟩=>SqL.of (s' _ _ ez)) ?_ ?_
   ·rintro j y τ acc' H4 R1 hy _ ⟨⟨o,rfl⟩,t3,sm⟩ k1
    obtain ⟨c,ks,rfl,ek,ec⟩:=rz.at hy
    rw [List.getElem?_map] at ek
    obtain ⟨i,ei,rfl⟩:=Option.map_eq_some_iff.mp ek
    refine ⟨_,rfl,_,rfl,Nat.le_of_ble_eq_true rfl,fun q1 hq1=>⟨Nat.le_of_ble_eq_true rfl,fun q2 hq2=>?_⟩⟩
    have u1:=AJ.Ai (o:=.tup [.int (m:Int)]) hq1
    have f1:(upd H4 q1 (.tup [.int (m:Int)])) q1=some (.tup [.int (m:Int)]):=AD
    generalize upd H4 q1 (.tup [.int (m:Int)])=H5 at u1 f1 hq2 ⊢
    have u2:=AJ.Ai (o:=.tup [.ref q1]) hq2
    have f2:(upd H5 q2 (.tup [.ref q1])) q2=some (.tup [.ref q1]):=AD
    generalize upd H5 q2 (.tup [.ref q1])=H6 at u2 f2 ⊢
    have u3:=t3.trans (u1.trans u2)
    refine ⟨c,q2,_,_,rfl,rfl,SqT.of (u3 _ _ ec),SqT.of f2,(by intro h;cases h),Nat.le_of_ble_eq_true rfl,(fun h=>by cases h),fun _ p3 hp3=>?_⟩
    have u4:=AJ.Ai (o:=.tup ((itK i).map kV++[.ref q1])) hp3
    have f4:(upd H6 p3 (.tup ((itK i).map kV++[.ref q1]))) p3=some (.tup ((itK i).map kV++[.ref q1])):=AD
    refine k1 _ _ _ ⟨⟨_,rfl⟩,u3.trans u4,?_⟩
    have tk:(Dp kd e).take (j+1)=(Dp kd e).take j++[i]:=by rw [List.take_add_one,ei];rfl
    rw [tk,List.map_append]
    exact An (sm.keep ((u1.trans u2).trans u4).tp) (.cons ⟨p3,q1,rfl,f4,(u2.trans u4) _ _ f1⟩ .nil)
   ·rintro τ acc' H4 la' ⟨_,t3,sm⟩ D hD
    have hz:zs.length=(Dp kd e).length:=by rw [rz.len,List.length_map]
    rw [hz,List.take_of_length_le (Nat.le_refl _)] at sm
    have t4:=AJ.Ai (o:=.lst acc') hD
    have eD:(upd H4 D (.lst acc')) D=some (.lst acc'):=AD
    generalize upd H4 D (.lst acc')=H5 at t4 eD ⊢
    have t35:=t3.trans t4
    have e5:=t35 _ _ hil3
    have tp:Tp H5 (upd H5 il (.lst (acc++acc'))):=(Tp.refl H5).upd e5 fun xs=>by intro z;cases z
    refine ⟨il,D,_,_,rfl,rfl,e5,eD,by omega,_,_,acc++acc',M++(Dp kd e).map fun i=>(i,[(m:Int)]),rfl,(s3.trans t35).Gm hil,AD,?_,?_,?_,by rw [List.length_append];omega⟩
    ·exact An ((st1.keep (t1.trans (t2.trans t35)).tp).keep tp) ((sm.keep t4.tp).keep tp)
    ·rw [List.take_add_one,ee]
     show (M++_).map _=FW kd (evs.take m++[e])
     rw [K0,List.map_append,e1,List.map_map]
     congr 1
     exact List.map_id _
    ·intro i hi
     rcases List.mem_append.mp hi with hi|hi
     ·exact ok1 i hi
     ·obtain ⟨x,_,rfl⟩:=List.mem_map.mp hi
      exact N3 (by omega)
  ·rintro σ H1 ⟨o3,o4,acc,M,rfl,s1,ei1,st1,e1,ok1,la1⟩
   rw [lx,List.take_of_length_le (Nat.le_refl _)] at e1
   exact ⟨_,rfl,k il _ M s1 hil ⟨acc,ei1,st1⟩ e1 ok1⟩
theorem Oq (xs:List V) (n m:Nat) (h:n≤xs.length) (h2:m≤xs.length):EI xs (some (n:Int)) (some (m:Int))=(xs.drop n).take (m-n):=by
 unfold EI
 have e1:∀d,HT.sIx xs.length d (some (m:Int))=m:=fun d=>by
  show (if (m:Int)<0 then ((m:Int)+(xs.length:Int)).toNat else min (m:Int).toNat xs.length)=m
  rw [if_neg (by omega)]
  omega
 have e2:∀d,HT.sIx xs.length d (some (n:Int))=n:=fun d=>by
  show (if (n:Int)<0 then ((n:Int)+(xs.length:Int)).toNat else min (n:Int).toNat xs.length)=n
  rw [if_neg (by omega)]
  omega
 rw [e1,e2]
def HdT (H:Hp) (x:V) (t:Int):Prop:=∃a r,x=.ref a/\H a=some (.tup (.int t::r))
def PQ:Sp:=fun vs H Q _=>∃(r mk:Addr) (xs:List V) (ts:List Int) (m:Int),vs=[.ref r,.ref mk]/\H r=some (.lst xs)/\Paired (HdT H) xs ts/\ts.Pairwise (·≤·)/\H mk=some (.tup [.int m]) /\
 ∀k:Nat,k≤ts.length→(∀(i:Nat) t,i<k→ts[i]?=some t→t<m)→(∀(i:Nat) t,k≤i→ts[i]?=some t→m≤t)→Q (.int (k:Int)) H
theorem Qr (t b:Int):BG [.inl t] [.inl b]=decide (t<b):=by
 show (if (Sum.inl t:Key)=Sum.inl b then false else decide (t<b))=_
 split
 ·rename_i e
  have e:=Sum.inl.inj e
  rw [e]
  exact (decide_eq_false (Int.lt_irrefl b)).symm
 ·rfl
theorem P4 {ts:List Int}(h:ts.Pairwise (·≤·)) {i j:Nat}{a b:Int}(hij:i≤j) (ea:ts[i]?=some a) (eb:ts[j]?=some b):a≤b:=by
 by_cases e:i=j
 ·subst e
  rw [ea] at eb
  cases eb
  exact Int.le_refl _
 ·obtain ⟨hi,e1⟩:=List.getElem?_eq_some_iff.mp ea
  obtain ⟨hj,e2⟩:=List.getElem?_eq_some_iff.mp eb
  have:=List.pairwise_iff_getElem.mp h i j hi hj (by omega)
  rw [e1,e2] at this
  exact this
theorem OI (T:Tx K mg ad):Ba P w K mg base CX0 1 ad.EN ad.E2 ["rows", "mark"] PQ:=by
 refine T.Dg.ok J1 (fun vs H Q E h=>?_) (fun cdv A outer s H vs Q E hr h=>?_)
 ·obtain ⟨r,mk,xs,ts,m,rfl,_⟩:=h
  rfl
 ·obtain ⟨r,mk,xs,ts,sv,rfl,er,hw,up,em,k⟩:=h
  have nd:=J1.nd
  refine ⟨_,(AF (AQ (i:=2) nd rfl (Or.inl rfl) AB)
    (AF (AQ (i:=3) nd rfl (Or.inl rfl) (Al (BI (K:=K)) (by rfl) T.ET PySem.boot_len (AA (pv 0) AE)))
    (AF (Ny PassesOwn.never (AU KA (pv 2) (pv 3) (AZ _))
    (AF (AQ (i:=4) nd rfl (Or.inl rfl) (AG AY (AG Ah (pv 2) (pv 3)) AB))
    (AH (Aq (AU (Qk (K:=K) hr.Gp) (AM (Ac (K:=K)) (pv 0) (pv 4) (fun _ _=>rfl)) (pv 1) (AZ _))
    (AH (AQ (i:=2) nd rfl (Or.inl rfl) (AG Ah (pv 4) AB)))
    (AH (AQ (i:=3) nd rfl (Or.inl rfl) (pv 4)))))))
    (AH (AW (pv 2)))))),?_⟩
  obtain ⟨len,at'⟩:=Am hw
  refine ⟨_,rfl,r,_,rfl,.inl (SqL.of er),?_⟩
  refine NR (fun σ H'=>H'=H/\∃(lo hi:Nat) (o4:Option V),σ=[some (.ref r),some (.ref mk),some (.int (lo:Int)),some (.int (hi:Int)),o4]/\lo≤hi/\hi≤ts.length/\(∀(i:Nat) p,i<lo→ts[i]?=some p→p<sv)/\(∀(i:Nat) p,hi≤i→ts[i]?=some p→sv≤p))
   (fun σ _=>match σ with|[_,_,some (.int lo),some (.int hi),_]=>(hi-lo).toNat|_=>0) ⟨rfl,0,ts.length,none,by rw [len];rfl,Nat.zero_le _,Nat.le_refl _,fun i ks h=>by omega,fun i ks h e=>by have:=(List.getElem?_eq_some_iff.mp e).1;omega⟩ ?_ ?_
  ·rintro σ H' ⟨rfl,lo,hi,o4,rfl,h1,h2,h3,h4⟩
   refine ⟨_,rfl,_,rfl,_,_,rfl,rfl,_,rfl,Hs (fun e=>?_) fun e=>?_⟩
   ·have e:lo<hi:=by omega
    have em2:((lo:Int)+(hi:Int)) / 2=(((lo+hi) / 2:Nat):Int):=by omega
    have hm:(lo+hi) / 2<ts.length:=by omega
    have ek:ts[(lo+hi) / 2]?=some ts[(lo+hi) / 2]:=List.getElem?_eq_getElem hm
    have ex:=List.getElem?_eq_getElem (show (lo+hi) / 2<xs.length by omega)
    obtain ⟨a,rr,ea,eq⟩:=at' _ _ _ ex ek
    rw [ea] at ex
    generalize ts[(lo+hi) / 2]=tm at ek eq
    refine ⟨_,rfl,_,rfl,_,_,rfl,rfl,_,_,rfl,rfl,⟨by decide,by decide⟩,?_⟩
    have ea2:atI xs (((lo:Int)+(hi:Int)) / 2)=some (.ref a):=by rw [em2];exact AI ex
    refine ⟨_,rfl,_,rfl,r,_,_,_,rfl,rfl,SqL.of er,ea2,_,rfl,a,mk,[.inl tm],rr,[.inl sv],rfl,rfl,SqT.of eq,SqT.of em,.inr (Nat.le_refl _),(fun i k m e1 e2=>?_),_,rfl,?_⟩
    ·have hi0:i=0:=by have:=(List.getElem?_eq_some_iff.mp e2).1;simp at this;omega
     subst hi0
     cases e1
     cases e2
     rfl
    rw [Qr]
    refine Hs (fun b=>?_) fun b=>?_
    ·refine ⟨_,rfl,_,_,rfl,rfl,⟨rfl,(lo+hi) / 2+1,hi,_,by show _=[_,_,some (V.int _),_,_];rw [show ((((lo+hi) / 2+1:Nat)):Int)=((lo:Int)+(hi:Int)) / 2+1 by omega];rfl,by omega,h2,fun i ks hi' e'=>?_,h4⟩,?_⟩
     ·have:=P4 up (by omega) e' ek
      omega
     ·show ((hi:Int)-(((lo:Int)+(hi:Int)) / 2+1)).toNat<((hi:Int)-(lo:Int)).toNat
      omega
    ·refine ⟨_,rfl,⟨rfl,lo,(lo+hi) / 2,_,by show _=[_,_,_,some (V.int _),_];rw [←em2];rfl,by omega,by omega,h3,fun i ks hi' e'=>?_⟩,?_⟩
     ·have:=P4 up hi' ek e'
      omega
     ·show ((((lo:Int)+(hi:Int)) / 2)-(lo:Int)).toNat<((hi:Int)-(lo:Int)).toNat
      omega
   ·have e:lo=hi:=by omega
    subst e
    exact ⟨_,rfl,k lo h2 h3 h4⟩
  ·rintro σ H1 R R' hR ⟨v,e1,u,e2,i,j,e3,e4,b,e5,q⟩
   exact ⟨v,e1,u,e2,i,j,e3,e4,b,e5,hR _ _ q⟩
def R3 (H:Hp) (x:V) (i:It4):Prop:=∃a p,x=.ref a/\H a=some (.tup [.int i.1.1,.int i.1.2.2,.ref p])/\H p=some (.tup (i.2.map V.int))
def EV (H:Hp) (xs:List V) (N:List It4):Prop:=Paired (R3 H) xs N
theorem R3.keep {H H':Hp}{x:V}{i:It4}(h:R3 H x i) (t:Tp H H'):R3 H' x i:=let ⟨a,p,e,e1,e2⟩:=h;⟨a,p,e,t _ _ e1,t _ _ e2⟩
theorem EV.keep {H H':Hp}{xs:List V}{M:List It4}(h:EV H xs M) (t:Tp H H'):EV H' xs M:=CN (fun _ _ q=>q.keep t) h
theorem EV.times {H:Hp}:∀{xs:List V}{N:List It4},EV H xs N→Paired (HdT H) xs (N.map fun i=>i.1.1)
 | _,_,.nil=>.nil
 | _,_,.cons ⟨a,p,e,e1,_⟩ r=>.cons ⟨a,_,e,e1⟩ (EV.times r)
def Tup (N:List It4):Prop:=(N.map fun i=>i.1.1).Pairwise (·≤·)
def inT (lo hi:Int) (i:It4):Bool:=decide (lo≤i.1.1/\i.1.1<hi)
def MY:Sp:=fun vs H Q _=>∃(r:Addr) (xs:List V) (N:List It4) (lo hi:Int),vs=[.ref r,.int lo,.int hi]/\H r=some (.lst xs)/\EV H xs N/\Tup N/\lo≤hi/\∀l H' ys,AJ H H'→H l=none→H' l=some (.lst ys)→EV H' ys (N.filter (inT lo hi))→Q (.ref l) H'
theorem LH (T:Tx K mg ad):Ba P w K mg base CX0 2 ad.CZ ad.DB ["row", "low", "high"] MY:=by
 have G_ahead:=OI (P:=P) (w:=w) (base:=base) T
 refine T.Ce.ok G1 (fun vs H Q E h=>?_) (fun cdv A outer s H vs Q E hr h=>?_)
 ·obtain ⟨r,xs,N,lo,hi,rfl,_⟩:=h
  rfl
 ·obtain ⟨r,xs,N,lo,hi,rfl,er,hw,up,lh,k⟩:=h
  have nd:=G1.nd
  refine ⟨_,(AH (AW (BB (Ea (K:=K)) (pv 0) (A9 (AN G_ahead (hr.mono (by decide)) (by rfl) T.Lx T.Dg.kp T.MK .nil Ab (AA (pv 0) (AA (Ar (AA (pv 1) AE)) AE)))) (A9 (AN G_ahead (hr.mono (by decide)) (by rfl) T.Lx T.Dg.kp T.MK .nil Ab (AA (pv 0) (AA (Ar (AA (pv 2) AE)) AE))))))),?_⟩
  have len:=(Am hw).1
  refine ⟨_,rfl,_,rfl,_,rfl,Nat.le_of_ble_eq_true rfl,fun p1 hp1=>?_⟩
  have s1:=AJ.Ai (o:=.tup [.int lo]) hp1
  have ep1:(upd H p1 (.tup [.int lo])) p1=some (.tup [.int lo]):=AD
  generalize upd H p1 (.tup [.int lo])=H1 at s1 ep1 ⊢
  refine ⟨r,p1,xs,_,lo,rfl,s1 _ _ er,(hw.keep s1.tp).times,up,ep1,fun n hn a1 a2=>⟨_,rfl,?_⟩⟩
  refine ⟨_,rfl,_,rfl,Nat.le_of_ble_eq_true rfl,fun p2 hp2=>?_⟩
  have s2:=AJ.Ai (o:=.tup [.int hi]) hp2
  have ep2:(upd H1 p2 (.tup [.int hi])) p2=some (.tup [.int hi]):=AD
  generalize upd H1 p2 (.tup [.int hi])=H2 at s2 ep2 ⊢
  have s12:=s1.trans s2
  refine ⟨r,p2,xs,_,hi,rfl,s12 _ _ er,(hw.keep s12.tp).times,up,ep2,fun m hm b1 b2=>⟨_,rfl,?_⟩⟩
  rw [List.length_map] at hn hm
  refine ⟨r,xs,rfl,SqL.of (s12 _ _ er),fun l hl=>?_⟩
  rw [Oq xs n m (by omega) (by omega)]
  have tat:∀(i:Nat) x,N[i]?=some x→(N.map fun i=>i.1.1)[i]?=some x.1.1:=fun i x e=>by rw [List.getElem?_map,e];rfl
  have cf:(N.drop n).take (m-n)=N.filter (inT lo hi):=EH fun i x e=>by
   unfold inT
   rw [decide_eq_true_iff]
   have t:=tat i x e
   constructor
   ·rintro ⟨q1,q2⟩
    refine ⟨Nat.le_of_not_lt fun z=>?_,Nat.lt_of_not_le fun z=>?_⟩
    ·have:=a1 i _ z t;omega
    ·have:=b2 i _ z t;omega
   ·rintro ⟨q1,q2⟩
    exact ⟨a2 i _ q1 t,b1 i _ q2 t⟩
  refine k l _ _ (s12.upd hl) (s12.free hl) AD ?_
  rw [←cf]
  exact DY _ (Eg _ (hw.keep (s12.upd hl).tp))
theorem MS {kvs:List (Key×V)}{k:Key}{v:V}(nd:(kvs.map (·.1)).Nodup) (h:(k,v)∈kvs):A7 kvs k=some v:=by
 obtain ⟨v2,hv2⟩:=Io (List.mem_map.mpr ⟨_,h,rfl⟩:k∈kvs.map (·.1))
 have hm2:=Dm hv2
 obtain ⟨i,hi,ei⟩:=List.mem_iff_getElem.mp h
 obtain ⟨j,hj,ej⟩:=List.mem_iff_getElem.mp hm2
 have:=(List.getElem_inj (xs:=kvs.map (·.1)) (i:=i) (j:=j) (h₀:=by simpa using hi) (h₁:=by simpa using hj) nd).mp (by simp [ei,ej])
 subst this
 rw [ei] at ej
 rw [hv2]
 exact congrArg some (congrArg Prod.snd ej).symm
def fk (i:It4):List Key:=itK i.1++i.2.map Sum.inl
theorem K6 {H:Hp}{xs:List V}{M:List It4}(h:Ca H xs M):∃ds:List Dn,ds.map Cv=M.map fk/\Gh K H xs ds [true,false,true]:=by
 have key:∀{xs:List V} {M:List It4},Ca H xs M→∃ds:List Dn,ds.map Cv=M.map fk/\Paired (fun x (d:Dn)=>(∃a,x=.ref a/\SqT K H a (d.1.map kV++d.2.1.map V.ref))/\d.1.map isI=[true,false,true]) xs ds/\∀d∈ds,∃(p:Addr) (ns:List Int),d.2.1=[p]/\d.2.2=ns.map Sum.inl/\SqT K H p (ns.map V.int):=by
  intro xs M h
  induction h with
  | nil=>exact ⟨[],rfl,.nil,fun d hd=>by cases hd⟩
  | cons h1 _ ih =>
   obtain ⟨ds,e,p,q⟩:=ih
   rename_i x i _ _ _
   obtain ⟨a,p1,ea,e1,e2⟩:=h1
   refine ⟨(itK i.1,[p1],i.2.map Sum.inl)::ds,by rw [List.map_cons,List.map_cons,e];rfl,.cons ⟨⟨a,ea,SqT.of e1⟩,rfl⟩ p,fun d hd=>?_⟩
   rcases List.mem_cons.mp hd with rfl|hd
   ·exact ⟨p1,i.2,rfl,rfl,SqT.of e2⟩
   ·exact q d hd
 obtain ⟨ds,e,p,q⟩:=key h
 refine ⟨ds,e,by decide,p,fun i j d e' e1 e2 _=>.inr ?_⟩
 obtain ⟨p1,ns,a1,a2,a3⟩:=q d (List.mem_of_getElem? e1)
 obtain ⟨p2,ms,b1,b2,b3⟩:=q e' (List.mem_of_getElem? e2)
 exact ⟨p1,p2,ns,ms,a1,b1,a2,b2,a3,b3⟩
theorem Dh {β:Type}{F:V→β→Prop}{f:β→List Key}{xs:List V}{M:List β}(h:Paired F xs M) {qs:List (V×List Key)}(p:qs.Perm (xs.zip (M.map f))):∃M':List β,M'.Perm M/\Paired F (qs.map (·.1)) M'/\M'.map f=qs.map (·.2):=by
 have hz:Paired (fun (q:V×β) (b:V×List Key)=>q.1=b.1/\b.2=f q.2/\F q.1 q.2) (xs.zip M) (xs.zip (M.map f)):=by
  clear p
  induction h with
  | nil=>exact .nil
  | cons h1 _ ih=>exact .cons ⟨rfl,rfl,h1⟩ ih
 obtain ⟨as,q1,q2⟩:=Ee p hz
 refine ⟨as.map (·.2),?_,?_,?_⟩
 ·have:=q1.map (·.2)
  rwa [List.map_snd_zip (by have:=(Am h).1;omega)] at this
 ·clear q1 p hz
  induction q2 with
  | nil=>exact .nil
  | cons h1 _ ih=>exact .cons (by have q:=h1.2.2;rw [h1.1] at q;exact q) ih
 ·clear q1 p hz
  induction q2 with
  | nil=>rfl
  | cons h1 _ ih=>rw [List.map_cons,List.map_cons,List.map_cons,ih,h1.2.1]
theorem Od {M:List It4}(h:(M.map fk).Pairwise fun a b=>BG b a=false):Tup M:=by
 unfold Tup
 rw [List.pairwise_map] at h ⊢
 refine h.imp fun {a b} q=>?_
 have q:(if (Sum.inl b.1.1:Key)=Sum.inl a.1.1 then _ else decide (b.1.1<a.1.1))=false:=q
 by_cases e:b.1.1=a.1.1
 ·omega
 ·rw [if_neg (fun z=>e (Sum.inl.inj z))] at q
  have:=of_decide_eq_false q
  omega
def SU (H:Hp) (M:List It4) (q:Key×V):Prop:=∃(z:Str) (r:Addr) (xs:List V),q=(.inr z,.ref r)/\H r=some (.lst xs)/\EV H xs (M.filter fun i=>decide (i.1.2.1=z))
structure D3 (H0 H:Hp) (d:Addr) (M:List It4) (kvs:List (Key×V)):Prop where
 dict:H d=some (.dK kvs)
 nd:(kvs.map (·.1)).Nodup
 len:kvs.length≤M.length
 row:∀q∈kvs,SU H M q
 new:∀z r,(Sum.inr z,V.ref r)∈kvs→H0 r=none
 apart:∀z z' r,(Sum.inr z,V.ref r)∈kvs→(Sum.inr z',V.ref r)∈kvs→z=z'
 all:∀i∈M,(Sum.inr i.1.2.1:Key)∈kvs.map (·.1)
theorem D3.at {H0 H:Hp}{d:Addr}{M:List It4}{kvs:List (Key×V)}(h:D3 H0 H d M kvs) (z:Str):(A7 kvs (.inr z)=none/\(M.filter fun i=>decide (i.1.2.1=z))=[])\/∃r xs,A7 kvs (.inr z)=some (.ref r)/\H r=some (.lst xs)/\EV H xs (M.filter fun i=>decide (i.1.2.1=z)):=by
 cases hv:A7 kvs (.inr z) with
 | none =>
  refine .inl ⟨rfl,List.filter_eq_nil_iff.mpr fun i hi q=>?_⟩
  have q:=of_decide_eq_true q
  obtain ⟨v,hv'⟩:=Io (h.all i hi)
  rw [q,hv] at hv'
  cases hv'
 | some v =>
  obtain ⟨z',r,xs,e,er,w⟩:=h.row _ (Dm hv)
  cases e
  exact .inr ⟨r,xs,rfl,er,w⟩
theorem D3.same {H0 H H':Hp}{d:Addr}{M:List It4}{kvs:List (Key×V)}(h:D3 H0 H d M kvs) (s:AJ H H'):D3 H0 H' d M kvs :=
 { h with dict:=s _ _ h.dict,row:=fun q hq=>let ⟨z,r,xs,e,er,w⟩:=h.row q hq;⟨z,r,xs,e,s _ _ er,w.keep s.tp⟩ }
theorem Fq {M:List It4}{i:It4}(z:Str):((M++[i]).filter fun i=>decide (i.1.2.1=z))=(M.filter fun i=>decide (i.1.2.1=z))++if i.1.2.1=z then [i] else []:=by
 rw [List.filter_append,List.filter_cons]
 by_cases h:i.1.2.1=z
 ·rw [if_pos (decide_eq_true h),if_pos h];rfl
 ·rw [if_neg (fun q=>h (of_decide_eq_true q)),if_neg h];rfl
theorem D3.longer {H0 H H':Hp}{d r t:Addr}{M:List It4}{kvs:List (Key×V)}{i:It4}{xs:List V}(h:D3 H0 H d M kvs) (hv:A7 kvs (.inr i.1.2.1)=some (.ref r)) (er:H r=some (.lst xs)) (hd:H' d=some (.dK kvs)) (er':H' r=some (.lst (xs++[.ref t])))
  (kl:∀b ys,b≠r→H b=some (.lst ys)→H' b=some (.lst ys)) (tp:Tp H H') (ht:R3 H' (.ref t) i):D3 H0 H' d (M++[i]) kvs:=by
 have hm:=Dm hv
 refine ⟨hd,h.nd,by rw [List.length_append];have:=h.len;omega,fun q hq=>?_,h.new,h.apart,fun j hj=>?_⟩
 ·obtain ⟨z,r',ys,rfl,e2,w⟩:=h.row q hq
  by_cases ez:i.1.2.1=z
  ·subst ez
   have:V.ref r'=V.ref r:=by
    have e3:=MS h.nd hq
    rw [hv] at e3
    exact (Option.some.inj e3).symm
   cases this
   rw [er] at e2
   cases e2
   refine ⟨_,r,xs++[.ref t],rfl,er',?_⟩
   rw [Fq,if_pos rfl]
   exact An (w.keep tp) (.cons ht .nil)
  ·have nr:r'≠r:=fun e=>by
    subst e
    exact ez (h.apart _ _ _ hm hq)
   refine ⟨z,r',ys,rfl,kl _ _ nr e2,?_⟩
   rw [Fq,if_neg ez,List.append_nil]
   exact w.keep tp
 ·rcases List.mem_append.mp hj with hj|hj
  ·exact h.all j hj
  ·rw [List.mem_singleton.mp hj]
   exact List.mem_map.mpr ⟨_,hm,rfl⟩
theorem D3.fresh {H0 H H':Hp}{d r t:Addr}{M:List It4}{kvs:List (Key×V)}{i:It4}(h:D3 H0 H d M kvs) (hv:A7 kvs (.inr i.1.2.1)=none) (hr0:H0 r=none) (hr:H r=none) (hd:H' d=some (.dK (putK kvs (.inr i.1.2.1) (.ref r)))) (er':H' r=some (.lst [.ref t]))
  (kl:∀b ys,H b=some (.lst ys)→H' b=some (.lst ys)) (tp:Tp H H') (ht:R3 H' (.ref t) i):D3 H0 H' d (M++[i]) (putK kvs (.inr i.1.2.1) (.ref r)):=by
 have none0:(M.filter fun j=>decide (j.1.2.1=i.1.2.1))=[]:=by
  rcases h.at i.1.2.1 with ⟨_,e⟩|⟨r',xs,e,_⟩
  ·exact e
  ·rw [hv] at e;cases e
 refine ⟨hd,LI h.nd,?_,fun q hq=>?_,fun z r' hq=>?_,fun z z' r' hq hq'=>?_,fun j hj=>?_⟩
 ·rw [List.length_append]
  have:=h.len
  have:=Kb kvs (.inr i.1.2.1) (.ref r)
  simp only [List.length_cons,List.length_nil]
  omega
 ·rcases Eh hq with rfl|⟨hm,hne⟩
  ·refine ⟨_,r,[.ref t],rfl,er',?_⟩
   rw [Fq,if_pos rfl,none0]
   exact .cons ht .nil
  ·obtain ⟨z,r',ys,rfl,e2,w⟩:=h.row q hm
   have ez:i.1.2.1≠z:=fun e=>hne (by rw [e])
   refine ⟨z,r',ys,rfl,kl _ _ e2,?_⟩
   rw [Fq,if_neg ez,List.append_nil]
   exact w.keep tp
 ·rcases Eh hq with e|⟨hm,_⟩
  ·cases e;exact hr0
  ·exact h.new z r' hm
 ·have old:∀{z r'},(Sum.inr z,V.ref r')∈kvs→r'≠r:=fun {z r'} hm e=>by
   obtain ⟨_,_,_,e1,e2,_⟩:=h.row _ hm
   cases e1
   rw [e,hr] at e2
   cases e2
  rcases Eh hq with e|⟨hm,_⟩
  ·rcases Eh hq' with e'|⟨hm',_⟩
   ·cases e;cases e';rfl
   ·cases e;exact absurd rfl (old hm')
  ·rcases Eh hq' with e'|⟨hm',_⟩
   ·cases e';exact absurd rfl (old hm)
   ·exact h.apart _ _ _ hm hm'
 ·have:∀k,k∈kvs.map (·.1)\/k=.inr i.1.2.1→k∈(putK kvs (.inr i.1.2.1) (.ref r)).map (·.1):=fun k hk=>by
   obtain ⟨v,hv⟩:∃v,A7 (putK kvs (.inr i.1.2.1) (.ref r)) k=some v:=by
    rw [Gk]
    split
    ·exact ⟨_,rfl⟩
    ·rename_i ne
     rcases hk with hk|hk
     ·exact Io hk
     ·exact absurd hk ne
   exact List.mem_map.mpr ⟨_,Dm hv,rfl⟩
  rcases List.mem_append.mp hj with hj|hj
  ·exact this _ (.inl (h.all j hj))
  ·rw [List.mem_singleton.mp hj]
   exact this _ (.inr rfl)
def Nj:Sp:=fun vs H Q _=>∃(l:Addr) (M:List It4),vs=[.ref l]/\Dd H l M/\M.length≤1000/\∀d H' M' kvs,AJ H H'→H d=none→M'.Perm M→Tup M'→D3 H H' d M' kvs→Q (.ref d) H'
theorem LG (T:Tx K mg ad):Ba P w K mg base CX0 1 ad.CY ad.DA ["items"] Nj:=by
 refine T.Cd.ok G0 (fun vs H Q E h=>?_) (fun cdv A outer s H vs Q E hr h=>?_)
 ·obtain ⟨l,M,rfl,_⟩:=h
  rfl
 ·obtain ⟨l,M,rfl,⟨xs,el,hw⟩,lM,k⟩:=h
  have nd:=G0.nd
  refine ⟨_,(AF (AQ (i:=1) nd rfl (Or.inl rfl) HA)
    (AF (Cs PassesOwn.never rfl (Ay (K:=K) (Al (JY (K:=K) hr) (by rfl) T.Ck PyProof.Rows.boot_sorted (AA (pv 0) AE))) (G9 rfl (BA (Au (i:=2) nd rfl (Or.inl rfl)) (BA (Au (i:=3) nd rfl (Or.inl rfl)) (BA (Au (i:=4) nd rfl (Or.inl rfl)) (BA (Au (i:=5) nd rfl (Or.inl rfl)) Ff)))))
    (AH (CD (CM (K:=K) F.plainAttrs_list F.slot_list_append F.type_list_append Bi (N6 (pv 1) (pv 3) (As AE) ⟨rfl,rfl,rfl,rfl⟩) (AA (Ar (AA (pv 2) (AA (pv 4) (AA (pv 5) AE)))) AE)))))
    (AH (AW (pv 1))))),?_⟩
  have sz:sizeLine=16777216:=sizeLine_eq
  have lx:=hw.len
  refine fun d hd=>?_
  have s0:=AJ.Ai (o:=.dK []) hd
  have ed:(upd H d (.dK [])) d=some (.dK []):=AD
  generalize upd H d (.dK [])=H0 at s0 ed ⊢
  obtain ⟨ds,eds,so⟩:=K6 (K:=K) (hw.keep s0.tp)
  refine ⟨_,rfl,l,xs,ds,_,rfl,SqL.of (s0 _ _ el),so,fun sl qs hsl pq sq=>?_⟩
  rw [eds] at pq
  obtain ⟨M',pM,hw',ek⟩:=Dh (hw.keep s0.tp) pq
  rw [←ek] at sq
  have tM:=Od sq
  have s1:=AJ.Ai (o:=.lst (qs.map (·.1))) hsl
  have esl:(upd H0 sl (.lst (qs.map (·.1)))) sl=some (.lst (qs.map (·.1))):=AD
  have s01:=s0.trans s1
  generalize upd H0 sl (.lst (qs.map (·.1)))=H1 at s1 esl s01 ⊢
  have hw1:=Ca.keep hw' s1.tp
  generalize qs.map (·.1)=ys at esl hw1
  have ly:ys.length=M'.length:=Ca.len hw1
  have lM':M'.length≤1000:=by rw [pM.length_eq];exact lM
  refine ⟨sl,rfl,⟨_,SqL.of esl⟩,DJ (K:=K) (xs:=ys) (fun m σ H'=>∃(o2 o3 o4 o5:Option V) (kvs:List (Key×V)),σ=[some (.ref l),some (.ref d),o2,o3,o4,o5]/\AJ H H'/\H' sl=some (.lst ys)/\ML d H1 H'/\Ca H' ys M'/\D3 H1 H' d (M'.take m) kvs)
   ⟨none,none,none,none,[],rfl,s01,esl,(AJ.refl _).x _,hw1,s1 _ _ ed,.nil,Nat.le_refl _,(fun q hq=>by cases hq),(fun z r hq=>by cases hq),(fun z z' r hq=>by cases hq),fun i hi=>by cases hi⟩ (fun m σ H' _ ⟨_,_,_,_,_,_,_,e,_⟩=>SqL.of e) ?_ ?_⟩
  ·rintro m y σ H2 hy ⟨o2,o3,o4,o5,kvs,rfl,s2,es2,g2,st2,rb⟩
   obtain ⟨i,ei,a,p,rfl,ea,ep⟩:=Ca.ix st2 hy
   have hm:m<M'.length:=(List.getElem?_eq_some_iff.mp ei).1
   refine ⟨a,_,rfl,SqT.of ea,rfl,_,_,rfl,_,_,rfl,_,_,rfl,_,_,rfl,rfl,?_⟩
   have ed2:=rb.dict
   have isd:IsD H2 d:=.inl ⟨kvs,.inl ed2⟩
   have lkv:=rb.len
   rw [List.length_take] at lkv
   have tk:M'.take (m+1)=M'.take m++[i]:=by rw [List.take_add_one,ei];rfl
   have nsd:sl≠d:=fun z=>by rw [z,ed2] at es2;cases es2
   refine ⟨_,rfl,d,rfl,isd,_,rfl,Nat.zero_le _,fun l0 hl0=>?_⟩
   have t3:=AJ.Ai (o:=.lst []) hl0
   have el3:(upd H2 l0 (.lst [])) l0=some (.lst []):=AD
   have ndl:d≠l0:=AS ed2 hl0
   have hl00:H1 l0=none:=by
    cases hq:H1 l0 with
    | none=>rfl
    | some o =>
     by_cases e:l0=d
     ·rw [e,ed2] at hl0;cases hl0
     ·have:=g2 _ _ e hq
      rw [hl0] at this
      cases this
   have rb3:=rb.same t3
   generalize upd H2 l0 (.lst [])=H3 at t3 el3 rb3 ⊢
   have s3:=s2.trans t3
   refine ⟨kvs,.inr i.1.2.1,rb3.dict,rfl,by omega,fun v hv=>?_,fun hv=>?_⟩
   ·obtain ⟨r,zs,hv2,er,w⟩:∃r zs,A7 kvs (.inr i.1.2.1)=some (.ref r)/\H3 r=some (.lst zs)/\EV H3 zs ((M'.take m).filter fun j=>decide (j.1.2.1=i.1.2.1)):=by
     rcases rb3.at i.1.2.1 with ⟨e,_⟩|h
     ·rw [hv] at e;cases e
     ·exact h
    rw [hv] at hv2
    cases hv2
    refine ⟨.inl ⟨rfl,_,SqL.of er⟩,_,rfl,_,rfl,_,rfl,Nat.le_of_ble_eq_true rfl,fun t ht=>?_⟩
    have t4:=AJ.Ai (o:=.tup [.int i.1.1,.int i.1.2.2,.ref p]) ht
    have et:(upd H3 t (.tup [.int i.1.1,.int i.1.2.2,.ref p])) t=some (.tup [.int i.1.1,.int i.1.2.2,.ref p]):=AD
    generalize upd H3 t (.tup [.int i.1.1,.int i.1.2.2,.ref p])=H4 at t4 et ⊢
    have er4:=t4 _ _ er
    have lz:zs.length≤1000:=by
     rw [(Am w).1]
     refine Nat.le_trans (List.length_filter_le _ _) ?_
     rw [List.length_take];omega
    have tp5:Tp H4 (upd H4 r (.lst (zs++[.ref t]))):=(Tp.refl H4).upd er4 fun xs=>by intro z;cases z
    have hr0:H1 r=none:=rb.new _ _ (Dm hv)
    have nrd:d≠r:=fun z=>by rw [←z,rb3.dict] at er;cases er
    have nrs:sl≠r:=AS esl hr0
    refine ⟨r,_,_,rfl,rfl,er4,by omega,_,_,_,_,kvs,rfl,(s3.trans t4).Gm (s01.free hr0),?_,(fun b o nb e=>by rw [AV (AS e hr0)];exact (t3.trans t4) _ _ (g2 b o nb e)),?_,?_⟩
    ·rw [AV nrs];exact (t3.trans t4) _ _ es2
    ·exact (st2.keep (t3.trans t4).tp).keep tp5
    ·rw [tk]
     exact rb3.longer hv er (by rw [AV nrd];exact t4 _ _ rb3.dict) AD (fun b ys nb e=>by rw [AV nb];exact t4 _ _ e) (t4.tp.trans tp5) ⟨t,p,rfl,tp5 _ _ et,tp5 _ _ ((t3.trans t4) _ _ ep)⟩
   ·have ed4:(upd H3 d (.dK (putK kvs (.inr i.1.2.1) (.ref l0)))) d=some (.dK (putK kvs (.inr i.1.2.1) (.ref l0))):=AD
    have kl4:∀{b:Addr} {zs:List V},H3 b=some (.lst zs)→(upd H3 d (.dK (putK kvs (.inr i.1.2.1) (.ref l0)))) b=some (.lst zs):=fun {b zs} e=>by rw [AV (fun z=>by rw [z,rb3.dict] at e;cases e)];exact e
    have tp4:Tp H3 (upd H3 d (.dK (putK kvs (.inr i.1.2.1) (.ref l0)))):=(Tp.refl H3).upd rb3.dict fun xs=>by intro z;cases z
    have s4:AJ H (upd H3 d (.dK (putK kvs (.inr i.1.2.1) (.ref l0)))):=s3.Gm hd
    have x4:∀b o,b≠d→H3 b=some o→(upd H3 d (.dK (putK kvs (.inr i.1.2.1) (.ref l0)))) b=some o:=fun b o nb e=>by rw [AV nb];exact e
    generalize upd H3 d (.dK (putK kvs (.inr i.1.2.1) (.ref l0)))=H4 at ed4 kl4 tp4 s4 x4 ⊢
    refine ⟨.inl ⟨rfl,_,SqL.of (kl4 el3)⟩,_,rfl,_,rfl,_,rfl,Nat.le_of_ble_eq_true rfl,fun t ht=>?_⟩
    have t5:=AJ.Ai (o:=.tup [.int i.1.1,.int i.1.2.2,.ref p]) ht
    have et:(upd H4 t (.tup [.int i.1.1,.int i.1.2.2,.ref p])) t=some (.tup [.int i.1.1,.int i.1.2.2,.ref p]):=AD
    generalize upd H4 t (.tup [.int i.1.1,.int i.1.2.2,.ref p])=H5 at t5 et ⊢
    have el5:=t5 _ _ (kl4 el3)
    have tp6:Tp H5 (upd H5 l0 (.lst [.ref t])):=(Tp.refl H5).upd el5 fun xs=>by intro z;cases z
    have nsl:sl≠l0:=AS esl hl00
    refine ⟨l0,_,_,rfl,rfl,el5,by simp;omega,_,_,_,_,putK kvs (.inr i.1.2.1) (.ref l0),rfl,(s4.trans t5).Gm (s01.free hl00),?_,?_,?_,?_⟩
    ·rw [List.nil_append,AV nsl];exact t5 _ _ (kl4 (t3 _ _ es2))
    ·exact fun b o nb e=>by rw [AV (AS e hl00)];exact t5 _ _ (x4 b o nb (t3 _ _ (g2 b o nb e)))
    ·exact (st2.keep (t3.tp.trans (tp4.trans t5.tp))).keep tp6
    ·rw [tk]
     exact rb.fresh hv hl00 hl0 (by rw [AV ndl];exact t5 _ _ ed4) AD (fun b ys e=>by rw [AV (AS e hl0)];exact t5 _ _ (kl4 (t3 _ _ e))) ((t3.tp.trans (tp4.trans t5.tp)).trans tp6) ⟨t,p,rfl,tp6 _ _ et,tp6 _ _ (t5.tp _ _ (tp4 _ _ (t3 _ _ ep)))⟩
  ·rintro σ H2 ⟨o2,o3,o4,o5,kvs,rfl,s2,es2,g2,st2,rb⟩
   rw [ly,List.take_of_length_le (Nat.le_refl _)] at rb
   exact ⟨_,rfl,k d _ M' kvs s2 hd pM tM { rb with new:=fun z r hq=>s01.free (rb.new z r hq) }⟩
def mx (i j:Int):Int:=if i<j then j else i
def mtI (i j:It):It:=(mx i.1 j.1,i.2.1,i.2.2-j.2.2)
def Bm (wi:Int) (i j:It):Bool:=decide (j.2.1=i.2.1/\i.1-wi≤j.1/\j.1≤i.1+wi)
def BH (wi:Int) (A B:List It):List It:=A.flatMap fun i=>(B.filter (Bm wi i)).map (mtI i)
theorem Mg {ns:List Int}{rs:List Key}(p:rs.Perm (Stk.once [] (ns.map Sum.inl))) (h:∀k∈ns,0≤k/\k<10):∃ps:List Int,rs=ps.map Sum.inl/\Hx ps:=by
 have mem:∀k∈rs,∃n∈ns,k=Sum.inl n:=fun k hk=>by
  have:=(Stk.HH k _ []).mp (p.mem_iff.mp hk)
  rcases this with h|h
  ·cases h
  ·obtain ⟨n,hn,rfl⟩:=List.mem_map.mp h
   exact ⟨n,hn,rfl⟩
 have nd:rs.Nodup:=p.nodup_iff.mpr (Stk.HF _ [] .nil)
 clear p
 induction rs with
 | nil=>exact ⟨[],rfl,.nil,fun k hk=>by cases hk⟩
 | cons r rs ih =>
  obtain ⟨n1,n2⟩:=List.nodup_cons.mp nd
  obtain ⟨ps,e,q1,q2⟩:=ih (fun k hk=>mem k (List.mem_cons_of_mem _ hk)) n2
  obtain ⟨n,hn,rfl⟩:=mem r List.mem_cons_self
  refine ⟨n::ps,by rw [e];rfl,List.nodup_cons.mpr ⟨fun z=>n1 (by rw [e];exact List.mem_map.mpr ⟨n,z,rfl⟩),q1⟩,fun k hk=>?_⟩
  rcases List.mem_cons.mp hk with rfl|hk
  ·exact h _ hn
  ·exact q2 k hk
def RJ:Sp:=fun vs H Q _=>∃(a b:Addr) (i j:It4),vs=[.ref a,.ref b]/\I4 H (.ref a) i/\R3 H (.ref b) j/\Hx i.2/\Hx j.2/\∀r H' ns,AJ H H'→I4 H' (.ref r) (mtI i.1 j.1,ns)→Hx ns→Q (.ref r) H'
theorem KH (T:Tx K mg ad):Ba P w K mg base CX0 1 ad.Bw ad.CP ["item", "other"] RJ:=by
 refine T.Bz.ok GS (fun vs H Q E h=>?_) (fun cdv A outer s H vs Q E hr h=>?_)
 ·obtain ⟨a,b,i,j,rfl,_⟩:=h
  rfl
 ·obtain ⟨a,b,i,j,rfl,⟨a',p,e0,ea,ep⟩,⟨b',q,e1,eb,eq⟩,ok1,ok2,k⟩:=h
  injection e0 with e0
  injection e1 with e1
  subst e0 e1
  have nd:=GS.nd
  refine ⟨_,(AF (AQ (i:=2) nd rfl (Or.inl rfl) (B6 Ht (by rfl) T.Eo PyProof.Rows.boot_tuple (AA (LA (K:=K) rfl (by rfl) T.Ck (by rfl) T.Jl (AG Et (AM (AK (K:=K)) (pv 0) AB (fun _ _=>rfl)) (AM (AK (K:=K)) (pv 1) AB (fun _ _=>rfl)))) AE)))
    (AH (AW (Ar (AA (Al (E3 rfl) (by rfl) T.GP PyProof.Rows.boot_max (AA (AM (AK (K:=K)) (pv 0) AB (fun _ _=>rfl)) (AA (AM (AK (K:=K)) (pv 1) AB (fun _ _=>rfl)) AE))) (AA (AM (AK (K:=K)) (pv 0) AB (fun _ _=>rfl)) (AA (AG CI (AM (AK (K:=K)) (pv 0) AB (fun _ _=>rfl)) (AM (AK (K:=K)) (pv 1) AB (fun _ _=>rfl))) (AA (pv 2) AE)))))))),?_⟩
  have sz:sizeLine=16777216:=sizeLine_eq
  have l1:=ok1.len
  have l2:=ok2.len
  have sb:scanBound=4096:=by rfl
  refine ⟨_,rfl,a,_,_,_,rfl,rfl,SqT.of ea,AI (j:=3) rfl,_,rfl,b,_,_,_,rfl,rfl,SqT.of eb,AI (j:=2) rfl,p,q,_,_,rfl,rfl,ep,eq,by rw [List.length_map,List.length_map];omega,fun c H1 s1 ec=>?_⟩
  have ek:i.2.map V.int++j.2.map V.int=((i.2++j.2).map (Sum.inl:Int→Key)).map kV:=by rw [List.map_map,←List.map_append];rfl
  rw [ek] at ec
  refine ⟨c,(i.2++j.2).map Sum.inl,rfl,SqT.of ec,.inl fun k hk=>(by obtain ⟨n,_,rfl⟩:=List.mem_map.mp hk;exact ⟨n,rfl⟩),by rw [List.length_map,List.length_append];omega,fun l rs hl pr _=>?_⟩
  obtain ⟨ps,er,okp⟩:=Mg pr fun k hk=>by
   rcases List.mem_append.mp hk with h|h
   ·exact ok1.2 k h
   ·exact ok2.2 k h
  have er2:rs.map kV=ps.map V.int:=by rw [er,List.map_map];rfl
  rw [er2]
  have s2:=AJ.Ai (o:=.lst (ps.map V.int)) hl
  have el:(upd H1 l (.lst (ps.map V.int))) l=some (.lst (ps.map V.int)):=AD
  generalize upd H1 l (.lst (ps.map V.int))=H2 at s2 el ⊢
  refine ⟨l,ps.map V.int,rfl,.inl ⟨SqL.of el,fun t ht=>?_⟩⟩
  have s3:=AJ.Ai (o:=.tup (ps.map V.int)) ht
  have et:(upd H2 t (.tup (ps.map V.int))) t=some (.tup (ps.map V.int)):=AD
  generalize upd H2 t (.tup (ps.map V.int))=H3 at s3 et ⊢
  have g:=s1.trans (s2.trans s3)
  have ea3:=g _ _ ea
  have eb3:=g _ _ eb
  refine ⟨_,rfl,a,_,_,_,rfl,rfl,SqT.of ea3,AI (j:=0) rfl,_,rfl,b,_,_,_,rfl,rfl,SqT.of eb3,AI (j:=0) rfl,_,_,rfl,_,rfl,a,_,_,_,rfl,rfl,SqT.of ea3,AI (j:=1) rfl,_,rfl,a,_,_,_,rfl,rfl,SqT.of ea3,AI (j:=2) rfl,_,rfl,b,_,_,_,rfl,rfl,SqT.of eb3,AI (j:=1) rfl,_,_,rfl,rfl,_,rfl,Nat.le_of_ble_eq_true rfl,fun r hr'=>?_⟩
  exact k r _ ps (g.upd hr') ⟨r,t,rfl,AD,(AJ.Ai hr') _ _ et⟩ okp
def MX:Sp:=fun vs H Q _=>∃(wi:Int) (ls l0 l1:Addr) (A B:List It4),vs=[.int wi,.ref ls]/\0≤wi/\H ls=some (.lst [.ref l0,.ref l1])/\Dd H l0 A/\Dd H l1 B/\MOk A/\MOk B/\A.length≤1000/\B.length≤1000 /\
 ∀r H' C,AJ H H'→H r=none→Dd H' r C→(C.map (·.1)).Perm (BH wi (A.map (·.1)) (B.map (·.1)))→MOk C→Q (.ref r) H'
theorem DK {p:It→Bool}:∀M:List It4,(M.filter fun i=>p i.1).map (·.1)=(M.map (·.1)).filter p
 | []=>rfl
 | i::M=>by
  rw [List.filter_cons,List.map_cons,List.filter_cons,←DK M]
  split <;> rfl
theorem OL (wi:Int) (i:It) (M:List It4):((M.filter fun j=>decide (j.1.2.1=i.2.1)).filter (inT (i.1-wi) (i.1+wi+1)))=M.filter fun j=>Bm wi i j.1:=by
 rw [List.filter_filter]
 refine List.filter_congr fun j _=>?_
 unfold inT Bm
 rw [Bool.eq_iff_iff]
 simp only [Bool.and_eq_true,decide_eq_true_eq]
 constructor
 ·rintro ⟨⟨a,b⟩,c⟩
  exact ⟨c,a,by omega⟩
 ·rintro ⟨c,a,b⟩
  exact ⟨⟨a,by omega⟩,c⟩
theorem Tup.filter {M:List It4}(h:Tup M) (p:It4→Bool):Tup (M.filter p):=by
 unfold Tup at h ⊢
 exact h.sublist (List.filter_sublist.map _)
theorem Ib {α β:Type}(f:α→List β) (l:List α) (x:α):(l++[x]).flatMap f=l.flatMap f++f x:=by
 rw [List.flatMap_append];simp
theorem Hq (T:Tx K mg ad):Ba P w K mg base CX0 3 ad.BR ad.Bl ["within", "streams"] MX:=by
 have G_by_keys:=LG (P:=P) (w:=w) (base:=base) T
 have G_between:=LH (P:=P) (w:=w) (base:=base) T
 have G_met_once:=KH (P:=P) (w:=w) (base:=base) T
 refine T.BV.ok E9 (fun vs H Q E h=>?_) (fun cdv A outer s H vs Q E hr h=>?_)
 ·obtain ⟨wi,ls,l0,l1,A,B,rfl,_⟩:=h
  rfl
 ·obtain ⟨wi,ls,l0,l1,MA,MB,rfl,w0,els,⟨xa,ea,sa⟩,sB,okA,okB,lA,lB,k⟩:=h
  have nd:=E9.nd
  refine ⟨_,(AF (AQ (i:=2) nd rfl (Or.inl rfl) (AN G_by_keys (hr.mono (by decide)) (by rfl) T.Mu T.Cd.kp T.NM .nil Ab (AA (AM (Ac (K:=K)) (pv 1) AB (fun _ _=>rfl)) AE)))
    (AF (AQ (i:=3) nd rfl (Or.inl rfl) (As AE))
    (AF (Cs PassesOwn.never rfl (Ay (K:=K) (AM (Ac (K:=K)) (pv 1) AB (fun _ _=>rfl))) (Au (i:=4) nd rfl (Or.inr rfl))
    (AF (AQ (i:=5) nd rfl (Or.inl rfl) (AN G_between (hr.mono (by decide)) (by rfl) T.Mv T.Ce.kp T.NN .nil Ab (AA (N7 hr.u1 (pv 2) (AM (AK (K:=K)) (pv 4) AB (fun _ _=>rfl)) (As AE) ⟨rfl,rfl,rfl,rfl⟩) (AA (AG CI (AM (AK (K:=K)) (pv 4) AB (fun _ _=>rfl)) (pv 0)) (AA (AG Ah (AG Ah (AM (AK (K:=K)) (pv 4) AB (fun _ _=>rfl)) (pv 0)) AB) AE)))))
    (AH (CD (CM (K:=K) F.plainAttrs_list F.slot_list_extend F.type_list_extend IV (pv 3) (AA (Bq (osc:=AR C1) [("item", 4)] rfl (Ay (K:=K) (pv 5)) rfl rfl (by decide +kernel) (by decide +kernel) (by decide +kernel) ⟨rfl,rfl,trivial⟩ rfl (by decide +kernel) (fun _ _ _ _=>C2) (fun _ _ _ _=>(AN G_met_once (hr.mono (by decide)) (by rfl) T.LM T.Bz.kp T.LZ .nil Ab (AA (pv 1) (AA (pv 0) AE))))) AE))))))
    (AH (AW (pv 3)))))),?_⟩
  have sz:sizeLine=16777216:=sizeLine_eq
  have lx:=sa.len
  refine ⟨_,rfl,ls,_,_,_,rfl,rfl,SqL.of els,AI (j:=1) rfl,l1,MB,rfl,sB,lB,fun d H1 M' kvs s1 hd pM tM rb=>?_⟩
  refine ⟨Nat.zero_le _,fun u hu=>?_⟩
  have s2:=AJ.Ai (o:=.lst []) hu
  have eu:(upd H1 u (.lst [])) u=some (.lst []):=AD
  have rb2:=rb.same s2
  generalize upd H1 u (.lst [])=H2 at s2 eu rb2 ⊢
  have s02:=s1.trans s2
  have hu0:H u=none:=s1.free hu
  have lM:M'.length≤1000:=by rw [pM.length_eq];exact lB
  have okM:MOk M':=fun i hi=>okB i (pM.mem_iff.mp hi)
  have nud:u≠d:=(AS rb.dict hu).symm
  have nur:∀z r,A7 kvs (.inr z)=some (.ref r)→r≠u:=fun z r hv e=>by
   obtain ⟨_,_,_,e1,e2,_⟩:=rb.row _ (Dm hv)
   cases e1
   rw [e,hu] at e2
   cases e2
  refine ⟨_,rfl,ls,_,_,_,rfl,rfl,SqL.of (s02 _ _ els),AI (j:=0) rfl,l0,rfl,⟨_,SqL.of (s02 _ _ ea)⟩,DJ (K:=K) (xs:=xa) (fun m σ H'=>∃(o4 o5:Option V) (acc:List V) (C:List It4),σ=[some (.int wi),some (.ref ls),some (.ref d),some (.ref u),o4,o5]/\ML u H2 H'/\H' u=some (.lst acc)/\Ca H' acc C/\(C.map (·.1)).Perm (BH wi ((MA.take m).map (·.1)) (MB.map (·.1)))/\MOk C/\acc.length≤m * 1000)
   ⟨none,none,[],[],rfl,(AJ.refl _).x _,eu,.nil,.nil,(fun i hi=>by cases hi),Nat.zero_le _⟩ (fun m σ H' _ ⟨_,_,_,_,_,s',_⟩=>SqL.of (s' _ _ (AS ea hu0) (s02 _ _ ea))) ?_ ?_⟩
  ·rintro m y σ H3 hy ⟨o4,o5,acc,C,rfl,s3,eu3,sC,pC,okC,lC⟩
   have t23:Tp H2 H3:=fun b ys e=>s3 _ _ (fun z=>by rw [z,eu] at e;cases e) e
   obtain ⟨i,ei,a,p,rfl,ea1,ep1⟩:=Ca.ix sa hy
   have hm:m<MA.length:=(List.getElem?_eq_some_iff.mp ei).1
   have t03:=s02.tp.trans t23
   have ea3:=t03 _ _ ea1
   have ep3:=t03 _ _ ep1
   have ed3:=s3 _ _ nud.symm rb2.dict
   have isd:IsD H3 d:=.inl ⟨kvs,.inl ed3⟩
   refine ⟨_,rfl,d,rfl,isd,_,rfl,a,_,_,_,rfl,rfl,SqT.of ea3,AI (j:=1) rfl,Nat.zero_le _,fun el hel=>?_⟩
   have t4:=AJ.Ai (o:=.lst []) hel
   have eel:(upd H3 el (.lst [])) el=some (.lst []):=AD
   generalize upd H3 el (.lst [])=H4 at t4 eel ⊢
   obtain ⟨r,xs,erw,er,hw⟩:∃(r:Addr) (xs:List V),(A7 kvs (.inr i.1.2.1)).getD (.ref el)=.ref r/\H4 r=some (.lst xs)/\EV H4 xs (M'.filter fun j=>decide (j.1.2.1=i.1.2.1)):=by
    rcases rb2.at i.1.2.1 with ⟨e1,e2⟩|⟨r,xs,e1,er,hw⟩
    ·exact ⟨el,[],by rw [e1];rfl,eel,by rw [e2];exact .nil⟩
    ·exact ⟨r,xs,by rw [e1];rfl,t4 _ _ (s3 _ _ (nur _ _ e1) er),hw.keep (t23.trans t4.tp)⟩
   refine ⟨_,Gb.k (k:=Sum.inr i.1.2.1) (t4 _ _ ed3),?_⟩
   rw [erw]
   have ea4:=t4 _ _ ea3
   refine ⟨_,rfl,a,_,_,_,rfl,rfl,SqT.of ea4,AI (j:=0) rfl,_,rfl,_,_,rfl,rfl,_,rfl,a,_,_,_,rfl,rfl,SqT.of ea4,AI (j:=0) rfl,_,rfl,_,_,rfl,rfl,_,_,rfl,rfl,r,xs,_,i.1.1-wi,i.1.1+wi+1,rfl,er,hw,tM.filter _,by omega,fun nl H5 ys t5 hnl enl hwn=>?_⟩
   rw [OL] at hwn
   have t35:=t4.trans t5
   have eu5:=t35 _ _ eu3
   have ly:=(Am hwn).1
   have ln:(M'.filter fun j=>Bm wi i.1 j.1).length≤1000:=Nat.le_trans (List.length_filter_le _ _) lM
   have i5:I4 H5 (.ref a) i:=⟨a,p,rfl,t35 _ _ ea3,t35 _ _ ep3⟩
   have oki:Hx i.2:=okA i (List.mem_of_getElem? ei)
   refine ⟨_,rfl,.inl ⟨rfl,_,SqL.of eu5⟩,_,rfl,nl,rfl,⟨_,SqL.of enl⟩,?_⟩
   refine Bu (K:=K) (xs:=ys) (fun j τ acc' H'=>(∃o,τ=[o,some (.ref a)])/\AJ H5 H'/\∃D:List It4,Ca H' acc' D/\D.map (·.1)=((M'.filter fun j=>Bm wi i.1 j.1).take j).map (fun j=>mtI i.1 j.1)/\MOk D) (by omega) ⟨⟨none,rfl⟩,AJ.refl _,[],.nil,rfl,fun i hi=>by cases hi⟩ (fun j τ acc' H' ⟨_,s',_⟩=>SqL.of (s' _ _ enl)) ?_ ?_
   ·rintro j y τ acc' H6 R1 hy' _ ⟨⟨o,rfl⟩,t6,D,sD,eD,okD⟩ k1
    obtain ⟨lq,fq⟩:=Am hwn
    have hj:=(List.getElem?_eq_some_iff.mp hy').1
    have ej:=List.getElem?_eq_getElem (show j<(M'.filter fun j=>Bm wi i.1 j.1).length by omega)
    have r3:=fq j _ _ hy' ej
    obtain ⟨b,pb,rfl,eb,epb⟩:=r3
    have okj:Hx ((M'.filter fun j=>Bm wi i.1 j.1)[j]).2:=okM _ (List.mem_filter.mp (List.getElem_mem _)).1
    refine ⟨_,rfl,_,rfl,a,b,i,_,rfl,i5.keep t6.tp,⟨b,pb,rfl,t6 _ _ eb,t6 _ _ epb⟩,oki,okj,fun r' H7 ns t7 i7 okn=>?_⟩
    refine k1 _ _ _ ⟨⟨_,rfl⟩,t6.trans t7,D++[(mtI i.1 ((M'.filter fun j=>Bm wi i.1 j.1)[j]).1,ns)],An (sD.keep t7.tp) (.cons i7 .nil),?_,fun x hx=>?_⟩
    ·rw [List.map_append,eD,List.take_add_one,ej]
     rw [List.map_append]
     rfl
    ·rcases List.mem_append.mp hx with hx|hx
     ·exact okD x hx
     ·rw [List.mem_singleton.mp hx];exact okn
   ·rintro τ acc' H6 la' ⟨_,t6,D,sD,eD,okD⟩ q hq
    rw [ly,List.take_of_length_le (Nat.le_refl _)] at eD
    have t7:=AJ.Ai (o:=.lst acc') hq
    have e7:(upd H6 q (.lst acc')) q=some (.lst acc'):=AD
    generalize upd H6 q (.lst acc')=H7 at t7 e7 ⊢
    have t57:=t6.trans t7
    have eu7:=t57 _ _ eu5
    have tp8:Tp H7 (upd H7 u (.lst (acc++acc'))):=(Tp.refl H7).upd eu7 fun xs=>by intro z;cases z
    refine ⟨u,q,_,_,rfl,rfl,eu7,e7,by omega,_,_,acc++acc',C++D,rfl,fun b o nb e=>by rw [AV nb];exact (t35.trans t57) _ _ (s3 _ _ nb e),AD,An ((sC.keep (t35.trans t57).tp).keep tp8) ((sD.keep t7.tp).keep tp8),?_,?_,by rw [List.length_append];omega⟩
    ·rw [List.take_add_one,ei]
     show ((C++D).map _).Perm (BH wi ((MA.take m++[i]).map _) _)
     unfold BH
     rw [List.map_append,List.map_append,List.map_singleton,Ib]
     refine .append pC ?_
     rw [eD]
     have h1:((M'.filter fun j=>Bm wi i.1 j.1).map fun j=>mtI i.1 j.1)=((M'.filter fun j=>Bm wi i.1 j.1).map (·.1)).map (mtI i.1):=by rw [List.map_map];rfl
     rw [h1,DK (p:=Bm wi i.1)]
     exact (((pM.map _).filter _).map _)
    ·intro x hx
     rcases List.mem_append.mp hx with hx|hx
     ·exact okC x hx
     ·exact okD x hx
  ·rintro σ H3 ⟨o4,o5,acc,C,rfl,s3,eu3,sC,pC,okC,lC⟩
   rw [lx,List.take_of_length_le (Nat.le_refl _)] at pC
   have sf:AJ H H3:=fun b o e=>s3 _ _ (AS e hu0) (s02 _ _ e)
   exact ⟨_,rfl,k u _ C sf hu0 ⟨acc,eu3,sC⟩ pC okC⟩
def NX (f g:Int) (i:It):It:=(i.1,i.2.1,i.2.2 * f+g)
def O6 (f g:Int) (i:It4):It4:=(NX f g i.1,i.2)
def Nd:Sp:=fun vs H Q _=>∃(p q:Addr) (n a:Str) (f g:Int) (i:It4),vs=[.ref p,.ref q]/\StA H p (.turn n a f g)/\(-100≤f/\f≤100)/\I4 H (.ref q) i/\∀r H',AJ H H'→I4 H' (.ref r) (O6 f g i)→Q (.ref r) H'
theorem Mh (T:Tx K mg ad):Ba P w K mg base CX0 1 ad.DO ad.Dz ["step", "item"] Nd:=by
 refine T.DR.ok IL (fun vs H Q E h=>?_) (fun cdv A outer s H vs Q E hr h=>?_)
 ·obtain ⟨p,q,n,a,f,g,i,rfl,_⟩:=h
  rfl
 ·obtain ⟨p,q,n,a,f,g,⟨⟨t,z,am⟩,ns⟩,rfl,e,⟨f0,f1⟩,⟨q',pl,eqq,eq,epl⟩,k⟩:=h
  injection eqq with eqq
  subst eqq
  have nd:=IL.nd
  refine ⟨_,(AH (AW (AG (HD (K:=K)) (AG (HD (K:=K)) (BB (D4 (K:=K)) (pv 1) CG (A9 AB)) (Ar (AA (AG Ah (AG BE (AM (AK (K:=K)) (pv 1) AB (fun _ _=>rfl)) (AM (AK (K:=K)) (pv 0) AB (fun _ _=>rfl))) (AM (AK (K:=K)) (pv 0) AB (fun _ _=>rfl))) AE))) (BB (D4 (K:=K)) (pv 1) (A9 AB) CG)))),?_⟩
  have e0:SqT K H p _:=SqT.of e
  have q0:SqT K H q _:=SqT.of eq
  refine ⟨_,rfl,_,rfl,q,_,rfl,q0,(by show ¬ (HT.sIx 4 0 none=0/\HT.sIx 4 4 (some 2)=4);decide),fun p1 hp1=>?_⟩
  have s1:AJ H (upd H p1 (.tup [V.int t,V.str z])):=(AJ.refl H).upd hp1
  refine ⟨_,rfl,q,_,_,_,rfl,rfl,SqT.of (s1 _ _ eq),AI (j:=2) rfl,_,rfl,p,_,_,_,rfl,rfl,SqT.of (s1 _ _ e),AI (j:=3) rfl,_,_,rfl,rfl,.inr ⟨by omega,by omega⟩,_,rfl,p,_,_,_,rfl,rfl,SqT.of (s1 _ _ e),AI (j:=4) rfl,_,_,rfl,rfl,Nat.le_of_ble_eq_true rfl,fun p2 hp2=>?_⟩
  have s2:=s1.upd (o:=.tup [V.int (am * f+g)]) hp2
  have n12:p1≠p2:=AS AD hp2
  refine ⟨p1,p2,[V.int t,V.str z],[V.int (am * f+g)],rfl,rfl,SqT.of (by rw [AV n12];exact AD),SqT.of AD,(by intro h;cases h),Nat.le_of_ble_eq_true rfl,(fun h=>by cases h),fun _ p3 hp3=>?_⟩
  have s3:=s2.upd (o:=.tup [V.int t,V.str z,V.int (am * f+g)]) hp3
  refine ⟨_,rfl,_,rfl,q,_,rfl,SqT.of (s3 _ _ eq),(by show ¬ (HT.sIx 4 0 (some 3)=0/\HT.sIx 4 4 none=4);decide),fun p4 hp4=>?_⟩
  have s4:=s3.upd (o:=.tup [.ref pl]) hp4
  have n34:p3≠p4:=AS AD hp4
  have e3:(upd (upd (upd (upd H p1 (.tup [V.int t,V.str z])) p2 (.tup [V.int (am * f+g)])) p3 (.tup [V.int t,V.str z,V.int (am * f+g)])) p4 (.tup [.ref pl])) p3=some (.tup [V.int t,V.str z,V.int (am * f+g)]):=by
   rw [AV n34];exact AD
  refine ⟨p3,p4,[V.int t,V.str z,V.int (am * f+g)],[.ref pl],rfl,rfl,SqT.of e3,SqT.of AD,(by intro h;cases h),Nat.le_of_ble_eq_true rfl,(fun h=>by cases h),fun _ p5 hp5=>?_⟩
  exact k p5 _ (s4.upd hp5) ⟨p5,pl,rfl,AD,(s4.upd hp5) _ _ epl⟩
def IS:Stp→List (List It4)→List It4
 | .only _ _ lo hi,[A]=>A.filter fun i=>decide (lo≤i.1.2.2/\i.1.2.2≤hi)
 | .turn _ _ f g,[A]=>A.map (O6 f g)
 | .both ..,[A,B]=>A++B
 | .gap ..,[A]=>A
 | .each ..,[A]=>A
 | _,_=>[]
def O9:Stp→Prop
 | .turn _ _ f _=>-100≤f/\f≤100
 | .join _ _ _ wi=>0≤wi
 | _=>True
def Hk (H:Hp) (rs:List V) (Ls:List (List It4)):Prop:=Paired (fun x L=>∃r,x=.ref r/\Dd H r L) rs Ls
theorem EG {α:Type}{p:α→Bool}{l:List α}{n:Nat}{x:α}(e:l[n]?=some x):(l.take (n+1)).filter p=(l.take n).filter p++(if p x=true then [x] else []):=by
 rw [List.take_add_one,e,List.filter_append]
 congr 1
 show [x].filter p=_
 rw [List.filter_cons]
 cases p x <;> rfl
theorem LC {α:Type}{l:List α}(h:l.length=1):∃x,l=[x]:=List.length_eq_one_iff.mp h
theorem GL {H:Hp}{rs:List V}{L:List It4}(h:Hk H rs [L]):∃r xs,rs=[.ref r]/\H r=some (.lst xs)/\Ca H xs L:=by
 cases h with
 | cons a b =>
  cases b
  obtain ⟨r,rfl,xs,e,w⟩:=a
  exact ⟨r,xs,rfl,e,w⟩
theorem QM {α:Type}{l:List α}(h:l.length=2):∃x y,l=[x,y]:=by
 match l,h with
 | [x,y],_=>exact ⟨x,y,rfl⟩
theorem NH {H:Hp}{rs:List V}{L M:List It4}(h:Hk H rs [L,M]):∃r r' xs xs',rs=[.ref r,.ref r']/\H r=some (.lst xs)/\H r'=some (.lst xs')/\Ca H xs L/\Ca H xs' M:=by
 cases h with
 | cons a b =>
  cases b with
  | cons b c =>
   cases c
   obtain ⟨r,rfl,xs,e,w⟩:=a
   obtain ⟨r',rfl,xs',e',w'⟩:=b
   exact ⟨r,r',xs,xs',rfl,e,e',w,w'⟩
def Nf:Sp:=fun vs H Q _=>∃(p ls:Addr) (s:Stp) (rs:List V) (Ls:List (List It4)),vs=[.ref p,.ref ls]/\StA H p s/\O9 s/\s.no≠0/\s.no≠4/\H ls=some (.lst rs)/\Hk H rs Ls/\Ls.length=s.BN.length/\(∀L∈Ls,L.length≤1000) /\
 ∀r H',AJ H H'→Dd H' r (IS s Ls)→Q (.ref r) H'
theorem Mi (T:Tx K mg ad):Ba P w K mg base CX0 2 ad.DP ad.D1 ["step", "streams"] Nf:=by
 have G_turned:=Mh (P:=P) (w:=w) (base:=base) T
 refine T.DS.ok IM (fun vs H Q E h=>?_) (fun cdv A outer s H vs Q E hr h=>?_)
 ·obtain ⟨p,ls,s,rs,Ls,rfl,_⟩:=h
  rfl
 ·obtain ⟨p,ls,st,rs,Ls,rfl,e,ok,n0,n4,els,cs,cl,cz,k⟩:=h
  have nd:=IM.nd
  refine ⟨_,(AF (Aq (AU A0 (AM (AK (K:=K)) (pv 0) AB (fun _ _=>rfl)) AO (AZ _))
    (AH (AW (Bq (osc:=AR Ec) [("step", 0)] rfl (Ay (K:=K) (AM (Ac (K:=K)) (pv 1) AB (fun _ _=>rfl))) rfl rfl (by decide +kernel) (by decide +kernel) (by decide +kernel) ⟨rfl,rfl,trivial⟩ rfl (by decide +kernel) (fun _ _ _ _=>Gd (J5 KC KC (AM (AK (K:=K)) (pv 1) AB (fun _ _=>rfl)) (AM (AK (K:=K)) (pv 0) AB (fun _ _=>rfl)) (AM (AK (K:=K)) (pv 1) AB (fun _ _=>rfl)))) (fun _ _ _ _=>(pv 0)))))
    Aa)
    (AF (Aq (AU A0 (AM (AK (K:=K)) (pv 0) AB (fun _ _=>rfl)) AO (AZ _))
    (AH (AW (Bq (osc:=AR Ec) [("step", 0)] rfl (Ay (K:=K) (AM (Ac (K:=K)) (pv 1) AB (fun _ _=>rfl))) rfl rfl (by decide +kernel) (by decide +kernel) (by decide +kernel) ⟨rfl,rfl,trivial⟩ rfl (by decide +kernel) (fun _ _ _ _=>C2) (fun _ _ _ _=>(AN G_turned (hr.mono (by decide)) (by rfl) T.OP T.DR.kp T.Ow .nil Ab (AA (pv 1) (AA (pv 0) AE)))))))
    Aa)
    (AF (Aq (AU A0 (AM (AK (K:=K)) (pv 0) AB (fun _ _=>rfl)) AO (AZ _))
    (AH (AW (AG JI (AM (Ac (K:=K)) (pv 1) AB (fun _ _=>rfl)) (AM (Ac (K:=K)) (pv 1) AB (fun _ _=>rfl)))))
    Aa)
    (AH (AW (AM (Ac (K:=K)) (pv 1) AB (fun _ _=>rfl))))))),?_⟩
  have sz:sizeLine=16777216:=sizeLine_eq
  obtain ⟨e0,e1,e2⟩:=e.word (K:=K)
  refine ⟨_,rfl,p,_,_,_,rfl,rfl,e0,e1,rfl,_,rfl,EW (i:=1) rfl (fun q1=>?_) fun q1=>?_⟩
  ·obtain ⟨n,a,lo,hi,rfl⟩:∃n a lo hi,st=.only n a lo hi:=by cases st <;> first|exact ⟨_,_,_,_,rfl⟩|cases q1
   obtain ⟨L,rfl⟩:=LC cl
   obtain ⟨r,xs,rfl,er,hw⟩:=GL cs
   have hL:=cz L (.head _)
   have hx:=hw.len
   refine ⟨_,rfl,ls,_,_,_,rfl,rfl,SqL.of els,AI (j:=0) rfl,r,rfl,⟨_,SqL.of er⟩,?_⟩
   refine D2 (K:=K) (xs:=xs) (fun m τ acc H'=>(∃o,τ=[o,some (.ref p)])/\H'=H/\Ca H acc ((L.take m).filter fun i=>decide (lo≤i.1.2.2/\i.1.2.2≤hi))) (by omega) ⟨⟨none,rfl⟩,rfl,.nil⟩ (fun m τ acc H' ⟨_,e,_⟩=>by rw [e];exact SqL.of er) ?_ ?_
   ·rintro m y τ acc H' R1 R0 hy _ ⟨⟨o,rfl⟩,rfl,hp⟩ k1 k0
    obtain ⟨⟨⟨t,z,am⟩,ns⟩,ei,b,pl,rfl,eb,epl⟩:=hw.ix hy
    have fs:=EG (p:=fun i:It4=>decide (lo≤i.1.2.2/\i.1.2.2≤hi)) ei
    refine ⟨_,rfl,p,_,_,_,rfl,rfl,e0,AI (j:=3) rfl,_,rfl,b,_,_,_,rfl,rfl,SqT.of eb,AI (j:=2) rfl,_,_,rfl,rfl,_,rfl,?_⟩
    have no:¬ (lo≤am/\am≤hi)→Ca H' acc ((L.take (m+1)).filter fun i=>decide (lo≤i.1.2.2/\i.1.2.2≤hi)):=fun q=>by
     rw [fs,if_neg (by rw [decide_eq_true_eq];exact q),List.append_nil]
     exact hp
    refine Hs (fun h1=>?_) fun h1=>⟨_,rfl,EE (k0 _ _ ⟨⟨_,rfl⟩,rfl,no fun q=>h1 q.1⟩)⟩
    refine ⟨_,rfl,p,_,_,_,rfl,rfl,e0,AI (j:=4) rfl,_,_,rfl,rfl,_,rfl,Hs (fun h2=>?_) fun h2=>k0 _ _ ⟨⟨_,rfl⟩,rfl,no fun q=>h2 q.2⟩⟩
    refine ⟨_,rfl,k1 _ _ _ ⟨⟨_,rfl⟩,rfl,?_⟩⟩
    rw [fs,if_pos (by rw [decide_eq_true_eq];exact ⟨h1,h2⟩)]
    exact An hp (.cons ⟨b,pl,rfl,eb,epl⟩ .nil)
   ·rintro τ acc H' la ⟨_,rfl,hp⟩ D hD
    rw [List.take_of_length_le (by omega)] at hp
    exact k D _ ((AJ.refl _).upd hD) ⟨_,AD,hp.keep ((AJ.refl _).upd hD).tp⟩
  ·refine ⟨_,rfl,p,_,_,_,rfl,rfl,e0,e1,rfl,_,rfl,EW (i:=2) rfl (fun q2=>?_) fun q2=>?_⟩
   ·obtain ⟨n,a,f,g,rfl⟩:∃n a f g,st=.turn n a f g:=by cases st <;> first|exact ⟨_,_,_,_,rfl⟩|cases q2
    obtain ⟨L,rfl⟩:=LC cl
    obtain ⟨r,xs,rfl,er,hw⟩:=GL cs
    have hL:=cz L (.head _)
    have hx:=hw.len
    refine ⟨_,rfl,ls,_,_,_,rfl,rfl,SqL.of els,AI (j:=0) rfl,r,rfl,⟨_,SqL.of er⟩,?_⟩
    refine Bu (K:=K) (xs:=xs) (fun m τ acc H'=>(∃o,τ=[o,some (.ref p)])/\AJ H H'/\Ca H' acc ((L.take m).map (O6 f g))) (by omega) ⟨⟨none,rfl⟩,AJ.refl _,.nil⟩ (fun m τ acc H' ⟨_,s,_⟩=>SqL.of (s _ _ er)) ?_ ?_
    ·rintro m y τ acc H' R1 hy _ ⟨⟨o,rfl⟩,s,hp⟩ k1
     obtain ⟨i,ei,b,pl,rfl,eb,epl⟩:=hw.ix hy
     refine ⟨_,rfl,_,rfl,p,b,n,a,f,g,i,rfl,s _ _ e,ok,⟨b,pl,rfl,s _ _ eb,s _ _ epl⟩,fun r2 H2 s2 e2=>k1 _ _ _ ⟨⟨_,rfl⟩,s.trans s2,?_⟩⟩
     rw [List.take_add_one,ei,List.map_append]
     exact An (hp.keep s2.tp) (.cons e2 .nil)
    ·rintro τ acc H' la ⟨_,s,hp⟩ D hD
     rw [List.take_of_length_le (by omega)] at hp
     exact k D _ (s.upd hD) ⟨_,AD,hp.keep ((AJ.refl _).upd hD).tp⟩
   ·refine ⟨_,rfl,p,_,_,_,rfl,rfl,e0,e1,rfl,_,rfl,EW (i:=3) rfl (fun q3=>?_) fun q3=>?_⟩
    ·obtain ⟨n,a,b,rfl⟩:∃n a b,st=.both n a b:=by cases st <;> first|exact ⟨_,_,_,rfl⟩|cases q3
     obtain ⟨L,M,rfl⟩:=QM cl
     obtain ⟨r,r',xs,xs',rfl,er,er',hw,hw'⟩:=NH cs
     have hL:=cz L (.head _)
     have hM:=cz M (.tail _ (.head _))
     have hx:=hw.len
     have hx':=hw'.len
     refine ⟨_,rfl,ls,_,_,_,rfl,rfl,SqL.of els,AI (j:=0) rfl,_,rfl,ls,_,_,_,rfl,rfl,SqL.of els,AI (j:=1) rfl,r,r',xs,xs',rfl,rfl,er,er',by omega,fun D hD=>k D _ ((AJ.refl _).upd hD) ⟨_,AD,?_⟩⟩
     show Ca _ _ (L++M)
     exact Ca.keep (An hw hw') ((AJ.refl _).upd hD).tp
    ·have n1:st.BN.length=1/\∀L,IS st [L]=L:=by
      cases st <;> first|exact ⟨rfl,fun _=>rfl⟩|exact absurd rfl n0|exact absurd rfl q1|exact absurd rfl q2|exact absurd rfl q3|exact absurd rfl n4
     obtain ⟨L,rfl⟩:=LC (cl.trans n1.1)
     obtain ⟨r,xs,rfl,er,hw⟩:=GL cs
     exact ⟨_,rfl,ls,_,_,_,rfl,rfl,SqL.of els,AI (j:=0) rfl,k r _ (AJ.refl _) (by rw [n1.2];exact ⟨_,er,hw⟩)⟩
def Bt (s:Stp) (L:Str→List It) (evs:List Ev):List It:=match s with
 | .take _ k=>FW k evs
 | .only _ a lo hi=>(L a).filter fun i=>decide (lo≤i.2.2/\i.2.2≤hi)
 | .turn _ a f g=>(L a).map (NX f g)
 | .both _ a b=>L a++L b
 | .join _ a b wi=>BH wi (L a) (L b)
 | .gap _ a _ _=>L a
 | .each _ a _ _ _=>L a
theorem Ic {α β:Type}(f g:α→List β) (h:∀x,(f x).Perm (g x)):∀l:List α,(l.flatMap f).Perm (l.flatMap g)
 | []=>.nil
 | x::r=>by
  rw [List.flatMap_cons,List.flatMap_cons]
  exact (h x).append (Ic f g h r)
theorem Km {wi:Int}{A A' B B':List It}(p:A.Perm A') (q:B.Perm B'):(BH wi A B).Perm (BH wi A' B') :=
 (p.flatMap_right _).trans (Ic _ _ (fun i=>(q.filter _).map _) A')
theorem GW {s:Stp}{L L':Str→List It}{evs:List Ev}(h:∀a∈s.BN,L a=L' a):Bt s L evs=Bt s L' evs:=by
 cases s with
 | take n k=>rfl
 | only n a lo hi=>show (L a).filter _=(L' a).filter _;rw [h a (.head _)]
 | turn n a f g=>show (L a).map _=(L' a).map _;rw [h a (.head _)]
 | both n a b=>show L a++L b=L' a++L' b;rw [h a (.head _),h b (.tail _ (.head _))]
 | join n a b wi=>show BH wi (L a) (L b)=BH wi (L' a) (L' b);rw [h a (.head _),h b (.tail _ (.head _))]
 | gap n a s m=>exact h a (.head _)
 | each n a s z d=>exact h a (.head _)
structure Dk (ss:List Stp):Prop where
 apart:∀(i i':Nat) s s',ss[i]?=some s→ss[i']?=some s'→s.nm=s'.nm→i=i'
 fed:∀(i:Nat) s a,ss[i]?=some s→a∈s.BN→∃(i':Nat) (s':Stp),i'<i/\ss[i']?=some s'/\s'.nm=a/\s'.tell=false
 ok:∀s∈ss,O9 s
theorem Dk.take {ss:List Stp}(h:Dk ss) (n:Nat):Dk (ss.take n):=by
 have g:∀{i:Nat} {s:Stp},(ss.take n)[i]?=some s→ss[i]?=some s:=fun {i s} e=>by
  rw [List.getElem?_take] at e
  split at e
  ·exact e
  ·cases e
 refine ⟨fun i i' s s' e e'=>h.apart i i' s s' (g e) (g e'),fun i s a e ha=>?_,fun s hs=>h.ok s (List.mem_of_mem_take hs)⟩
 obtain ⟨i',s',li,e',q⟩:=h.fed i s a (g e) ha
 refine ⟨i',s',li,?_,q⟩
 have hi:=(List.getElem?_eq_some_iff.mp e).1
 rw [List.length_take] at hi
 rw [List.getElem?_take,if_pos (by omega)]
 exact e'
def putN (bt:Str→List It) (n:Str) (L:List It):Str→List It:=fun a=>if a=n then L else bt a
theorem JG {ss:List Stp}(h:Dk ss) (evs:List Ev):∃L:Str→List It,∀s∈ss,L s.nm=Bt s L evs:=by
 have key:∀n≤ss.length,∃L:Str→List It,∀(i:Nat) s,i<n→ss[i]?=some s→L s.nm=Bt s L evs:=by
  intro n
  induction n with
  | zero=>exact fun _=>⟨fun _=>[],fun i s hi=>absurd hi (Nat.not_lt_zero _)⟩
  | succ n ih =>
   intro hn
   obtain ⟨L,hL⟩:=ih (by omega)
   have en:=List.getElem?_eq_getElem (show n<ss.length by omega)
   generalize ss[n]=t at en
   have old:∀(i:Nat) s,i<n→ss[i]?=some s→putN L t.nm (Bt t L evs) s.nm=L s.nm:=fun i s hi ei=>if_neg fun e=>by
    have:=h.apart i n s t ei en e
    omega
   have fe:∀(i:Nat) s,i≤n→ss[i]?=some s→∀a∈s.BN,L a=putN L t.nm (Bt t L evs) a:=fun i s hi ei a ha=>by
    obtain ⟨i',s',li,ei',rfl,_⟩:=h.fed i s a ei ha
    exact (old i' s' (by omega) ei').symm
   refine ⟨putN L t.nm (Bt t L evs),fun i s hi ei=>?_⟩
   by_cases e:i=n
   ·subst e
    rw [en] at ei
    cases ei
    rw [←GW (fe i t (Nat.le_refl _) en)]
    exact if_pos rfl
   ·rw [old i s (by omega) ei,hL i s (by omega) ei]
    exact GW (fe i s (by omega) ei)
 obtain ⟨L,hL⟩:=key ss.length (Nat.le_refl _)
 refine ⟨L,fun s hs=>?_⟩
 obtain ⟨i,hi⟩:=List.mem_iff_getElem?.mp hs
 exact hL i s (List.getElem?_eq_some_iff.mp hi).1 hi
def Cp (H:Hp) (ps:List V) (ss:List Stp):Prop:=Paired (fun x s=>∃a,x=.ref a/\StA H a s) ps ss
theorem Cp.keep {H H':Hp}{ps:List V}{ss:List Stp}(h:Cp H ps ss) (t:Tp H H'):Cp H' ps ss:=CN (fun x s ⟨a,e,q⟩=>⟨a,e,q.tp t⟩) h
theorem Cp.len {H:Hp}{ps:List V}{ss:List Stp}(h:Cp H ps ss):ps.length=ss.length:=(Am h).1
theorem Cp.at {H:Hp}{ps:List V}{ss:List Stp}(h:Cp H ps ss) {i:Nat}{x:V}(e:ps[i]?=some x):∃a s,x=.ref a/\ss[i]?=some s/\StA H a s:=by
 obtain ⟨l,f⟩:=Am h
 have hi:=(List.getElem?_eq_some_iff.mp e).1
 have e2:=List.getElem?_eq_getElem (show i<ss.length by omega)
 obtain ⟨a,r1,r2⟩:=f i x _ e e2
 exact ⟨a,_,r1,e2,r2⟩
def En (H:Hp) (kvs:List (Key×V)) (L:List It) (n:Str):Prop:=∃r M,A7 kvs (.inr n)=some (.ref r)/\Dd H r M/\(M.map (·.1)).Perm L/\MOk M
theorem En.same {H H':Hp}{kvs:List (Key×V)}{L:List It}{n:Str}(h:En H kvs L n) (s:AJ H H'):En H' kvs L n:=let ⟨r,M,v,m,p,o⟩:=h;⟨r,M,v,m.same s,p,o⟩
theorem Me {s:Stp}{Ms:List (List It4)}{L:Str→List It}{evs:List Ev}(h0:s.no≠0) (h4:s.no≠4) (hl:Paired (fun (M:List It4) a=>(M.map (·.1)).Perm (L a)) Ms s.BN):((IS s Ms).map (·.1)).Perm (Bt s L evs):=by
 cases s with
 | take n k=>exact absurd rfl h0
 | join n a b wi=>exact absurd rfl h4
 | only n a lo hi =>
  cases hl with|cons q r=>cases r;exact (List.Perm.of_eq (DK (p:=fun i=>decide (lo≤i.2.2/\i.2.2≤hi)) _)).trans (q.filter _)
 | turn n a f g =>
  cases hl with|cons q r =>
  cases r
  have:=q.map (NX f g)
  rw [List.map_map] at this
  show ((List.map (O6 f g) _).map _).Perm _
  rw [List.map_map]
  exact this
 | both n a b =>
  cases hl with|cons q r =>
  cases r with|cons q2 r =>
  cases r
  show (List.map _ (List.append _ _)).Perm (List.append _ _)
  rw [List.append_eq,List.map_append]
  exact q.append q2
 | gap n a s m=>cases hl with|cons q r=>cases r;exact q
 | each n a s z d=>cases hl with|cons q r=>cases r;exact q
theorem N9 {s:Stp}{Ms:List (List It4)}(h:∀M∈Ms,MOk M):MOk (IS s Ms):=by
 intro i hi
 unfold IS at hi
 split at hi
 ·exact h _ (.head _) i (List.mem_filter.mp hi).1
 ·obtain ⟨j,hj,rfl⟩:=List.mem_map.mp hi
  exact h _ (.head _) j hj
 ·rcases List.mem_append.mp hi with hi|hi
  ·exact h _ (.head _) i hi
  ·exact h _ (.tail _ (.head _)) i hi
 ·exact h _ (.head _) i hi
 ·exact h _ (.head _) i hi
 ·cases hi
def MW:Sp:=fun vs H Q _=>∃(lp le:Addr) (ps:List V) (ss:List Stp) (evs evs':List Ev) (L:Str→List It),vs=[.ref lp,.ref le]/\H lp=some (.lst ps)/\Cp H ps ss/\Dk ss/\ss.length≤100/\Hy H le evs/\evs.length≤10/\evs.Perm evs'/\(∀s∈ss,L s.nm=Bt s L evs'/\(L s.nm).length≤1000) /\
 ∀d H' kvs,AJ H H'→H d=none→H' d=some (.dK kvs)→(∀s∈ss,En H' kvs (L s.nm) s.nm)→Q (.ref d) H'
theorem LD (T:Tx K mg ad):Ba P w K mg base CX0 4 ad.BQ ad.Bk ["plan", "events"] MW:=by
 have G_feeders:=LF (P:=P) (w:=w) (base:=base) T
 have G_name_of:=HE (P:=P) (w:=w) (base:=base) T
 have G_taken_all:=JJ (P:=P) (w:=w) (base:=base) T
 have G_joined_all:=Hq (P:=P) (w:=w) (base:=base) T
 have G_passed:=Mi (P:=P) (w:=w) (base:=base) T
 refine T.BU.ok E8 (fun vs H Q E h=>?_) (fun cdv A outer s H vs Q E hr h=>?_)
 ·obtain ⟨lp,le,ps,ss,evs,evs',L,rfl,_⟩:=h
  rfl
 ·obtain ⟨lp,le,ps,ss,evs,evs',L,rfl,elp,pr,pok,lss,ev,lev,pev,hL,k⟩:=h
  have nd:=E8.nd
  refine ⟨_,(AF (AQ (i:=2) nd rfl (Or.inr rfl) HA)
    (AF (Cs PassesOwn.never rfl (Ay (K:=K) (pv 0)) (Au (i:=3) nd rfl (Or.inl rfl))
    (AF (Lm (i:=4) (osc:=AR C0) [("told", 2)] nd rfl (Or.inl rfl) rfl (Ay (K:=K) (AN G_feeders (hr.mono (by decide)) (by rfl) T.Mt T.Cc.kp T.NL .nil Ab (AA (pv 3) AE))) rfl rfl (by decide +kernel) (by decide +kernel) (by decide +kernel) ⟨rfl,rfl,trivial⟩ rfl (by decide +kernel) (fun _ _ _ _=>C2) (fun _ _ _ _=>(EB hr.u1 (pv 1) (pv 0) (fun _ _=>rfl))))
    (AH (EA (Aq (AU A0 (AM (AK (K:=K)) (pv 3) AB (fun _ _=>rfl)) AO (AZ _))
    (AH (Fe hr.u1 (pv 2) (AN G_name_of (hr.mono (by decide)) (by rfl) T.Ew T.BZ.kp T.E4 .nil Ab (AA (pv 3) AE)) (AN G_taken_all (hr.mono (by decide)) (by rfl) T.KS T.Bf.kp T.Ks .nil Ab (AA (pv 3) (AA (pv 1) AE))) rfl))
    (AH (Aq (AU A0 (AM (AK (K:=K)) (pv 3) AB (fun _ _=>rfl)) AO (AZ _))
    (AH (Fe hr.u1 (pv 2) (AN G_name_of (hr.mono (by decide)) (by rfl) T.Ew T.BZ.kp T.E4 .nil Ab (AA (pv 3) AE)) (AN G_joined_all (hr.mono (by decide)) (by rfl) T.JP T.BV.kp T.Je .nil Ab (AA (AM (AK (K:=K)) (pv 3) AB (fun _ _=>rfl)) (AA (pv 4) AE))) rfl))
    (AH (Fe hr.u1 (pv 2) (AN G_name_of (hr.mono (by decide)) (by rfl) T.Ew T.BZ.kp T.E4 .nil Ab (AA (pv 3) AE)) (AN G_passed (hr.mono (by decide)) (by rfl) T.OQ T.DS.kp T.Ox .nil Ab (AA (pv 3) (AA (pv 4) AE))) rfl)))))))))
    (AH (AW (pv 2))))),?_⟩
  have sz:sizeLine=16777216:=sizeLine_eq
  have lp':=pr.len
  refine fun d hd=>?_
  have s0:=AJ.Ai (o:=.dK []) hd
  have ed:(upd H d (.dK [])) d=some (.dK []):=AD
  generalize upd H d (.dK [])=H0 at s0 ed ⊢
  refine ⟨_,rfl,lp,rfl,⟨_,SqL.of (s0 _ _ elp)⟩,DJ (K:=K) (xs:=ps) (fun n σ H'=>∃(o3 o4:Option V) (kvs:List (Key×V)),σ=[some (.ref lp),some (.ref le),some (.ref d),o3,o4]/\AJ H H'/\H' d=some (.dK kvs)/\kvs.length≤n/\∀(i:Nat) s,i<n→ss[i]?=some s→En H' kvs (L s.nm) s.nm)
   ⟨none,none,[],rfl,s0,ed,Nat.le_refl _,fun i s hi=>absurd hi (Nat.not_lt_zero _)⟩ (fun n σ H' _ ⟨_,_,_,_,s',_⟩=>SqL.of (s' _ _ elp)) ?_ ?_⟩
  ·rintro n x σ H1 hx ⟨o3,o4,kvs,rfl,s1,ed1,lk,hh⟩
   obtain ⟨a,st,rfl,es,ea⟩:=pr.at hx
   have hn:n<ss.length:=(List.getElem?_eq_some_iff.mp es).1
   have ea1:StA H1 a st:=s1 _ _ ea
   refine ⟨_,rfl,a,st,rfl,ea1,fun lf Hf sf hlf elf=>⟨lf,rfl,⟨_,SqL.of elf⟩,?_⟩⟩
   have hf:∀(i:Nat) s,i<n→ss[i]?=some s→En Hf kvs (L s.nm) s.nm:=fun i s hi ei=>(hh i s hi ei).same sf
   have lf5:st.BN.length≤2:=by cases st <;> exact Nat.le_of_ble_eq_true rfl
   have ed2:=sf _ _ ed1
   refine Bu (K:=K) (xs:=st.BN.map V.str) (fun m τ acc H'=>(∃o,τ=[o,some (.ref d)])/\H'=Hf/\∃Ms,Hk Hf acc Ms/\Paired (fun (M:List It4) a=>(M.map (·.1)).Perm (L a)) Ms (st.BN.take m)/\∀M∈Ms,MOk M) (by rw [List.length_map];omega) ⟨⟨none,rfl⟩,rfl,[],.nil,.nil,fun M hM=>by cases hM⟩ (fun m τ acc H' ⟨_,ee,_⟩=>by rw [ee];exact SqL.of elf) ?_ ?_
   ·rintro m y τ acc H' R1 hy _ ⟨⟨o,rfl⟩,rfl,Ms,hc,hp,hok⟩ k1
    rw [List.getElem?_map] at hy
    obtain ⟨f,ef,rfl⟩:=Option.map_eq_some_iff.mp hy
    obtain ⟨i',s',li,ei',rfl,_⟩:=pok.fed n st f es (List.mem_of_getElem? ef)
    obtain ⟨r,M,v1,v2,v3,v4⟩:=hf i' s' li ei'
    refine ⟨_,rfl,_,rfl,d,.ref r,rfl,?_,k1 _ _ _ ⟨⟨_,rfl⟩,rfl,Ms++[M],An hc (.cons ⟨r,rfl,v2⟩ .nil),?_,fun N hN=>?_⟩⟩
    ·rw [←v1]
     exact Gb.k (k:=.inr s'.nm) ed2
    ·rw [List.take_add_one,ef]
     exact An hp (.cons v3 .nil)
    ·rcases List.mem_append.mp hN with h|h
     ·exact hok N h
     ·rw [List.mem_singleton.mp h];exact v4
   ·rintro τ acc2 H' la ⟨_,rfl,Ms,hc,hp,hok⟩ ls hls
    rw [List.length_map,List.take_of_length_le (Nat.le_refl _)] at hp
    have s4:=sf.upd (o:=.lst acc2) hls
    have sl4:=AJ.Ai (o:=.lst acc2) hls
    have els:(upd H' ls (.lst acc2)) ls=some (.lst acc2):=AD
    have hc4:Hk (upd H' ls (.lst acc2)) acc2 Ms:=CN (fun x L ⟨r,e1,e2⟩=>⟨r,e1,e2.same sl4⟩) hc
    generalize upd H' ls (.lst acc2)=H4 at s4 sl4 els hc4 ⊢
    have S4:=s1.trans s4
    have ea4:StA H4 a st:=ea1.tp s4.tp
    have ed4:=s4 _ _ ed1
    have len4:∀M∈Ms,M.length≤1000:=fun M hM=>by
     obtain ⟨j,hj⟩:=List.mem_iff_getElem?.mp hM
     obtain ⟨lq,fq⟩:=Am hp
     have hj2:=(List.getElem?_eq_some_iff.mp hj).1
     have ej:=List.getElem?_eq_getElem (show j<st.BN.length by omega)
     have pp:=fq j _ _ hj ej
     obtain ⟨i',s',li,ei',e',_⟩:=pok.fed n st _ es (List.getElem_mem _)
     have l1:=(hL s' (List.mem_of_getElem? ei')).2
     have l2:=pp.length_eq
     rw [List.length_map] at l2
     rw [l2,←e']
     exact l1
    have fin:∀{r:Addr} {M:List It4} {H5:Hp},AJ H4 H5→Dd H5 r M→(M.map (·.1)).Perm (L st.nm)→MOk M→(H5 d=some (.dK kvs)/\kvs.length+1≤sizeLine)/\(∃(o3 o4:Option V) (kvs':List (Key×V)),[some (V.ref lp),some (.ref le),some (.ref d),some (.ref a),some (.ref ls)]=[some (V.ref lp),some (.ref le),some (.ref d),o3,o4]/\AJ H (upd H5 d (.dK (putK kvs (.inr st.nm) (.ref r))))/\(upd H5 d (.dK (putK kvs (.inr st.nm) (.ref r)))) d=some (.dK kvs')/\kvs'.length≤n+1/\∀(i:Nat) s,i<n+1→ss[i]?=some s→En (upd H5 d (.dK (putK kvs (.inr st.nm) (.ref r)))) kvs' (L s.nm) s.nm):=fun {r M H5} s5 sr pm okM=>by
     refine ⟨⟨s5 _ _ ed4,by omega⟩,_,_,putK kvs (.inr st.nm) (.ref r),rfl,(S4.trans s5).Gm hd,AD,?_,fun i s hi ei=>?_⟩
     ·have:=Kb kvs (.inr st.nm) (.ref r);omega
     ·have tp:Tp H5 (upd H5 d (.dK (putK kvs (.inr st.nm) (.ref r)))):=(Tp.refl H5).upd (s5 _ _ ed4) fun xs=>by intro z;cases z
      have keep:∀{q:Addr} {N:List It4},Dd H5 q N→Dd (upd H5 d (.dK (putK kvs (.inr st.nm) (.ref r)))) q N:=fun {q N} ⟨xs,e,w⟩=>⟨xs,by rw [AV (fun z=>by rw [z,s5 _ _ ed4] at e;cases e)];exact e,w.keep tp⟩
      by_cases e:i=n
      ·subst e
       rw [es] at ei
       cases ei
       exact ⟨r,M,by rw [Gk,if_pos rfl],keep sr,pm,okM⟩
      ·obtain ⟨r',M',v1,v2,v3,v4⟩:=hh i s (by omega) ei
       refine ⟨r',M',?_,keep (v2.same (s4.trans s5)),v3,v4⟩
       rw [Gk,if_neg (fun z=>e (pok.apart i n s st ei es (Sum.inr.inj z)))]
       exact v1
    have memS:=List.mem_of_getElem? es
    obtain ⟨mS,lS⟩:=hL st memS
    refine Fu (fun σ' H'=>∃(o3 o4:Option V) (kvs:List (Key×V)),σ'=[some (.ref lp),some (.ref le),some (.ref d),o3,o4]/\AJ H H'/\H' d=some (.dK kvs)/\kvs.length≤n+1/\∀(i:Nat) s,i<n+1→ss[i]?=some s→En H' kvs (L s.nm) s.nm) ?_ (fun σ' H' h=>h)
    obtain ⟨e0,e1,e2⟩:=ea4.word (K:=K)
    refine ⟨_,rfl,a,_,_,_,rfl,rfl,e0,e1,rfl,_,rfl,EW (i:=0) rfl (fun q0=>?_) fun q0=>?_⟩
    ·obtain ⟨nn,kd,rfl⟩:∃nn kd,st=.take nn kd:=by cases st <;> first|exact ⟨_,_,rfl⟩|cases q0
     refine ⟨_,rfl,_,rfl,a,le,nn,kd,evs,rfl,ea4,ev.same S4,lev,fun r H5 M s5 hr5 sr em okM=>?_⟩
     have pM:(M.map (·.1)).Perm (L nn):=by
      rw [em]
      have mS:L nn=FW kd evs':=mS
      rw [mS]
      exact (pev.filter _).map _
     obtain ⟨⟨f1,f2⟩,f3⟩:=fin s5 sr pM okM
     exact ⟨_,rfl,_,rfl,a,_,rfl,ea4.tp s5.tp,d,_,rfl,Hz.k (k:=.inr nn) f1 f2,f3⟩
    ·refine ⟨_,rfl,a,_,_,_,rfl,rfl,e0,e1,rfl,_,rfl,EW (i:=4) rfl (fun q4=>?_) fun q4=>?_⟩
     ·obtain ⟨nn,f,g,wi,rfl⟩:∃nn f g wi,st=.join nn f g wi:=by cases st <;> first|exact ⟨_,_,_,_,rfl⟩|cases q4
      cases hp with|cons pA hp =>
      cases hp with|cons pB hp =>
      cases hp
      cases hc4 with|cons hA hc4 =>
      cases hc4 with|cons hB hc4 =>
      cases hc4
      obtain ⟨r0,rfl,sA⟩:=hA
      obtain ⟨r1,rfl,sB⟩:=hB
      have okw:0≤wi:=pok.ok _ memS
      refine ⟨_,rfl,a,_,_,_,rfl,rfl,e0,AI (j:=4) rfl,_,rfl,wi,ls,r0,r1,_,_,rfl,okw,els,sA,sB,hok _ (.head _),hok _ (.tail _ (.head _)),len4 _ (.head _),len4 _ (.tail _ (.head _)),fun r H5 C s5 hr5 sr pC okC=>?_⟩
      have pM:(C.map (·.1)).Perm (L nn):=by
       have mS:L nn=BH wi (L f) (L g):=mS
       rw [mS]
       exact pC.trans (Km pA pB)
      obtain ⟨⟨f1,f2⟩,f3⟩:=fin s5 sr pM okC
      exact ⟨_,rfl,_,rfl,a,_,rfl,ea4.tp s5.tp,d,_,rfl,Hz.k (k:=.inr nn) f1 f2,f3⟩
     ·refine ⟨_,rfl,_,rfl,a,ls,st,acc2,Ms,rfl,ea4,pok.ok _ memS,q0,q4,els,hc4,(Am hp).1,len4,fun r H5 s5 sr=>?_⟩
      have pM:((IS st Ms).map (·.1)).Perm (L st.nm):=by
       rw [mS]
       exact Me q0 q4 hp
      obtain ⟨⟨f1,f2⟩,f3⟩:=fin s5 sr pM (N9 hok)
      exact ⟨_,rfl,_,rfl,a,_,rfl,ea4.tp s5.tp,d,_,rfl,Hz.k (k:=.inr st.nm) f1 f2,f3⟩
  ·rintro σ H1 ⟨o3,o4,kvs,rfl,s1,ed1,lk,hh⟩
   refine ⟨_,rfl,k d _ kvs s1 hd ed1 fun s hs=>?_⟩
   obtain ⟨i,hi⟩:=List.mem_iff_getElem?.mp hs
   exact hh i s (by rw [lp'];exact (List.getElem?_eq_some_iff.mp hi).1) hi
theorem Ef {α β γ:Type}{F:α→γ→Prop}{f:β→γ}{as:List α}{bs:List β}(h:Paired (fun a b=>F a (f b)) as bs):Paired F as (bs.map f):=by
 induction h with
 | nil=>exact .nil
 | cons h1 _ ih=>exact .cons h1 ih
theorem FA {α β γ:Type}{F:α→γ→Prop}{f:β→γ}{as:List α}:∀{bs:List β},Paired F as (bs.map f)→Paired (fun a b=>F a (f b)) as bs:=by
 induction as with
 | nil =>
  intro bs h
  cases bs with
  | nil=>exact .nil
  | cons b bs=>cases h
 | cons a as ih =>
  intro bs h
  cases bs with
  | nil=>cases h
  | cons b bs=>cases h with|cons h1 h2=>exact .cons h1 (ih h2)
def PK:Sp:=fun vs H Q _=>∃(lp:Addr) (ps:List V) (ss:List Stp) (i:Nat) (s:Stp),vs=[.ref lp,.str s.nm]/\H lp=some (.lst ps)/\Cp H ps ss/\Dk ss/\ss.length≤100/\ss[i]?=some s/\∀H',AJ H H'→Q (.int (i:Int)) H'
theorem KG (T:Tx K mg ad):Ba P w K mg base CX0 2 ad.Bv ad.CO ["plan", "name"] PK:=by
 have G_name_of:=HE (P:=P) (w:=w) (base:=base) T
 refine T.By.ok GR (fun vs H Q E h=>?_) (fun cdv A outer s H vs Q E hr h=>?_)
 ·obtain ⟨lp,ps,ss,i,s,rfl,_⟩:=h
  rfl
 ·obtain ⟨lp,ps,ss,i,st,rfl,el,pr,pok,lss,ei,k⟩:=h
  have nd:=GR.nd
  refine ⟨_,(AH (AW (CM (K:=K) F.plainAttrs_list F.slot_list_index F.type_list_index Mp (Bq (osc:=AR D6) [] rfl (Ay (K:=K) (pv 0)) rfl rfl (by decide +kernel) (by decide +kernel) (by decide +kernel) trivial rfl (by decide +kernel) (fun _ _ _ _=>C2) (fun _ _ _ _=>(AN G_name_of (hr.mono (by decide)) (by rfl) T.Ew T.BZ.kp T.E4 .nil Ab (AA (pv 0) AE)))) (AA (pv 1) AE)))),?_⟩
  have sz:sizeLine=16777216:=sizeLine_eq
  have lps:=pr.len
  refine ⟨_,rfl,lp,rfl,⟨_,SqL.of el⟩,?_⟩
  refine Bu (K:=K) (xs:=ps) (fun m τ acc H'=>(∃o,τ=[o])/\H'=H/\acc=((ss.take m).map Stp.nm).map V.str) (by omega) ⟨⟨none,rfl⟩,rfl,rfl⟩ (fun m τ acc H' ⟨_,e,_⟩=>by rw [e];exact SqL.of el) ?_ ?_
  ·rintro m y τ acc H' R1 hy _ ⟨⟨o,rfl⟩,rfl,rfl⟩ k1
   obtain ⟨a,st',rfl,es,ea⟩:=pr.at hy
   refine ⟨_,rfl,a,st',rfl,ea,k1 _ _ _ ⟨⟨_,rfl⟩,rfl,?_⟩⟩
   rw [List.take_add_one,es,List.map_append,List.map_append]
   rfl
  ·rintro τ acc H' _ ⟨_,rfl,rfl⟩ D hD
   rw [lps,List.take_of_length_le (Nat.le_refl _)]
   have e1:=AJ.Ai (o:=.lst ((ss.map Stp.nm).map V.str)) hD
   refine ⟨.inl ⟨rfl,_,SqL.of AD⟩,_,rfl,D,ss.map Stp.nm,st.nm,i,rfl,rfl,SqL.of AD,by rw [List.getElem?_map,ei];rfl,fun m hm e=>?_,k _ e1⟩
   rw [List.getElem?_map] at e
   obtain ⟨s',e2,e3⟩:=Option.map_eq_some_iff.mp e
   have:=pok.apart m i s' st e2 ei e3
   omega
def SS (H:Hp) (r:Addr) (L:List It):Prop:=∃(xs:List V) (L':List It),H r=some (.lst xs)/\Rws H xs (L'.map itK)/\L'.Perm L/\Sd (L'.map itK)
def PL:Sp:=fun vs H Q _=>∃(lp le:Addr) (ps:List V) (ss:List Stp) (evs evs':List Ev) (L:Str→List It) (i:Nat) (s:Stp),vs=[.ref lp,.str s.nm,.ref le]/\H lp=some (.lst ps)/\Cp H ps ss/\Dk ss/\ss.length≤100/\Hy H le evs/\evs.length≤10/\evs.Perm evs'/\(∀s∈ss,L s.nm=Bt s L evs'/\(L s.nm).length≤1000)/\ss[i]?=some s /\
 ∀r H',AJ H H'→H r=none→SS H' r (L s.nm)→Q (.ref r) H'
theorem KI (T:Tx K mg ad):Ba P w K mg base CX0 5 ad.Bx ad.CQ ["plan", "name", "events"] PL:=by
 have G_place_of:=KG (P:=P) (w:=w) (base:=base) T
 have G_streams_of:=LD (P:=P) (w:=w) (base:=base) T
 refine T.Bh.ok GU (fun vs H Q E h=>?_) (fun cdv A outer s H vs Q E hr h=>?_)
 ·obtain ⟨lp,le,ps,ss,evs,evs',L,i,s,rfl,_⟩:=h
  rfl
 ·obtain ⟨lp,le,ps,ss,evs,evs',L,i,st,rfl,elp,pr,pok,lss,ev,lev,pev,hL,ei,k⟩:=h
  have nd:=GU.nd
  refine ⟨_,(AF (AQ (i:=3) nd rfl (Or.inl rfl) (AN G_streams_of (hr.mono (by decide)) (by rfl) T.JO T.BU.kp T.Jd .nil Ab (AA (BB (Ea (K:=K)) (pv 0) CG (A9 (AG Ah (AN G_place_of (hr.mono (by decide)) (by rfl) T.LL T.By.kp T.LY .nil Ab (AA (pv 0) (AA (pv 1) AE))) AB))) (AA (pv 2) AE))))
    (AH (AW (Al (Fw (K:=K)) (by rfl) T.Ck PyProof.Rows.boot_sorted (AA (Bq (osc:=AR D7) [] rfl (Ay (K:=K) (EB hr.u1 (pv 3) (pv 1) (fun _ _=>rfl))) rfl rfl (by decide +kernel) (by decide +kernel) (by decide +kernel) trivial rfl (by decide +kernel) (fun _ _ _ _=>C2) (fun _ _ _ _=>(BB (D4 (K:=K)) (pv 0) CG (A9 AB)))) AE))))),?_⟩
  have sz:sizeLine=16777216:=sizeLine_eq
  have hi:=(List.getElem?_eq_some_iff.mp ei).1
  have lps:=pr.len
  refine ⟨_,rfl,_,rfl,_,rfl,lp,ps,ss,i,st,rfl,elp,pr,pok,lss,ei,fun H1 s1=>⟨_,_,rfl,rfl,?_⟩⟩
  refine ⟨_,rfl,lp,ps,rfl,SqL.of (s1 _ _ elp),fun sl hsl=>?_⟩
  have ecut:EI ps none (some ((i:Int)+1))=ps.take (i+1):=by
   unfold EI
   have e1:HT.sIx ps.length ps.length (some ((i:Int)+1))=min (i+1) ps.length:=by
    have:=HT.Er ps.length ps.length (i+1)
    rwa [Int.natCast_add,Int.natCast_one] at this
   rw [e1]
   show (ps.drop 0).take (min (i+1) ps.length-0)=_
   rw [List.drop_zero,Nat.sub_zero,Nat.min_eq_left (by omega)]
  rw [ecut]
  have s2:=AJ.Ai (o:=.lst (ps.take (i+1))) hsl
  have esl:(upd H1 sl (.lst (ps.take (i+1)))) sl=some (.lst (ps.take (i+1))):=AD
  generalize upd H1 sl (.lst (ps.take (i+1)))=H2 at s2 esl ⊢
  have s12:=s1.trans s2
  refine ⟨_,rfl,sl,le,ps.take (i+1),ss.take (i+1),evs,evs',L,rfl,esl,DY _ (pr.keep s12.tp),pok.take _,by rw [List.length_take];omega,ev.same s12,lev,pev,fun s hs=>hL s (List.mem_of_mem_take hs),fun d H3 kvs s3 hd ed3 hh=>?_⟩
  have memS:st∈ss.take (i+1):=List.mem_iff_getElem?.mpr ⟨i,by rw [List.getElem?_take,if_pos (by omega)];exact ei⟩
  obtain ⟨r,M,v1,⟨xs,er,hw⟩,pM,okM⟩:=hh st memS
  have lM:=pM.length_eq
  have lL:=(hL st (List.mem_of_getElem? ei)).2
  rw [List.length_map] at lM
  have lx:=hw.len
  refine ⟨_,rfl,_,rfl,d,.ref r,rfl,by rw [←v1];exact Gb.k (k:=.inr st.nm) ed3,r,rfl,⟨_,SqL.of er⟩,?_⟩
  refine Bu (K:=K) (xs:=xs) (fun m τ acc H'=>(∃o,τ=[o])/\AJ H3 H'/\Rws H' acc (((M.take m).map (·.1)).map itK)) (by omega) ⟨⟨none,rfl⟩,AJ.refl _,DV _⟩ (fun m τ acc H' ⟨_,s,_⟩=>SqL.of (s _ _ er)) ?_ ?_
  ·rintro m y τ acc H4 R1 hy _ ⟨⟨o,rfl⟩,s4,hp⟩ k1
   obtain ⟨x,ex,b,pl,rfl,eb,epl⟩:=hw.ix hy
   refine ⟨_,rfl,_,rfl,b,_,rfl,SqT.of (s4 _ _ eb),(by show ¬ (HT.sIx 4 0 none=0/\HT.sIx 4 4 (some 3)=4);decide),fun p1 hp1=>k1 _ _ _ ⟨⟨_,rfl⟩,s4.upd hp1,?_⟩⟩
   rw [List.take_add_one,ex,List.map_append,List.map_append]
   exact (hp.keep (AJ.Ai hp1).tp).snoc (ks:=itK x.1) AD
  ·rintro τ acc H4 la ⟨_,s4,hp⟩ D hD
   rw [lx,List.take_of_length_le (Nat.le_refl _)] at hp
   have t5:=AJ.Ai (o:=.lst acc) hD
   have eD:(upd H4 D (.lst acc)) D=some (.lst acc):=AD
   generalize upd H4 D (.lst acc)=H5 at t5 eD ⊢
   have hp5:=hp.keep t5.tp
   have so:C4 K H5 acc ((M.map (·.1)).map itK):=hp5.sorts (sh:=[true,false,true]) (by decide) fun ks hk=>by
    obtain ⟨x,_,rfl⟩:=List.mem_map.mp hk
    rfl
   refine ⟨D,acc,_,rfl,SqL.of eD,so,fun q qs hq pq sq=>?_⟩
   obtain ⟨L',pL,hw',ek⟩:=Dh (F:=fun x (i:It)=>∃a,x=.ref a/\H5 a=some (.tup ((itK i).map kV))) (f:=itK) (FA hp5) pq
   rw [←ek] at sq
   have t6:=AJ.Ai (o:=.lst (qs.map (·.1))) hq
   refine k q _ (s12.trans (s3.trans (s4.trans (t5.trans t6)))) ((s12.trans (s3.trans (s4.trans t5))).free hq) ⟨_,L',AD,?_,pL.trans pM,sq⟩
   exact Rws.keep (Ef hw') t6.tp
theorem FR (wi:Int) (B:List It):∀A:List It,(BH wi A B).length≤A.length * B.length
 | []=>Nat.zero_le _
 | i::A=>by
  have ih:=FR wi B A
  unfold BH at ih ⊢
  rw [List.flatMap_cons,List.length_append,List.length_map,List.length_cons,Nat.add_mul]
  have:=List.length_filter_le (Bm wi i) B
  omega
def Ng (n:Nat):Sp:=fun vs H Q _=>∃(lp le:Addr) (ps:List V) (ss:List Stp) (evs:List Ev) (L:Str→List It) (i:Nat) (s:Stp),vs=[.ref lp,.str s.nm,.ref le]/\H lp=some (.lst ps)/\Cp H ps ss/\Dk ss/\ss.length≤100/\Hy H le evs/\evs.length≤10/\(∀s∈ss,L s.nm=Bt s L evs/\(L s.nm).length≤1000)/\ss[i]?=some s/\s.tell=false/\i<n /\
 ∀r H',AJ H H'→H r=none→QJ H' r (L s.nm)→Q (.ref r) H'
theorem Ml (T:Tx K mg ad):∀n:Nat,Ba P w K mg base CX0 (n+1) ad.DM ad.Dx ["_law_plan", "_law_name", "_law_events_here"] (Ng n):=by
 intro n
 induction n with
 | zero =>
  refine T.Br.ok F3 (fun vs H Q E h=>?_) (fun cdv A outer s H vs Q E hr h=>?_)
  ·obtain ⟨lp,le,ps,ss,evs,L,i,s,rfl,_⟩:=h
   rfl
  ·obtain ⟨lp,le,ps,ss,evs,L,i,s,rfl,_,_,_,_,_,_,_,_,_,hi,_⟩:=h
   exact absurd hi (Nat.not_lt_zero _)
 | succ n ih =>
  have G_uitems:=ih
  refine T.Br.ok F3 (fun vs H Q E h=>?_) (fun cdv A outer s H vs Q E hr h=>?_)
  ·obtain ⟨lp,le,ps,ss,evs,L,i,s,rfl,_⟩:=h
   rfl
  ·obtain ⟨lp,le,ps,ss,evs,L,i,st,rfl,elp,pr,pok,lss,ev,lev,hL,ei,ht,hi,k⟩:=h
   have nd:=F3.nd
   refine ⟨_,(AF (AQ (i:=3) nd rfl (Or.inr rfl) (AM (Ac (K:=K)) (Bq (osc:=AR DG) [("_law_name", 1)] rfl (Ay (K:=K) (pv 0)) rfl rfl (by decide +kernel) (by decide +kernel) (by decide +kernel) ⟨rfl,rfl,trivial⟩ rfl (by decide +kernel) (fun _ _ _ _=>Gd (AU A0 (AM (AK (K:=K)) (pv 0) AB (fun _ _=>rfl)) (pv 1) (AZ _))) (fun _ _ _ _=>(pv 0))) AB (fun _ _=>rfl)))
     (AF (Aq (AU A0 (AM (AK (K:=K)) (pv 3) AB (fun _ _=>rfl)) AO (AZ _))
     (AH (AW (Bq (osc:=AR DG) [("_law_step_here", 3)] rfl (Ay (K:=K) (pv 2)) rfl rfl (by decide +kernel) (by decide +kernel) (by decide +kernel) ⟨rfl,rfl,trivial⟩ rfl (by decide +kernel) (fun _ _ _ _=>Gd (AU A0 (AM (AK (K:=K)) (pv 0) AB (fun _ _=>rfl)) (AM (AK (K:=K)) (pv 1) AB (fun _ _=>rfl)) (AZ _))) (fun _ _ _ _=>(Ar (AA (AM (AK (K:=K)) (pv 0) AB (fun _ _=>rfl)) (AA (AM (AK (K:=K)) (pv 0) AB (fun _ _=>rfl)) (AA (AM (AK (K:=K)) (pv 0) AB (fun _ _=>rfl)) AE))))))))
     Aa)
     (AF (AQ (i:=4) nd rfl (Or.inl rfl) (AN G_uitems (hr.mono (by omega)) (by rfl) T.HK T.Br.kp T.Hd .nil Ab (AA (pv 0) (AA (AM (AK (K:=K)) (pv 3) AB (fun _ _=>rfl)) (AA (pv 2) AE)))))
     (AF (Aq (AU A0 (AM (AK (K:=K)) (pv 3) AB (fun _ _=>rfl)) AO (AZ _))
     (AH (AW (Bq (osc:=AR DG) [("_law_step_here", 3)] rfl (Ay (K:=K) (pv 4)) rfl rfl (by decide +kernel) (by decide +kernel) (by decide +kernel) ⟨rfl,rfl,trivial⟩ rfl (by decide +kernel) (fun _ _ _ _=>Gd (J5 KC KC (AM (AK (K:=K)) (pv 1) AB (fun _ _=>rfl)) (AM (AK (K:=K)) (pv 0) AB (fun _ _=>rfl)) (AM (AK (K:=K)) (pv 1) AB (fun _ _=>rfl)))) (fun _ _ _ _=>(pv 0)))))
     Aa)
     (AF (Aq (AU A0 (AM (AK (K:=K)) (pv 3) AB (fun _ _=>rfl)) AO (AZ _))
     (AH (AW (N8 (osc:=AR DG) [("_law_step_here", 3)] rfl (Ay (K:=K) (pv 4)) rfl rfl (by decide +kernel) (by decide +kernel) (by decide +kernel) ⟨rfl,rfl,trivial⟩ rfl rfl rfl (by decide +kernel) (fun _ _ _ _=>C2) (fun _ _ _ _=>(Ar (AA (pv 0) (AA (pv 1) (AA (AG Ah (AG BE (pv 2) (AM (AK (K:=K)) (pv 3) AB (fun _ _=>rfl))) (AM (AK (K:=K)) (pv 3) AB (fun _ _=>rfl))) AE))))))))
     Aa)
     (AF (AQ (i:=5) nd rfl (Or.inl rfl) (AN G_uitems (hr.mono (by omega)) (by rfl) T.HK T.Br.kp T.Hd .nil Ab (AA (pv 0) (AA (AM (AK (K:=K)) (pv 3) AB (fun _ _=>rfl)) (AA (pv 2) AE)))))
     (AF (Aq (AU A0 (AM (AK (K:=K)) (pv 3) AB (fun _ _=>rfl)) AO (AZ _))
     (AH (AW (AG JI (pv 4) (pv 5))))
     Aa)
     (AF (AQ (i:=6) nd rfl (Or.inl rfl) (As AE))
     (AF (Cs PassesOwn.never rfl (Ay (K:=K) (pv 4)) (G9 rfl (BA (Au (i:=7) nd rfl (Or.inl rfl)) (BA (Au (i:=8) nd rfl (Or.inl rfl)) (BA (Au (i:=9) nd rfl (Or.inl rfl)) Ff))))
     (AH (Cs PassesOwn.never rfl (Ay (K:=K) (pv 5)) (Au (i:=10) nd rfl (Or.inl rfl))
     (AH (Aq (PW.pt (GA (AU A0 (AM (AK (K:=K)) (pv 10) AB (fun _ _=>rfl)) (pv 8) (AZ _)) (Es (AU KC (AG CI (Al (E3 rfl) (by rfl) T.GP PyProof.Rows.boot_max (AA (pv 7) (AA (AM (AK (K:=K)) (pv 10) AB (fun _ _=>rfl)) AE))) (Al (DC rfl) (by rfl) T.E6 PyProof.Rows.boot_min (AA (pv 7) (AA (AM (AK (K:=K)) (pv 10) AB (fun _ _=>rfl)) AE)))) (AM (AK (K:=K)) (pv 3) AB (fun _ _=>rfl)) (AZ _)))))
     (AH (CD (CM (K:=K) F.plainAttrs_list F.slot_list_append F.type_list_append Bi (pv 6) (AA (Ar (AA (Al (E3 rfl) (by rfl) T.GP PyProof.Rows.boot_max (AA (pv 7) (AA (AM (AK (K:=K)) (pv 10) AB (fun _ _=>rfl)) AE))) (AA (pv 8) (AA (AG CI (pv 9) (AM (AK (K:=K)) (pv 10) AB (fun _ _=>rfl))) AE)))) AE))))
     Aa)))))
     (AH (AW (pv 6)))))))))))),?_⟩
   have sz:sizeLine=16777216:=sizeLine_eq
   have lps:=pr.len
   have hi2:=(List.getElem?_eq_some_iff.mp ei).1
   obtain ⟨a,ex,ea⟩:∃a,ps[i]?=some (.ref a)/\StA H a st:=by
    have e:=List.getElem?_eq_getElem (show i<ps.length by omega)
    obtain ⟨a,s',e1,e2,e3⟩:=pr.at e
    rw [ei] at e2
    cases e2
    exact ⟨a,by rw [e,e1],e3⟩
   refine ⟨_,rfl,lp,rfl,⟨_,SqL.of elp⟩,?_⟩
   refine D2 (K:=K) (xs:=ps) (fun m τ acc H'=>(∃o,τ=[o,some (.str st.nm)])/\H'=H/\(m≤i→acc=[])/\(i<m→acc=[.ref a])) (by omega) ⟨⟨none,rfl⟩,rfl,fun _=>rfl,fun h=>absurd h (Nat.not_lt_zero _)⟩ (fun m τ acc H' ⟨_,e,_⟩=>by rw [e];exact SqL.of elp) ?_ ?_
   ·rintro m y τ acc H' R1 R0 hy _ ⟨⟨o,rfl⟩,rfl,a1,a2⟩ k1 k0
    obtain ⟨b,s',rfl,es,eb⟩:=pr.at hy
    obtain ⟨b0,b1,b2⟩:=eb.word (K:=K)
    refine ⟨_,rfl,b,_,_,_,rfl,rfl,b0,b2,_,rfl,rfl,_,rfl,L3 (fun h=>?_) fun h=>k0 _ _ ⟨⟨_,rfl⟩,rfl,fun q=>a1 (by omega),fun q=>?_⟩⟩
    ·have em:=pok.apart m i s' st es ei h
     subst em
     rw [hy] at ex
     cases ex
     refine ⟨_,rfl,k1 _ _ _ ⟨⟨_,rfl⟩,rfl,fun q=>by omega,fun _=>?_⟩⟩
     rw [a1 (Nat.le_refl _)]
     rfl
    ·by_cases e:m=i
     ·subst e
      rw [ei] at es
      cases es
      exact absurd rfl h
     ·exact a2 (by omega)
   rintro τ acc H' _ ⟨_,rfl,_,a2⟩ D hD
   rw [a2 (by omega)]
   have s1:=AJ.Ai (o:=.lst [.ref a]) hD
   have eD:(upd H' D (.lst [.ref a])) D=some (.lst [.ref a]):=AD
   have hfr:∀{l:Addr},(upd H' D (.lst [.ref a])) l=none→H' l=none:=fun h=>Jp h
   generalize upd H' D (.lst [.ref a])=H1 at s1 eD hfr ⊢
   refine ⟨D,_,_,_,rfl,rfl,SqL.of eD,AI (j:=0) rfl,?_⟩
   have ea1:StA H1 a st:=s1 _ _ ea
   obtain ⟨e0,e1,e2⟩:=ea1.word (K:=K)
   obtain ⟨xs,el,wl⟩:=ev.same s1
   have lx:=wl.len
   rw [List.length_map] at lx
   have memS:=List.mem_of_getElem? ei
   obtain ⟨mS,lS⟩:=hL st memS
   refine ⟨_,rfl,a,_,_,_,rfl,rfl,e0,e1,rfl,_,rfl,EW (i:=0) rfl (fun q0=>?_) fun q0=>?_⟩
   ·obtain ⟨nn,kd,rfl⟩:∃nn kd,st=.take nn kd:=by cases st <;> first|exact ⟨_,_,rfl⟩|cases q0
    refine ⟨_,rfl,le,rfl,⟨_,SqL.of el⟩,?_⟩
    refine D2 (K:=K) (xs:=xs) (fun m τ acc H'=>(∃o,τ=[o,some (.ref a)])/\AJ H1 H'/\Rws H' acc ((((evs.take m).filter fun e=>decide (e.2.1=kd)).map evI).map itK)) (by omega) ⟨⟨none,rfl⟩,AJ.refl _,DV _⟩ (fun m τ acc H' ⟨_,s,_⟩=>SqL.of (s _ _ el)) ?_ ?_
    ·rintro m y τ acc H' R1 R0 hy _ ⟨⟨o,rfl⟩,s,hp⟩ k1 k0
     obtain ⟨b,ks,rfl,ek,eb⟩:=wl.at hy
     rw [List.getElem?_map] at ek
     obtain ⟨⟨t,ki,z,am⟩,ej,rfl⟩:=Option.map_eq_some_iff.mp ek
     have fs:=EG (p:=fun e:Ev=>decide (e.2.1=kd)) ej
     have b0:SqT K H' b _:=SqT.of (s _ _ eb)
     have p0:SqT K H' a _:=SqT.of (s _ _ ea1)
     refine ⟨_,rfl,b,_,_,_,rfl,rfl,b0,AI (j:=1) rfl,_,rfl,a,_,_,_,rfl,rfl,p0,AI (j:=2) rfl,rfl,_,rfl,L3 (fun h=>?_) fun h=>k0 _ _ ⟨⟨_,rfl⟩,s,by rw [fs,if_neg (by rw [decide_eq_true_eq];exact h),List.append_nil];exact hp⟩⟩
     refine ⟨_,rfl,b,_,_,_,rfl,rfl,b0,AI (j:=0) rfl,_,rfl,b,_,_,_,rfl,rfl,b0,AI (j:=2) rfl,_,rfl,b,_,_,_,rfl,rfl,b0,AI (j:=3) rfl,Nat.le_of_ble_eq_true rfl,fun p2 hp2=>k1 _ _ _ ⟨⟨_,rfl⟩,s.upd hp2,?_⟩⟩
     rw [fs,if_pos (by rw [decide_eq_true_eq];exact h),List.map_append,List.map_append]
     exact (hp.keep (AJ.Ai hp2).tp).snoc (ks:=itK (t,z,am)) AD
    ·rintro τ acc H' la ⟨_,s,hp⟩ D hD
     rw [List.take_of_length_le (by omega)] at hp
     refine k D _ (s1.trans (s.upd hD)) (hfr (s.free hD)) ⟨_,AD,?_⟩
     have mS:L nn=FW kd evs:=mS
     show Rws _ _ ((L nn).map itK)
     rw [mS]
     exact hp.keep ((AJ.refl _).upd hD).tp
   obtain ⟨f,hf,e3⟩:∃f,f∈st.BN/\atI (st.key.map kV) 2=some (.str f):=by
    cases st <;> first|exact absurd rfl q0|exact ⟨_,.head _,AI (j:=2) rfl⟩
   obtain ⟨i1,t1,l1,ei1,rfl,ht1⟩:=pok.fed i st f ei hf
   refine ⟨_,rfl,_,rfl,a,_,_,_,rfl,rfl,e0,e3,_,rfl,lp,le,ps,ss,evs,L,i1,t1,rfl,s1 _ _ elp,pr.keep s1.tp,pok,lss,ev.same s1,lev,hL,ei1,ht1,by omega,fun r1 H2 s2 hr1 ⟨xa,er1,wa⟩=>?_⟩
   have lA:=(hL t1 (List.mem_of_getElem? ei1)).2
   have lxa:=wa.len
   rw [List.length_map] at lxa
   have ea2:StA H2 a st:=s2 _ _ ea1
   obtain ⟨e0,e1,e2⟩:=ea2.word (K:=K)
   have S2:=s1.trans s2
   have hfr2:∀{l:Addr},H2 l=none→H' l=none:=fun h=>hfr (s2.free h)
   refine ⟨_,rfl,a,_,_,_,rfl,rfl,e0,e1,rfl,_,rfl,EW (i:=1) rfl (fun q1=>?_) fun q1=>?_⟩
   ·obtain ⟨nn,f,lo,hi',rfl⟩:∃nn f lo hi',st=.only nn f lo hi':=by cases st <;> first|exact ⟨_,_,_,_,rfl⟩|cases q1
    have ef:f=t1.nm:=(List.mem_singleton.mp hf).symm
    subst ef
    refine ⟨_,rfl,r1,rfl,⟨_,SqL.of er1⟩,?_⟩
    refine D2 (K:=K) (xs:=xa) (fun m τ acc H'=>(∃o,τ=[o,some (.ref a)])/\H'=H2/\Rws H2 acc ((((L t1.nm).take m).filter fun i=>decide (lo≤i.2.2/\i.2.2≤hi')).map itK)) (by omega) ⟨⟨none,rfl⟩,rfl,DV _⟩ (fun m τ acc H' ⟨_,ee,_⟩=>by rw [ee];exact SqL.of er1) ?_ ?_
    ·rintro m y τ acc H3 R1 R0 hy _ ⟨⟨o,rfl⟩,rfl,hp⟩ k1 k0
     obtain ⟨b,ks,rfl,ek,eb⟩:=wa.at hy
     rw [List.getElem?_map] at ek
     obtain ⟨⟨t,z,am⟩,ej,rfl⟩:=Option.map_eq_some_iff.mp ek
     have fs:=EG (p:=fun i:It=>decide (lo≤i.2.2/\i.2.2≤hi')) ej
     have no:¬ (lo≤am/\am≤hi')→Rws H3 acc ((((L t1.nm).take (m+1)).filter fun i=>decide (lo≤i.2.2/\i.2.2≤hi')).map itK):=fun q=>by
      rw [fs,if_neg (by rw [decide_eq_true_eq];exact q),List.append_nil]
      exact hp
     refine ⟨_,rfl,a,_,_,_,rfl,rfl,e0,AI (j:=3) rfl,_,rfl,b,_,_,_,rfl,rfl,SqT.of eb,AI (j:=2) rfl,_,_,rfl,rfl,_,rfl,?_⟩
     refine Hs (fun h1=>?_) fun h1=>⟨_,rfl,EE (k0 _ _ ⟨⟨_,rfl⟩,rfl,no fun q=>h1 q.1⟩)⟩
     refine ⟨_,rfl,a,_,_,_,rfl,rfl,e0,AI (j:=4) rfl,_,_,rfl,rfl,_,rfl,Hs (fun h2=>?_) fun h2=>k0 _ _ ⟨⟨_,rfl⟩,rfl,no fun q=>h2 q.2⟩⟩
     refine ⟨_,rfl,k1 _ _ _ ⟨⟨_,rfl⟩,rfl,?_⟩⟩
     rw [fs,if_pos (by rw [decide_eq_true_eq];exact ⟨h1,h2⟩),List.map_append]
     exact hp.snoc eb
    ·rintro τ acc H3 la ⟨_,rfl,hp⟩ D hD
     rw [List.take_of_length_le (by omega)] at hp
     refine k D _ (S2.upd hD) (hfr2 hD) ⟨_,AD,?_⟩
     have mS:L nn=_:=mS
     show Rws _ _ ((L nn).map itK)
     rw [mS]
     exact hp.keep ((AJ.refl _).upd hD).tp
   refine ⟨_,rfl,a,_,_,_,rfl,rfl,e0,e1,rfl,_,rfl,EW (i:=2) rfl (fun q2=>?_) fun q2=>?_⟩
   ·obtain ⟨nn,f,fc,gc,rfl⟩:∃nn f fc gc,st=.turn nn f fc gc:=by cases st <;> first|exact ⟨_,_,_,_,rfl⟩|cases q2
    have ef:f=t1.nm:=(List.mem_singleton.mp hf).symm
    subst ef
    have okf:-100≤fc/\fc≤100:=pok.ok _ memS
    refine ⟨_,rfl,r1,rfl,⟨_,SqL.of er1⟩,?_⟩
    refine Bu (K:=K) (xs:=xa) (fun m τ acc H'=>(∃o p q,τ=[o,p,q,some (.ref a)])/\AJ H2 H'/\Rws H' acc ((((L t1.nm).take m).map (NX fc gc)).map itK)) (by omega) ⟨⟨none,none,none,rfl⟩,AJ.refl _,DV _⟩ (fun m τ acc H' ⟨_,s,_⟩=>SqL.of (s _ _ er1)) ?_ ?_
    ·rintro m y τ acc H3 R1 hy _ ⟨⟨o,o',o'',rfl⟩,s3,hp⟩ k1
     obtain ⟨b,ks,rfl,ek,eb⟩:=wa.at hy
     rw [List.getElem?_map] at ek
     obtain ⟨⟨t,z,am⟩,ej,rfl⟩:=Option.map_eq_some_iff.mp ek
     have p0:SqT K H3 a _:=SqT.of (s3 _ _ ea2)
     refine ⟨b,_,rfl,SqT.of (s3 _ _ eb),rfl,_,_,rfl,_,_,rfl,_,_,rfl,rfl,?_⟩
     refine ⟨_,rfl,_,rfl,_,rfl,_,rfl,a,_,_,_,rfl,rfl,p0,AI (j:=3) rfl,_,_,rfl,rfl,.inr ⟨by omega,by omega⟩,_,rfl,a,_,_,_,rfl,rfl,p0,AI (j:=4) rfl,_,_,rfl,rfl,Nat.le_of_ble_eq_true rfl,fun p2 hp2=>k1 _ _ _ ⟨⟨_,_,_,rfl⟩,s3.upd hp2,?_⟩⟩
     rw [List.take_add_one,ej,List.map_append,List.map_append]
     exact (hp.keep (AJ.Ai hp2).tp).snoc (ks:=itK (NX fc gc (t,z,am))) AD
    ·rintro τ acc H3 la ⟨_,s3,hp⟩ D hD
     rw [List.take_of_length_le (by omega)] at hp
     refine k D _ (S2.trans (s3.upd hD)) (hfr2 (s3.free hD)) ⟨_,AD,?_⟩
     have mS:L nn=_:=mS
     show Rws _ _ ((L nn).map itK)
     rw [mS]
     exact hp.keep ((AJ.refl _).upd hD).tp
   obtain ⟨f2,hf2,e3⟩:∃f2,st.BN=[t1.nm,f2]/\atI (st.key.map kV) 3=some (.str f2):=by
    cases st with
    | take n k=>exact absurd rfl q0
    | only n a lo hi=>exact absurd rfl q1
    | turn n a f g=>exact absurd rfl q2
    | gap n a s m=>cases ht
    | each n a s z d=>cases ht
    | both n a b =>
     have:a=t1.nm:=V.str.inj (Option.some.inj ((AI (xs:=(Stp.both n a b).key.map kV) (j:=2) rfl).symm.trans ‹_›))
     exact ⟨b,by rw [←this];rfl,AI (j:=3) rfl⟩
    | join n a b wi =>
     have:a=t1.nm:=V.str.inj (Option.some.inj ((AI (xs:=(Stp.join n a b wi).key.map kV) (j:=2) rfl).symm.trans ‹_›))
     exact ⟨b,by rw [←this];rfl,AI (j:=3) rfl⟩
   obtain ⟨i2,t2,l2,ei2,rfl,ht2⟩:=pok.fed i st f2 ei (by rw [hf2];exact .tail _ (.head _))
   refine ⟨_,rfl,_,rfl,a,_,_,_,rfl,rfl,e0,e3,_,rfl,lp,le,ps,ss,evs,L,i2,t2,rfl,S2 _ _ elp,pr.keep S2.tp,pok,lss,ev.same S2,lev,hL,ei2,ht2,by omega,fun r2 H3 s3 hr2 ⟨xb,er2,wb⟩=>?_⟩
   have lB:=(hL t2 (List.mem_of_getElem? ei2)).2
   have lxb:=wb.len
   rw [List.length_map] at lxb
   have S3:=S2.trans s3
   have ea3:StA H3 a st:=s3 _ _ ea2
   have er13:=s3 _ _ er1
   have wa3:=wa.keep s3.tp
   obtain ⟨e0,e1,e2⟩:=ea3.word (K:=K)
   refine ⟨_,rfl,a,_,_,_,rfl,rfl,e0,e1,rfl,_,rfl,EW (i:=3) rfl (fun q3=>?_) fun q3=>?_⟩
   ·obtain ⟨nn,f,g,rfl⟩:∃nn f g,st=.both nn f g:=by cases st <;> first|exact ⟨_,_,_,rfl⟩|cases q3
    have ef:[f,g]=[t1.nm,t2.nm]:=hf2
    injection ef with ef eg
    injection eg with eg _
    subst ef eg
    refine ⟨_,rfl,_,rfl,r1,r2,xa,xb,rfl,rfl,er13,er2,by omega,fun D hD=>k D _ (S3.upd hD) (hfr2 (s3.free hD)) ⟨_,AD,?_⟩⟩
    have mS:L nn=L t1.nm++L t2.nm:=mS
    show Rws _ _ ((L nn).map itK)
    rw [mS,List.map_append]
    exact Rws.keep (An wa3 wb) ((AJ.refl _).upd hD).tp
   obtain ⟨nn,f,g,wi,rfl⟩:∃nn f g wi,st=.join nn f g wi:=by
    cases st with
    | take n k=>exact absurd rfl q0
    | only n a lo hi=>exact absurd rfl q1
    | turn n a f g=>exact absurd rfl q2
    | gap n a s m=>cases ht
    | each n a s z d=>cases ht
    | both n a b=>exact absurd rfl q3
    | join n a b wi=>exact ⟨_,_,_,_,rfl⟩
   have ef:[f,g]=[t1.nm,t2.nm]:=hf2
   injection ef with ef eg
   injection eg with eg _
   subst ef eg
   have mS:L nn=BH wi (L t1.nm) (L t2.nm):=mS
   generalize hA:L t1.nm=C at *
   generalize hB:L t2.nm=B at *
   refine ⟨Nat.zero_le _,fun u hu=>?_⟩
   have t0:=AJ.Ai (o:=.lst []) hu
   have eu0:(upd H3 u (.lst [])) u=some (.lst []):=AD
   generalize upd H3 u (.lst [])=H4 at t0 eu0 ⊢
   refine ⟨_,rfl,r1,rfl,⟨_,SqL.of (t0 _ _ er13)⟩,DJ (K:=K) (xs:=xa) (fun n σ H'=>∃(o7 o8 o9 o10:Option V) (acc:List V),σ=[some (.ref lp),some (.str nn),some (.ref le),some (.ref a),some (.ref r1),some (.ref r2),some (.ref u),o7,o8,o9,o10]/\AJ H3 H'/\H' u=some (.lst acc)/\Rws H' acc ((BH wi (C.take n) B).map itK))
    ⟨none,none,none,none,[],rfl,t0,eu0,DV _⟩ (fun n σ H' _ ⟨_,_,_,_,_,_,s',_⟩=>SqL.of (s' _ _ er13)) ?_ ?_⟩
   ·rintro j x σ H5 hx ⟨o7,o8,o9,o10,acc,rfl,s5,eu5,hw5⟩
    obtain ⟨b,ks,rfl,ek,eb⟩:=wa3.at hx
    rw [List.getElem?_map] at ek
    obtain ⟨⟨ti,zi,ai⟩,eij,rfl⟩:=Option.map_eq_some_iff.mp ek
    refine ⟨b,_,rfl,SqT.of (s5 _ _ eb),rfl,_,_,rfl,_,_,rfl,_,_,rfl,rfl,?_⟩
    refine ⟨_,rfl,r2,rfl,⟨_,SqL.of (s5 _ _ er2)⟩,DJ (K:=K) (xs:=xb) (fun m σ H'=>∃(o10:Option V) (acc:List V),σ=[some (.ref lp),some (.str nn),some (.ref le),some (.ref a),some (.ref r1),some (.ref r2),some (.ref u),some (.int ti),some (.str zi),some (.int ai),o10]/\AJ H3 H'/\H' u=some (.lst acc)/\Rws H' acc ((BH wi (C.take j) B++((B.take m).filter (Bm wi (ti,zi,ai))).map (mtI (ti,zi,ai))).map itK))
     ⟨_,acc,rfl,s5,eu5,by simpa using hw5⟩ (fun m σ H' _ ⟨_,_,_,s',_⟩=>SqL.of (s' _ _ er2)) ?_ ?_⟩
    ·rintro m y σ H6 hy ⟨o10,acc,rfl,s6,eu6,hw6⟩
     obtain ⟨c,ks,rfl,ek,ec⟩:=wb.at hy
     rw [List.getElem?_map] at ek
     obtain ⟨⟨tj,zj,aj⟩,ej,rfl⟩:=Option.map_eq_some_iff.mp ek
     have fs:=EG (p:=Bm wi (ti,zi,ai)) ej
     have c6:SqT K H6 c _:=SqT.of (s6 _ _ ec)
     have p6:SqT K H6 a _:=SqT.of (s6 _ _ ea3)
     have no:¬ (zj=zi/\ti-wi≤tj/\tj≤ti+wi)→Rws H6 acc ((BH wi (C.take j) B++((B.take (m+1)).filter (Bm wi (ti,zi,ai))).map (mtI (ti,zi,ai))).map itK):=fun q=>by
      rw [fs,if_neg (by unfold Bm;rw [decide_eq_true_eq];exact q),List.append_nil]
      exact hw6
     refine ⟨_,rfl,c,_,_,_,rfl,rfl,c6,AI (j:=1) rfl,_,rfl,rfl,_,rfl,L3 (fun h1=>?_) fun h1=>EE ⟨_,acc,rfl,s6,eu6,no fun q=>h1 q.1⟩⟩
     refine ⟨_,rfl,_,rfl,c,_,_,_,rfl,rfl,c6,AI (j:=0) rfl,_,_,rfl,_,rfl,_,rfl,c,_,_,_,rfl,rfl,c6,AI (j:=0) rfl,_,_,rfl,_,_,rfl,rfl,_,rfl,a,_,_,_,rfl,rfl,p6,AI (j:=4) rfl,_,_,rfl,rfl,_,rfl,Hs (fun h2=>?_) fun h2=>⟨_,acc,rfl,s6,eu6,no fun q=>h2 ?_⟩⟩
     ·have lac:acc.length≤1001000:=by
       rw [hw6.len,List.length_map,List.length_append,List.length_map]
       have h3:=FR wi B (C.take j)
       rw [List.length_take] at h3
       have h4:=List.length_filter_le (Bm wi (ti,zi,ai)) (B.take m)
       rw [List.length_take] at h4
       have h5:=Nat.mul_le_mul (show min j C.length≤1000 by omega) lB
       omega
      refine ⟨_,rfl,.inl ⟨rfl,_,SqL.of eu6⟩,_,rfl,_,rfl,c,_,_,_,rfl,rfl,c6,AI (j:=0) rfl,_,_,rfl,_,rfl,_,rfl,_,rfl,c,_,_,_,rfl,rfl,c6,AI (j:=2) rfl,_,_,rfl,rfl,Nat.le_of_ble_eq_true rfl,fun p2 hp2=>?_⟩
      have sp2:=AJ.Ai (o:=.tup ((itK (mtI (ti,zi,ai) (tj,zj,aj))).map kV)) hp2
      have e2:(upd H6 p2 (.tup ((itK (mtI (ti,zi,ai) (tj,zj,aj))).map kV))) p2=some (.tup ((itK (mtI (ti,zi,ai) (tj,zj,aj))).map kV)):=AD
      have eu7:=sp2 _ _ eu6
      refine ⟨u,acc,.ref p2,rfl,rfl,eu7,by omega,_,acc++[.ref p2],rfl,(s6.trans sp2).Gm hu,AD,?_⟩
      have h2:(if tj > ti then tj else ti)-(if tj<ti then tj else ti)≤wi:=h2
      have nr:Bm wi (ti,zi,ai) (tj,zj,aj)=true:=by
       unfold Bm
       rw [decide_eq_true_eq]
       refine ⟨h1,?_⟩
       show ti-wi≤tj/\tj≤ti+wi
       split at h2 <;> split at h2 <;> omega
      have e5:(BH wi (C.take j) B++((B.take (m+1)).filter (Bm wi (ti,zi,ai))).map (mtI (ti,zi,ai))).map itK=(BH wi (C.take j) B++((B.take m).filter (Bm wi (ti,zi,ai))).map (mtI (ti,zi,ai))).map itK++[itK (mtI (ti,zi,ai) (tj,zj,aj))]:=by
       rw [fs,if_pos nr]
       simp
      rw [e5]
      exact Rws.keep ((hw6.keep sp2.tp).snoc e2) ((Tp.refl _).upd eu7 fun xs=>by intro z;cases z)
     ·obtain ⟨_,q1,q2⟩:=q
      show (if tj > ti then tj else ti)-(if tj<ti then tj else ti)≤wi
      split <;> split <;> omega
    ·rintro σ H6 ⟨o10,acc,rfl,s6,eu6,hw6⟩
     refine ⟨_,_,_,_,acc,rfl,s6,eu6,?_⟩
     rw [show B.take xb.length=B from List.take_of_length_le (by omega)] at hw6
     have:BH wi (C.take (j+1)) B=BH wi (C.take j) B++(B.filter (Bm wi (ti,zi,ai))).map (mtI (ti,zi,ai)):=by
      unfold BH
      rw [List.take_add_one,eij]
      exact Ib _ _ _
     rw [this]
     exact hw6
   ·rintro σ H5 ⟨o7,o8,o9,o10,acc,rfl,s5,eu5,hw5⟩
    rw [show C.take xa.length=C from List.take_of_length_le (by omega)] at hw5
    refine ⟨_,rfl,k u _ (S3.trans s5) (hfr2 (s3.free hu)) ⟨acc,eu5,?_⟩⟩
    show Rws _ _ ((L nn).map itK)
    rw [mS]
    exact hw5
def PB:Sp:=fun vs H Q _=>∃n:Int,vs=[.int n]/\Q (.bl true) H
theorem OC (T:Tx K mg ad):Ba P w K mg base CX0 1 ad.DL ad.Dw ["_law_thing"] PB:=by
 refine T.Cq.ok IJ (fun vs H Q E h=>?_) (fun cdv A outer s H vs Q E hr h=>?_)
 ·obtain ⟨n,rfl,_⟩:=h
  rfl
 ·obtain ⟨n,rfl,k⟩:=h
  have nd:=IJ.nd
  refine ⟨_,(AH (AW (Qh (Al (Co (K:=K)) (by rfl) T.A2 PyProof.Rows.boot_isinstance (AA (pv 0) (AA (Fh (v:=.ty "int") (by rfl) T.IA PyProof.Rows.boot_int rfl) AE))) (Qf (Qg (Al (Co (K:=K)) (by rfl) T.A2 PyProof.Rows.boot_isinstance (AA (pv 0) (AA (Fh (v:=.ty "bool") (by rfl) T.Gi PyProof.Rows.boot_bool rfl) AE)))))))),?_⟩
  exact ⟨_,rfl,_, "int", _,true,rfl,.int n,rfl,_,rfl,JU ⟨_,rfl,_, "bool", _,false,rfl,.int n,rfl,_,rfl,k⟩⟩
def QS:Sp:=fun vs H Q _=>∃(r q:Addr) (xs ys:List V) (L:List It),vs=[.ref r,.ref q]/\H r=some (.lst xs)/\H q=some (.lst ys)/\Rws H xs (L.map itK)/\Rws H ys (L.map itK)/\(∀i∈L,PyData.strOk i.2.1=true)/\Q (.bl true) H
theorem Pg (T:Tx K mg ad):Ba P w K mg base CX0 2 ad.EK ad.Ey ["_law_found", "_law_due"] QS:=by
 have G_uwhole:=OC (P:=P) (w:=w) (base:=base) T
 refine T.Df.ok Jy (fun vs H Q E h=>?_) (fun cdv A outer s H vs Q E hr h=>?_)
 ·obtain ⟨r,q,xs,ys,L,rfl,_⟩:=h
  rfl
 ·obtain ⟨r,q,xs,ys,L,rfl,er,eq,wx,wy,hs,k⟩:=h
  have nd:=Jy.nd
  refine ⟨_,(AF (Aq (PW.pt (Lk (FK (FJ (Al (Co (K:=K)) (by rfl) T.A2 PyProof.Rows.boot_isinstance (AA (pv 0) (AA (Fh (v:=.ty "list") (by rfl) T.DD PyProof.Rows.boot_list rfl) AE))))) (JE (AU (Qj (K:=K) hr.units) (pv 0) (pv 1) (AZ _)))))
    (AH (AW IQ))
    Aa)
    (AF (Cs PassesOwn.never rfl (Ay (K:=K) (pv 0)) (Au (i:=2) nd rfl (Or.inl rfl))
    (AF (Aq (PW.pt (Lk (FK (FJ (Al (Co (K:=K)) (by rfl) T.A2 PyProof.Rows.boot_isinstance (AA (pv 2) (AA (Fh (v:=.ty "tuple") (by rfl) T.Eo PyProof.Rows.boot_tuple rfl) AE))))) (JE (FK (FJ (Al (Co (K:=K)) (by rfl) T.A2 PyProof.Rows.boot_isinstance (AA (AM (AK (K:=K)) (pv 2) AB (fun _ _=>rfl)) (AA (Fh (v:=.ty "str") (by rfl) T.Jk PyProof.Rows.boot_str rfl) AE))))))))
    (AH (AW IQ))
    Aa)
    (AH (Aq (PW.pt (Lk (FK (FJ (AN G_uwhole (hr.mono (by decide)) (by rfl) T.KQ T.Cq.kp T.Kq .nil Ab (AA (AM (AK (K:=K)) (pv 2) AB (fun _ _=>rfl)) AE)))) (JE (FK (FJ (AN G_uwhole (hr.mono (by decide)) (by rfl) T.KQ T.Cq.kp T.Kq .nil Ab (AA (AM (AK (K:=K)) (pv 2) AB (fun _ _=>rfl)) AE)))))))
    (AH (AW IQ))
    Aa))))
    (AH (AW IQ)))),?_⟩
  have okk:∀ks∈L.map itK,JQ ks=true:=fun ks hk=>by
   obtain ⟨i,hi,rfl⟩:=List.mem_map.mp hk
   show (kOk (Sum.inl i.1)&&(kOk (Sum.inr i.2.1)&&(kOk (Sum.inl i.2.2)&&true)))=true
   have:kOk (Sum.inr i.2.1)=true:=hs i hi
   rw [this]
   rfl
  refine ⟨_,rfl,_, "list", _,true,rfl,.lst er,rfl,_,rfl,EE ⟨_,rfl,_,rfl,OM (wx.dv er) (wy.dv eq) (Jw okk) ⟨_,rfl,EE ?_⟩⟩⟩
  refine ⟨_,rfl,r,rfl,⟨_,SqL.of er⟩,DJ (K:=K) (xs:=xs) (fun n σ H'=>H'=H/\∃o,σ=[some (.ref r),some (.ref q),o]) ⟨rfl,none,rfl⟩ (fun n σ H' _ ⟨e,_⟩=>by rw [e];exact SqL.of er) ?_ ?_⟩
  ·rintro n y σ H' hy ⟨rfl,o,rfl⟩
   obtain ⟨b,ks,rfl,ek,eb⟩:=wx.at hy
   rw [List.getElem?_map] at ek
   obtain ⟨⟨t,z,am⟩,ej,rfl⟩:=Option.map_eq_some_iff.mp ek
   have b0:SqT K H' b _:=SqT.of eb
   exact ⟨_,rfl,_, "tuple", _,true,rfl,.tup eb,rfl,_,rfl,EE ⟨_,rfl,b,_,_,_,rfl,rfl,b0,AI (j:=1) rfl,_, "str", _,true,rfl,.str z,rfl,_,rfl,EE ⟨_,rfl,b,_,_,_,rfl,rfl,b0,AI (j:=0) rfl,t,rfl,_,rfl,EE ⟨_,rfl,b,_,_,_,rfl,rfl,b0,AI (j:=2) rfl,am,rfl,_,rfl,EE ⟨rfl,_,rfl⟩⟩⟩⟩⟩
  ·rintro σ H' ⟨rfl,o,rfl⟩
   exact k
def CK (s:Stp) (z:Str→Nat) (m:Nat):Nat:=match s with
 | .take ..=>m
 | .both _ a b=>z a+z b
 | .join _ a b _=>z a * z b
 | .only _ a _ _|.turn _ a _ _|.gap _ a _ _|.each _ a _ _ _=>z a
def PN:Sp:=fun vs H Q _=>∃(p d:Addr) (s:Stp) (kvs:List (Key×V)) (z:Str→Nat) (m:Nat),vs=[.ref p,.ref d,.int (m:Int)]/\StA H p s/\H d=some (.dK kvs)/\(∀a∈s.BN,A7 kvs (.inr a)=some (.int (z a:Int))/\z a≤1000)/\Q (.int (CK s z m:Int)) H
theorem OG (T:Tx K mg ad):Ba P w K mg base CX0 1 ad.DN ad.Dy ["_law_step_here", "_law_sizes", "_law_many"] PN:=by
 refine T.Cr.ok IK (fun vs H Q E h=>?_) (fun cdv A outer s H vs Q E hr h=>?_)
 ·obtain ⟨p,d,s,kvs,z,m,rfl,_⟩:=h
  rfl
 ·obtain ⟨p,d,st,kvs,z,m,rfl,e,ed,hz,k⟩:=h
  have nd:=IK.nd
  refine ⟨_,(AF (Aq (AU A0 (AM (AK (K:=K)) (pv 0) AB (fun _ _=>rfl)) AO (AZ _))
    (AH (AW (pv 2)))
    Aa)
    (AF (Aq (AU A0 (AM (AK (K:=K)) (pv 0) AB (fun _ _=>rfl)) AO (AZ _))
    (AH (AW (AG Ah (EB hr.u1 (pv 1) (AM (AK (K:=K)) (pv 0) AB (fun _ _=>rfl)) (fun _ _=>rfl)) (EB hr.u1 (pv 1) (AM (AK (K:=K)) (pv 0) AB (fun _ _=>rfl)) (fun _ _=>rfl)))))
    Aa)
    (AF (Aq (AU A0 (AM (AK (K:=K)) (pv 0) AB (fun _ _=>rfl)) AO (AZ _))
    (AH (AW (AG BE (EB hr.u1 (pv 1) (AM (AK (K:=K)) (pv 0) AB (fun _ _=>rfl)) (fun _ _=>rfl)) (EB hr.u1 (pv 1) (AM (AK (K:=K)) (pv 0) AB (fun _ _=>rfl)) (fun _ _=>rfl)))))
    Aa)
    (AH (AW (EB hr.u1 (pv 1) (AM (AK (K:=K)) (pv 0) AB (fun _ _=>rfl)) (fun _ _=>rfl))))))),?_⟩
  obtain ⟨e0,e1,e2⟩:=e.word (K:=K)
  have g:∀a∈st.BN,Gb H d (.str a) (some (.int (z a:Int))):=fun a ha=>by rw [←(hz a ha).1];exact Gb.k (k:=.inr a) ed
  refine ⟨_,rfl,p,_,_,_,rfl,rfl,e0,e1,rfl,_,rfl,EW (i:=0) rfl (fun q0=>?_) fun q0=>?_⟩
  ·cases st <;> first|cases q0;done|exact ⟨_,rfl,k⟩
  ·refine ⟨_,rfl,p,_,_,_,rfl,rfl,e0,e1,rfl,_,rfl,EW (i:=3) rfl (fun q3=>?_) fun q3=>?_⟩
   ·obtain ⟨n,a,b,rfl⟩:∃n a b,st=.both n a b:=by cases st <;> first|exact ⟨_,_,_,rfl⟩|cases q3
    refine ⟨_,rfl,_,rfl,p,_,_,_,rfl,rfl,e0,AI (j:=2) rfl,d,_,rfl,g a (.head _),_,rfl,_,rfl,p,_,_,_,rfl,rfl,e0,AI (j:=3) rfl,d,_,rfl,g b (.tail _ (.head _)),_,_,rfl,rfl,k⟩
   ·refine ⟨_,rfl,p,_,_,_,rfl,rfl,e0,e1,rfl,_,rfl,EW (i:=4) rfl (fun q4=>?_) fun q4=>?_⟩
    ·obtain ⟨n,a,b,wi,rfl⟩:∃n a b wi,st=.join n a b wi:=by cases st <;> first|exact ⟨_,_,_,_,rfl⟩|cases q4
     have hz1:=(hz a (.head _)).2
     refine ⟨_,rfl,_,rfl,p,_,_,_,rfl,rfl,e0,AI (j:=2) rfl,d,_,rfl,g a (.head _),_,rfl,_,rfl,p,_,_,_,rfl,rfl,e0,AI (j:=3) rfl,d,_,rfl,g b (.tail _ (.head _)),_,_,rfl,rfl,.inl ⟨by omega,by omega⟩,?_⟩
     have:(CK (.join n a b wi) z m:Int)=(z a:Int) * (z b:Int):=Int.natCast_mul ..
     rw [this] at k
     exact k
    ·obtain ⟨a,ha,ea,eb⟩:∃a,a∈st.BN/\atI (st.key.map kV) 2=some (.str a)/\CK st z m=z a:=by
      cases st <;> first|exact absurd rfl q0|exact absurd rfl q3|exact absurd rfl q4|exact ⟨_,.head _,AI (j:=2) rfl,rfl⟩
     rw [eb] at k
     exact ⟨_,rfl,_,rfl,p,_,_,_,rfl,rfl,e0,ea,d,_,rfl,g a ha,k⟩
def Ok (z:Str):Prop:=PyData.strOk z=true
theorem BF {z:Str}(h:IU (.str z)=true):PyData.strOk z=true:=by
 have h:((decide ((1:Int)≤(z.length:Int))&&decide ((z.length:Int)≤12))&&(Gu z).all inL)=true:=h
 rw [Bool.and_eq_true] at h
 have ha:=h.2
 unfold Gu at ha
 rw [List.all_map,List.all_eq_true] at ha
 unfold PyData.strOk
 rw [←Array.all_toList,List.all_eq_true]
 intro c hc
 have q:inL (.str ⟨#[c]⟩)=true:=ha c hc
 have q:(!(Builtin.Str.occurrences LET ⟨#[c]⟩ 0 LET.length 1).isEmpty)=true:=q
 rw [StrLaws.found_one LET c] at q
 have m:c∈LET.cps.toList:=of_decide_eq_true q
 have all:∀c∈LET.cps.toList,c<0x110000:=by decide +kernel
 exact decide_eq_true (all c m)
def tHi:TS:=fun D σ H=>∃(o0 o1 o2 o3 o4 o5 o6 o8 o11:Option V) (m lo hi:Int),σ=[o0,o1,o2,o3,o4,o5,o6,some (.int m),o8,some (.int lo),some (.int hi),o11] /\
 ∀hi':Int,D.nx [o0,o1,o2,o3,o4,o5,o6,some (.int m),o8,some (.int lo),some (.int hi'),o11] H
def tLo:TS:=fun D σ H=>∃(o0 o1 o2 o3 o4 o5 o6 o8 o11:Option V) (m lo hi:Int),σ=[o0,o1,o2,o3,o4,o5,o6,some (.int m),o8,some (.int lo),some (.int hi),o11]/\-1000000000≤lo/\lo≤1000000000 /\
 ∀lo' hi':Int,-1000000000≤lo'→lo'≤1000000000→D.nx [o0,o1,o2,o3,o4,o5,o6,some (.int m),o8,some (.int lo'),some (.int hi'),o11] H
theorem Rt:∀D σ H,tHi D σ H→O8 (Js (tOp rEq (tOp (rI (fun _ j=>0<j) fun i j=>.int (i % j)) (tOp (rI Ld fun i j=>.int (i / j)) (Gq 7) (tC (.int 32))) (tC (.int 2))) (tC (.int 1))))
  (K4 (tOp (rI0 fun i j=>.int (i-j)) (tC (.int 1000000000)) (P5 Ju [] E0 (Nc (tOp (rI Ld fun i j=>.int (i / j)) (Gq 7) (tC (.int 16))) (Nc (tC (.int 1000000000)) RD)))) (DI 10)) Lf D σ H:=by
 rintro D σ H ⟨o0,o1,o2,o3,o4,o5,o6,o8,o11,m,lo,hi,rfl,q⟩
 refine ⟨_,rfl,_,_,rfl,rfl,⟨by decide,by decide⟩,_,_,rfl,rfl,(by decide:(0:Int)<2),rfl,_,rfl,Fo (fun _=>?_) fun _=>q hi⟩
 exact ⟨_,rfl,_,_,rfl,rfl,⟨by decide,by decide⟩,_,_,rfl,by decide,fun r r0 r1=>⟨_,_,rfl,rfl,q _⟩⟩
theorem Rr:∀D σ H,tLo D σ H→O8 (Js (tOp rEq (tOp (rI (fun _ j=>0<j) fun i j=>.int (i % j)) (tOp (rI Ld fun i j=>.int (i / j)) (Gq 7) (tC (.int 64))) (tC (.int 2))) (tC (.int 1))))
  (RA (K4 (tOp (rI0 fun i j=>.int (i-j)) (tOp (rI (fun _ j=>0<j) fun i j=>.int (i % j)) (tOp (rI Ld fun i j=>.int (i / j)) (Gq 7) (tC (.int 128))) (tC (.int 21))) (tC (.int 10))) (DI 9))
   (K4 (tOp (rI0 fun i j=>.int (i+j)) (Gq 9) (tOp (rI (fun _ j=>0<j) fun i j=>.int (i % j)) (tOp (rI Ld fun i j=>.int (i / j)) (Gq 7) (tC (.int 2688))) (tC (.int 21)))) (DI 10))) Lf D σ H:=by
 rintro D σ H ⟨o0,o1,o2,o3,o4,o5,o6,o8,o11,m,lo,hi,rfl,l0,l1,q⟩
 refine ⟨_,rfl,_,_,rfl,rfl,⟨by decide,by decide⟩,_,_,rfl,rfl,(by decide:(0:Int)<2),rfl,_,rfl,Fo (fun _=>?_) fun _=>q lo hi l0 l1⟩
 have b:0≤m / 128 % 21/\m / 128 % 21<21:=⟨Int.emod_nonneg _ (by decide),Int.emod_lt_of_pos _ (by decide)⟩
 exact ⟨_,rfl,_,_,rfl,rfl,⟨by decide,by decide⟩,_,_,rfl,rfl,(by decide:(0:Int)<21),_,_,rfl,rfl,_,rfl,_,rfl,_,_,rfl,rfl,⟨by decide,by decide⟩,_,_,rfl,rfl,(by decide:(0:Int)<21),_,_,rfl,rfl,q _ _ (by omega) (by omega)⟩
def QT:Sp:=fun vs H Q _=>∃b j:Int,vs=[.int b,.int j]/\0≤j/\j<3/\∀kd H',AJ H H'→Ok kd→Q (.str kd) H'
theorem JM (T:Tx K mg ad):Ba P w K mg base CX0 2 ad.EL ad.Ez ["_law_base", "_law_j"] QT:=by
 have G_ucalled:=Ds (P:=P) (w:=w) (base:=base) T
 refine T.Cj.ok Jz (fun vs H Q E h=>?_) (fun cdv A outer s H vs Q E hr h=>?_)
 ·obtain ⟨b,j,rfl,_⟩:=h
  rfl
 ·obtain ⟨b,j,rfl,j0,j1,k⟩:=h
  have nd:=Jz.nd
  refine ⟨_,(AF (Aq (AU A0 (AG AX (pv 0) AB) AB (AZ _))
    (AH (AW (AM (Ac (K:=K)) (As (AA AO (AA AO (AA AO AE)))) (pv 1) (fun _ _=>rfl))))
    Aa)
    (AH (AW (AN G_ucalled (hr.mono (by decide)) (by rfl) T.BW T.Aw.kp T.BY .nil Ab (AA (AG AY (pv 0) AB) (AA (pv 1) (AA (AM FQ AO (pv 1) (fun _ _=>rfl)) AE))))))),?_⟩
  have hj:j=0\/j=1\/j=2:=by omega
  refine ⟨_,rfl,_,_,rfl,rfl,(by decide:(0:Int)<9),rfl,_,rfl,FD (fun e=>?_) fun e=>?_⟩
  ·refine ⟨Nat.le_of_ble_eq_true rfl,fun q hq=>?_⟩
   have s1:=AJ.Ai (o:=.lst [.str "turn", .str "late", .str "take"]) hq
   have eq:(upd H q (.lst [.str "turn", .str "late", .str "take"])) q=some (.lst [.str "turn", .str "late", .str "take"]):=AD
   rcases hj with rfl|rfl|rfl
   ·exact ⟨_,rfl,q,_,_,_,rfl,rfl,SqL.of eq,AI (j:=0) rfl,k _ _ s1 (by decide +kernel:PyData.strOk "turn" = true)⟩
   ·exact ⟨_,rfl,q,_,_,_,rfl,rfl,SqL.of eq,AI (j:=1) rfl,k _ _ s1 (by decide +kernel:PyData.strOk "late" = true)⟩
   ·exact ⟨_,rfl,q,_,_,_,rfl,rfl,SqL.of eq,AI (j:=2) rfl,k _ _ s1 (by decide +kernel:PyData.strOk "take" = true)⟩
  ·have at3:∃ch,atI ("mno" : Str).cps.toList j=some ch/\AL ⟨#[ch]⟩:=by
    have all:∀c∈("mno" : Str).cps.toList,inL (.str ⟨#[c]⟩)=true:=by decide +kernel
    obtain ⟨v,hv,hm⟩:=BL ("mno" : Str).cps.toList 3 (by decide +kernel) (by decide) j
    rw [Int.emod_eq_of_lt j0 j1] at hv
    refine ⟨v,hv,fun c hc=>?_⟩
    have e:c=v:=by simpa using hc
    rw [e]
    exact all v hm
   obtain ⟨ch,hch,al⟩:=at3
   exact ⟨_,rfl,_,_,rfl,rfl,⟨by decide,by decide⟩,_,rfl,_,rfl,_,_,_,rfl,rfl,by decide +kernel,hch,_,_,_,rfl,al,(by show 1≤1;decide),(by show 1≤2;decide),fun nv H' s'=>k _ _ s' (BF nv)⟩
def Stp.txt:Stp→List Str
 | .take n k=>[n,k]
 | .only n a _ _=>[n,a]
 | .turn n a _ _=>[n,a]
 | .both n a b=>[n,a,b]
 | .join n a b _=>[n,a,b]
 | .gap n a s _=>[n,a,s]
 | .each n a s _ _=>[n,a,s]
structure Hv (sn:List Str) (n:Str) (s:Stp):Prop where
 nm:s.nm=n
 fed:∀a∈s.BN,a∈sn
 ok:O9 s
 txt:∀t∈s.txt,Ok t
abbrev TAL:List V:=[.str "count", .str "sum", .str "least", .str "greatest"]
theorem QN {v:V}(h:v∈TAL):∃t,v=.str t/\Ok t:=by
 simp only [List.mem_cons,List.not_mem_nil,or_false] at h
 rcases h with rfl|rfl|rfl|rfl <;> exact ⟨_,rfl,by unfold Ok;decide +kernel⟩
theorem Fy {P:Str→Prop}{a b:Str}(ha:P a) (hb:P b):∀t∈[a,b],P t:=fun t ht=>by
 simp only [List.mem_cons,List.not_mem_nil,or_false] at ht
 rcases ht with rfl|rfl <;> assumption
theorem DE {P:Str→Prop}{a b c:Str}(ha:P a) (hb:P b) (hc:P c):∀t∈[a,b,c],P t:=fun t ht=>by
 simp only [List.mem_cons,List.not_mem_nil,or_false] at ht
 rcases ht with rfl|rfl|rfl <;> assumption
def PF:Sp:=fun vs H Q _=>∃(c:Int) (n:Str) (la:Addr) (zs:List Str) (kd:Str),vs=[.int c,.str n,.ref la,.str kd]/\Ok n/\H la=some (.lst (zs.map V.str))/\(∀a∈zs,Ok a)/\Ok kd/\zs.length≤1000 /\
 ∀p s H',AJ H H'→StA H' p s→Hv zs n s→(zs≠[]→c % 8=6\/c % 8=7→s.tell=true)→(zs=[]→s=.take n kd)→Q (.ref p) H'
theorem Pf (T:Tx K mg ad):Ba P w K mg base CX0 2 ad.EJ ad.Ex ["_law_cell", "_law_name", "_law_streams", "_law_kind_here"] PF:=by
 have G_unumber:=Mj (P:=P) (w:=w) (base:=base) T
 refine T.De.ok Jx (fun vs H Q E h=>?_) (fun cdv A outer s H vs Q E hr h=>?_)
 ·obtain ⟨c,n,la,zs,kd,rfl,_⟩:=h
  rfl
 ·obtain ⟨c,n,la,zs,kd,rfl,hn,ea,hzs,hkd,lz,k⟩:=h
  have nd:=Jx.nd
  refine ⟨_,(AF (AQ (i:=4) nd rfl (Or.inl rfl) (AG AX (pv 0) AB))
    (AF (AQ (i:=5) nd rfl (Or.inl rfl) (Fg (AU (HB (K:=K) hr.Gp) (pv 2) (As AE) (AZ _)) (AM (Ac (K:=K)) (pv 2) (AG AX (AG AY (pv 0) AB) (Al (BI (K:=K)) (by rfl) T.ET PySem.boot_len (AA (pv 2) AE))) (fun _ _=>rfl)) AO))
    (AF (AQ (i:=6) nd rfl (Or.inl rfl) (Fg (AU (HB (K:=K) hr.Gp) (pv 2) (As AE) (AZ _)) (AM (Ac (K:=K)) (pv 2) (AG AX (AG AY (pv 0) AB) (Al (BI (K:=K)) (by rfl) T.ET PySem.boot_len (AA (pv 2) AE))) (fun _ _=>rfl)) AO))
    (AF (AQ (i:=7) nd rfl (Or.inl rfl) (AG Ah (AG AY (pv 0) AB) (AG AX (AG BE (AG AY (pv 0) AB) AB) AB)))
    (AF (AQ (i:=8) nd rfl (Or.inl rfl) (AM (Ac (K:=K)) (As (AA AO (AA AO (AA AO (AA AO AE))))) (AG AX (pv 7) AB) (fun _ _=>rfl)))
    (AF (Aq (PW.pt (Lk (AU KA (pv 4) AB (AZ _)) (JE (AU (OB (K:=K) hr.Gp) (pv 2) (As AE) (AZ _)))))
    (AH (AW (Ar (AA AO (AA (pv 1) (AA (pv 3) AE))))))
    Aa)
    (AF (Aq (AU A0 (pv 4) AB (AZ _))
    (AF (AQ (i:=9) nd rfl (Or.inl rfl) (AG CI (AN G_unumber (hr.mono (by decide)) (by rfl) T.B8 T.A1.kp T.CB .nil Ab (AA (pv 7) (AA AB AE))) (AG BE AB (AG AX (AG AY (pv 7) AB) AB))))
    (AF (AQ (i:=10) nd rfl (Or.inl rfl) (AG Ah (pv 9) (AN G_unumber (hr.mono (by decide)) (by rfl) T.B8 T.A1.kp T.CB .nil Ab (AA (AG AY (pv 7) AB) (AA AB AE)))))
    (AF (JF (t':=tHi) (Aq (AU A0 (AG AX (AG AY (pv 7) AB) AB) AB (AZ _))
    (AH (AQ (i:=10) nd rfl (Or.inl rfl) (AG CI AB (AN G_unumber (hr.mono (by decide)) (by rfl) T.B8 T.A1.kp T.CB .nil Ab (AA (AG AY (pv 7) AB) (AA AB AE))))))
    Aa) ?w3)
    (AF (JF (t':=tLo) (Aq (AU A0 (AG AX (AG AY (pv 7) AB) AB) AB (AZ _))
    (AF (AQ (i:=9) nd rfl (Or.inl rfl) (AG CI (AG AX (AG AY (pv 7) AB) AB) AB))
    (AH (AQ (i:=10) nd rfl (Or.inl rfl) (AG Ah (pv 9) (AG AX (AG AY (pv 7) AB) AB)))))
    Aa) ?w4)
    (AH (AW (Ar (AA AO (AA (pv 1) (AA (pv 5) (AA (pv 9) (AA (Al (E3 rfl) (by rfl) T.GP PyProof.Rows.boot_max (AA (pv 9) (AA (Al (DC rfl) (by rfl) T.E6 PyProof.Rows.boot_min (AA AB (AA (pv 10) AE))) AE))) AE))))))))))))
    Aa)
    (AF (Aq (AU A0 (pv 4) AB (AZ _))
    (AH (AW (Ar (AA AO (AA (pv 1) (AA (pv 5) (AA (AG CI (AG AX (AG AY (pv 7) AB) AB) AB) (AA (AG CI (AN G_unumber (hr.mono (by decide)) (by rfl) T.B8 T.A1.kp T.CB .nil Ab (AA (AG AY (pv 7) AB) (AA AB AE))) AB) AE))))))))
    Aa)
    (AF (Aq (AU A0 (pv 4) AB (AZ _))
    (AH (AW (Ar (AA AO (AA (pv 1) (AA (pv 5) (AA (pv 6) AE)))))))
    Aa)
    (AF (Aq (AU A0 (pv 4) AB (AZ _))
    (AH (AW (Ar (AA AO (AA (pv 1) (AA (pv 5) (AA (pv 6) (AA (AN G_unumber (hr.mono (by decide)) (by rfl) T.B8 T.A1.kp T.CB .nil Ab (AA (pv 7) (AA AB AE))) AE))))))))
    Aa)
    (AF (Aq (AU A0 (pv 4) AB (AZ _))
    (AF (AQ (i:=11) nd rfl (Or.inl rfl) (AG Ah AB (AN G_unumber (hr.mono (by decide)) (by rfl) T.B8 T.A1.kp T.CB .nil Ab (AA (AG AY (pv 7) AB) (AA (AM (Ac (K:=K)) (As (AA AB (AA AB AE))) (AG AX (AG AY (pv 7) AB) AB) (fun _ _=>rfl)) AE)))))
    (AH (AW (Ar (AA AO (AA (pv 1) (AA (pv 5) (AA (pv 8) (AA (Al (DC rfl) (by rfl) T.E6 PyProof.Rows.boot_min (AA AB (AA (AG Ah (pv 11) (AN G_unumber (hr.mono (by decide)) (by rfl) T.B8 T.A1.kp T.CB .nil Ab (AA (AG AY (pv 7) AB) (AA (AG BE AB (pv 11)) AE)))) AE))) (AA (pv 11) AE))))))))))
    Aa)
    (AH (AW (Ar (AA AO (AA (pv 1) (AA (pv 5) (AA (pv 8) (AA (AN G_unumber (hr.mono (by decide)) (by rfl) T.B8 T.A1.kp T.CB .nil Ab (AA (AG AY (pv 7) AB) (AA AB AE))) AE))))))))))))))))))),?_⟩
  case w3=>exact Rt
  case w4=>exact Rr
  have ret:∀{H':Hp},AJ H H'→∀s,Hv zs n s→(zs≠[]→c % 8=6\/c % 8=7→s.tell=true)→(zs=[]→s=.take n kd)→∀p,H' p=none→Q (.ref p) (upd H' p (.tup (s.key.map kV))):=fun s' st h1 h2 h3 p hp=>k p st _ (s'.upd hp) AD h1 h2 h3
  have s0:=AJ.refl H
  have ix:∀{H'},AJ H H'→SqL K H' la (zs.map V.str):=fun s=>SqL.of (s _ _ ea)
  have sz:∀{n:Nat},n≤10→n≤sizeLine:=fun h=>Nat.le_trans h (by decide)
  have gtk:Hv zs n (.take n kd):=⟨rfl,fun a h=>(by cases h),trivial,Fy hn hkd⟩
  refine ⟨_,rfl,_,_,rfl,rfl,(by decide:(0:Int)<8),?_⟩
  cases hne:(zs.map V.str).isEmpty with
  | true =>
   have hz:zs=[]:=by cases zs with|nil=>rfl|cons a b=>cases hne
   refine ⟨_,rfl,Nat.zero_le _,fun l1 hl1=>?_⟩
   have s1:=s0.upd (o:=.lst []) hl1
   refine ⟨la,l1,_,rfl,rfl,ix s1,SqL.of AD,_,rfl,?_⟩
   generalize upd H l1 (.lst [])=H1 at s1 ⊢
   rw [hne]
   refine EE ⟨_,rfl,Nat.zero_le _,fun l2 hl2=>?_⟩
   have s2:=s1.upd (o:=.lst []) hl2
   refine ⟨la,l2,_,rfl,rfl,ix s2,SqL.of AD,_,rfl,?_⟩
   generalize upd H1 l2 (.lst [])=H2 at s2 ⊢
   rw [hne]
   refine EE ⟨_,rfl,_,_,rfl,rfl,⟨by decide,by decide⟩,_,rfl,_,_,rfl,rfl,⟨by decide,by decide⟩,_,_,rfl,rfl,.inr ⟨by decide,by decide⟩,_,_,rfl,rfl,(by decide:(0:Int)<2147483647),_,_,rfl,rfl,?_⟩
   refine ⟨sz (by decide),fun l3' hl3'=>?_⟩
   obtain ⟨tl,h3,m3⟩:=BL TAL 4 rfl (by decide) (c / 3200+c / 8 * 48271 % 2147483647)
   refine ⟨_,rfl,_,_,rfl,rfl,(by decide:(0:Int)<4),l3',_,_,tl,rfl,rfl,SqL.of AD,h3,?_⟩
   have s3:=s2.upd (o:=.lst TAL) hl3'
   generalize upd H2 l3' (.lst TAL)=H3 at s3 ⊢
   refine ⟨_,rfl,_,_,rfl,rfl,_,rfl,Fo (fun _=>?_) fun _=>?_⟩
   ·exact JU ⟨_,rfl,_,rfl,sz (by show (_:Nat)≤10;simp only [List.length_cons,List.length_nil];omega),fun p hp=>ret s3 (.take n kd) gtk (fun h=>absurd hz h) (fun _=>rfl) p hp⟩
   refine ⟨_,rfl,Nat.zero_le _,fun l4 hl4=>?_⟩
   have s4:=s3.upd (o:=.lst []) hl4
   refine ⟨la,l4,_,rfl,rfl,ix s4,SqL.of AD,_,rfl,?_⟩
   generalize upd H3 l4 (.lst [])=H4 at s4 ⊢
   rw [hne]
   exact JU ⟨_,rfl,_,rfl,sz (by show (_:Nat)≤10;simp only [List.length_cons,List.length_nil];omega),fun p hp=>ret s4 (.take n kd) gtk (fun h=>absurd hz h) (fun _=>rfl) p hp⟩
  | false =>
   have hzn:zs≠[]:=fun e=>by rw [e] at hne;cases hne
   have hpos:0<(zs.map V.str).length:=by
    rw [List.length_map]
    exact List.length_pos_iff.mpr hzn
   have nz:∀{s:Stp},zs=[]→s=.take n kd:=fun h=>absurd h hzn
   refine ⟨_,rfl,Nat.zero_le _,fun l1 hl1=>?_⟩
   have s1:=s0.upd (o:=.lst []) hl1
   refine ⟨la,l1,_,rfl,rfl,ix s1,SqL.of AD,_,rfl,?_⟩
   generalize upd H l1 (.lst [])=H1 at s1 ⊢
   rw [hne]
   obtain ⟨v1,h1,m1⟩:=BL (zs.map V.str) (((zs.map V.str).length:Nat):Int) rfl (by omega) (c / 8)
   obtain ⟨one,mo1,rfl⟩:=List.mem_map.mp m1
   refine JU ⟨_,rfl,_,rfl,_,_,rfl,rfl,⟨by decide,by decide⟩,_,rfl,la,_,rfl,.inl (ix s1),_,_,rfl,rfl,(by show (0:Int)<(((zs.map V.str).length:Nat):Int);omega),la,_,_,_,rfl,rfl,ix s1,h1,?_⟩
   refine ⟨_,rfl,Nat.zero_le _,fun l2 hl2=>?_⟩
   have s2:=s1.upd (o:=.lst []) hl2
   refine ⟨la,l2,_,rfl,rfl,ix s2,SqL.of AD,_,rfl,?_⟩
   generalize upd H1 l2 (.lst [])=H2 at s2 ⊢
   rw [hne]
   obtain ⟨v2,h2,m2⟩:=BL (zs.map V.str) (((zs.map V.str).length:Nat):Int) rfl (by omega) (c / 160)
   obtain ⟨two,mo2,rfl⟩:=List.mem_map.mp m2
   refine JU ⟨_,rfl,_,rfl,_,_,rfl,rfl,⟨by decide,by decide⟩,_,rfl,la,_,rfl,.inl (ix s2),_,_,rfl,rfl,(by show (0:Int)<(((zs.map V.str).length:Nat):Int);omega),la,_,_,_,rfl,rfl,ix s2,h2,?_⟩
   have n1:=hzs one mo1
   have n2:=hzs two mo2
   have f1:∀a∈[one],a∈zs:=fun a h=>by rw [List.mem_singleton.mp h];exact mo1
   have f2:∀a∈[one,two],a∈zs:=Fy mo1 mo2
   refine ⟨_,rfl,_,_,rfl,rfl,⟨by decide,by decide⟩,_,rfl,_,_,rfl,rfl,⟨by decide,by decide⟩,_,_,rfl,rfl,.inr ⟨by decide,by decide⟩,_,_,rfl,rfl,(by decide:(0:Int)<2147483647),_,_,rfl,rfl,?_⟩
   refine ⟨sz (by decide),fun l3' hl3'=>?_⟩
   obtain ⟨tv,h3,m3⟩:=BL TAL 4 rfl (by decide) (c / 3200+c / 8 * 48271 % 2147483647)
   obtain ⟨tl,rfl,okt⟩:=QN m3
   refine ⟨_,rfl,_,_,rfl,rfl,(by decide:(0:Int)<4),l3',_,_,_,rfl,rfl,SqL.of AD,h3,?_⟩
   have s3:=s2.upd (o:=.lst TAL) hl3'
   generalize upd H2 l3' (.lst TAL)=H3 at s3 ⊢
   refine ⟨_,rfl,_,_,rfl,rfl,_,rfl,Hs (fun w=>?_) fun w=>?_⟩
   ·have w:c % 8<2:=w
    exact JU ⟨_,rfl,_,rfl,sz (by show (_:Nat)≤10;simp only [List.length_cons,List.length_nil];omega),fun p hp=>ret s3 (.take n kd) gtk (fun _ h=>by omega) (fun _=>rfl) p hp⟩
   refine ⟨_,rfl,Nat.zero_le _,fun l4 hl4=>?_⟩
   have s4:=s3.upd (o:=.lst []) hl4
   refine ⟨la,l4,_,rfl,rfl,ix s4,SqL.of AD,_,rfl,?_⟩
   generalize upd H3 l4 (.lst [])=H4 at s4 ⊢
   rw [hne]
   refine EE ?_
   refine ⟨_,rfl,rfl,_,rfl,FD (fun w=>?_) fun _=>?_⟩
   ·have w:c % 8=2:=w
    have b8:0≤(c / 3200+c / 8 * 48271 % 2147483647) / 8 % 2/\(c / 3200+c / 8 * 48271 % 2147483647) / 8 % 2<2:=⟨Int.emod_nonneg _ (by decide),Int.emod_lt_of_pos _ (by decide)⟩
    refine ⟨_,rfl,_,_,rfl,by decide,fun r r0 r1=>⟨_,rfl,_,_,rfl,rfl,⟨by decide,by decide⟩,_,_,rfl,rfl,(by decide:(0:Int)<2),_,_,rfl,rfl,.inl ⟨by decide,by decide⟩,_,_,rfl,rfl,?_⟩⟩
    refine ⟨_,rfl,_,rfl,_,_,rfl,rfl,⟨by decide,by decide⟩,_,_,rfl,by decide,fun r' r2 r3=>⟨_,_,rfl,rfl,?_⟩⟩
    refine ⟨_,_,_,_,_,_,_,_,_,_,_,_,rfl,fun hi=>?_⟩
    refine ⟨_,_,_,_,_,_,_,_,_,_,_,_,rfl,by omega,by omega,fun lo hi' b0 b1=>?_⟩
    exact ⟨_,rfl,_,rfl,_,rfl,_,rfl,_,rfl,_,_,rfl,_,_,rfl,sz (by show (_:Nat)≤10;simp only [List.length_cons,List.length_nil];omega),fun p hp=>ret s4 (.only n one lo _) ⟨rfl,f1,trivial,Fy hn n1⟩ (fun _ h=>by omega) nz p hp⟩
   refine ⟨_,rfl,rfl,_,rfl,FD (fun w=>?_) fun _=>?_⟩
   ·have w:c % 8=3:=w
    have b19:0≤(c / 3200+c / 8 * 48271 % 2147483647) / 4 % 19/\(c / 3200+c / 8 * 48271 % 2147483647) / 4 % 19<19:=⟨Int.emod_nonneg _ (by decide),Int.emod_lt_of_pos _ (by decide)⟩
    exact ⟨_,rfl,_,rfl,_,rfl,_,_,rfl,rfl,⟨by decide,by decide⟩,_,_,rfl,rfl,(by decide:(0:Int)<19),_,_,rfl,rfl,_,rfl,_,_,rfl,rfl,⟨by decide,by decide⟩,_,_,rfl,by decide,fun r r0 r1=>⟨_,_,rfl,rfl,sz (by show (_:Nat)≤10;simp only [List.length_cons,List.length_nil];omega),fun p hp=>ret s4 (.turn n one _ _) ⟨rfl,f1,⟨by omega,by omega⟩,Fy hn n1⟩ (fun _ h=>by omega) nz p hp⟩⟩
   refine ⟨_,rfl,rfl,_,rfl,FD (fun w=>?_) fun _=>?_⟩
   ·have w:c % 8=4:=w
    exact ⟨_,rfl,_,rfl,_,rfl,sz (by show (_:Nat)≤10;simp only [List.length_cons,List.length_nil];omega),fun p hp=>ret s4 (.both n one two) ⟨rfl,f2,trivial,DE hn n1 n2⟩ (fun _ h=>by omega) nz p hp⟩
   refine ⟨_,rfl,rfl,_,rfl,FD (fun w=>?_) fun _=>?_⟩
   ·have w:c % 8=5:=w
    exact ⟨_,rfl,_,rfl,_,rfl,_,rfl,_,_,rfl,by decide,fun r r0 r1=>⟨sz (by show (_:Nat)≤10;simp only [List.length_cons,List.length_nil];omega),fun p hp=>ret s4 (.join n one two r) ⟨rfl,f2,r0,DE hn n1 n2⟩ (fun _ h=>by omega) nz p hp⟩⟩
   refine ⟨_,rfl,rfl,_,rfl,FD (fun w=>?_) fun _=>?_⟩
   ·obtain ⟨mx,h5,m5⟩:=BL [V.int 49999,V.int 999999] 2 rfl (by decide) ((c / 3200+c / 8 * 48271 % 2147483647) / 256)
    obtain ⟨M,rfl,hM⟩:∃M:Int,mx=.int M/\1≤M/\M≤999999:=by
     simp only [List.mem_cons,List.not_mem_nil,or_false] at m5
     rcases m5 with rfl|rfl
     ·exact ⟨_,rfl,by decide,by decide⟩
     ·exact ⟨_,rfl,by decide,by decide⟩
    refine ⟨_,rfl,_,_,rfl,rfl,⟨by decide,by decide⟩,sz (by decide),fun l5 hl5=>?_⟩
    refine ⟨_,rfl,_,_,rfl,rfl,⟨by decide,by decide⟩,_,_,rfl,rfl,(by decide:(0:Int)<2),l5,_,_,_,rfl,rfl,SqL.of AD,h5,_,_,rfl,hM.1,fun r r0 r1=>⟨_,_,rfl,rfl,?_⟩⟩
    have s5:=s4.upd (o:=.lst [V.int 49999,V.int 999999]) hl5
    generalize upd H4 l5 (.lst [V.int 49999,V.int 999999])=H5 at s5 ⊢
    exact ⟨_,rfl,_,rfl,_,rfl,_,rfl,_,rfl,_,_,rfl,rfl,⟨by decide,by decide⟩,_,rfl,_,_,rfl,rfl,.inl ⟨by decide,by decide⟩,_,_,rfl,by omega,fun r' r2 r3=>⟨_,_,rfl,rfl,_,_,rfl,_,rfl,sz (by show (_:Nat)≤10;simp only [List.length_cons,List.length_nil];omega),fun p hp=>ret s5 (.each n one tl _ _) ⟨rfl,f1,trivial,DE hn n1 okt⟩ (fun _ _=>rfl) nz p hp⟩⟩
   exact ⟨_,rfl,_,rfl,_,rfl,_,rfl,_,_,rfl,rfl,⟨by decide,by decide⟩,_,_,rfl,by decide,fun r r0 r1=>⟨sz (by show (_:Nat)≤10;simp only [List.length_cons,List.length_nil];omega),fun p hp=>ret s4 (.gap n one tl r) ⟨rfl,f1,trivial,DE hn n1 okt⟩ (fun _ _=>rfl) nz p hp⟩⟩
def Tag (b:Int) (n:Str) (t:Nat×Nat):Prop:=t.1<26/\t.2<26/\((23≤t.1/\∃k:Int,n=Aj b k (chL t.1++chL t.2))\/(t.1=0/\t.2<13/\n=snF b (t.2:Int) (chL 0++chL t.2)))
theorem LV (b k:Int) (z:Str):∃u v:List Nat,(Aj b k z).cps.toList=u++z.cps.toList++v:=by
 unfold Aj
 exact ⟨_,_,by rw [Fx,Fx]⟩
theorem MN:∀w∈EO,∀i:Nat,i<12→i+1<w.cps.toList.length→w.cps.toList.getD i 0<120:=by decide +kernel
theorem OU:∀i:Nat,i<26→23≤i→120≤LET.cps.toList.getD i 0:=by decide +kernel
theorem MO:∀w∈EO,w.cps.toList.length≤12:=by decide +kernel
theorem Jm {b k:Int}{i j:Nat}(hi:i<26) (h:23≤i) {w:Str}(hw:w∈EO):w≠Aj b k (chL i++chL j):=fun e=>by
 obtain ⟨u,v,q⟩:=LV b k (chL i++chL j)
 rw [←e] at q
 have q:w.cps.toList=u++[LET.cps.toList.getD i 0,LET.cps.toList.getD j 0]++v:=q
 have l1:=MO w hw
 have l2:w.cps.toList.length=u.length+2+v.length:=by rw [q];simp;omega
 have:=MN w hw u.length (by omega) (by omega)
 have e2:w.cps.toList.getD u.length 0=LET.cps.toList.getD i 0:=by
  rw [q,List.append_assoc,List.getD_eq_getElem?_getD,List.getElem?_append_right (Nat.le_refl _),Nat.sub_self]
  rfl
 have:=OU i hi h
 omega
theorem Jv {b:Int}(h:b % 9=4) (k:Nat) (z:Str):snF b k z∈EO:=by
 unfold snF
 rw [if_pos h]
 have h1:0≤((k:Int)+b / 9) % 13:=Int.emod_nonneg _ (by decide)
 have h2:((k:Int)+b / 9) % 13<13:=Int.emod_lt_of_pos _ (by decide)
 have l:EO.length=13:=rfl
 rw [List.getD_eq_getElem?_getD,List.getElem?_eq_getElem (by omega)]
 exact List.getElem_mem _
theorem Iq {b:Int}{n:Str}{t t':Nat×Nat}(h:Tag b n t) (h':Tag b n t'):t=t':=by
 obtain ⟨a1,a2,h⟩:=h
 obtain ⟨b1,b2,h'⟩:=h'
 have ci:∀{k k':Int} {i j i' j':Nat},i<26→j<26→i'<26→j'<26→Aj b k (chL i++chL j)=Aj b k' (chL i'++chL j')→i=i'/\j=j':=fun h1 h2 h3 h4 e=>O5 (LU (by rw [LN,LN]) (by rw [LN];decide) e) h1 h2 h3 h4
 rcases h with ⟨c,k,rfl⟩|⟨c,c2,rfl⟩
 ·rcases h' with ⟨c',k',e⟩|⟨c',c2',e⟩
  ·obtain ⟨q1,q2⟩:=ci a1 a2 b1 b2 e
   exact Prod.ext q1 q2
  ·by_cases h9:b % 9=4
   ·exact absurd e.symm (Jm a1 c (Jv h9 t'.2 _))
   ·unfold snF at e
    rw [if_neg h9] at e
    obtain ⟨q1,q2⟩:=ci a1 a2 (by decide) b2 e
    omega
 ·rcases h' with ⟨c',k',e⟩|⟨c',c2',e⟩
  ·by_cases h9:b % 9=4
   ·exact absurd e (Jm b1 c' (Jv h9 t.2 _))
   ·unfold snF at e
    rw [if_neg h9] at e
    obtain ⟨q1,q2⟩:=ci (by decide) a2 b1 b2 e
    omega
  ·have:t.2=t'.2:=by
    by_cases h9:b % 9=4
    ·unfold snF at e
     rw [if_pos h9,if_pos h9] at e
     have h1:∀k:Nat,0≤((k:Int)+b / 9) % 13:=fun k=>Int.emod_nonneg _ (by decide)
     have h2:∀k:Nat,((k:Int)+b / 9) % 13<13:=fun k=>Int.emod_lt_of_pos _ (by decide)
     have:=NT _ (by have:=h1 t.2;have:=h2 t.2;omega) _ (by have:=h1 t'.2;have:=h2 t'.2;omega) e
     omega
    ·unfold snF at e
     rw [if_neg h9,if_neg h9] at e
     exact (ci (by decide) a2 (by decide) b2 e).2
   exact Prod.ext (c.trans c'.symm) this
def szK (sn:List Str) (z:Str→Nat):List (Key×V):=sn.map fun a=>(.inr a,.int (z a:Int))
theorem O4 {sn:List Str}{z:Str→Nat}{a:Str}(h:a∈sn):A7 (szK sn z) (.inr a)=some (.int (z a:Int)):=by
 unfold A7 szK
 rw [List.find?_map]
 have hs:(sn.find? ((fun kv:Key×V=>decide (kv.1=.inr a)) ∘ fun a=>((.inr a:Key),V.int (z a:Int)))).isSome=true:=by
  rw [List.find?_isSome]
  exact ⟨a,h,by simp⟩
 obtain ⟨b,hb⟩:=Option.isSome_iff_exists.mp hs
 have e:=List.find?_some hb
 have e:b=a:=by simpa using e
 rw [hb,e]
 rfl
def Bs (z:Str→Nat) (n:Str) (m:Nat):Str→Nat:=fun a=>if a=n then m else z a
theorem D9 {z:Str→Nat}{n:Str}{m:Nat}:Bs z n m n=m:=if_pos rfl
theorem BO {z:Str→Nat}{n a:Str}{m:Nat}(h:a≠n):Bs z n m a=z a:=if_neg h
theorem Ll {sn:List Str}{z:Str→Nat}{n:Str}(h:n∉sn):putK (szK sn z) (.inr n) (.int (z n:Int))=szK (sn++[n]) z:=by
 unfold putK
 rw [if_neg]
 ·unfold szK
  rw [List.map_append]
  rfl
 ·intro q
  obtain ⟨kv,hk,e⟩:=List.any_eq_true.mp q
  obtain ⟨a,ha,rfl⟩:=List.mem_map.mp hk
  have e:a=n:=by simpa using e
  exact h (by rw [←e];exact ha)
theorem Jt (sn:List Str) (z:Str→Nat):(szK sn z).map (fun p=>kV p.1)=sn.map V.str:=by
 unfold szK
 rw [List.map_map]
 rfl
theorem MV {sn:List Str}{z z':Str→Nat}(h:∀a∈sn,z a=z' a):szK sn z=szK sn z':=by
 unfold szK
 exact List.map_congr_left fun a ha=>by rw [h a ha]
theorem FU {s:Stp}{z z':Str→Nat}{m:Nat}(h:∀a∈s.BN,z' a=z a):CK s z' m=CK s z m:=by
 cases s with
 | take=>rfl
 | only n a=>exact h a (.head _)
 | turn n a=>exact h a (.head _)
 | gap n a=>exact h a (.head _)
 | each n a=>exact h a (.head _)
 | both n a b=>show z' a+z' b=z a+z b;rw [h a (.head _),h b (.tail _ (.head _))]
 | join n a b=>show z' a * z' b=z a * z b;rw [h a (.head _),h b (.tail _ (.head _))]
structure CL (b:Int) (many:Nat) (ss:List Stp) (ts:List (Nat×Nat)) (z:Str→Nat) (sn:List Str):Prop where
 tag:Paired (fun s t=>Tag b s.nm t) ss ts
 tnd:ts.Nodup
 fed:∀(i:Nat) s a,ss[i]?=some s→a∈s.BN→∃(i':Nat) (s':Stp),i'<i/\ss[i']?=some s'/\s'.nm=a/\s'.tell=false
 ok:∀s∈ss,O9 s
 txt:∀s∈ss,∀t∈s.txt,Ok t
 str:∀a∈sn,∃(i:Nat) (s:Stp),ss[i]?=some s/\s.nm=a/\s.tell=false
 siz:∀s∈ss,CK s z many≤z s.nm/\z s.nm≤1000
theorem CL.nil (b:Int) (many:Nat) (z:Str→Nat):CL b many [] [] z [] :=
 ⟨.nil,.nil,fun i s a e=>(by simp at e),fun s h=>(by cases h),fun s h=>(by cases h),fun a h=>(by cases h),fun s h=>(by cases h)⟩
theorem CL.N2 {b:Int}{many:Nat}{ss:List Stp}{ts:List (Nat×Nat)}{z:Str→Nat}{sn:List Str}(h:CL b many ss ts z sn):Dk ss:=by
 refine ⟨fun i i' s s' e e' q=>?_,h.fed,h.ok⟩
 obtain ⟨l,f⟩:=Am h.tag
 have hi:=(List.getElem?_eq_some_iff.mp e).1
 have hi':=(List.getElem?_eq_some_iff.mp e').1
 have t1:=List.getElem?_eq_getElem (show i<ts.length by omega)
 have t2:=List.getElem?_eq_getElem (show i'<ts.length by omega)
 have g1:=f i s _ e t1
 have g2:=f i' s' _ e' t2
 rw [q] at g1
 exact (List.getElem_inj h.tnd).mp (Iq g1 g2)
theorem PR {α:Type}{l:List α}{x y:α}{i:Nat}(h:(l++[x])[i]?=some y):l[i]?=some y\/(i=l.length/\y=x):=by
 rcases Nat.lt_trichotomy i l.length with q|q|q
 ·rw [List.getElem?_append_left q] at h;exact .inl h
 ·subst q
  rw [List.getElem?_append_right (Nat.le_refl _),Nat.sub_self] at h
  exact .inr ⟨rfl,(Option.some.inj h).symm⟩
 ·rw [List.getElem?_eq_none (by rw [List.length_append];show l.length+1≤i;omega)] at h;cases h
theorem Jf {α:Type}{l:List α}{x y:α}{i:Nat}(h:l[i]?=some y):(l++[x])[i]?=some y:=by
 rw [List.getElem?_append_left (List.getElem?_eq_some_iff.mp h).1];exact h
theorem CL.new {b:Int}{many:Nat}{ss:List Stp}{ts:List (Nat×Nat)}{z:Str→Nat}{sn:List Str}(h:CL b many ss ts z sn) {n:Str}{t:Nat×Nat}(ht:Tag b n t) (hn:t∉ts):∀s∈ss,s.nm≠n:=fun s hs e=>by
 obtain ⟨i,ei⟩:=List.mem_iff_getElem?.mp hs
 obtain ⟨l,f⟩:=Am h.tag
 have hi:=(List.getElem?_eq_some_iff.mp ei).1
 have t1:=List.getElem?_eq_getElem (show i<ts.length by omega)
 have g1:=f i s _ ei t1
 rw [e] at g1
 exact hn (by rw [Iq ht g1];exact List.getElem_mem _)
theorem CL.snoc {b:Int}{many:Nat}{ss:List Stp}{ts:List (Nat×Nat)}{z:Str→Nat}{sn:List Str}(h:CL b many ss ts z sn) {s:Stp}{t:Nat×Nat}(ht:Tag b s.nm t) (hn:t∉ts) (g:Hv sn s.nm s) (hb:CK s z many≤1000):CL b many (ss++[s]) (ts++[t]) (Bs z s.nm (CK s z many)) sn:=by
 have nw:=h.new ht hn
 have strn:∀a∈sn,a≠s.nm:=fun a ha e=>by
  obtain ⟨i,s',ei,en,_⟩:=h.str a ha
  exact nw s' (List.mem_of_getElem? ei) (en.trans e)
 have zf:∀s'∈ss,CK s' (Bs z s.nm (CK s z many)) many=CK s' z many:=fun s' hs=>FU fun a ha=>by
  obtain ⟨i,ei⟩:=List.mem_iff_getElem?.mp hs
  obtain ⟨i',s2,_,e2,en,_⟩:=h.fed i s' a ei ha
  exact BO fun e=>nw s2 (List.mem_of_getElem? e2) (en.trans e)
 refine ⟨An h.tag (.cons ht .nil),?_,fun i s' a ei ha=>?_,fun s' hs=>?_,fun s' hs=>?_,fun a ha=>?_,fun s' hs=>?_⟩
 ·rw [List.nodup_append]
  exact ⟨h.tnd,by simp,fun a ha c hc=>by rw [List.mem_singleton.mp hc];exact fun e=>hn (by rw [←e];exact ha)⟩
 ·rcases PR ei with ei|⟨rfl,rfl⟩
  ·obtain ⟨i',s2,l,e2,q⟩:=h.fed i s' a ei ha
   exact ⟨i',s2,l,Jf e2,q⟩
  ·obtain ⟨i',s2,e2,q⟩:=h.str a (g.fed a ha)
   exact ⟨i',s2,(List.getElem?_eq_some_iff.mp e2).1,Jf e2,q⟩
 ·rcases List.mem_append.mp hs with hs|hs
  ·exact h.ok s' hs
  ·rw [List.mem_singleton.mp hs];exact g.ok
 ·rcases List.mem_append.mp hs with hs|hs
  ·exact h.txt s' hs
  ·rw [List.mem_singleton.mp hs];exact g.txt
 ·obtain ⟨i,s',ei,q⟩:=h.str a ha
  exact ⟨i,s',Jf ei,q⟩
 ·rcases List.mem_append.mp hs with hs|hs
  ·rw [zf s' hs,BO (nw s' hs)]
   exact h.siz s' hs
  ·rw [List.mem_singleton.mp hs,D9,FU (z:=z) fun a ha=>BO (strn a (g.fed a ha))]
   exact ⟨Nat.le_refl _,hb⟩
theorem CL.add {b:Int}{many:Nat}{ss:List Stp}{ts:List (Nat×Nat)}{z:Str→Nat}{sn:List Str}(h:CL b many ss ts z sn) {i:Nat}{s:Stp}(ei:ss[i]?=some s) (ht:s.tell=false):CL b many ss ts z (sn++[s.nm]) :=
 { h with
  str:=fun a ha=>(by
   rcases List.mem_append.mp ha with ha|ha
   ·exact h.str a ha
   ·rw [List.mem_singleton.mp ha];exact ⟨i,s,ei,rfl,ht⟩) }
theorem CL.okn {b:Int}{many:Nat}{ss:List Stp}{ts:List (Nat×Nat)}{z:Str→Nat}{sn:List Str}(h:CL b many ss ts z sn):∀a∈sn,Ok a:=fun a ha=>by
 obtain ⟨i,s,ei,rfl,_⟩:=h.str a ha
 exact h.txt s (List.mem_of_getElem? ei) s.nm (by cases s <;> exact .head _)
theorem CL.szs {b:Int}{many:Nat}{ss:List Stp}{ts:List (Nat×Nat)}{z:Str→Nat}{sn:List Str}(h:CL b many ss ts z sn):∀a∈sn,z a≤1000:=fun a ha=>by
 obtain ⟨i,s,ei,rfl,_⟩:=h.str a ha
 exact (h.siz s (List.mem_of_getElem? ei)).2
theorem Mq {s:Stp}{L:Str→List It}{evs:List Ev}{z:Str→Nat}{m:Nat}(he:evs.length≤m) (h:∀a∈s.BN,(L a).length≤z a):(Bt s L evs).length≤CK s z m:=by
 cases s with
 | take n k=>exact Nat.le_trans (by show ((evs.filter _).map evI).length≤_;rw [List.length_map];exact List.length_filter_le _ _) he
 | only n a lo hi=>exact Nat.le_trans (List.length_filter_le _ _) (h a (.head _))
 | turn n a f g=>show ((L a).map _).length≤_;rw [List.length_map];exact h a (.head _)
 | both n a b=>show (L a++L b).length≤z a+z b;rw [List.length_append];have:=h a (.head _);have:=h b (.tail _ (.head _));omega
 | join n a b wi=>exact Nat.le_trans (FR wi (L b) (L a)) (Nat.mul_le_mul (h a (.head _)) (h b (.tail _ (.head _))))
 | gap n a s m=>exact h a (.head _)
 | each n a s z d=>exact h a (.head _)
theorem CL.SK {b:Int}{many:Nat}{ss:List Stp}{ts:List (Nat×Nat)}{z:Str→Nat}{sn:List Str}(h:CL b many ss ts z sn) {L:Str→List It}{evs:List Ev}(he:evs.length≤many) (hL:∀s∈ss,L s.nm=Bt s L evs):∀s∈ss,L s.nm=Bt s L evs/\(L s.nm).length≤1000:=by
 have key:∀(i:Nat) s,ss[i]?=some s→(L s.nm).length≤z s.nm:=by
  intro i
  induction i using Nat.strongRecOn with
  | ind i ih =>
   intro s ei
   have hs:=List.mem_of_getElem? ei
   rw [hL s hs]
   refine Nat.le_trans (Mq he fun a ha=>?_) (h.siz s hs).1
   obtain ⟨i',s',li,ei',rfl,_⟩:=h.fed i s a ei ha
   exact ih i' li s' ei'
 intro s hs
 obtain ⟨i,ei⟩:=List.mem_iff_getElem?.mp hs
 exact ⟨hL s hs,Nat.le_trans (key i s ei) (h.siz s hs).2⟩
def JnS (b:Int) (many:Nat) (ss:List Stp):Prop:=∃(n0 n1 n2 n3 f k0 k1:Str) (w2 w3:Int),Tag b n0 (24,0)/\Tag b n1 (24,1)/\Tag b n2 (24,2)/\Tag b n3 (24,3)/\(f=n0\/f=n1)/\(Ok n0/\Ok n1/\Ok n2/\Ok n3)/\Ok k0/\Ok k1/\0≤w2/\0≤w3 /\
 ((¬ many<6/\ss=[.take n0 k0,.take n1 k1,.join n2 n0 f w2,.join n3 n1 n0 w3])\/(many<6/\∃(n4 p q:Str) (w4:Int),Tag b n4 (24,4)/\Ok n4/\0≤w4/\((p=n2/\q=n1)\/(p=n0/\q=n3))/\ss=[.take n0 k0,.take n1 k1,.join n2 n0 f w2,.join n3 n1 n0 w3,.join n4 p q w4]))
def R7:Sp:=fun vs H Q _=>∃(b c:Int) (many:Nat),vs=[.int b,.int c,.int (many:Int)]/\∀l H' ps ss,AJ H H'→H l=none→H' l=some (.lst ps)→Cp H' ps ss→JnS b many ss→Q (.ref l) H'
theorem Ji {i j:Nat}(hi:i<26) (hj:j<26):AL (chL i++chL j):=(Ot i hi).app (Ot j hj)
theorem QB:("ya" : Str)=chL 24++chL 0:=by decide +kernel
theorem QA:("yb" : Str)=chL 24++chL 1:=by decide +kernel
theorem P9:("yc" : Str)=chL 24++chL 2:=by decide +kernel
theorem P8:("yd" : Str)=chL 24++chL 3:=by decide +kernel
theorem P7:("ye" : Str)=chL 24++chL 4:=by decide +kernel
theorem Jr {b k:Int}{z:Str}{j:Nat}(hz:z=chL 24++chL j) (hj:j<26):Tag b (Aj b k z) (24,j):=⟨(by decide:24<26),hj,.inl ⟨(by decide:23≤24),k,by rw [hz]⟩⟩
theorem OF (T:Tx K mg ad):Ba P w K mg base CX0 3 ad.A5 ad.BM ["_law_base", "_law_cell", "_law_many"] R7:=by
 have G_ucalled:=Ds (P:=P) (w:=w) (base:=base) T
 have G_ukind:=JM (P:=P) (w:=w) (base:=base) T
 refine T.A6.ok EU (fun vs H Q E h=>?_) (fun cdv A outer s H vs Q E hr h=>?_)
 ·obtain ⟨b,c,many,rfl,_⟩:=h
  rfl
 ·obtain ⟨b,c,many,rfl,k⟩:=h
  have nd:=EU.nd
  refine ⟨_,(AF (AQ (i:=3) nd rfl (Or.inl rfl) (As (AA (Ar (AA AO (AA (AN G_ucalled (hr.mono (by decide)) (by rfl) T.BW T.Aw.kp T.BY .nil Ab (AA (pv 0) (AA AB (AA AO AE)))) (AA (AN G_ukind (hr.mono (by decide)) (by rfl) T.Ge T.Cj.kp T.Gg .nil Ab (AA (pv 0) (AA AB AE))) AE)))) AE)))
    (AF (CD (CM (K:=K) F.plainAttrs_list F.slot_list_append F.type_list_append Bi (pv 3) (AA (Ar (AA AO (AA (AN G_ucalled (hr.mono (by decide)) (by rfl) T.BW T.Aw.kp T.BY .nil Ab (AA (pv 0) (AA AB (AA AO AE)))) (AA (AN G_ukind (hr.mono (by decide)) (by rfl) T.Ge T.Cj.kp T.Gg .nil Ab (AA (pv 0) (AA AB AE))) AE)))) AE)))
    (AF (Qc (i:=4) (j:=5) rfl nd rfl rfl (by decide) rfl rfl (AA (AM (AK (K:=K)) (AM (Ac (K:=K)) (pv 3) AB (fun _ _=>rfl)) AB (fun _ _=>rfl)) (AA (AM (AK (K:=K)) (AM (Ac (K:=K)) (pv 3) AB (fun _ _=>rfl)) AB (fun _ _=>rfl)) AE)) (by rfl))
    (AF (CD (CM (K:=K) F.plainAttrs_list F.slot_list_append F.type_list_append Bi (pv 3) (AA (Ar (AA AO (AA (AN G_ucalled (hr.mono (by decide)) (by rfl) T.BW T.Aw.kp T.BY .nil Ab (AA (pv 0) (AA AB (AA AO AE)))) (AA (pv 4) (AA (AM (Ac (K:=K)) (As (AA (pv 4) (AA (pv 5) AE))) (AG AX (AG AY (pv 1) AB) AB) (fun _ _=>rfl)) (AA (AG AX (pv 1) AB) AE)))))) AE)))
    (AF (CD (CM (K:=K) F.plainAttrs_list F.slot_list_append F.type_list_append Bi (pv 3) (AA (Ar (AA AO (AA (AN G_ucalled (hr.mono (by decide)) (by rfl) T.BW T.Aw.kp T.BY .nil Ab (AA (pv 0) (AA AB (AA AO AE)))) (AA (pv 5) (AA (pv 4) (AA (AG AX (AG AY (pv 1) AB) AB) AE)))))) AE)))
    (AF (Aq (AU KA (pv 2) AB (AZ _))
    (AF (AQ (i:=6) nd rfl (Or.inl rfl) (AM (Ac (K:=K)) (As (AA (Ar (AA (AM (AK (K:=K)) (AM (Ac (K:=K)) (pv 3) AB (fun _ _=>rfl)) AB (fun _ _=>rfl)) (AA (pv 5) AE))) (AA (Ar (AA (pv 4) (AA (AM (AK (K:=K)) (AM (Ac (K:=K)) (pv 3) AB (fun _ _=>rfl)) AB (fun _ _=>rfl)) AE))) AE))) (AG AX (AG AY (pv 1) AB) AB) (fun _ _=>rfl)))
    (AH (CD (CM (K:=K) F.plainAttrs_list F.slot_list_append F.type_list_append Bi (pv 3) (AA (AG Et (AG Et (Ar (AA AO (AA (AN G_ucalled (hr.mono (by decide)) (by rfl) T.BW T.Aw.kp T.BY .nil Ab (AA (pv 0) (AA AB (AA AO AE)))) AE))) (pv 6)) (Ar (AA (AG AX (AG AY (pv 1) AB) AB) AE))) AE)))))
    Aa)
    (AH (AW (pv 3))))))))),?_⟩
  have sz:sizeLine=16777216:=sizeLine_eq
  have aly:∀{z:Str} {j:Nat},z=chL 24++chL j→j<26→AL z/\1≤z.length/\z.length≤2:=fun e hj=>by
   rw [e,LN]
   exact ⟨Ji (by decide) hj,by decide,by decide⟩
  obtain ⟨a0,a1,a2⟩:=aly QB (by decide)
  refine ⟨_,rfl,_,_,_,rfl,a0,a1,a2,fun nv0 H1 s1=>⟨_,rfl,_,_,rfl,by decide,by decide,fun k0 H2 s2 ok0=>⟨Nat.le_of_ble_eq_true rfl,fun p0 hp0=>⟨Nat.le_of_ble_eq_true rfl,fun lp hlp=>?_⟩⟩⟩⟩
  have tg0:=Jr (b:=b) (k:=610) QB (by decide)
  have on0:Ok (Aj b 610 "ya"):=BF nv0
  generalize Aj b 610 "ya" = n0 at tg0 on0 hlp ⊢
  have g0:=AJ.Ai (o:=.tup ((Stp.take n0 k0).key.map kV)) hp0
  have hlp:(upd H2 p0 (.tup ((Stp.take n0 k0).key.map kV))) lp=none:=hlp
  have hl0:H lp=none:=(s1.trans (s2.trans g0)).free hlp
  obtain ⟨H3,hH3,S3,fl,f0⟩:∃H3,H3=upd (upd H2 p0 (.tup [.str "take", .str n0,.str k0])) lp (.lst [.ref p0])/\AJ H H3/\H3 lp=some (.lst [.ref p0])/\StA H3 p0 (.take n0 k0):=⟨_,rfl,s1.trans (s2.trans (g0.upd hlp)),AD,(AJ.Ai hlp) _ _ AD⟩
  rw [←hH3]
  clear hH3 hlp g0 hp0
  obtain ⟨a0,a1,a2⟩:=aly QA (by decide)
  refine ⟨_,rfl,.inl ⟨rfl,_,SqL.of fl⟩,_,rfl,_,_,_,rfl,a0,a1,a2,fun nv1 H4 s4=>⟨_,rfl,_,_,rfl,by decide,by decide,fun k1 H5 s5 ok1=>⟨Nat.le_of_ble_eq_true rfl,fun p1 hp1=>?_⟩⟩⟩
  have tg1:=Jr (b:=b) (k:=611) QA (by decide)
  have on1:Ok (Aj b 611 "yb"):=BF nv1
  generalize Aj b 611 "yb" = n1 at tg1 on1 ⊢
  have grow:∀{Ha:Hp} {xs:List V} {p:Addr} (vs:List V) (st:Stp),vs=st.key.map kV→AJ H Ha→Ha lp=some (.lst xs)→Ha p=none→∃Hb,Hb=upd (upd Ha p (.tup vs)) lp (.lst (xs++[.ref p]))/\(upd Ha p (.tup vs)) lp=some (.lst xs)/\AJ H Hb/\Hb lp=some (.lst (xs++[.ref p]))/\StA Hb p st/\Tp Ha Hb:=fun {Ha xs p} vs st hv sa el hp=>by
   subst hv
   have g:=AJ.Ai (o:=.tup (st.key.map kV)) hp
   have tp:Tp (upd Ha p (.tup (st.key.map kV))) (upd (upd Ha p (.tup (st.key.map kV))) lp (.lst (xs++[.ref p]))):=(Tp.refl _).upd (g _ _ el) fun ys=>by intro z;cases z
   exact ⟨_,rfl,g _ _ el,(sa.trans g).Gm hl0,AD,tp _ _ AD,g.tp.trans tp⟩
  have S5:=S3.trans (s4.trans s5)
  have fl5:=(s4.trans s5) _ _ fl
  obtain ⟨H6,hH6,fl6',S6,fl6,f1,tp6⟩:=grow [.str "take", .str n1,.str k1] (.take n1 k1) rfl S5 fl5 hp1
  refine ⟨lp,_,_,rfl,rfl,fl6',by show 1+1≤sizeLine;omega,?_⟩
  rw [←hH6]
  have f0:StA H6 p0 (.take n0 k0):=tp6 _ _ ((s4.trans s5) _ _ f0)
  clear hH6 fl6' tp6 hp1
  refine ⟨_,rfl,lp,_,_,_,rfl,rfl,SqL.of fl6,AI (j:=0) rfl,p0,_,_,.str n0,rfl,rfl,SqT.of f0,AI (j:=1) rfl,_,rfl,lp,_,_,_,rfl,rfl,SqL.of fl6,AI (j:=1) rfl,p1,_,_,.str n1,rfl,rfl,SqT.of f1,AI (j:=1) rfl,_,_,rfl,?_⟩
  obtain ⟨a0,a1,a2⟩:=aly P9 (by decide)
  obtain ⟨v,hv,mv⟩:=BL [V.str n0,V.str n1] 2 rfl (by decide) (c / 31)
  obtain ⟨f,rfl,hf⟩:∃f:Str,v=.str f/\(f=n0\/f=n1):=by
   simp only [List.mem_cons,List.not_mem_nil,or_false] at mv
   rcases mv with rfl|rfl
   ·exact ⟨_,rfl,.inl rfl⟩
   ·exact ⟨_,rfl,.inr rfl⟩
  have m31:0≤c % 31:=Int.emod_nonneg _ (by decide)
  refine ⟨_,rfl,.inl ⟨rfl,_,SqL.of fl6⟩,_,rfl,_,_,_,rfl,a0,a1,a2,fun nv2 H7 s7=>⟨_,rfl,_,rfl,_,rfl,Nat.le_of_ble_eq_true rfl,fun q2 hq2=>?_⟩⟩
  have s8:=AJ.Ai (o:=.lst [.str n0,.str n1]) hq2
  have eq2:(upd H7 q2 (.lst [.str n0,.str n1])) q2=some (.lst [.str n0,.str n1]):=AD
  generalize upd H7 q2 (.lst [.str n0,.str n1])=H8 at s8 eq2 ⊢
  refine ⟨_,rfl,_,_,rfl,rfl,⟨by decide,by decide⟩,_,_,rfl,rfl,(by decide:(0:Int)<2),q2,_,_,_,rfl,rfl,SqL.of eq2,hv,_,rfl,_,_,rfl,rfl,(by decide:(0:Int)<31),Nat.le_of_ble_eq_true rfl,fun p2 hp2=>?_⟩
  have tg2:=Jr (b:=b) (k:=612) P9 (by decide)
  have on2:Ok (Aj b 612 "yc"):=BF nv2
  generalize Aj b 612 "yc" = n2 at tg2 on2 ⊢
  have s78:=s7.trans s8
  obtain ⟨H9,hH9,fl9',S9,fl9,f2,tp9⟩:=grow [.str "join", .str n2,.str n0,.str f,.int (c % 31)] (.join n2 n0 f (c % 31)) rfl (S6.trans s78) (s78 _ _ fl6) hp2
  refine ⟨lp,_,_,rfl,rfl,fl9',by show 2+1≤sizeLine;omega,?_⟩
  rw [←hH9]
  have f0:StA H9 p0 (.take n0 k0):=tp9 _ _ (s78 _ _ f0)
  have f1:StA H9 p1 (.take n1 k1):=tp9 _ _ (s78 _ _ f1)
  clear hH9 fl9' tp9 hp2
  obtain ⟨a0,a1,a2⟩:=aly P8 (by decide)
  have m62:0≤c / 62 % 31:=Int.emod_nonneg _ (by decide)
  refine ⟨_,rfl,.inl ⟨rfl,_,SqL.of fl9⟩,_,rfl,_,_,_,rfl,a0,a1,a2,fun nv3 H10 s10=>⟨_,rfl,_,rfl,_,rfl,_,_,rfl,rfl,⟨by decide,by decide⟩,_,_,rfl,rfl,(by decide:(0:Int)<31),Nat.le_of_ble_eq_true rfl,fun p3 hp3=>?_⟩⟩
  have tg3:=Jr (b:=b) (k:=613) P8 (by decide)
  have on3:Ok (Aj b 613 "yd"):=BF nv3
  generalize Aj b 613 "yd" = n3 at tg3 on3 ⊢
  obtain ⟨H11,hH11,fl11',S11,fl11,f3,tp11⟩:=grow [.str "join", .str n3,.str n1,.str n0,.int (c / 62 % 31)] (.join n3 n1 n0 (c / 62 % 31)) rfl (S9.trans s10) (s10 _ _ fl9) hp3
  refine ⟨lp,_,_,rfl,rfl,fl11',by show 3+1≤sizeLine;omega,?_⟩
  rw [←hH11]
  have f0:StA H11 p0 (.take n0 k0):=tp11 _ _ (s10 _ _ f0)
  have f1:StA H11 p1 (.take n1 k1):=tp11 _ _ (s10 _ _ f1)
  have f2:StA H11 p2 (.join n2 n0 f (c % 31)):=tp11 _ _ (s10 _ _ f2)
  clear hH11 fl11' tp11 hp3
  refine ⟨_,rfl,_,_,rfl,rfl,_,rfl,Hs (fun h6=>?_) fun h6=>?_⟩
  ·have h6:many<6:=by omega
   refine ⟨_,rfl,lp,_,_,_,rfl,rfl,SqL.of fl11,AI (j:=2) rfl,p2,_,_,.str n2,rfl,rfl,SqT.of f2,AI (j:=1) rfl,_,rfl,Nat.le_of_ble_eq_true rfl,fun x1 hx1=>?_⟩
   have t1:=AJ.Ai (o:=.tup [.str n2,.str n1]) hx1
   have ex1:(upd H11 x1 (.tup [.str n2,.str n1])) x1=some (.tup [.str n2,.str n1]):=AD
   generalize upd H11 x1 (.tup [.str n2,.str n1])=H12 at t1 ex1 ⊢
   refine ⟨_,rfl,_,rfl,lp,_,_,_,rfl,rfl,SqL.of (t1 _ _ fl11),AI (j:=3) rfl,p3,_,_,.str n3,rfl,rfl,SqT.of (t1 _ _ f3),AI (j:=1) rfl,Nat.le_of_ble_eq_true rfl,fun x2 hx2=>?_⟩
   have t2:=AJ.Ai (o:=.tup [.str n0,.str n3]) hx2
   have ex2:(upd H12 x2 (.tup [.str n0,.str n3])) x2=some (.tup [.str n0,.str n3]):=AD
   generalize upd H12 x2 (.tup [.str n0,.str n3])=H13 at t2 ex2 ⊢
   refine ⟨Nat.le_of_ble_eq_true rfl,fun x3 hx3=>?_⟩
   have t3:=AJ.Ai (o:=.lst [.ref x1,.ref x2]) hx3
   have ex3:(upd H13 x3 (.lst [.ref x1,.ref x2])) x3=some (.lst [.ref x1,.ref x2]):=AD
   generalize upd H13 x3 (.lst [.ref x1,.ref x2])=H14 at t3 ex3 ⊢
   obtain ⟨v2,hv2,mv2⟩:=BL [V.ref x1,V.ref x2] 2 rfl (by decide) (c / 1922)
   have t13:=t1.trans (t2.trans t3)
   obtain ⟨y,p,q,rfl,ey,hpq⟩:∃(y:Addr) (p q:Str),v2=.ref y/\H14 y=some (.tup [.str p,.str q])/\((p=n2/\q=n1)\/(p=n0/\q=n3)):=by
    simp only [List.mem_cons,List.not_mem_nil,or_false] at mv2
    rcases mv2 with rfl|rfl
    ·exact ⟨x1,_,_,rfl,(t2.trans t3) _ _ ex1,.inl ⟨rfl,rfl⟩⟩
    ·exact ⟨x2,_,_,rfl,t3 _ _ ex2,.inr ⟨rfl,rfl⟩⟩
   refine ⟨_,rfl,_,_,rfl,rfl,⟨by decide,by decide⟩,_,_,rfl,rfl,(by decide:(0:Int)<2),x3,_,_,_,rfl,rfl,SqL.of ex3,hv2,?_⟩
   have fl14:=t13 _ _ fl11
   obtain ⟨a0,a1,a2⟩:=aly P7 (by decide)
   have m61:0≤c / 3844 % 61:=Int.emod_nonneg _ (by decide)
   refine ⟨_,rfl,.inl ⟨rfl,_,SqL.of fl14⟩,_,rfl,_,_,_,rfl,a0,a1,a2,fun nv4 H15 s15=>⟨Nat.le_of_ble_eq_true rfl,fun y1 hy1=>?_⟩⟩
   have tg4:=Jr (b:=b) (k:=614) P7 (by decide)
   have on4:Ok (Aj b 614 "ye"):=BF nv4
   generalize Aj b 614 "ye" = n4 at tg4 on4 ⊢
   have t4:=AJ.Ai (o:=.tup [.str "join", .str n4]) hy1
   have ey1:(upd H15 y1 (.tup [.str "join", .str n4])) y1=some (.tup [.str "join", .str n4]):=AD
   generalize upd H15 y1 (.tup [.str "join", .str n4])=H16 at t4 ey1 ⊢
   refine ⟨_,rfl,y1,y,_,_,rfl,rfl,ey1,(s15.trans t4) _ _ ey,by show 2+2≤sizeLine;omega,fun y2 H17 t5 ey2=>?_⟩
   refine ⟨_,rfl,_,_,rfl,rfl,⟨by decide,by decide⟩,_,_,rfl,rfl,(by decide:(0:Int)<61),Nat.le_of_ble_eq_true rfl,fun y3 hy3=>?_⟩
   have t6:=AJ.Ai (o:=.tup [.int (c / 3844 % 61)]) hy3
   have ey3:(upd H17 y3 (.tup [.int (c / 3844 % 61)])) y3=some (.tup [.int (c / 3844 % 61)]):=AD
   generalize upd H17 y3 (.tup [.int (c / 3844 % 61)])=H18 at t6 ey3 ⊢
   refine ⟨y2,y3,_,_,rfl,rfl,t6 _ _ ey2,ey3,by show 4+1≤sizeLine;omega,fun p4 H19 t7 ep4=>?_⟩
   have tt:=t13.trans (s15.trans (t4.trans (t5.trans (t6.trans t7))))
   have S19:=S11.trans tt
   have fl19:=tt _ _ fl11
   have ep4:StA H19 p4 (.join n4 p q (c / 3844 % 61)):=ep4
   have tpz:Tp H19 (upd H19 lp (.lst (((([.ref p0]++[.ref p1])++[.ref p2])++[.ref p3])++[.ref p4]))):=(Tp.refl _).upd fl19 fun ys=>by intro z;cases z
   refine ⟨lp,_,_,rfl,rfl,fl19,by show 4+1≤sizeLine;omega,?_⟩
   have ttp:=tt.tp.trans tpz
   refine ⟨_,rfl,k lp _ _ [.take n0 k0,.take n1 k1,.join n2 n0 f (c % 31),.join n3 n1 n0 (c / 62 % 31),.join n4 p q (c / 3844 % 61)] (S19.Gm hl0) hl0 AD (.cons ⟨p0,rfl,ttp _ _ f0⟩ (.cons ⟨p1,rfl,ttp _ _ f1⟩ (.cons ⟨p2,rfl,ttp _ _ f2⟩ (.cons ⟨p3,rfl,ttp _ _ f3⟩ (.cons ⟨p4,rfl,tpz _ _ ep4⟩ .nil))))) ?_⟩
   exact ⟨n0,n1,n2,n3,f,k0,k1,_,_,tg0,tg1,tg2,tg3,hf,⟨on0,on1,on2,on3⟩,ok0,ok1,m31,m62,.inr ⟨h6,n4,p,q,_,tg4,on4,m61,hpq,rfl⟩⟩
  ·have h6:¬ many<6:=by omega
   refine ⟨_,rfl,k lp _ _ [.take n0 k0,.take n1 k1,.join n2 n0 f (c % 31),.join n3 n1 n0 (c / 62 % 31)] S11 hl0 fl11 (.cons ⟨p0,rfl,f0⟩ (.cons ⟨p1,rfl,f1⟩ (.cons ⟨p2,rfl,f2⟩ (.cons ⟨p3,rfl,f3⟩ .nil)))) ?_⟩
   exact ⟨n0,n1,n2,n3,f,k0,k1,_,_,tg0,tg1,tg2,tg3,hf,⟨on0,on1,on2,on3⟩,ok0,ok1,m31,m62,.inl ⟨h6,rfl⟩⟩
def jv (many:Nat):List Nat:=[many,many,many * many,many * many,many * many * many]
theorem Ip {sn:List Str}{n k:Str}(hn:Ok n) (hk:Ok k):Hv sn n (.take n k):=⟨rfl,fun a h=>(by cases h),trivial,Fy hn hk⟩
theorem LO {sn:List Str}{n a b:Str}{wi:Int}(hn:Ok n) (ha:Ok a) (hb:Ok b) (ma:a∈sn) (mb:b∈sn) (hw:0≤wi):Hv sn n (.join n a b wi):=⟨rfl,Fy ma mb,hw,DE hn ha hb⟩
theorem E5 {α:Type}(l:List α) (x:α):(l++[x])[l.length]?=some x:=by
 rw [List.getElem?_append_right (Nat.le_refl _),Nat.sub_self];rfl
theorem Qx {b:Int}{many:Nat}{ss0:List Stp}{ts0:List (Nat×Nat)}{z0:Str→Nat}{jss:List Stp}(hm:many=10\/many=5) (h:CL b many ss0 ts0 z0 []) (ht:∀t∈ts0,t.1=23) (j:JnS b many jss) :
  ∃(z:Str→Nat) (ts:List (Nat×Nat)),CL b many (ss0++jss) (ts0++ts) z (jss.map Stp.nm)/\(∀t∈ts,t.1=24)/\(∀(k:Nat) s,jss[k]?=some s→(jv many)[k]?=some (z s.nm))/\(jss.map Stp.nm).Nodup/\(jss.length=4\/jss.length=5):=by
 obtain ⟨n0,n1,n2,n3,f,k0,k1,w2,w3,g0,g1,g2,g3,hf,⟨o0,o1,o2,o3⟩,ok0,ok1,hw2,hw3,rest⟩:=j
 have ne:∀{n n':Str} {i i':Nat},Tag b n (24,i)→Tag b n' (24,i')→i≠i'→n≠n':=fun t t' hi e=>by
  subst e
  exact hi (congrArg Prod.snd (Iq t t'))
 have n01:=ne g0 g1 (by decide)
 have n02:=ne g0 g2 (by decide)
 have n03:=ne g0 g3 (by decide)
 have n12:=ne g1 g2 (by decide)
 have n13:=ne g1 g3 (by decide)
 have n23:=ne g2 g3 (by decide)
 have no:∀{i:Nat} {l:List (Nat×Nat)},(24,i)∉l→(24,i)∉ts0++l:=fun hl hm=>by
  rcases List.mem_append.mp hm with q|q
  ·have:=ht _ q;cases this
  ·exact hl q
 have mm:many * many≤1000:=by rcases hm with rfl|rfl <;> decide
 have m1:many≤1000:=by rcases hm with rfl|rfl <;> decide
 have h1:=(h.snoc (s:=.take n0 k0) (t:=(24,0)) g0 (by simpa using no (i:=0) (l:=[]) (by simp)) (Ip o0 ok0) m1).add (E5 _ _) rfl
 have e1:CK (.take n0 k0) z0 many=many:=rfl
 rw [e1] at h1
 have h2:=(h1.snoc (s:=.take n1 k1) (t:=(24,1)) g1 (no (by simp)) (Ip o1 ok1) m1).add (E5 _ _) rfl
 have e2:∀z,CK (.take n1 k1) z many=many:=fun _=>rfl
 rw [e2] at h2
 have hz2:Bs (Bs z0 n0 many) n1 many n0=many/\Bs (Bs z0 n0 many) n1 many n1=many:=⟨by rw [BO n01,D9],D9⟩
 generalize hq2:Bs (Bs z0 n0 many) n1 many=z2 at h2 hz2
 have h2:CL b many (ss0++[.take n0 k0]++[.take n1 k1]) (ts0++[(24,0)]++[(24,1)]) z2 ([]++[n0]++[n1]):=by rw [←hq2];exact h2
 have okf:Ok f:=by rcases hf with rfl|rfl <;> assumption
 have mf:f∈([]++[n0]++[n1]:List Str):=by rcases hf with rfl|rfl <;> simp
 have zf:z2 f=many:=by rcases hf with rfl|rfl;exact hz2.1;exact hz2.2
 have e3:CK (.join n2 n0 f w2) z2 many=many * many:=by show z2 n0 * z2 f=_;rw [hz2.1,zf]
 have h3:=(h2.snoc (s:=.join n2 n0 f w2) (t:=(24,2)) g2 (by rw [List.append_assoc];exact no (by simp)) (LO o2 o0 okf (by simp) mf hw2) (by rw [e3];exact mm)).add (E5 _ _) rfl
 rw [e3] at h3
 have hz3:Bs z2 n2 (many * many) n0=many/\Bs z2 n2 (many * many) n1=many/\Bs z2 n2 (many * many) n2=many * many:=⟨by rw [BO n02];exact hz2.1,by rw [BO n12];exact hz2.2,D9⟩
 generalize hq3:Bs z2 n2 (many * many)=z3 at h3 hz3
 have h3:CL b many (ss0++[.take n0 k0]++[.take n1 k1]++[.join n2 n0 f w2]) (ts0++[(24,0)]++[(24,1)]++[(24,2)]) z3 ([]++[n0]++[n1]++[n2]):=by rw [←hq3];exact h3
 have e4:CK (.join n3 n1 n0 w3) z3 many=many * many:=by show z3 n1 * z3 n0=_;rw [hz3.1,hz3.2.1]
 have h4:=(h3.snoc (s:=.join n3 n1 n0 w3) (t:=(24,3)) g3 (by rw [List.append_assoc,List.append_assoc];exact no (by simp)) (LO o3 o1 o0 (by simp) (by simp) hw3) (by rw [e4];exact mm)).add (E5 _ _) rfl
 rw [e4] at h4
 have hz4:Bs z3 n3 (many * many) n0=many/\Bs z3 n3 (many * many) n1=many/\Bs z3 n3 (many * many) n2=many * many/\Bs z3 n3 (many * many) n3=many * many:=⟨by rw [BO n03];exact hz3.1,by rw [BO n13];exact hz3.2.1,by rw [BO n23];exact hz3.2.2,D9⟩
 generalize hq4:Bs z3 n3 (many * many)=z4 at h4 hz4
 have h4:CL b many (ss0++[.take n0 k0]++[.take n1 k1]++[.join n2 n0 f w2]++[.join n3 n1 n0 w3]) (ts0++[(24,0)]++[(24,1)]++[(24,2)]++[(24,3)]) z4 ([]++[n0]++[n1]++[n2]++[n3]):=by rw [←hq4];exact h4
 rcases rest with ⟨h6,rfl⟩|⟨h6,n4,p,q,w4,g4,o4,hw4,hpq,rfl⟩
 ·refine ⟨z4,[(24,0),(24,1),(24,2),(24,3)],by have q:=h4;simp only [List.append_assoc,List.cons_append,List.nil_append] at q;exact q,fun t ht=>?_,fun k s e=>?_,?_,.inl rfl⟩
  ·simp only [List.mem_cons,List.not_mem_nil,or_false] at ht
   rcases ht with rfl|rfl|rfl|rfl <;> rfl
  ·match k,e with
   | 0,e=>cases e;exact congrArg some hz4.1.symm
   | 1,e=>cases e;exact congrArg some hz4.2.1.symm
   | 2,e=>cases e;exact congrArg some hz4.2.2.1.symm
   | 3,e=>cases e;exact congrArg some hz4.2.2.2.symm
   | k+4,e=>simp at e
  ·show [n0,n1,n2,n3].Nodup
   simp [n01,n02,n03,n12,n13,n23]
 ·have n04:=ne g0 g4 (by decide)
  have n14:=ne g1 g4 (by decide)
  have n24:=ne g2 g4 (by decide)
  have n34:=ne g3 g4 (by decide)
  have m3:many * many * many≤1000:=by rcases hm with rfl|rfl <;> decide
  have e5:CK (.join n4 p q w4) z4 many=many * many * many:=by
   show z4 p * z4 q=_
   rcases hpq with ⟨rfl,rfl⟩|⟨rfl,rfl⟩
   ·rw [hz4.2.2.1,hz4.2.1]
   ·rw [hz4.1,hz4.2.2.2,Nat.mul_comm]
  have okp:Ok p:=by rcases hpq with ⟨rfl,rfl⟩|⟨rfl,rfl⟩ <;> assumption
  have okq:Ok q:=by rcases hpq with ⟨rfl,rfl⟩|⟨rfl,rfl⟩ <;> assumption
  have mp:p∈([]++[n0]++[n1]++[n2]++[n3]:List Str):=by rcases hpq with ⟨rfl,rfl⟩|⟨rfl,rfl⟩ <;> simp
  have mq:q∈([]++[n0]++[n1]++[n2]++[n3]:List Str):=by rcases hpq with ⟨rfl,rfl⟩|⟨rfl,rfl⟩ <;> simp
  have h5:=(h4.snoc (s:=.join n4 p q w4) (t:=(24,4)) g4 (by rw [List.append_assoc,List.append_assoc,List.append_assoc];exact no (by simp)) (LO o4 okp okq mp mq hw4) (by rw [e5];exact m3)).add (E5 _ _) rfl
  rw [e5] at h5
  refine ⟨Bs z4 n4 (many * many * many),[(24,0),(24,1),(24,2),(24,3),(24,4)],by have q:=h5;simp only [List.append_assoc,List.cons_append,List.nil_append] at q;exact q,fun t ht=>?_,fun k s e=>?_,?_,.inr rfl⟩
  ·simp only [List.mem_cons,List.not_mem_nil,or_false] at ht
   rcases ht with rfl|rfl|rfl|rfl|rfl <;> rfl
  ·match k,e with
   | 0,e=>cases e;show some many=some (Bs z4 n4 _ n0);rw [BO n04,hz4.1]
   | 1,e=>cases e;show some many=some (Bs z4 n4 _ n1);rw [BO n14,hz4.2.1]
   | 2,e=>cases e;show some (many * many)=some (Bs z4 n4 _ n2);rw [BO n24,hz4.2.2.1]
   | 3,e=>cases e;show some (many * many)=some (Bs z4 n4 _ n3);rw [BO n34,hz4.2.2.2]
   | 4,e=>cases e;show some (many * many * many)=some (Bs z4 n4 _ n4);rw [D9]
   | k+5,e=>simp at e
  ·show [n0,n1,n2,n3,n4].Nodup
   simp [n01,n02,n03,n12,n13,n23,n04,n14,n24,n34]
theorem CL.take {b:Int}{many:Nat}{ss:List Stp}{ts:List (Nat×Nat)}{z:Str→Nat}{sn:List Str}(h:CL b many ss ts z sn) (hm:many≤1000) {n k:Str}{t:Nat×Nat}(ht:Tag b n t) (hn:t∉ts) (on:Ok n) (ok:Ok k):CL b many (ss++[.take n k]) (ts++[t]) (Bs z n many) sn :=
 h.snoc (s:=.take n k) ht hn (Ip on ok) hm
structure SPI (H0 H:Hp) (b:Int) (many:Nat) (lp d lj:Addr) (ps:List V) (ss:List Stp) (ts:List (Nat×Nat)) (z:Str→Nat) (sn:List Str) (jps:List V) (jn:Str):Prop where
 same:AJ H0 H
 l0:H0 lp=none
 d0:H0 d=none
 elp:H lp=some (.lst ps)
 pr:Cp H ps ss
 pl:CL b many ss ts z sn
 ed:H d=some (.dK (szK sn z))
 lsn:sn.length≤100
 lss:ss.length≤50
 ej:H lj=some (.lst jps)
 nlj:lj≠lp
 j:jps=[]\/(jn∈sn/\(jps.length=4\/jps.length=5)/\∃(a:Addr) (s:Stp),jps[2 * jps.length-6]?=some (.ref a)/\StA H a s/\s.nm=jn)
section
variable {H0 H H':Hp}{b:Int}{many:Nat}{lp d lj:Addr}{ps:List V}{ss:List Stp}{ts:List (Nat×Nat)}{z:Str→Nat}{sn:List Str}{jps:List V}{jn:Str}
theorem SPI.next (I:SPI H0 H b many lp d lj ps ss ts z sn jps jn) (s:AJ H H'):SPI H0 H' b many lp d lj ps ss ts z sn jps jn :=
 { I with same:=I.same.trans s,elp:=s _ _ I.elp,pr:=I.pr.keep s.tp,ed:=s _ _ I.ed,ej:=s _ _ I.ej,j:=I.j.imp id fun ⟨m,l,a,st,e,f,g⟩=>⟨m,l,a,st,e,f.tp s.tp,g⟩ }
theorem SPI.push (I:SPI H0 H b many lp d lj ps ss ts z sn jps jn) {p:Addr}{s:Stp}{t:Nat×Nat}(es:StA H p s) (ht:Tag b s.nm t) (hn:t∉ts) (g:Hv sn s.nm s) (hb:CK s z many≤1000) (hl:ss.length<50) :
  SPI H0 (upd H lp (.lst (ps++[.ref p]))) b many lp d lj (ps++[.ref p]) (ss++[s]) (ts++[t]) (Bs z s.nm (CK s z many)) sn jps jn:=by
 have tp:Tp H (upd H lp (.lst (ps++[.ref p]))):=(Tp.refl H).upd I.elp fun ys=>by intro q;cases q
 have nd:d≠lp:=fun q=>by have:=I.ed;rw [q,I.elp] at this;cases this
 have nw:=I.pl.new ht hn
 have ez:szK sn z=szK sn (Bs z s.nm (CK s z many)):=MV fun a ha=>by
  obtain ⟨i,s',ei,en,_⟩:=I.pl.str a ha
  exact (BO fun e=>nw s' (List.mem_of_getElem? ei) (en.trans e)).symm
 exact { same:=I.same.Gm I.l0,l0:=I.l0,d0:=I.d0,elp:=AD,pr:=(An (I.pr.keep tp) (.cons ⟨p,rfl,es.tp tp⟩ .nil)),pl:=I.pl.snoc ht hn g hb,ed:=(by rw [AV nd,←ez];exact I.ed),lsn:=I.lsn,lss:=(by rw [List.length_append,List.length_singleton];omega),ej:=(by rw [AV I.nlj];exact I.ej),nlj:=I.nlj,j:=I.j.imp id fun ⟨m,l,a,st,e,f,g⟩=>⟨m,l,a,st,e,f.tp tp,g⟩ }
theorem SPI.size (I:SPI H0 H b many lp d lj ps ss ts z sn jps jn) {i:Nat}{s:Stp}(ei:ss[i]?=some s) (hs:s.tell=false) (hn:s.nm∉sn) (hl:sn.length<100):SPI H0 (upd H d (.dK (putK (szK sn z) (.inr s.nm) (.int (z s.nm:Int))))) b many lp d lj ps ss ts z (sn++[s.nm]) jps jn:=by
 have tp:Tp H (upd H d (.dK (putK (szK sn z) (.inr s.nm) (.int (z s.nm:Int))))):=(Tp.refl H).upd I.ed fun ys=>by intro q;cases q
 have kl:∀{c:Addr} {xs:List V},H c=some (.lst xs)→(upd H d (.dK (putK (szK sn z) (.inr s.nm) (.int (z s.nm:Int))))) c=some (.lst xs):=fun {c xs} e=>by rw [AV (fun q=>by rw [q,I.ed] at e;cases e)];exact e
 exact { same:=I.same.Gm I.d0,l0:=I.l0,d0:=I.d0,elp:=kl I.elp,pr:=I.pr.keep tp,pl:=I.pl.add ei hs,ed:=(by rw [AD,Ll hn]),lsn:=(by rw [List.length_append,List.length_singleton];omega),lss:=I.lss,ej:=kl I.ej,nlj:=I.nlj,j:=I.j.imp id fun ⟨m,l,a,st,e,f,g⟩=>⟨List.mem_append.mpr (.inl m),l,a,st,e,f.tp tp,g⟩ }
theorem SPI.vals (I:SPI H0 H b many lp d lj ps ss ts z sn jps jn) {s:Stp}(g:∀a∈s.BN,a∈sn):∀a∈s.BN,A7 (szK sn z) (.inr a)=some (.int (z a:Int))/\z a≤1000:=fun a ha=>⟨O4 (g a ha),I.pl.szs a (g a ha)⟩
end
theorem SA:("x" : Str)=chL 23:=by decide +kernel
theorem R9:("z" : Str)=chL 25:=by decide +kernel
def PH (K:W.Frag):Sp:=fun vs H Q _=>∃(a:Addr) (ns:List Int) (many:Nat),vs=[.ref a,.int 2,.int 6,.int (many:Int)]/\SqL K H a (ns.map V.int)/\ns.length≤63/\(many=10\/many=5) /\
 ∀l H' ps ss b ts z sn,AJ H H'→H l=none→H' l=some (.lst ps)→Cp H' ps ss→CL b many ss ts z sn→ss.length≤50→Q (.ref l) H'
theorem OE (T:Tx K mg ad):Ba P w K mg base CX0 4 ad.BJ ad.BX ["_law_script", "_law_first", "_law_most", "_law_many"] (PH K):=by
 have G_uat:=OH (P:=P) (w:=w) (base:=base) T
 have G_ucalled:=Ds (P:=P) (w:=w) (base:=base) T
 have G_ukind:=JM (P:=P) (w:=w) (base:=base) T
 have G_ujoined_plan:=OF (P:=P) (w:=w) (base:=base) T
 have G_ustep_name:=JK (P:=P) (w:=w) (base:=base) T
 have G_ustep:=Pf (P:=P) (w:=w) (base:=base) T
 have G_ubound:=OG (P:=P) (w:=w) (base:=base) T
 refine T.BK.ok Eb (fun vs H Q E h=>?_) (fun cdv A outer s H vs Q E hr h=>?_)
 ·obtain ⟨a,ns,many,rfl,_⟩:=h
  rfl
 ·obtain ⟨a,ns,many,rfl,hS,hl,hm,k⟩:=h
  have nd:=Eb.nd
  refine ⟨_,(AF (AQ (i:=4) nd rfl (Or.inr rfl) (AN G_uat (hr.mono (by decide)) (by rfl) T.FC T.Cw.kp T.FF .nil Ab (AA (pv 0) (AA (pv 1) AE))))
    (AF (AQ (i:=5) nd rfl (Or.inr rfl) AO)
    (AF (AQ (i:=6) nd rfl (Or.inl rfl) (As AE))
    (AF (AQ (i:=7) nd rfl (Or.inl rfl) HA)
    (AF (AQ (i:=8) nd rfl (Or.inl rfl) (AN G_uat (hr.mono (by decide)) (by rfl) T.FC T.Cw.kp T.FF .nil Ab (AA (pv 0) (AA (AG Ah (pv 1) AB) AE))))
    (AF (AQ (i:=9) nd rfl (Or.inl rfl) (As AE))
    (AF (EA (Aq (AU (HC (K:=K)) (AG AX (AG AY (pv 8) (AG Ah (pv 2) AB)) AB) (Ar (AA AB (AA AB AE))) (by with_unfolding_all rfl))
    (AH (Lm (i:=6) (osc:=AR Cf) [("_law_base", 4),("_law_letters", 5)] nd rfl (Or.inl rfl) rfl (Dr (by rfl) T.Cz (AA AB AE)) rfl rfl (by decide +kernel) (by decide +kernel) (by decide +kernel) ⟨rfl,rfl,rfl,rfl,trivial⟩ rfl (by decide +kernel) (fun _ _ _ _=>C2) (fun _ _ _ _=>(Ar (AA AO (AA (AN G_ucalled (hr.mono (by decide)) (by rfl) T.BW T.Aw.kp T.BY .nil Ab (AA (pv 1) (AA (AG Ah AB (pv 0)) (AA (AG DH AO (AM FQ (pv 2) (pv 0) (fun _ _=>rfl))) AE)))) (AA AO AE)))))))
    Aa))
    (AF (EA (Aq (AU QG (AG AX (AG AY (pv 8) (AG Ah (pv 2) AB)) AB) AB (AZ _))
    (AF (AQ (i:=9) nd rfl (Or.inl rfl) (AN G_ujoined_plan (hr.mono (by decide)) (by rfl) T.HJ T.A6.kp T.Hc .nil Ab (AA (pv 4) (AA (AN G_uat (hr.mono (by decide)) (by rfl) T.FC T.Cw.kp T.FF .nil Ab (AA (pv 0) (AA (AG Ah (pv 1) AB) AE))) (AA (pv 3) AE)))))
    (AF (AQ (i:=6) nd rfl (Or.inl rfl) (AG JI (pv 6) (pv 9)))
    (AH (Cs PassesOwn.never rfl (Dr (by rfl) T.Cz (AA (Al (BI (K:=K)) (by rfl) T.ET PySem.boot_len (AA (pv 9) AE)) AE)) (Au (i:=10) nd rfl (Or.inl rfl))
    (AH (Fe hr.u1 (pv 7) (AM (AK (K:=K)) (AM (Ac (K:=K)) (pv 9) (pv 10) (fun _ _=>rfl)) AB (fun _ _=>rfl)) (AM (Ac (K:=K)) (As (AA (pv 3) (AA (pv 3) (AA (AG BE (pv 3) (pv 3)) (AA (AG BE (pv 3) (pv 3)) (AA (AG Qi (pv 3) AB) AE)))))) (pv 10) (fun _ _=>rfl)) rfl))))))
    Aa))
    (AF (Cs PassesOwn.never rfl (Dr (by rfl) T.Cz (AA (AG AX (pv 8) (AG Ah (pv 2) AB)) AE)) (Au (i:=10) nd rfl (Or.inl rfl))
    (AF (AQ (i:=11) nd rfl (Or.inl rfl) (AG Ah (AG Ah (AN G_uat (hr.mono (by decide)) (by rfl) T.FC T.Cw.kp T.FF .nil Ab (AA (pv 0) (AA (AG Ah (AG Ah (pv 1) AB) (AG AX (pv 10) AB)) AE))) (AG BE AB (AG AY (pv 10) AB))) (pv 10)))
    (AF (AQ (i:=12) nd rfl (Or.inl rfl) (AN G_ustep_name (hr.mono (by decide)) (by rfl) T.JN T.BS.kp T.Jc .nil Ab (AA (pv 4) (AA (pv 10) (AA (AG DH (AM FQ (pv 5) AB (fun _ _=>rfl)) (AM FQ (pv 5) (pv 10) (fun _ _=>rfl))) AE)))))
    (AF (AQ (i:=13) nd rfl (Or.inl rfl) (AN G_ukind (hr.mono (by decide)) (by rfl) T.Ge T.Cj.kp T.Gg .nil Ab (AA (pv 4) (AA (AG AX (AG AY (pv 11) AB) AB) AE))))
    (AF (AQ (i:=14) nd rfl (Or.inl rfl) (AN G_ustep (hr.mono (by decide)) (by rfl) T.Lv T.De.kp T.MI .nil Ab (AA (pv 11) (AA (pv 12) (AA (B6 (HX (K:=K) rfl) (by rfl) T.DD PyProof.Rows.boot_list (AA (pv 7) AE)) (AA (pv 13) AE))))))
    (AF (EA (Aq (AU QG (AN G_ubound (hr.mono (by decide)) (by rfl) T.KR T.Cr.kp T.Kr .nil Ab (AA (pv 14) (AA (pv 7) (AA (pv 3) AE)))) AB (AZ _))
    (AH (AQ (i:=14) nd rfl (Or.inl rfl) (Ar (AA AO (AA (pv 12) (AA (pv 13) AE))))))
    Aa))
    (AF (CD (CM (K:=K) F.plainAttrs_list F.slot_list_append F.type_list_append Bi (pv 6) (AA (pv 14) AE)))
    (AH (EA (Aq (PW.pt (GA (AU J9 (AM (AK (K:=K)) (pv 14) AB (fun _ _=>rfl)) AO (AZ _)) (Es (AU J9 (AM (AK (K:=K)) (pv 14) AB (fun _ _=>rfl)) AO (AZ _)))))
    (AH (Fe hr.u1 (pv 7) (pv 12) (AN G_ubound (hr.mono (by decide)) (by rfl) T.KR T.Cr.kp T.Kr .nil Ab (AA (pv 14) (AA (pv 7) (AA (pv 3) AE)))) rfl))
    Aa))))))))))
    (AF (AQ (i:=15) nd rfl (Or.inl rfl) (B6 (HX (K:=K) rfl) (by rfl) T.DD PyProof.Rows.boot_list (AA (pv 7) AE)))
    (AF (Cs PassesOwn.never rfl (Dr (by rfl) T.Cz (AA (AG BE AB (B6 NJ (by rfl) T.IA PyProof.Rows.boot_int (AA (Lp J9 (AG AX (AG AY (pv 8) (AG Ah (pv 2) AB)) AB) AB (AZ _)) AE))) AE)) (Au (i:=10) nd rfl (Or.inl rfl))
    (AF (AQ (i:=11) nd rfl (Or.inl rfl) (AN G_uat (hr.mono (by decide)) (by rfl) T.FC T.Cw.kp T.FF .nil Ab (AA (pv 0) (AA (AG Ah (AG Ah (pv 1) AB) (pv 10)) AE))))
    (AF (AQ (i:=12) nd rfl (Or.inl rfl) (AN G_ucalled (hr.mono (by decide)) (by rfl) T.BW T.Aw.kp T.BY .nil Ab (AA (pv 4) (AA (AG Ah AB (pv 10)) (AA (AG DH AO (AM FQ (pv 5) (pv 10) (fun _ _=>rfl))) AE)))))
    (AF (AQ (i:=14) nd rfl (Or.inl rfl) (AN G_ustep (hr.mono (by decide)) (by rfl) T.Lv T.De.kp T.MI .nil Ab (AA (AG Ah (AG Ah AB (AG AX (pv 11) AB)) (AG BE AB (AG AY (pv 11) AB))) (AA (pv 12) (AA (pv 15) (AA AO AE))))))
    (AF (EA (Aq (PW.pt (GA (AU A0 (AM (AK (K:=K)) (pv 14) AB (fun _ _=>rfl)) AO (AZ _)) (Es (AU A0 (AG AX (AG AY (pv 11) AB) AB) AB (AZ _)))))
    (AH (AQ (i:=14) nd rfl (Or.inl rfl) (AG Et (BB (D4 (K:=K)) (pv 14) CG (A9 AB)) (Ar (AA (Al (DC rfl) (by rfl) T.E6 PyProof.Rows.boot_min (AA AB (AA (AG BE (AG AX (AM (AK (K:=K)) (pv 14) AB (fun _ _=>rfl)) AB) (AM (Ac (K:=K)) (As (AA AB (AA AB (AA AB (AA AB (AA AB (AA AB AE))))))) (AG AX (AN G_uat (hr.mono (by decide)) (by rfl) T.FC T.Cw.kp T.FF .nil Ab (AA (pv 0) (AA AB AE))) AB) (fun _ _=>rfl))) AE))) AE)))))
    Aa))
    (AF (EA (Aq (PW.pt (GA (AU (HB (K:=K) hr.Gp) (pv 9) (As AE) (AZ _)) (Es (AU A0 (pv 10) AB (AZ _)))))
    (AH (AQ (i:=14) nd rfl (Or.inl rfl) (AG Et (AG Et (BB (D4 (K:=K)) (pv 14) CG (A9 AB)) (Ar (AA (AM (AK (K:=K)) (AM (Ac (K:=K)) (pv 9) (AG CI (AG BE AB (Al (BI (K:=K)) (by rfl) T.ET PySem.boot_len (AA (pv 9) AE))) AB) (fun _ _=>rfl)) AB (fun _ _=>rfl)) AE))) (BB (D4 (K:=K)) (pv 14) (A9 AB) CG))))
    Aa))
    (AH (CD (CM (K:=K) F.plainAttrs_list F.slot_list_append F.type_list_append Bi (pv 6) (AA (pv 14) AE))))))))))
    (AH (AW (pv 6)))))))))))))),?_⟩
  have sz:sizeLine=16777216:=sizeLine_eq
  have m10:many≤10:=by omega
  refine ⟨_,rfl,_,rfl,a,ns,2,rfl,hS,hl,by decide,fun b=>?_⟩
  refine ⟨Nat.zero_le _,fun lp hlp=>?_⟩
  have s1:=AJ.Ai (o:=.lst []) hlp
  have elp:(upd H lp (.lst [])) lp=some (.lst []):=AD
  generalize upd H lp (.lst [])=H1 at s1 elp ⊢
  refine fun d hd=>?_
  have s2:=AJ.Ai (o:=.dK []) hd
  have ed:(upd H1 d (.dK [])) d=some (.dK []):=AD
  generalize upd H1 d (.dK [])=H2 at s2 ed ⊢
  have s12:=s1.trans s2
  refine ⟨_,rfl,_,rfl,_,_,rfl,rfl,a,ns,_,rfl,s12.seq hS,hl,by decide,fun cnt=>?_⟩
  refine ⟨Nat.zero_le _,fun lj hlj=>?_⟩
  have s3:=AJ.Ai (o:=.lst []) hlj
  have elj:(upd H2 lj (.lst [])) lj=some (.lst []):=AD
  have nlj:lj≠lp:=(AS (s2 _ _ elp) hlj).symm
  generalize upd H2 lj (.lst [])=H3 at s3 elj ⊢
  have s13:=s12.trans s3
  have I3:SPI H H3 b many lp d lj [] [] [] (fun _=>0) [] [] "" := { same:=s13,l0:=hlp,d0:=s1.free hd,elp:=(s2.trans s3) _ _ elp,pr:=.nil,pl:=.nil _ _ _,ed:=s3 _ _ ed,lsn:=Nat.zero_le _,lss:=Nat.zero_le _,ej:=elj,nlj:=nlj,j:=.inl rfl }
  refine Fu (fun σ' H'=>∃(lp:Addr) (o10:Option V) (ps:List V) (ss:List Stp) (ts:List (Nat×Nat)) (z:Str→Nat),σ'=[some (.ref a),some (.int 2),some (.int 6),some (.int (many:Int)),some (.int b),some (.str LET),some (.ref lp),some (.ref d),some (.int cnt),some (.ref lj),o10,none,none,none,none,none]/\SPI H H' b many lp d lj ps ss ts z [] [] "" /\ (∀t∈ts,t.1=23)/\ss.length≤9) ?_ ?_
  ·refine ⟨_,rfl,_,rfl,_,_,rfl,rfl,_,_,rfl,rfl,⟨by decide,by decide⟩,_,_,rfl,rfl,(by decide:(0:Int)<9),Nat.le_of_ble_eq_true rfl,fun t ht=>?_⟩
   have s4:=AJ.Ai (o:=.tup [.int 2,.int 6]) ht
   have et:(upd H3 t (.tup [.int 2,.int 6])) t=some (.tup [.int 2,.int 6]):=AD
   generalize upd H3 t (.tup [.int 2,.int 6])=H4 at s4 et ⊢
   have I4:=I3.next s4
   refine ⟨t,_,rfl,.inr (SqT.of et),rfl,rfl,_,rfl,Fo (fun _=>?_) fun _=>⟨lp,none,[],[],[],_,rfl,I4,fun t h=>(by cases h),Nat.zero_le _⟩⟩
   refine ⟨_,rfl,by decide,by decide,Kn (n:=9) (fun i τ acc H'=>(∃o,τ=[o,some (.int b),some (.str LET)])/\AJ H4 H'/\∃(ss:List Stp) (ts:List (Nat×Nat)) (z:Str→Nat),Cp H' acc ss/\CL b many ss ts z []/\(∀t∈ts,t.1=23/\t.2<i)/\ss.length=i) (by omega) ⟨⟨none,rfl⟩,AJ.refl _,[],[],fun _=>0,.nil,.nil _ _ _,fun t h=>(by cases h),rfl⟩ ?_ ?_⟩
   ·rintro i τ acc H5 R1 hi _ ⟨⟨o,rfl⟩,s5,ss,ts,z,pr,pl,tt,ls⟩ k1
    have hch:atI LET.cps.toList (0+(i:Int))=some (LET.cps.toList.getD i 0):=by rw [Int.zero_add];exact JX i (by omega)
    have hz:("x" : Str)++⟨#[LET.cps.toList.getD i 0]⟩=chL 23++chL i:=by rw [SA]
    have al:AL (("x" : Str)++⟨#[LET.cps.toList.getD i 0]⟩)/\1≤(("x" : Str)++⟨#[LET.cps.toList.getD i 0]⟩:Str).length/\(("x" : Str)++⟨#[LET.cps.toList.getD i 0]⟩:Str).length≤2:=by
     rw [hz,LN]
     exact ⟨Ji (by decide) (by omega),by decide,by decide⟩
    refine ⟨_,rfl,_,rfl,_,_,rfl,rfl,_,rfl,_,rfl,_,_,_,rfl,rfl,by decide +kernel,hch,_,_,rfl,rfl,by rw [←PySem.Str.length_append];omega,_,_,_,rfl,al.1,al.2.1,al.2.2,fun nv H6 s6=>⟨Nat.le_of_ble_eq_true rfl,fun p hp=>?_⟩⟩
    have tg:Tag b (Aj b (620+(0+(i:Int))) (("x" : Str)++⟨#[LET.cps.toList.getD i 0]⟩)) (23,i):=⟨(by decide:23<26),(by show i<26;omega),.inl ⟨Nat.le_refl _,_,by rw [hz]⟩⟩
    have on:Ok (Aj b (620+(0+(i:Int))) (("x" : Str)++⟨#[LET.cps.toList.getD i 0]⟩)):=BF nv
    generalize Aj b (620+(0+(i:Int))) (("x" : Str)++⟨#[LET.cps.toList.getD i 0]⟩)=nx at tg on ⊢
    refine k1 _ _ _ ⟨⟨_,rfl⟩,s5.trans (s6.trans (AJ.Ai hp)),ss++[.take nx "nobody"],ts++[(23,i)],_,An (pr.keep (s6.trans (AJ.Ai hp)).tp) (.cons ⟨p,rfl,(show StA (upd H6 p (.tup [.str "take", .str nx,.str "nobody"])) p (.take nx "nobody") from AD)⟩ .nil),pl.take (by omega) tg (fun h=>by have:=(tt _ h).2;exact Nat.lt_irrefl _ this) on (by unfold Ok;decide +kernel),fun t h=>?_,by rw [List.length_append,ls];rfl⟩
    rcases List.mem_append.mp h with h|h
    ·have:=tt t h;exact ⟨this.1,by omega⟩
    ·rw [List.mem_singleton.mp h];exact ⟨rfl,by show i<i+1;omega⟩
   ·rintro τ acc H5 la ⟨_,s5,ss,ts,z,pr,pl,tt,ls⟩ D hD
    have s6:=AJ.Ai (o:=.lst acc) hD
    have S:=s4.trans s5
    refine ⟨D,none,acc,ss,ts,z,rfl,{ same:=I3.same.trans (S.trans s6),l0:=(I3.same.trans S).free hD,d0:=I3.d0,elp:=AD,pr:=pr.keep s6.tp,pl:=pl,ed:=(S.trans s6) _ _ I3.ed,lsn:=Nat.zero_le _,lss:=(by omega),ej:=(S.trans s6) _ _ I3.ej,nlj:=AS (S _ _ I3.ej) hD,j:=.inl rfl },fun t h=>(tt t h).1,by omega⟩
  ·rintro σ' H4 ⟨lp,o10,ps,ss,ts,z,rfl,I4,t4,l4⟩
   refine Fu (fun σ' H'=>∃(lp lj:Addr) (o10:Option V) (ps:List V) (ss:List Stp) (ts:List (Nat×Nat)) (z:Str→Nat) (sn:List Str) (jps:List V) (jn:Str),σ'=[some (.ref a),some (.int 2),some (.int 6),some (.int (many:Int)),some (.int b),some (.str LET),some (.ref lp),some (.ref d),some (.int cnt),some (.ref lj),o10,none,none,none,none,none]/\SPI H H' b many lp d lj ps ss ts z sn jps jn/\(∀t∈ts,t.1=23\/t.1=24)/\ss.length≤14/\sn.length≤5) ?_ ?_
   ·refine ⟨_,rfl,_,rfl,_,_,rfl,rfl,_,_,rfl,rfl,⟨by decide,by decide⟩,_,_,rfl,rfl,(by decide:(0:Int)<9),_,_,rfl,rfl,_,rfl,Fo (fun _=>?_) fun _=>⟨lp,lj,o10,ps,ss,ts,z,[],[], "", rfl,I4,fun t h=>.inl (t4 t h),by omega,Nat.zero_le _⟩⟩
    refine ⟨_,rfl,_,rfl,_,rfl,_,_,rfl,rfl,a,ns,_,rfl,I4.same.seq hS,hl,by decide,fun jc=>⟨_,rfl,b,jc,many,rfl,fun l5 H5 jps jss s5 hl5 el5 jpr jn=>?_⟩⟩
    have I5:=I4.next s5
    have ljs:=jpr.len
    obtain ⟨z6,ts6,pl6,tt6,zv,nd6,len6⟩:=Qx hm I4.pl t4 jn
    refine ⟨_,rfl,_,rfl,lp,l5,_,_,rfl,rfl,I5.elp,el5,by have:=I5.pr.len;omega,fun lq hlq=>?_⟩
    have s6:=AJ.Ai (o:=.lst (ps++jps)) hlq
    have elq:(upd H5 lq (.lst (ps++jps))) lq=some (.lst (ps++jps)):=AD
    generalize upd H5 lq (.lst (ps++jps))=H6 at s6 elq ⊢
    have S6:=I5.same.trans s6
    have pr6:Cp H6 (ps++jps) (ss++jss):=An (I5.pr.keep s6.tp) (jpr.keep s6.tp)
    have el6:=s6 _ _ el5
    have jpr6:=jpr.keep s6.tp
    refine ⟨_,rfl,l5,_,rfl,.inl (SqL.of el6),_,rfl,by omega,by omega,GJ (lo:=0) (n:=jps.length) (fun i σ H'=>∃o10,σ=[some (.ref a),some (.int 2),some (.int 6),some (.int (many:Int)),some (.int b),some (.str LET),some (.ref lq),some (.ref d),some (.int cnt),some (.ref l5),o10,none,none,none,none,none]/\ML d H6 H'/\H' d=some (.dK (szK ((jss.map Stp.nm).take i) z6))) ⟨_,rfl,(AJ.refl _).x _,s6 _ _ I5.ed⟩ ?_ ?_⟩
    ·rintro i σ H7 hi ⟨o10,rfl,s7,ed7⟩
     have t67:Tp H6 H7:=fun c ys e=>s7 _ _ (fun q=>by have:=s6 _ _ I5.ed;rw [q,this] at e;cases e) e
     have nd5:l5≠d:=fun q=>by have:=I5.ed;rw [←q,el5] at this;cases this
     have el7:=s7 _ _ nd5 el6
     have ex:=List.getElem?_eq_getElem hi
     obtain ⟨x,st,ex1,es,ea⟩:=jpr6.at ex
     rw [ex1] at ex
     have ea7:StA H7 x st:=ea.tp t67
     obtain ⟨w0,w1,w2⟩:=ea7.word (K:=K)
     have hv:=zv i st es
     have i5:i<5:=by omega
     refine ⟨_,rfl,_,rfl,_,rfl,_,rfl,_,_,rfl,rfl,.inl ⟨by omega,by omega⟩,_,rfl,_,rfl,_,_,rfl,rfl,.inl ⟨by omega,by omega⟩,_,rfl,_,_,rfl,rfl,⟨by decide,by decide,by omega⟩,Nat.le_of_ble_eq_true rfl,fun q hq=>?_⟩
     have evl:[V.int (many:Int),.int (many:Int),.int ((many:Int) * (many:Int)),.int ((many:Int) * (many:Int)),.int ((many:Int) ^ 3)]=(jv many).map fun n:Nat=>V.int (n:Int):=by
      rcases hm with h|h <;> (rw [h];rfl)
     have hval:atI [V.int (many:Int),.int (many:Int),.int ((many:Int) * (many:Int)),.int ((many:Int) * (many:Int)),.int ((many:Int) ^ 3)] (0+(i:Int))=some (.int (z6 st.nm:Int)):=by
      rw [evl,Int.zero_add]
      exact AI (by rw [List.getElem?_map,hv];rfl)
     have s8:=AJ.Ai (o:=.lst [V.int (many:Int),.int (many:Int),.int ((many:Int) * (many:Int)),.int ((many:Int) * (many:Int)),.int ((many:Int) ^ 3)]) hq
     have ndq:d≠q:=AS ed7 hq
     have xi:atI jps (0+(i:Int))=some (.ref x):=by rw [Int.zero_add];exact AI ex
     refine ⟨_,rfl,q,_,_,_,rfl,rfl,SqL.of AD,hval,_,rfl,_,rfl,_,rfl,l5,_,_,_,rfl,rfl,SqL.of (s8 _ _ el7),xi,x,_,_,_,rfl,rfl,SqT.of (s8 _ _ ea7),w2,d,_,rfl,Hz.k (k:=.inr st.nm) (s8 _ _ ed7) ?_,_,rfl,?_,?_⟩
     ·have:((jss.map Stp.nm).take i).length≤5:=by rw [List.length_take,List.length_map];omega
      show (szK _ _).length<sizeLine
      unfold szK
      rw [List.length_map]
      omega
     ·exact fun c o nc e=>by rw [AV nc];exact s8 _ _ (s7 c o nc e)
     ·have nin:st.nm∉(jss.map Stp.nm).take i:=fun h=>by
       obtain ⟨i',hi'⟩:=List.mem_iff_getElem?.mp h
       have hl':=(List.getElem?_eq_some_iff.mp hi').1
       rw [List.length_take] at hl'
       rw [List.getElem?_take,if_pos (by omega)] at hi'
       have e2:(jss.map Stp.nm)[i]?=some st.nm:=by rw [List.getElem?_map,es];rfl
       obtain ⟨h1,g1⟩:=List.getElem?_eq_some_iff.mp hi'
       obtain ⟨h2,g2⟩:=List.getElem?_eq_some_iff.mp e2
       have:=(List.getElem_inj nd6).mp (g1.trans g2.symm)
       omega
      rw [AD,Ll nin]
      have:(jss.map Stp.nm).take (i+1)=(jss.map Stp.nm).take i++[st.nm]:=by
       rw [List.take_add_one,List.getElem?_map,es];rfl
      rw [this]
    ·rintro σ H7 ⟨o10,rfl,s7,ed7⟩
     have ed6:=s6 _ _ I5.ed
     have t67:Tp H6 H7:=fun c ys e=>s7 _ _ (fun q=>by rw [q,ed6] at e;cases e) e
     have kl7:∀{c:Addr} {xs:List V},H6 c=some (.lst xs)→H7 c=some (.lst xs):=fun {c xs} e=>s7 _ _ (fun q=>by rw [q,ed6] at e;cases e) e
     have hd0:=I5.d0
     have S7:AJ H H7:=fun c o e=>s7 _ _ (AS e hd0) (S6 _ _ e)
     have lmap:(jss.map Stp.nm).length=jps.length:=by rw [List.length_map];omega
     rw [←lmap,List.take_of_length_le (Nat.le_refl _)] at ed7
     have len7:jps.length=4\/jps.length=5:=by omega
     have ix:2 * jps.length-6<jps.length:=by omega
     have exj:=List.getElem?_eq_getElem ix
     obtain ⟨x,st,ex1,es,ea⟩:=jpr6.at exj
     rw [ex1] at exj
     refine ⟨lq,l5,_,ps++jps,ss++jss,ts++ts6,z6,jss.map Stp.nm,jps,st.nm,rfl,{ same:=S7,l0:=(I5.same).free hlq,d0:=hd0,elp:=kl7 elq,pr:=pr6.keep t67,pl:=pl6,ed:=ed7,lsn:=(by rw [lmap];omega),lss:=(by rw [List.length_append];omega),ej:=kl7 el6,nlj:=AS el5 hlq,j:=.inr ⟨List.mem_map.mpr ⟨st,List.mem_of_getElem? es,rfl⟩,len7,x,st,exj,ea.tp t67,rfl⟩ },fun t h=>?_,by rw [List.length_append];omega,by rw [lmap];omega⟩
     rcases List.mem_append.mp h with h|h
     ·exact .inl (t4 t h)
     ·exact .inr (tt6 t h)
   ·rintro σ' H5 ⟨lp,lj,o10,ps,ss,ts,z,sn,jps,jn,rfl,I5,t5,l5,n5⟩
    have c7:0≤cnt % (6+1)/\cnt % (6+1)<7:=⟨Int.emod_nonneg _ (by decide),Int.emod_lt_of_pos _ (by decide)⟩
    refine ⟨_,rfl,_,rfl,_,_,rfl,rfl,_,_,rfl,rfl,(by decide:(0:Int)<6+1),_,rfl,by omega,by omega,GJ (lo:=0) (n:=(cnt % (6+1)).toNat) (fun i σ H'=>∃(o10 o11 o12 o13 o14:Option V) (ps:List V) (ss:List Stp) (ts:List (Nat×Nat)) (z:Str→Nat) (sn:List Str),σ=[some (.ref a),some (.int 2),some (.int 6),some (.int (many:Int)),some (.int b),some (.str LET),some (.ref lp),some (.ref d),some (.int cnt),some (.ref lj),o10,o11,o12,o13,o14,none]/\SPI H H' b many lp d lj ps ss ts z sn jps jn/\(∀t∈ts,t.1=23\/t.1=24\/(t.1=0/\t.2<i))/\ss.length≤14+i/\sn.length≤5+i)
     ⟨_,_,_,_,_,ps,ss,ts,z,sn,rfl,I5,fun t h=>(t5 t h).imp id .inl,l5,n5⟩ ?_ ?_⟩
    ·rintro i σ H6 hi ⟨o10,o11,o12,o13,o14,ps,ss,ts,z,sn,rfl,I6,t6,l6,n6⟩
     have i7:i<7:=by omega
     have bk:0≤(0+(i:Int)) % 7:=Int.emod_nonneg _ (by decide)
     refine ⟨_,rfl,_,rfl,_,_,rfl,rfl,_,rfl,_,_,rfl,rfl,(by decide:(0:Int)<7),_,_,rfl,rfl,a,ns,_,rfl,I6.same.seq hS,hl,by show 0≤(2+2)+(0+(i:Int)) % 7;omega,fun c0=>⟨_,rfl,_,_,rfl,rfl,⟨by decide,by decide⟩,_,_,rfl,rfl,.inl ⟨by decide,by decide⟩,_,_,rfl,rfl,_,rfl,_,_,rfl,rfl,?_⟩⟩
     have h0:atI LET.cps.toList 0=some (LET.cps.toList.getD 0 0):=JX 0 (by decide)
     have hch:atI LET.cps.toList (0+(i:Int))=some (LET.cps.toList.getD i 0):=by rw [Int.zero_add];exact JX i (by omega)
     refine ⟨_,rfl,_,rfl,_,rfl,_,_,_,rfl,rfl,by decide +kernel,h0,_,rfl,_,rfl,_,_,_,rfl,rfl,by decide +kernel,hch,_,_,rfl,rfl,(by show 1+1≤sizeLine;omega),b,0+(i:Int),chL 0++chL i,rfl,Ji (by decide) (by omega),LN _ _,by omega,by omega,fun nv H7 s7=>?_⟩
     have tg:Tag b (snF b (0+(i:Int)) (chL 0++chL i)) (0,i):=⟨(by decide:0<26),(by show i<26;omega),.inr ⟨rfl,(by show i<13;omega),by rw [Int.zero_add]⟩⟩
     have on:Ok (snF b (0+(i:Int)) (chL 0++chL i)):=BF nv
     generalize snF b (0+(i:Int)) (chL 0++chL i)=nm at tg on ⊢
     have I7:=I6.next s7
     have hno:((0,i):Nat×Nat)∉ts:=fun h=>by
      rcases t6 _ h with q|q|q
      ·cases q
      ·cases q
      ·exact Nat.lt_irrefl _ q.2
     refine ⟨_,rfl,_,rfl,_,_,rfl,rfl,⟨by decide,by decide⟩,_,_,rfl,rfl,(by decide:(0:Int)<3),_,_,rfl,Int.emod_nonneg _ (by decide),Int.emod_lt_of_pos _ (by decide),fun kd H8 s8 okd=>?_⟩
     have I8:=I7.next s8
     refine ⟨_,rfl,_,rfl,_,rfl,d,_,rfl,I8.ed,fun la hla=>?_⟩
     rw [Jt]
     have s9:=AJ.Ai (o:=.lst (sn.map V.str)) hla
     have ela:(upd H8 la (.lst (sn.map V.str))) la=some (.lst (sn.map V.str)):=AD
     generalize upd H8 la (.lst (sn.map V.str))=H9 at s9 ela ⊢
     have I9:=I8.next s9
     refine ⟨_,rfl,_,nm,la,sn,kd,rfl,on,ela,I9.pl.okn,okd,by omega,fun p st H10 s10 es g _ _=>?_⟩
     have I10:=I9.next s10
     refine Fu (fun σ' H'=>∃(o10 o11:Option V) (p:Addr) (st:Stp),σ'=[some (.ref a),some (.int 2),some (.int 6),some (.int (many:Int)),some (.int b),some (.str LET),some (.ref lp),some (.ref d),some (.int cnt),some (.ref lj),o10,o11,some (.str nm),some (.str kd),some (.ref p),none]/\SPI H H' b many lp d lj ps ss ts z sn jps jn/\StA H' p st/\Hv sn nm st/\CK st z many≤150) ?_ ?_
     ·refine ⟨_,rfl,_,rfl,_,rfl,p,d,st,szK sn z,z,many,rfl,es,I10.ed,I10.vals g.fed,_,_,rfl,rfl,_,rfl,Hs (fun h=>?_) fun h=>⟨_,_,p,st,rfl,I10,es,g,by omega⟩⟩
      exact ⟨_,rfl,_,rfl,Nat.le_of_ble_eq_true rfl,fun p' hp'=>⟨_,_,p',.take nm kd,rfl,I10.next (AJ.Ai hp'),AD,Ip on okd,(by show many≤150;omega)⟩⟩
     rintro σ' H11 ⟨o10,o11,p,st,rfl,I11,es,g,hb⟩
     have hnm:=g.nm
     have lp11:=I11.pr.len
     refine ⟨_,rfl,.inl ⟨rfl,_,SqL.of I11.elp⟩,_,rfl,lp,_,_,rfl,rfl,I11.elp,by omega,?_⟩
     have nw:=I11.pl.new tg hno
     have I12:=I11.push es (by rw [hnm];exact tg) hno (by rw [hnm];exact g) (by omega) (by omega)
     have tp12:Tp H11 (upd H11 lp (.lst (ps++[.ref p]))):=(Tp.refl H11).upd I11.elp fun ys=>by intro q;cases q
     have es12:StA (upd H11 lp (.lst (ps++[.ref p]))) p st:=es.tp tp12
     have ed12:=I12.ed
     generalize upd H11 lp (.lst (ps++[.ref p]))=H12 at I12 es12 ed12 tp12 ⊢
     have t12:∀t∈ts++[(0,i)],t.1=23\/t.1=24\/(t.1=0/\t.2<i+1):=fun t h=>by
      rcases List.mem_append.mp h with h|h
      ·rcases t6 t h with q|q|q
       ·exact .inl q
       ·exact .inr (.inl q)
       ·exact .inr (.inr ⟨q.1,by omega⟩)
      ·rw [List.mem_singleton.mp h];exact .inr (.inr ⟨rfl,by show i<i+1;omega⟩)
     have l12:(ss++[st]).length≤14+(i+1):=by rw [List.length_append,List.length_singleton];omega
     refine Fu (fun σ' H'=>∃(o10 o11 o12 o13 o14:Option V) (ps:List V) (ss:List Stp) (ts:List (Nat×Nat)) (z:Str→Nat) (sn:List Str),σ'=[some (.ref a),some (.int 2),some (.int 6),some (.int (many:Int)),some (.int b),some (.str LET),some (.ref lp),some (.ref d),some (.int cnt),some (.ref lj),o10,o11,o12,o13,o14,none]/\SPI H H' b many lp d lj ps ss ts z sn jps jn/\(∀t∈ts,t.1=23\/t.1=24\/(t.1=0/\t.2<i+1))/\ss.length≤14+(i+1)/\sn.length≤5+(i+1)) ?_ (fun σ' H' h=>h)
     obtain ⟨w0,w1,w2⟩:=es12.word (K:=K)
     have eB:CK st (Bs z st.nm (CK st z many)) many=Bs z st.nm (CK st z many) st.nm:=by
      rw [D9]
      exact FU fun x hx=>BO fun e=>by
       obtain ⟨i',s',ei',en,_⟩:=I11.pl.str x (g.fed x hx)
       exact nw s' (List.mem_of_getElem? ei') (en.trans (e.trans hnm))
     have nin:st.nm∉sn:=fun h=>by
      obtain ⟨i',s',ei',en,_⟩:=I11.pl.str _ h
      exact nw s' (List.mem_of_getElem? ei') (en.trans hnm)
     generalize Bs z st.nm (CK st z many)=z' at I12 ed12 eB
     have Gr:∃(o10' o11' o12 o13 o14:Option V) (ps':List V) (ss:List Stp) (ts:List (Nat×Nat)) (z:Str→Nat) (sn:List Str),[some (V.ref a),some (.int 2),some (.int 6),some (.int (many:Int)),some (.int b),some (.str LET),some (.ref lp),some (.ref d),some (.int cnt),some (.ref lj),o10,o11,some (.str nm),some (.str kd),some (.ref p),none]=[some (V.ref a),some (.int 2),some (.int 6),some (.int (many:Int)),some (.int b),some (.str LET),some (.ref lp),some (.ref d),some (.int cnt),some (.ref lj),o10',o11',o12,o13,o14,none]/\SPI H H12 b many lp d lj ps' ss ts z sn jps jn/\(∀t∈ts,t.1=23\/t.1=24\/(t.1=0/\t.2<i+1))/\ss.length≤14+(i+1)/\sn.length≤5+(i+1):=⟨_,_,_,_,_,_,_,_,_,_,rfl,I12,t12,l12,by omega⟩
     refine ⟨_,rfl,p,_,_,_,rfl,rfl,w0,w1,rfl,_,rfl,Pq (EW (i:=6) rfl (fun q6=>EE Gr) fun q6=>?_)⟩
     refine ⟨_,rfl,p,_,_,_,rfl,rfl,w0,w1,rfl,_,rfl,Pq (EW (i:=5) rfl (fun q5=>Gr) fun q5=>?_)⟩
     have htl:st.tell=false:=by cases st <;> first|rfl|exact absurd rfl q5|exact absurd rfl q6
     have hlen:(szK sn z').length<sizeLine:=by unfold szK;rw [List.length_map];omega
     have I13:=I12.size (E5 _ _) htl nin (by omega)
     exact ⟨_,rfl,_,rfl,_,rfl,p,d,st,szK sn z',z',many,rfl,es12,I12.ed,I12.vals g.fed,_,rfl,_,rfl,d,_,rfl,(show Hz H12 d (.str nm) (.int (CK st z' many:Int)) (upd H12 d (.dK (putK (szK sn z') (.inr st.nm) (.int (z' st.nm:Int))))) from by rw [eB,←hnm];exact Hz.k (k:=.inr st.nm) I12.ed hlen),_,_,_,_,_,_,_,_,z',_,rfl,I13,t12,l12,by rw [List.length_append,List.length_singleton];omega⟩
    ·rintro σ H6 ⟨o10,o11,o12,o13,o14,ps,ss,ts,z,sn,rfl,I6,t6,l6,n6⟩
     refine ⟨_,rfl,d,_,rfl,I6.ed,fun ls hls=>?_⟩
     rw [Jt]
     have s7:=AJ.Ai (o:=.lst (sn.map V.str)) hls
     have els:(upd H6 ls (.lst (sn.map V.str))) ls=some (.lst (sn.map V.str)):=AD
     have nls:ls≠lp:=(AS I6.elp hls).symm
     generalize upd H6 ls (.lst (sn.map V.str))=H7 at s7 els ⊢
     have I7:=I6.next s7
     have ntn:(cnt % (6+1)).toNat≤7:=by omega
     refine ⟨_,rfl,_,rfl,_,_,rfl,rfl,_,_,rfl,rfl,⟨by decide,by decide⟩,_,_,rfl,rfl,(by decide:(0:Int)<9),rfl,.inr ⟨_,rfl,_,_,rfl,rfl,.inl ⟨by decide,by decide⟩,_,rfl,?_,?_,GJ (lo:=0) (fun i σ H'=>∃(o10 o11 o12 o13 o14:Option V) (ps:List V) (ss:List Stp) (ts:List (Nat×Nat)) (z:Str→Nat),σ=[some (.ref a),some (.int 2),some (.int 6),some (.int (many:Int)),some (.int b),some (.str LET),some (.ref lp),some (.ref d),some (.int cnt),some (.ref lj),o10,o11,o12,o13,o14,some (.ref ls)]/\SPI H H' b many lp d lj ps ss ts z sn jps jn/\H' ls=some (.lst (sn.map V.str))/\(∀t∈ts,t.1=23\/t.1=24\/t.1=0\/(t.1=25/\t.2<i))/\ss.length≤25+i)
      ⟨_,_,_,_,_,ps,ss,ts,z,rfl,I7,els,fun t h=>(by rcases t6 t h with q|q|q;exact .inl q;exact .inr (.inl q);exact .inr (.inr (.inl q.1))),by omega⟩ ?_ ?_⟩⟩
     ·split <;> omega
     ·split <;> omega
     ·rintro i σ H8 hi ⟨o10,o11,o12,o13,o14,ps,ss,ts,z,rfl,I8,els8,t8,l8⟩
      have i2:i<2:=by
       refine Nat.lt_of_lt_of_le hi ?_
       split <;> decide
      refine ⟨_,rfl,_,rfl,_,_,rfl,rfl,_,rfl,_,_,rfl,rfl,a,ns,_,rfl,I8.same.seq hS,hl,by show 0≤(2+9)+(0+(i:Int));omega,fun c0=>?_⟩
      have hch:atI LET.cps.toList (0+(i:Int))=some (LET.cps.toList.getD i 0):=by rw [Int.zero_add];exact JX i (by omega)
      have hz:("z" : Str)++⟨#[LET.cps.toList.getD i 0]⟩=chL 25++chL i:=by rw [R9]
      have al:AL (("z" : Str)++⟨#[LET.cps.toList.getD i 0]⟩)/\1≤(("z" : Str)++⟨#[LET.cps.toList.getD i 0]⟩:Str).length/\(("z" : Str)++⟨#[LET.cps.toList.getD i 0]⟩:Str).length≤2:=by
       rw [hz,LN]
       exact ⟨Ji (by decide) (by omega),by decide,by decide⟩
      refine ⟨_,rfl,_,rfl,_,_,rfl,rfl,_,rfl,_,rfl,_,_,_,rfl,rfl,by decide +kernel,hch,_,_,rfl,rfl,by rw [←PySem.Str.length_append];omega,_,_,_,rfl,al.1,al.2.1,al.2.2,fun nv H9 s9=>?_⟩
      have tg:Tag b (Aj b (600+(0+(i:Int))) (("z" : Str)++⟨#[LET.cps.toList.getD i 0]⟩)) (25,i):=⟨(by decide:25<26),(by show i<26;omega),.inl ⟨(by decide:23≤25),_,by rw [hz]⟩⟩
      have on:Ok (Aj b (600+(0+(i:Int))) (("z" : Str)++⟨#[LET.cps.toList.getD i 0]⟩)):=BF nv
      generalize Aj b (600+(0+(i:Int))) (("z" : Str)++⟨#[LET.cps.toList.getD i 0]⟩)=nm at tg on ⊢
      have I9:=I8.next s9
      have els9:=s9 _ _ els8
      have hno:((25,i):Nat×Nat)∉ts:=fun h=>by
       rcases t8 _ h with q|q|q|q
       ·cases q
       ·cases q
       ·cases q
       ·exact Nat.lt_irrefl _ q.2
      have c2:0≤c0 % 2/\c0 % 2<2:=⟨Int.emod_nonneg _ (by decide),Int.emod_lt_of_pos _ (by decide)⟩
      refine ⟨_,rfl,_,_,rfl,rfl,(by decide:(0:Int)<2),_,_,rfl,rfl,_,rfl,_,_,rfl,rfl,⟨by decide,by decide⟩,_,_,rfl,rfl,.inl ⟨by decide,by decide⟩,_,_,rfl,rfl,_,rfl,_,rfl,_,nm,ls,sn, "k", rfl,on,els9,I9.pl.okn,(by unfold Ok;decide +kernel),by omega,fun p st H10 s10 es g tl _=>?_⟩
      have tl':sn≠[]→st.tell=true:=fun h=>tl h (by omega)
      have I10:=I9.next s10
      have els10:=s10 _ _ els9
      refine Fu (fun σ' H'=>∃(c11:Int) (o13:Option V) (p:Addr) (st:Stp),σ'=[some (.ref a),some (.int 2),some (.int 6),some (.int (many:Int)),some (.int b),some (.str LET),some (.ref lp),some (.ref d),some (.int cnt),some (.ref lj),some (.int (0+(i:Int))),some (.int c11),some (.str nm),o13,some (.ref p),some (.ref ls)]/\SPI H H' b many lp d lj ps ss ts z sn jps jn/\H' ls=some (.lst (sn.map V.str))/\StA H' p st/\Hv sn nm st/\(sn≠[]→st.tell=true)) ?_ ?_
      ·obtain ⟨w0,w1,w2⟩:=es.word (K:=K)
       refine ⟨_,rfl,p,_,_,_,rfl,rfl,w0,w1,rfl,_,rfl,EW (i:=5) rfl (fun q5=>?_) fun q5=>EE ⟨_,_,p,st,rfl,I10,els10,es,g,tl'⟩⟩
       refine ⟨_,rfl,_,_,rfl,rfl,⟨by decide,by decide⟩,_,_,rfl,rfl,(by decide:(0:Int)<2),rfl,_,rfl,FD (fun _=>?_) fun _=>⟨_,_,p,st,rfl,I10,els10,es,g,tl'⟩⟩
       obtain ⟨n',x',so,m',rfl⟩:∃n' x' so m',st=.gap n' x' so m':=by cases st <;> first|exact ⟨_,_,_,_,rfl⟩|cases q5
       refine ⟨_,rfl,_,rfl,p,_,rfl,SqT.of es,(by show ¬ (HT.sIx 5 0 none=0/\HT.sIx 5 5 (some 4)=5);decide),fun p1 hp1=>?_⟩
       have u1:AJ H10 (upd H10 p1 (.tup [.str "gap", .str n',.str x',.str so])):=AJ.Ai hp1
       have ep1:(upd H10 p1 (.tup [.str "gap", .str n',.str x',.str so])) p1=some (.tup [.str "gap", .str n',.str x',.str so]):=AD
       have m13:0≤m' % 13/\m' % 13<13:=⟨Int.emod_nonneg _ (by decide),Int.emod_lt_of_pos _ (by decide)⟩
       refine ⟨_,rfl,p,_,_,.int m',rfl,rfl,SqT.of (u1 _ _ es),AI (j:=4) rfl,_,_,rfl,rfl,(by decide:(0:Int)<13),Nat.le_of_ble_eq_true rfl,fun q hq=>?_⟩
       have u2:AJ (upd H10 p1 (.tup [.str "gap", .str n',.str x',.str so])) (upd (upd H10 p1 (.tup [.str "gap", .str n',.str x',.str so])) q (.lst [.int 1,.int 1,.int 1,.int 7,.int 1000,.int 1])):=AJ.Ai hq
       refine ⟨_,rfl,a,ns,_,rfl,(I10.same.trans (u1.trans u2)).seq hS,hl,by decide,fun c6=>?_⟩
       obtain ⟨v,hv,mv⟩:=BL [V.int 1,V.int 1,V.int 1,V.int 7,V.int 1000,V.int 1] 6 rfl (by decide) c6
       obtain ⟨vv,rfl⟩:∃vv:Int,v=.int vv:=by
        simp only [List.mem_cons,List.not_mem_nil,or_false] at mv
        rcases mv with rfl|rfl|rfl|rfl|rfl|rfl <;> exact ⟨_,rfl⟩
       refine ⟨_,_,rfl,rfl,(by decide:(0:Int)<6),q,_,_,_,rfl,rfl,SqL.of AD,hv,_,_,rfl,rfl,.inl ⟨by omega,by omega⟩,_,_,rfl,Nat.le_of_ble_eq_true rfl,fun t ht=>?_⟩
       have u3:=AJ.Ai (o:=.tup [.int (if m' % 13 * vv<1000000 then m' % 13 * vv else 1000000)]) ht
       refine ⟨p1,t,_,_,rfl,rfl,(u2.trans u3) _ _ ep1,AD,by show 4+1≤sizeLine;omega,fun p2 H11 u4 ep2=>?_⟩
       have U:=u1.trans (u2.trans (u3.trans u4))
       exact ⟨_,_,p2,.gap n' x' so (if m' % 13 * vv<1000000 then m' % 13 * vv else 1000000),rfl,I10.next U,U _ _ els10,ep2,⟨g.nm,g.fed,trivial,g.txt⟩,fun _=>rfl⟩
      rintro σ' H11 ⟨c11,o13,p,st,rfl,I11,els11,es10,g10,tl10⟩
      refine Fu (fun σ' H'=>∃(o11 o13:Option V) (p:Addr) (st:Stp),σ'=[some (.ref a),some (.int 2),some (.int 6),some (.int (many:Int)),some (.int b),some (.str LET),some (.ref lp),some (.ref d),some (.int cnt),some (.ref lj),some (.int (0+(i:Int))),o11,some (.str nm),o13,some (.ref p),some (.ref ls)]/\SPI H H' b many lp d lj ps ss ts z sn jps jn/\H' ls=some (.lst (sn.map V.str))/\StA H' p st/\Hv sn nm st/\(sn≠[]→st.tell=true)) ?_ ?_
      ·refine ⟨_,rfl,Nat.zero_le _,fun l0 hl0=>?_⟩
       have v1:=AJ.Ai (o:=.lst []) hl0
       refine ⟨lj,l0,jps,rfl,rfl,SqL.of (v1 _ _ I11.ej),SqL.of AD,_,rfl,?_⟩
       have I11:=I11.next v1
       have els11:=v1 _ _ els11
       have es10:StA _ p st:=es10.tp v1.tp
       generalize upd H11 l0 (.lst [])=H11 at I11 els11 es10 ⊢
       cases hne:jps.isEmpty with
       | true=>exact EE ⟨_,_,p,st,rfl,I11,els11,es10,g10,tl10⟩
       | false =>
        obtain ⟨hjn,hjl,x,sj,hx,ex,ej⟩:jn∈sn/\(jps.length=4\/jps.length=5)/\∃(a:Addr) (s:Stp),jps[2 * jps.length-6]?=some (.ref a)/\StA H11 a s/\s.nm=jn:=by
         rcases I11.j with h|h
         ·rw [h] at hne;cases hne
         ·exact h
        subst ej
        refine JU ⟨_,rfl,rfl,_,rfl,FD (fun _=>?_) fun _=>⟨_,_,p,st,rfl,I11,els11,es10,g10,tl10⟩⟩
        have htl:=tl10 (List.ne_nil_of_mem hjn)
        obtain ⟨x0,x1,x2⟩:=ex.word (K:=K)
        have hix:atI jps (2 * (jps.length:Int)-6)=some (.ref x):=by
         have e:2 * (jps.length:Int)-6=((2 * jps.length-6:Nat):Int):=by omega
         rw [e]
         exact AI hx
        rcases (show (∃n' x' so m',st=.gap n' x' so m')\/∃n' x' so zz dd,st=.each n' x' so zz dd by cases st <;> first|exact .inl ⟨_,_,_,_,rfl⟩|exact .inr ⟨_,_,_,_,_,rfl⟩|cases htl) with ⟨n',x',so,m',rfl⟩|⟨n',x',so,zz,dd,rfl⟩
        ·refine ⟨_,rfl,_,rfl,p,_,rfl,SqT.of es10,(by show ¬ (HT.sIx 5 0 none=0/\HT.sIx 5 5 (some 2)=5);decide),fun p1 hp1=>?_⟩
         have u1:AJ H11 (upd H11 p1 (.tup [.str "gap", .str n'])):=AJ.Ai hp1
         have ep1:(upd H11 p1 (.tup [.str "gap", .str n'])) p1=some (.tup [.str "gap", .str n']):=AD
         refine ⟨_,rfl,_,rfl,lj,_,rfl,.inl (SqL.of (u1 _ _ I11.ej)),_,_,rfl,rfl,.inl ⟨by decide,by decide⟩,_,_,rfl,rfl,lj,_,_,_,rfl,rfl,SqL.of (u1 _ _ I11.ej),hix,x,_,_,.str sj.nm,rfl,rfl,SqT.of (u1 _ _ ex),x2,Nat.le_of_ble_eq_true rfl,fun t ht=>?_⟩
         have u2:AJ (upd H11 p1 (.tup [.str "gap", .str n'])) (upd (upd H11 p1 (.tup [.str "gap", .str n'])) t (.tup [.str sj.nm])):=AJ.Ai ht
         refine ⟨p1,t,_,_,rfl,rfl,u2 _ _ ep1,AD,by show 2+1≤sizeLine;omega,fun p2 H12 u3 ep2=>?_⟩
         have u13:=u1.trans (u2.trans u3)
         refine ⟨_,rfl,_,rfl,p,_,rfl,SqT.of (u13 _ _ es10),(by show ¬ (HT.sIx 5 0 (some 3)=0/\HT.sIx 5 5 none=5);decide),fun p3 hp3=>?_⟩
         have u4:AJ H12 (upd H12 p3 (.tup [.str so,.int m'])):=AJ.Ai hp3
         have ep3:(upd H12 p3 (.tup [.str so,.int m'])) p3=some (.tup [.str so,.int m']):=AD
         refine ⟨p2,p3,_,_,rfl,rfl,u4 _ _ ep2,ep3,by show 3+2≤sizeLine;omega,fun p4 H13 u5 ep4=>?_⟩
         have U:=u13.trans (u4.trans u5)
         exact ⟨_,_,p4,.gap n' sj.nm so m',rfl,I11.next U,U _ _ els11,ep4,⟨g10.nm,fun y hy=>(by rw [List.mem_singleton.mp hy];exact hjn),trivial,DE (g10.txt _ (.head _)) (I11.pl.okn _ hjn) (g10.txt _ (.tail _ (.tail _ (.head _))))⟩,fun _=>rfl⟩
        ·refine ⟨_,rfl,_,rfl,p,_,rfl,SqT.of es10,(by show ¬ (HT.sIx 6 0 none=0/\HT.sIx 6 6 (some 2)=6);decide),fun p1 hp1=>?_⟩
         have u1:AJ H11 (upd H11 p1 (.tup [.str "each", .str n'])):=AJ.Ai hp1
         have ep1:(upd H11 p1 (.tup [.str "each", .str n'])) p1=some (.tup [.str "each", .str n']):=AD
         refine ⟨_,rfl,_,rfl,lj,_,rfl,.inl (SqL.of (u1 _ _ I11.ej)),_,_,rfl,rfl,.inl ⟨by decide,by decide⟩,_,_,rfl,rfl,lj,_,_,_,rfl,rfl,SqL.of (u1 _ _ I11.ej),hix,x,_,_,.str sj.nm,rfl,rfl,SqT.of (u1 _ _ ex),x2,Nat.le_of_ble_eq_true rfl,fun t ht=>?_⟩
         have u2:AJ (upd H11 p1 (.tup [.str "each", .str n'])) (upd (upd H11 p1 (.tup [.str "each", .str n'])) t (.tup [.str sj.nm])):=AJ.Ai ht
         refine ⟨p1,t,_,_,rfl,rfl,u2 _ _ ep1,AD,by show 2+1≤sizeLine;omega,fun p2 H12 u3 ep2=>?_⟩
         have u13:=u1.trans (u2.trans u3)
         refine ⟨_,rfl,_,rfl,p,_,rfl,SqT.of (u13 _ _ es10),(by show ¬ (HT.sIx 6 0 (some 3)=0/\HT.sIx 6 6 none=6);decide),fun p3 hp3=>?_⟩
         have u4:AJ H12 (upd H12 p3 (.tup [.str so,.int zz,.int dd])):=AJ.Ai hp3
         have ep3:(upd H12 p3 (.tup [.str so,.int zz,.int dd])) p3=some (.tup [.str so,.int zz,.int dd]):=AD
         refine ⟨p2,p3,_,_,rfl,rfl,u4 _ _ ep2,ep3,by show 3+3≤sizeLine;omega,fun p4 H13 u5 ep4=>?_⟩
         have U:=u13.trans (u4.trans u5)
         exact ⟨_,_,p4,.each n' sj.nm so zz dd,rfl,I11.next U,U _ _ els11,ep4,⟨g10.nm,fun y hy=>(by rw [List.mem_singleton.mp hy];exact hjn),trivial,DE (g10.txt _ (.head _)) (I11.pl.okn _ hjn) (g10.txt _ (.tail _ (.tail _ (.head _))))⟩,fun _=>rfl⟩
      rintro σ' H12 ⟨o11,o13,p,st,rfl,I12,els12,es12,g12,tl12⟩
      have hnm:=g12.nm
      have lp12:=I12.pr.len
      refine ⟨_,rfl,.inl ⟨rfl,_,SqL.of I12.elp⟩,_,rfl,lp,_,_,rfl,rfl,I12.elp,by omega,?_⟩
      have hb:CK st z many≤1000:=by
       cases ht:st.tell with
       | true =>
        have:∃y∈st.BN,CK st z many=z y:=by cases st <;> first|exact ⟨_,.head _,rfl⟩|cases ht
        obtain ⟨y,hy,e⟩:=this
        rw [e]
        exact I12.pl.szs y (g12.fed y hy)
       | false =>
        have hs0:sn=[]:=by
         cases sn with
         | nil=>rfl
         | cons u v=>have:=tl12 (by simp);rw [ht] at this;cases this
        have:CK st z many=many:=by
         cases st with
         | take=>rfl
         | only n y=>have:=g12.fed y (.head _);rw [hs0] at this;cases this
         | turn n y=>have:=g12.fed y (.head _);rw [hs0] at this;cases this
         | both n y=>have:=g12.fed y (.head _);rw [hs0] at this;cases this
         | join n y=>have:=g12.fed y (.head _);rw [hs0] at this;cases this
         | gap n y=>have:=g12.fed y (.head _);rw [hs0] at this;cases this
         | each n y=>have:=g12.fed y (.head _);rw [hs0] at this;cases this
        omega
      refine ⟨_,_,_,_,_,ps++[.ref p],ss++[st],ts++[(25,i)],_,rfl,I12.push es12 (by rw [hnm];exact tg) hno (by rw [hnm];exact g12) hb (by omega),?_,fun t h=>?_,by rw [List.length_append,List.length_singleton];omega⟩
      ·rw [AV nls];exact els12
      ·rcases List.mem_append.mp h with h|h
       ·rcases t8 t h with q|q|q|q
        ·exact .inl q
        ·exact .inr (.inl q)
        ·exact .inr (.inr (.inl q))
        ·exact .inr (.inr (.inr ⟨q.1,by omega⟩))
       ·rw [List.mem_singleton.mp h];exact .inr (.inr (.inr ⟨rfl,by show i<i+1;omega⟩))
     ·rintro σ H8 ⟨o10,o11,o12,o13,o14,ps,ss,ts,z,rfl,I8,els8,t8,l8⟩
      exact ⟨_,rfl,k lp _ ps ss b ts z sn I8.same I8.l0 I8.elp I8.pr I8.pl I8.lss⟩
def P1 (e:Ev):Prop:=Ok e.2.1/\Ok e.2.2.1
def Nh (K:W.Frag):Sp:=fun vs H Q _=>∃(a c:Addr) (ns cs:List Int),vs=[.ref a,.ref c]/\SqL K H a (ns.map V.int)/\ns.length≤63/\SqL K H c (cs.map V.int)/\cs.length≤10 /\
 ∀l H' evs,AJ H H'→H l=none→Hy H' l evs→evs.length=cs.length→(∀e∈evs,P1 e)→Q (.ref l) H'
theorem Rg:∀c∈("lkjihgfedxyz" : Str).cps.toList,inL (.str ⟨#[c]⟩)=true:=by decide +kernel
abbrev Oz:List Str:=["end", "item", "piece", "clock", "late", "sum", "take", "hand", "of", "each", "gap", "turn"]
theorem Rf:∀z∈Oz,PyData.strOk z=true:=by decide +kernel
theorem Mm (T:Tx K mg ad):Ba P w K mg base CX0 3 ad.CT ad.C6 ["_law_script", "_law_cells"] (Nh K):=by
 have G_uat:=OH (P:=P) (w:=w) (base:=base) T
 have G_ucalled:=Ds (P:=P) (w:=w) (base:=base) T
 have G_ukind:=JM (P:=P) (w:=w) (base:=base) T
 refine T.Cb.ok Gw (fun vs H Q E h=>?_) (fun cdv A outer s H vs Q E hr h=>?_)
 ·obtain ⟨a,c,ns,cs,rfl,_⟩:=h
  rfl
 ·obtain ⟨a,c,ns,cs,rfl,hS,hl,hC,hlc,k⟩:=h
  have nd:=Gw.nd
  refine ⟨_,(AF (AQ (i:=2) nd rfl (Or.inl rfl) (AN G_uat (hr.mono (by decide)) (by rfl) T.FC T.Cw.kp T.FF .nil Ab (AA (pv 0) (AA AB AE))))
    (AF (AQ (i:=3) nd rfl (Or.inl rfl) (AM (Ac (K:=K)) (As (AA AB (AA AB (AA AB (AA AB (AA AB (AA AB AE))))))) (AG AX (pv 2) AB) (fun _ _=>rfl)))
    (AF (AQ (i:=4) nd rfl (Or.inl rfl) (As AE))
    (AF (Cs PassesOwn.never rfl (Ln (K:=K) (by rfl) T.B0 (pv 1)) (G9 rfl (BA (Au (i:=5) nd rfl (Or.inl rfl)) (BA (Au (i:=6) nd rfl (Or.inl rfl)) Ff)))
    (AF (AQ (i:=7) nd rfl (Or.inl rfl) (AG AX (AG BE (AG Ah (pv 6) (AG BE AB (pv 5))) AB) AB))
    (AF (AQ (i:=8) nd rfl (Or.inl rfl) (AG Ah (AG BE (AM (Ac (K:=K)) (As (AA (AG AX (pv 6) AB) (AA (AG Ah (AG BE AB (pv 5)) (AG AX (pv 6) AB)) AE))) (AG AX (AG AY (pv 2) AB) AB) (fun _ _=>rfl)) (pv 3)) (AG AX (pv 7) (pv 3))))
    (AF (AQ (i:=8) nd rfl (Or.inl rfl) (Al (DC rfl) (by rfl) T.E6 PyProof.Rows.boot_min (AA AB (AA (pv 8) AE))))
    (AF (AQ (i:=9) nd rfl (Or.inl rfl) (AN G_ukind (hr.mono (by decide)) (by rfl) T.Ge T.Cj.kp T.Gg .nil Ab (AA (AN G_uat (hr.mono (by decide)) (by rfl) T.FC T.Cw.kp T.FF .nil Ab (AA (pv 0) (AA AB AE))) (AA (AG AX (AG AY (pv 7) AB) AB) AE))))
    (AF (AQ (i:=10) nd rfl (Or.inl rfl) (AG AX (AG AY (pv 7) AB) (AM (Ac (K:=K)) (As (AA AB (AA AB (AA AB (AA AB AE))))) (AG AX (AG AY (pv 2) AB) AB) (fun _ _=>rfl))))
    (AF (AQ (i:=11) nd rfl (Or.inl rfl) (AN G_ucalled (hr.mono (by decide)) (by rfl) T.BW T.Aw.kp T.BY .nil Ab (AA (AG AY (pv 2) AB) (AA (pv 10) (AA (AM FQ AO (pv 10) (fun _ _=>rfl)) AE)))))
    (AF (EA (Aq (AU A0 (AG AX (pv 2) AB) AB (AZ _))
    (AH (AQ (i:=11) nd rfl (Or.inl rfl) (AM (Ac (K:=K)) (As (AA AO (AA AO (AA AO (AA AO (AA AO (AA AO (AA AO (AA AO (AA AO (AA AO (AA AO (AA AO AE))))))))))))) (pv 10) (fun _ _=>rfl))))
    Aa))
    (AF (AQ (i:=12) nd rfl (Or.inl rfl) (AG CI (AG AX (AG AY (pv 7) AB) AB) AB))
    (AF (EA (Aq (AU A0 (AG AX (AG AY (pv 7) AB) AB) AB (AZ _))
    (AH (AQ (i:=12) nd rfl (Or.inl rfl) (AG CI (AG AX (pv 7) AB) AB)))
    Aa))
    (AH (CD (CM (K:=K) F.plainAttrs_list F.slot_list_append F.type_list_append Bi (pv 4) (AA (Ar (AA (pv 8) (AA (pv 9) (AA (pv 11) (AA (pv 12) AE))))) AE))))))))))))))
    (AH (AW (pv 4))))))),?_⟩
  have sz:sizeLine=16777216:=sizeLine_eq
  refine ⟨_,rfl,a,ns,_,rfl,hS,hl,by decide,fun b=>?_⟩
  refine ⟨Nat.le_of_ble_eq_true rfl,fun q hq=>?_⟩
  have s1:=AJ.Ai (o:=.lst [.int 1,.int 1,.int 1,.int 7,.int 1000,.int 25000000]) hq
  have eq:(upd H q (.lst [.int 1,.int 1,.int 1,.int 7,.int 1000,.int 25000000])) q=some (.lst [.int 1,.int 1,.int 1,.int 7,.int 1000,.int 25000000]):=AD
  generalize upd H q (.lst [.int 1,.int 1,.int 1,.int 7,.int 1000,.int 25000000])=H1 at s1 eq ⊢
  obtain ⟨v,hv,mv⟩:=BL [V.int 1,V.int 1,V.int 1,V.int 7,V.int 1000,V.int 25000000] 6 rfl (by decide) b
  obtain ⟨sc,rfl,sc0,sc1⟩:∃m:Int,v=.int m/\0<m/\m≤25000000:=by
   simp only [List.mem_cons,List.not_mem_nil,or_false] at mv
   rcases mv with rfl|rfl|rfl|rfl|rfl|rfl <;> exact ⟨_,rfl,by decide,by decide⟩
  refine ⟨_,rfl,_,_,rfl,rfl,(by decide:(0:Int)<6),q,_,_,_,rfl,rfl,SqL.of eq,hv,?_⟩
  refine ⟨Nat.zero_le _,fun il hil=>?_⟩
  have s2:=AJ.Ai (o:=.lst []) hil
  have eil:(upd H1 il (.lst [])) il=some (.lst []):=AD
  have hil0:H il=none:=s1.free hil
  generalize upd H1 il (.lst [])=H2 at s2 eil ⊢
  have s12:=s1.trans s2
  refine ⟨_,rfl,c,rfl,⟨_,s12.seq hC⟩,Kg (K:=K) (xs:=cs.map V.int) (fun n σ H'=>∃(o5 o6 o7 o8 o9 o10 o11 o12:Option V) (xs:List V) (evs:List Ev),σ=[some (.ref a),some (.ref c),some (.int b),some (.int sc),some (.ref il),o5,o6,o7,o8,o9,o10,o11,o12]/\AJ H H'/\H' il=some (.lst xs)/\Rws H' xs (evs.map evK)/\evs.length=n/\∀e∈evs,P1 e)
   ⟨none,none,none,none,none,none,none,none,[],[],rfl,s12,eil,DV _,rfl,fun e h=>by cases h⟩ (fun n σ H' _ ⟨_,_,_,_,_,_,_,_,_,_,_,s',_⟩=>s'.seq hC) ?_ ?_⟩
  ·rintro n x σ H3 pp hx ⟨o5,o6,o7,o8,o9,o10,o11,o12,xs,evs,rfl,s3,e3,w3,l3,ok3⟩ hpp
   rw [List.getElem?_map] at hx
   obtain ⟨cl,hcl,rfl⟩:=Option.map_eq_some_iff.mp hx
   have hn:=(List.getElem?_eq_some_iff.mp hcl).1
   have t1:=AJ.Ai (o:=.tup [.int (n:Int),.int cl]) hpp
   refine ⟨pp,_,rfl,SqT.of AD,rfl,_,_,rfl,_,_,rfl,rfl,?_⟩
   generalize upd H3 pp (.tup [.int (n:Int),.int cl])=H4 at t1 ⊢
   refine ⟨_,rfl,_,rfl,_,_,rfl,rfl,.inl ⟨by decide,by decide⟩,_,_,rfl,rfl,_,_,rfl,rfl,.inr ⟨by decide,by decide⟩,_,_,rfl,rfl,(by decide:(0:Int)<2147483647),?_⟩
   have m3:0≤cl % 10/\cl % 10<10:=⟨Int.emod_nonneg _ (by decide),Int.emod_lt_of_pos _ (by decide)⟩
   refine ⟨_,rfl,_,_,rfl,rfl,(by decide:(0:Int)<40),_,rfl,_,_,rfl,rfl,.inl ⟨by decide,by decide⟩,_,rfl,_,_,rfl,rfl,(by decide:(0:Int)<10),_,_,rfl,rfl,Nat.le_of_ble_eq_true rfl,fun q2 hq2=>?_⟩
   have t2:=AJ.Ai (o:=.lst [.int (cl % 40),.int (3 * (n:Int)+cl % 10)]) hq2
   obtain ⟨v2,hv2,mv2⟩:=BL [V.int (cl % 40),V.int (3 * (n:Int)+cl % 10)] 2 rfl (by decide) (b / 24)
   obtain ⟨tb,rfl⟩:∃m:Int,v2=.int m:=by
    simp only [List.mem_cons,List.not_mem_nil,or_false] at mv2
    rcases mv2 with rfl|rfl <;> exact ⟨_,rfl⟩
   refine ⟨_,rfl,_,_,rfl,rfl,⟨by decide,by decide⟩,_,_,rfl,rfl,(by decide:(0:Int)<2),q2,_,_,_,rfl,rfl,SqL.of AD,hv2,_,rfl,_,_,rfl,rfl,.inr ⟨by omega,by omega⟩,_,rfl,_,rfl,_,_,rfl,rfl,sc0,_,_,rfl,rfl,?_⟩
   refine ⟨_,rfl,_,_,rfl,?_⟩
   have t12:AJ H3 (upd H4 q2 (.lst [.int (cl % 40),.int (3 * (n:Int)+cl % 10)])):=t1.trans t2
   refine ⟨_,rfl,a,ns,_,rfl,(s3.trans t12).seq hS,hl,by decide,fun c2=>⟨_,rfl,_,_,rfl,rfl,⟨by decide,by decide⟩,_,_,rfl,rfl,(by decide:(0:Int)<3),_,_,rfl,Int.emod_nonneg _ (by decide),Int.emod_lt_of_pos _ (by decide),fun kd H5 s5 okd=>?_⟩⟩
   have t15:=t12.trans s5
   obtain ⟨v4,hv4,mv4⟩:=BL [V.int 3,V.int 3,V.int 3,V.int 12] 4 rfl (by decide) (b / 6)
   obtain ⟨wd,rfl,hwd⟩:∃m:Int,v4=.int m/\(m=3\/m=12):=by
    simp only [List.mem_cons,List.not_mem_nil,or_false] at mv4
    rcases mv4 with rfl|rfl|rfl|rfl <;> exact ⟨_,rfl,by decide⟩
   refine ⟨_,rfl,_,_,rfl,rfl,⟨by decide,by decide⟩,Nat.le_of_ble_eq_true rfl,fun q4 hq4=>?_⟩
   have t6:=AJ.Ai (o:=.lst [.int 3,.int 3,.int 3,.int 12]) hq4
   have eq4:(upd H5 q4 (.lst [.int 3,.int 3,.int 3,.int 12])) q4=some (.lst [.int 3,.int 3,.int 3,.int 12]):=AD
   generalize upd H5 q4 (.lst [.int 3,.int 3,.int 3,.int 12])=H6 at t6 eq4 ⊢
   refine ⟨_,rfl,_,_,rfl,rfl,⟨by decide,by decide⟩,_,_,rfl,rfl,(by decide:(0:Int)<4),q4,_,_,_,rfl,rfl,SqL.of eq4,hv4,_,_,rfl,rfl,(by show (0:Int)<wd;omega),?_⟩
   have hat:0≤(cl+7919 * (n:Int)) * 48271 % 2147483647 / 120 % wd/\(cl+7919 * (n:Int)) * 48271 % 2147483647 / 120 % wd<12:=⟨Int.emod_nonneg _ (by omega),Int.lt_of_lt_of_le (Int.emod_lt_of_pos _ (by omega)) (by omega)⟩
   obtain ⟨ch,hch,hcm⟩:=BL ("lkjihgfedxyz" : Str).cps.toList 12 (by decide +kernel) (by decide) ((cl+7919 * (n:Int)) * 48271 % 2147483647 / 120 % wd)
   rw [Int.emod_eq_of_lt hat.1 hat.2] at hch
   have al:AL ⟨#[ch]⟩:=fun c hc=>by
    have e:c=ch:=by simpa using hc
    rw [e]
    exact Rg ch hcm
   refine ⟨_,rfl,_,_,rfl,rfl,⟨by decide,by decide⟩,_,rfl,_,rfl,_,_,_,rfl,rfl,by decide +kernel,hch,_,_,_,rfl,al,(by show 1≤1;decide),(by show 1≤2;decide),fun nv H7 t7=>?_⟩
   have t17:=t15.trans (t6.trans t7)
   refine Fu (fun σ' H'=>∃(m tm:Int) (o10 o12:Option V) (key:Str),Ok key/\AJ H3 H'/\σ'=[some (.ref a),some (.ref c),some (.int b),some (.int sc),some (.ref il),some (.int (n:Int)),some (.int cl),some (.int m),some (.int tm),some (.str kd),o10,some (.str key),o12]) ?_ ?_
   ·refine ⟨_,rfl,_,_,rfl,rfl,(by decide:(0:Int)<11),rfl,_,rfl,FD (fun _=>?_) fun _=>⟨_,_,_,_,_,BF nv,t17,rfl⟩⟩
    refine ⟨Nat.le_of_ble_eq_true rfl,fun q5 hq5=>?_⟩
    have t8:=AJ.Ai (o:=.lst (Oz.map V.str)) hq5
    have eq5:(upd H7 q5 (.lst (Oz.map V.str))) q5=some (.lst (Oz.map V.str)):=AD
    obtain ⟨v5,hv5,mv5⟩:=BL (Oz.map V.str) 12 rfl (by decide) ((cl+7919 * (n:Int)) * 48271 % 2147483647 / 120 % wd)
    rw [Int.emod_eq_of_lt hat.1 hat.2] at hv5
    obtain ⟨kw,hkw,rfl⟩:=List.mem_map.mp mv5
    exact ⟨_,rfl,q5,_,_,_,rfl,rfl,SqL.of eq5,hv5,_,_,_,_,kw,Rf kw hkw,t17.trans t8,rfl⟩
   rintro σ' H8 ⟨m,tm,o10,o12,key,okk,t18,rfl⟩
   refine ⟨_,rfl,_,_,rfl,rfl,⟨by decide,by decide⟩,_,_,rfl,rfl,(by decide:(0:Int)<21),_,_,rfl,rfl,?_⟩
   refine Fu (fun σ' H'=>∃(o10:Option V) (am:Int),H'=H8/\σ'=[some (.ref a),some (.ref c),some (.int b),some (.int sc),some (.ref il),some (.int (n:Int)),some (.int cl),some (.int m),some (.int tm),some (.str kd),o10,some (.str key),some (.int am)]) ?_ ?_
   ·refine ⟨_,rfl,_,_,rfl,rfl,⟨by decide,by decide⟩,_,_,rfl,rfl,(by decide:(0:Int)<16),rfl,_,rfl,FD (fun _=>?_) fun _=>⟨_,_,rfl,rfl⟩⟩
    exact ⟨_,rfl,_,_,rfl,rfl,(by decide:(0:Int)<2000000001),_,_,rfl,rfl,_,_,rfl,rfl⟩
   rintro σ' H9 ⟨o10,am,rfl,rfl⟩
   have lx:=w3.len
   rw [List.length_map] at lx
   refine ⟨_,rfl,.inl ⟨rfl,_,SqL.of (t18 _ _ e3)⟩,_,rfl,_,rfl,_,rfl,_,rfl,Nat.le_of_ble_eq_true rfl,fun ev hev=>?_⟩
   have t9:=AJ.Ai (o:=.tup [.int tm,.str kd,.str key,.int am]) hev
   have eev:(upd H9 ev (.tup [.int tm,.str kd,.str key,.int am])) ev=some (.tup [.int tm,.str kd,.str key,.int am]):=AD
   generalize upd H9 ev (.tup [.int tm,.str kd,.str key,.int am])=H10 at t9 eev ⊢
   refine ⟨il,_,_,rfl,rfl,(t18.trans t9) _ _ e3,by omega,?_⟩
   have tp:Tp H10 (upd H10 il (.lst (xs++[.ref ev]))):=(Tp.refl H10).upd ((t18.trans t9) _ _ e3) fun ys=>by intro q;cases q
   have w9:Rws (upd H10 il (.lst (xs++[.ref ev]))) (xs++[.ref ev]) (evs.map evK++[evK (tm,kd,key,am)]):=((w3.keep (t18.trans t9).tp).snoc (ks:=evK (tm,kd,key,am)) eev).keep tp
   exact ⟨_,_,_,_,_,_,_,_,xs++[.ref ev],evs++[(tm,kd,key,am)],rfl,(s3.trans (t18.trans t9)).Gm hil0,AD,(by rw [List.map_append];exact w9),(by rw [List.length_append,l3];rfl),fun e he=>by
    rcases List.mem_append.mp he with h|h
    ·exact ok3 e h
    ·rw [List.mem_singleton.mp h];exact ⟨okd,okk⟩⟩
  ·rintro σ H3 ⟨o5,o6,o7,o8,o9,o10,o11,o12,xs,evs,rfl,s3,e3,w3,l3,ok3⟩
   rw [List.length_map] at l3
   exact ⟨_,rfl,k il _ evs s3 hil0 ⟨xs,e3,w3⟩ l3 ok3⟩
theorem LB {α β:Type}{F:α→β→Prop}{l:List α}{m:List β}(h:Paired F l m):Paired F l.reverse m.reverse:=by
 induction h with
 | nil=>exact .nil
 | cons a _ ih =>
  rw [List.reverse_cons,List.reverse_cons]
  exact An ih (.cons a .nil)
theorem Pl {ss:List Stp}(pok:Dk ss) {L:Str→List It}{evs:List Ev}(he:∀e∈evs,P1 e) (hL:∀s∈ss,L s.nm=Bt s L evs):∀s∈ss,∀i∈L s.nm,PyData.strOk i.2.1=true:=by
 have key:∀(i:Nat) s,ss[i]?=some s→∀x∈L s.nm,PyData.strOk x.2.1=true:=by
  intro i
  induction i using Nat.strongRecOn with
  | ind i ih =>
   intro s ei x hx
   have hs:=List.mem_of_getElem? ei
   have fd:∀a∈s.BN,∀y∈L a,PyData.strOk y.2.1=true:=fun a ha=>by
    obtain ⟨i',s',li,ei',rfl,_⟩:=pok.fed i s a ei ha
    exact ih i' li s' ei'
   rw [hL s hs] at hx
   clear ih ei hs
   cases s with
   | take n k =>
    obtain ⟨e,h1,rfl⟩:=List.mem_map.mp hx
    exact (he e (List.mem_filter.mp h1).1).2
   | only n a lo hi=>exact fd a (.head _) x (List.mem_filter.mp hx).1
   | turn n a f g =>
    obtain ⟨y,h1,rfl⟩:=List.mem_map.mp hx
    exact fd a (.head _) y h1
   | both n a b=>exact (List.mem_append.mp hx).elim (fd a (.head _) x) (fd b (.tail _ (.head _)) x)
   | join n a b wi =>
    obtain ⟨y,h1,h2⟩:=List.mem_flatMap.mp hx
    obtain ⟨y2,h3,rfl⟩:=List.mem_map.mp h2
    exact fd a (.head _) y h1
   | gap n a s m=>exact fd a (.head _) x hx
   | each n a s z d=>exact fd a (.head _) x hx
 intro s hs
 obtain ⟨i,ei⟩:=List.mem_iff_getElem?.mp hs
 exact key i s ei
theorem Om (ns:List Int) (m:Nat):∃cs:List Int,EI (ns.map V.int) (some 14) (some (14+(m:Int)))=cs.map V.int/\cs.length≤m:=by
 refine ⟨(ns.drop (min 14 ns.length)).take (min (14+m) ns.length-min 14 ns.length),?_,by rw [List.length_take];omega⟩
 have e1:=HT.Er (ns.map V.int).length 0 14
 have e2:=HT.Er (ns.map V.int).length (ns.map V.int).length (14+m)
 rw [List.length_map] at e1 e2
 have e1:HT.sIx ns.length 0 (some 14)=min 14 ns.length:=e1
 have e2:HT.sIx ns.length ns.length (some (14+(m:Int)))=min (14+m) ns.length:=by rwa [Int.natCast_add] at e2
 unfold EI
 rw [List.length_map,e1,e2,List.map_take,List.map_drop]
theorem Q3 (xs:List V) (c:Nat) (h:c≤xs.length):EI xs none (some (c:Int))=xs.take c:=by
 unfold EI
 rw [HT.Er]
 show (xs.drop 0).take (min c xs.length-0)=_
 rw [List.drop_zero,Nat.sub_zero,Nat.min_eq_left h]
theorem Oo (xs:List V) (c:Nat) (h:c≤xs.length):EI xs (some (c:Int)) none=xs.drop c:=by
 unfold EI
 rw [HT.Er]
 show (xs.drop (min c xs.length)).take (xs.length-min c xs.length)=_
 rw [Nat.min_eq_left h,List.take_of_length_le (by rw [List.length_drop];exact Nat.le_refl _)]
theorem N0 {H:Hp}{ps:List V}{ss:List Stp}(h:Cp H ps ss):Rws H ps (ss.map Stp.key):=Ef h
theorem N1 {ss:List Stp}(h:∀s∈ss,∀t∈s.txt,Ok t):∀ks∈ss.map Stp.key,JQ ks=true:=fun ks hk=>by
 obtain ⟨s,hs,rfl⟩:=List.mem_map.mp hk
 have g:=h s hs
 have w:PyData.strOk s.word=true:=(by decide +kernel:∀z∈wordAt,PyData.strOk z=true) _ (List.mem_of_getElem? (Im s))
 refine List.all_eq_true.mpr fun k hk=>?_
 cases k with
 | inl _=>rfl
 | inr t =>
  show PyData.strOk t=true
  have:t=s.word\/t∈s.txt:=by cases s <;> simpa [Stp.key,Stp.txt,Stp.word] using hk
  rcases this with rfl|h
  ·exact w
  ·exact g t h
theorem Q0 {evs:List Ev}(h:∀e∈evs,P1 e):∀ks∈evs.map evK,JQ ks=true:=fun ks hk=>by
 obtain ⟨e,he,rfl⟩:=List.mem_map.mp hk
 obtain ⟨h1,h2⟩:=h e he
 show (kOk (Sum.inl e.1)&&(kOk (Sum.inr e.2.1)&&(kOk (Sum.inr e.2.2.1)&&(kOk (Sum.inl e.2.2.2)&&true))))=true
 have a:kOk (Sum.inr e.2.1)=true:=h1
 have b:kOk (Sum.inr e.2.2.1)=true:=h2
 rw [a,b]
 rfl
theorem Ky {a b:List (List Key)}(ha:∀ks∈a,JQ ks=true) (hb:∀ks∈b,JQ ks=true):SeqAt.shaped (.list [.list (a.map ktD),.list (b.map ktD)])=true:=by
 obtain ⟨c,d⟩:=Fn a ha
 obtain ⟨e,f⟩:=Fn b hb
 simp [SeqAt.shaped,PyData.canLay0,PyData.canLayAll0,PyData.depth,PyData.depthAll,c,e]
 omega
theorem Qn (T:Tx K mg ad):Ba P w K mg base CX0 depth ad.Hh ad.HW ["_law_script"] (Iv K):=by
 have G_uat:=OH (P:=P) (w:=w) (base:=base) T
 have G_usmall_plan:=OE (P:=P) (w:=w) (base:=base) T
 have G_uevents:=Mm (P:=P) (w:=w) (base:=base) T
 have G_uitems:=Ml (P:=P) (w:=w) (base:=base) T 50
 have G_usame:=Pg (P:=P) (w:=w) (base:=base) T
 have G_items_of:=KI (P:=P) (w:=w) (base:=base) T
 refine T.Hj.ok Nm (fun vs H Q E h=>?_) (fun cdv A outer s H vs Q E hr h=>?_)
 ·obtain ⟨a,ns,rfl,_⟩:=h
  rfl
 ·obtain ⟨a,ns,rfl,hS,hl,k⟩:=h
  have nd:=Nm.nd
  refine ⟨_,(AF (AQ (i:=1) nd rfl (Or.inl rfl) (AM (Ac (K:=K)) (As (AA AB (AA AB (AA AB AE)))) (AG AX (AG AY (AN G_uat (hr.mono (by decide)) (by rfl) T.FC T.Cw.kp T.FF .nil Ab (AA (pv 0) (AA AB AE))) AB) AB) (fun _ _=>rfl)))
    (AF (AQ (i:=2) nd rfl (Or.inl rfl) (AN G_usmall_plan (hr.mono (by decide)) (by rfl) T.Hr T.BK.kp T.Hu .nil Ab (AA (pv 0) (AA AB (AA AB (AA (pv 1) AE))))))
    (AF (AQ (i:=3) nd rfl (Or.inl rfl) (AN G_uevents (hr.mono (by decide)) (by rfl) T.Mr T.Cb.kp T.NK .nil Ab (AA (pv 0) (AA (BB (Ea (K:=K)) (pv 0) (A9 AB) (A9 (AG Ah AB (pv 1)))) AE))))
    (AF (AQ (i:=4) nd rfl (Or.inl rfl) (AG AX (AN G_uat (hr.mono (by decide)) (by rfl) T.FC T.Cw.kp T.FF .nil Ab (AA (pv 0) (AA AB AE))) (AG Ah (Al (BI (K:=K)) (by rfl) T.ET PySem.boot_len (AA (pv 3) AE)) AB)))
    (AF (AQ (i:=5) nd rfl (Or.inl rfl) (Qe (K:=K) (AG JI (BB (Ea (K:=K)) (pv 3) (A9 (pv 4)) CG) (BB (Ea (K:=K)) (pv 3) CG (A9 (pv 4)))) (RX QK AB)))
    (AF (AQ (i:=6) nd rfl (Or.inl rfl) (As (AA (B6 (Ci (K:=K)) (by rfl) T.DD PyProof.Rows.boot_list (AA (pv 2) AE)) (AA (B6 (Ci (K:=K)) (by rfl) T.DD PyProof.Rows.boot_list (AA (pv 3) AE)) AE))))
    (AF (Cs PassesOwn.never rfl (Ay (K:=K) (pv 2)) (Au (i:=7) nd rfl (Or.inl rfl))
    (AH (Aq (PW.pt (GA (AU J9 (AM (AK (K:=K)) (pv 7) AB (fun _ _=>rfl)) AO (AZ _)) (Es (AU J9 (AM (AK (K:=K)) (pv 7) AB (fun _ _=>rfl)) AO (AZ _)))))
    (AF (AQ (i:=8) nd rfl (Or.inl rfl) (Al (Fw (K:=K)) (by rfl) T.Ck PyProof.Rows.boot_sorted (AA (AN G_uitems (hr.mono (by decide)) (by rfl) T.HK T.Br.kp T.Hd .nil Ab (AA (pv 2) (AA (AM (AK (K:=K)) (pv 7) AB (fun _ _=>rfl)) (AA (pv 3) AE)))) AE)))
    (AF (Aq (FK (FJ (AN G_usame (hr.mono (by decide)) (by rfl) T.Lw T.Df.kp T.MJ .nil Ab (AA (AN G_items_of (hr.mono (by decide)) (by rfl) T.HM T.Bh.kp T.He .nil Ab (AA (AM (Ac (K:=K)) (pv 6) AB (fun _ _=>rfl)) (AA (AM (AK (K:=K)) (pv 7) AB (fun _ _=>rfl)) (AA (AM (Ac (K:=K)) (pv 6) AB (fun _ _=>rfl)) AE)))) (AA (pv 8) AE)))))
    (AH (AW IQ))
    Aa)
    (AH (Aq (FK (FJ (AN G_usame (hr.mono (by decide)) (by rfl) T.Lw T.Df.kp T.MJ .nil Ab (AA (AN G_items_of (hr.mono (by decide)) (by rfl) T.HM T.Bh.kp T.He .nil Ab (AA (B6 (Ci (K:=K)) (by rfl) T.DD PyProof.Rows.boot_list (AA (pv 2) AE)) (AA (AM (AK (K:=K)) (pv 7) AB (fun _ _=>rfl)) (AA (pv 5) AE)))) (AA (pv 8) AE)))))
    (AH (AW IQ))
    Aa))))
    Aa)))
    (AH (AW (Lp (Ql (K:=K) hr.units) (pv 6) (As (AA (pv 2) (AA (pv 3) AE))) (AZ _))))))))))),?_⟩
  have sz:sizeLine=16777216:=sizeLine_eq
  refine ⟨Nat.le_of_ble_eq_true rfl,fun q hq=>?_⟩
  have s1:=AJ.Ai (o:=.lst [.int 10,.int 10,.int 5]) hq
  have eq:(upd H q (.lst [.int 10,.int 10,.int 5])) q=some (.lst [.int 10,.int 10,.int 5]):=AD
  generalize upd H q (.lst [.int 10,.int 10,.int 5])=H1 at s1 eq ⊢
  refine ⟨_,rfl,a,ns,_,rfl,s1.seq hS,hl,by decide,fun b1=>?_⟩
  obtain ⟨v,hv,mv⟩:=BL [V.int 10,V.int 10,V.int 5] 3 rfl (by decide) (b1 / 16)
  obtain ⟨many,rfl,hm⟩:∃m:Nat,v=.int (m:Int)/\(m=10\/m=5):=by
   simp only [List.mem_cons,List.not_mem_nil,or_false] at mv
   rcases mv with rfl|rfl|rfl
   ·exact ⟨10,rfl,.inl rfl⟩
   ·exact ⟨10,rfl,.inl rfl⟩
   ·exact ⟨5,rfl,.inr rfl⟩
  refine ⟨_,_,rfl,rfl,⟨by decide,by decide⟩,_,_,rfl,rfl,(by decide:(0:Int)<3),q,_,_,_,rfl,rfl,SqL.of eq,hv,?_⟩
  refine ⟨_,rfl,_,rfl,a,ns,many,rfl,s1.seq hS,hl,hm,fun lp H2 ps ss b ts z sn s2 hlp elp pr pl lss=>?_⟩
  have s12:=s1.trans s2
  obtain ⟨cs,ecs,lcs⟩:=Om ns many
  refine ⟨_,rfl,_,rfl,_,rfl,_,rfl,_,_,rfl,rfl,_,rfl,a,_,rfl,s12.seq hS,fun c hc=>?_⟩
  rw [ecs]
  have s3:=AJ.Ai (o:=.lst (cs.map V.int)) hc
  have ec:(upd H2 c (.lst (cs.map V.int))) c=some (.lst (cs.map V.int)):=AD
  generalize upd H2 c (.lst (cs.map V.int))=H3 at s3 ec ⊢
  have s13:=s12.trans s3
  refine ⟨a,c,ns,cs,rfl,s13.seq hS,hl,SqL.of ec,by omega,fun le H4 evs s4 hle evR lev okE=>?_⟩
  have s14:=s13.trans s4
  obtain ⟨xs,exs,wxs⟩:=evR
  have lxs:=wxs.len
  rw [List.length_map] at lxs
  have l10:evs.length≤10:=by omega
  have elp4:=(s3.trans s4) _ _ elp
  have pr4:=pr.keep (s3.trans s4).tp
  refine ⟨_,rfl,a,ns,_,rfl,s14.seq hS,hl,by decide,fun b2=>⟨_,rfl,le,_,rfl,.inl (SqL.of exs),_,_,rfl,rfl,_,_,rfl,rfl,(by show (0:Int)<(xs.length:Int)+1;omega),?_⟩⟩
  obtain ⟨ct,hct⟩:=Int.eq_ofNat_of_zero_le (show 0≤b2 % ((xs.length:Int)+1) from Int.emod_nonneg _ (by omega))
  have lct:ct≤xs.length:=by
   have:=Int.emod_lt_of_pos b2 (show (0:Int)<(xs.length:Int)+1 by omega)
   omega
  have ev1:EI xs (some (b2 % ((xs.length:Int)+1))) none=xs.drop ct:=by rw [hct];exact Oo xs ct lct
  have ev2:EI xs none (some (b2 % ((xs.length:Int)+1)))=xs.take ct:=by rw [hct];exact Q3 xs ct lct
  refine ⟨_,rfl,_,rfl,_,rfl,le,xs,rfl,SqL.of exs,fun p1 hp1=>?_⟩
  rw [ev1]
  have t1:=AJ.Ai (o:=.lst (xs.drop ct)) hp1
  have ep1:(upd H4 p1 (.lst (xs.drop ct))) p1=some (.lst (xs.drop ct)):=AD
  generalize upd H4 p1 (.lst (xs.drop ct))=H5 at t1 ep1 ⊢
  refine ⟨_,rfl,_,rfl,_,rfl,le,xs,rfl,SqL.of (t1 _ _ exs),fun p2 hp2=>?_⟩
  rw [ev2]
  have t2:=AJ.Ai (o:=.lst (xs.take ct)) hp2
  have ep2:(upd H5 p2 (.lst (xs.take ct))) p2=some (.lst (xs.take ct)):=AD
  generalize upd H5 p2 (.lst (xs.take ct))=H6 at t2 ep2 ⊢
  refine ⟨p1,p2,_,_,rfl,rfl,t2 _ _ ep1,ep2,by rw [List.length_drop,List.length_take];omega,fun p3 hp3=>?_⟩
  have t3:=AJ.Ai (o:=.lst (xs.drop ct++xs.take ct)) hp3
  have ep3:(upd H6 p3 (.lst (xs.drop ct++xs.take ct))) p3=some (.lst (xs.drop ct++xs.take ct)):=AD
  generalize upd H6 p3 (.lst (xs.drop ct++xs.take ct))=H7 at t3 ep3 ⊢
  refine ⟨_,rfl,rfl,p3,_,rfl,SqL.of ep3,fun lo hlo=>?_⟩
  have t4:=AJ.Ai (o:=.lst (xs.drop ct++xs.take ct).reverse) hlo
  have elo:(upd H7 lo (.lst (xs.drop ct++xs.take ct).reverse)) lo=some (.lst (xs.drop ct++xs.take ct).reverse):=AD
  generalize upd H7 lo (.lst (xs.drop ct++xs.take ct).reverse)=H8 at t4 elo ⊢
  have t14:=t1.trans (t2.trans (t3.trans t4))
  have wlo:Rws H8 (xs.drop ct++xs.take ct).reverse ((evs.drop ct++evs.take ct).reverse.map evK):=by
   have:=LB (An (Eg ct (wxs.keep t14.tp)) (DY ct (wxs.keep t14.tp)))
   rwa [←List.map_drop,←List.map_take,←List.map_append,←List.map_reverse] at this
  have pev:(evs.drop ct++evs.take ct).reverse.Perm evs:=(List.reverse_perm _).trans (List.perm_append_comm.trans (by rw [List.take_append_drop]))
  generalize (evs.drop ct++evs.take ct).reverse=evo at wlo pev
  refine ⟨_,rfl,lp,ps,rfl,.inl (SqL.of (t14 _ _ elp4)),fun h0 hh0=>?_⟩
  have u1:=AJ.Ai (o:=.lst ps) hh0
  have eh0:(upd H8 h0 (.lst ps)) h0=some (.lst ps):=AD
  generalize upd H8 h0 (.lst ps)=H9 at u1 eh0 ⊢
  refine ⟨_,rfl,le,xs,rfl,.inl (SqL.of ((t14.trans u1) _ _ exs)),fun h1 hh1=>⟨Nat.le_of_ble_eq_true rfl,fun hd hhd=>?_⟩⟩
  have u2:=AJ.Ai (o:=.lst xs) hh1
  have eh1:(upd H9 h1 (.lst xs)) h1=some (.lst xs):=AD
  generalize upd H9 h1 (.lst xs)=H10 at u2 eh1 hhd ⊢
  have u3:=AJ.Ai (o:=.lst [.ref h0,.ref h1]) hhd
  have ehd:(upd H10 hd (.lst [.ref h0,.ref h1])) hd=some (.lst [.ref h0,.ref h1]):=AD
  generalize upd H10 hd (.lst [.ref h0,.ref h1])=H11 at u3 ehd ⊢
  have U:AJ H4 H11:=t14.trans (u1.trans (u2.trans u3))
  have lpE:H11 lp=some (.lst ps):=U _ _ elp4
  have prE:=pr4.keep U.tp
  have leX:H11 le=some (.lst xs):=U _ _ exs
  have weX:Rws H11 xs (evs.map evK):=wxs.keep U.tp
  have leE:Hy H11 le evs:=⟨xs,leX,weX⟩
  have loE:Hy H11 lo evo:=⟨_,(u1.trans (u2.trans u3)) _ _ elo,wlo.keep (u1.trans (u2.trans u3)).tp⟩
  have h0E:=(u2.trans u3) _ _ eh0
  have h1E:=u3 _ _ eh1
  clear t1 t2 t3 t4 u1 u2 u3 eh0 eh1 wlo elo t14 ep1 ep2 ep3 elp4 pr4
  obtain ⟨L,hL0⟩:=JG pl.N2 evs
  have hL:=pl.SK (evs:=evs) (by omega) hL0
  have okk:=Pl pl.N2 okE hL0
  have lps:=prE.len
  refine ⟨_,rfl,lp,rfl,⟨_,SqL.of lpE⟩,DJ (K:=K) (xs:=ps) (fun n σ H'=>AJ H11 H'/\∃(o7 o8:Option V),σ=[some (.ref a),some (.int (many:Int)),some (.ref lp),some (.ref le),some (.int (b2 % ((xs.length:Int)+1))),some (.ref lo),some (.ref hd),o7,o8])
   ⟨AJ.refl _,none,none,rfl⟩ (fun n σ H' _ ⟨s',_⟩=>SqL.of (s' _ _ lpE)) ?_ ?_⟩
  ·rintro n x σ H12 hx ⟨s5,o7,o8,rfl⟩
   obtain ⟨p,st,rfl,es,ea⟩:=prE.at hx
   have hn:=(List.getElem?_eq_some_iff.mp hx).1
   have ea12:StA H12 p st:=s5 _ _ ea
   obtain ⟨w0,w1,w2⟩:=ea12.word (K:=K)
   refine ⟨_,rfl,p,_,_,_,rfl,rfl,w0,w1,rfl,_,rfl,Pq (EW (i:=6) rfl (fun q6=>?_) fun q6=>?_)⟩
   ·exact EE ⟨s5,_,_,rfl⟩
   refine ⟨_,rfl,p,_,_,_,rfl,rfl,w0,w1,rfl,_,rfl,Pq (EW (i:=5) rfl (fun q5=>?_) fun q5=>?_)⟩
   ·exact ⟨s5,_,_,rfl⟩
   have ht:st.tell=false:=by cases st <;> first|rfl|exact absurd rfl q6|exact absurd rfl q5
   have hst:=List.mem_of_getElem? es
   refine ⟨_,rfl,_,rfl,p,_,_,_,rfl,rfl,w0,w2,_,rfl,lp,le,ps,ss,evs,L,n,st,rfl,s5 _ _ lpE,prE.keep s5.tp,pl.N2,by omega,leE.same s5,l10,hL,es,ht,by omega,fun r H13 s6 hr ⟨ys,er,wr⟩=>?_⟩
   have so:C4 K H13 ys ((L st.nm).map itK):=wr.sorts (sh:=[true,false,true]) (by decide) fun ks hk=>by
    obtain ⟨x,_,rfl⟩:=List.mem_map.mp hk
    rfl
   refine ⟨r,ys,_,rfl,SqL.of er,so,fun q qs hq pq sq=>?_⟩
   obtain ⟨L',pL,hw',ek⟩:=Dh (F:=fun x (i:It)=>∃a,x=.ref a/\H13 a=some (.tup ((itK i).map kV))) (f:=itK) (FA wr) pq
   rw [←ek] at sq
   have sq:Sd (L'.map itK):=sq
   have t6:=AJ.Ai (o:=.lst (qs.map (·.1))) hq
   have wq:Rws (upd H13 q (.lst (qs.map (·.1)))) (qs.map (·.1)) (L'.map itK):=Rws.keep (Ef hw') t6.tp
   have eq:(upd H13 q (.lst (qs.map (·.1)))) q=some (.lst (qs.map (·.1))):=AD
   generalize qs.map (·.1)=vq at t6 wq eq ⊢
   generalize upd H13 q (.lst vq)=H14 at t6 wq eq ⊢
   have okL:∀i∈L',PyData.strOk i.2.1=true:=fun i hi=>okk st hst i (pL.mem_iff.mp hi)
   have one:∀{L2:List It},L2.Perm (L st.nm)→Sd (L2.map itK)→L2.map itK=L'.map itK:=fun p2 d2=>II ((p2.trans pL.symm).map itK) d2 sq
   have s7:=s5.trans (s6.trans t6)
   have ea14:StA H14 p st:=s7 _ _ ea
   obtain ⟨w0,w1,w2⟩:=ea14.word (K:=K)
   refine ⟨_,rfl,hd,_,_,_,rfl,rfl,SqL.of (s7 _ _ ehd),AI (j:=0) rfl,_,rfl,p,_,_,_,rfl,rfl,w0,w2,_,rfl,hd,_,_,_,rfl,rfl,SqL.of (s7 _ _ ehd),AI (j:=1) rfl,h0,h1,ps,ss,evs,evs,L,n,st,rfl,s7 _ _ h0E,prE.keep s7.tp,pl.N2,by omega,⟨xs,s7 _ _ h1E,weX.keep s7.tp⟩,l10,.refl _,hL,es,fun r2 H15 s8 _ ⟨zs,L2,er2,w2,pL2,sq2⟩=>?_⟩
   rw [one pL2 sq2] at w2
   refine ⟨_,rfl,r2,q,zs,vq,L',rfl,er2,s8 _ _ eq,w2,wq.keep s8.tp,okL,_,rfl,EE ?_⟩
   have s9:=s7.trans s8
   have ea15:StA H15 p st:=s9 _ _ ea
   obtain ⟨w0,w1,w2⟩:=ea15.word (K:=K)
   refine ⟨_,rfl,lp,ps,rfl,.inl (SqL.of (s9 _ _ lpE)),fun l3 hl3=>?_⟩
   have t10:=AJ.Ai (o:=.lst ps) hl3
   have el3:(upd H15 l3 (.lst ps)) l3=some (.lst ps):=AD
   generalize upd H15 l3 (.lst ps)=H16 at t10 el3 ⊢
   have s10:=s9.trans t10
   have ea16:StA H16 p st:=s10 _ _ ea
   obtain ⟨w0,w1,w2⟩:=ea16.word (K:=K)
   refine ⟨_,rfl,p,_,_,_,rfl,rfl,w0,w2,_,rfl,l3,lo,ps,ss,evo,evs,L,n,st,rfl,el3,prE.keep s10.tp,pl.N2,by omega,loE.same s10,by have:=pev.length_eq;omega,pev,hL,es,fun r3 H17 s11 _ ⟨zs,L2,er2,w2,pL2,sq2⟩=>?_⟩
   rw [one pL2 sq2] at w2
   have S:=t10.trans s11
   refine ⟨_,rfl,r3,q,zs,vq,L',rfl,er2,(s8.trans S) _ _ eq,w2,wq.keep (s8.trans S).tp,okL,_,rfl,EE ⟨s9.trans S,_,_,rfl⟩⟩
  ·rintro σ H12 ⟨s5,o7,o8,rfl⟩
   refine ⟨_,rfl,_,rfl,_,rfl,Nat.le_of_ble_eq_true rfl,fun g hg=>?_⟩
   have t6:=AJ.Ai (o:=.lst [.ref lp,.ref le]) hg
   have s6:=s5.trans t6
   have pw:=N0 (prE.keep s6.tp)
   have ew:=weX.keep s6.tp
   exact Of (d:=.list [.list ((ss.map Stp.key).map ktD),.list ((evs.map evK).map ktD)]) (.lst (SqL.of (s6 _ _ ehd)) (.cons (pw.dv (s6 _ _ h0E)) (.cons (ew.dv (s6 _ _ h1E)) .nil))) (.lst (SqL.of AD) (.cons (pw.dv (s6 _ _ lpE)) (.cons (ew.dv (s6 _ _ leX)) .nil))) (Ky (N1 pl.txt) (Q0 okE)) (k _)
theorem all_mk {l:W.OpenLaw}{w:World}{K:W.Frag}{mg:Str→Option Value}{fa:Addr}{ad:Ad}(hfa:mg "law" = some (.ref fa)) (T:Tx K mg ad)
  : ∃fd:FuncData,(∀(s:Shared) (v:Value),BindsTo s fd ⟨[v],[]⟩ [("_law_script", v)])/\∀base:Heap,K.In base→base.Ns mainGlobals mg→Ba l.prog w K mg base CX0 depth fa fd ["_law_script"] (Iv K):=by
 have e:=hfa.symm.trans T.Rb
 cases e
 obtain ⟨_,_,_,_,_,_,_,_,_,e,_,_⟩:=T.Hj.ex
 exact ⟨ad.HW,fun s v=>by rw [e];exact .of_eq rfl,fun base _ _=>Qn T⟩
end K28
def PySem.W.Fast.tw9145166177286860621:Unit:=()
def PySem.W.Fast.tw1224342000248413406:Unit:=()
def PySem.W.Fast.tw9873283070482201565:Unit:=()
def PySem.W.Fast.tw1770842440874952118:Unit:=()
def PySem.W.Fast.tw15639874387826384020:Unit:=()
def PySem.W.Fast.tw11083325536139144011:Unit:=()
def PySem.W.Fast.tw4559887276601032379:Unit:=()
def PySem.W.Fast.tw6164381512980358637:Unit:=()
def PySem.W.Fast.tw16500048563042301750:Unit:=()
def PySem.W.Fast.tw9049272267563374041:Unit:=()
def PySem.W.Fast.tw580720149970984254:Unit:=()
def PySem.W.Fast.tw11489604350199828243:Unit:=()
def PySem.W.Fast.tw320254865287546254:Unit:=()
def PySem.W.Fast.tw12610898155862481635:Unit:=()
def PySem.W.Fast.tw9278754284618857220:Unit:=()
def PySem.W.Fast.tw10138743950100779960:Unit:=()
def PySem.W.Fast.tw8272721446104744050:Unit:=()
def PySem.W.Fast.tw11613439943113124753:Unit:=()
def PySem.W.Fast.tw8998657095266852549:Unit:=()
def PySem.W.Fast.tw6588097522795692602:Unit:=()
def PySem.W.Fast.tw13613531775212447602:Unit:=()
def PySem.W.Fast.tw15542189348800929790:Unit:=()
def PySem.W.Fast.tw16264757068445298564:Unit:=()
def PySem.W.Fast.tw15330258695713852601:Unit:=()
def PySem.W.Fast.tw17310680999650370592:Unit:=()
def PySem.W.Fast.tw8412588040622045767:Unit:=()
def PySem.W.Fast.tw13304920774795876248:Unit:=()
def PySem.W.Fast.tw8564787086524650007:Unit:=()
def PySem.W.Fast.tw13306610423944137418:Unit:=()
def PySem.W.Fast.tw8888098952278217919:Unit:=()
def PySem.W.Fast.tw12525169276881752238:Unit:=()
def PySem.W.Fast.tw12186305518044783372:Unit:=()
def PySem.W.Fast.tw8933641122311963715:Unit:=()
def PySem.W.Fast.tw6733595391238184064:Unit:=()
def PySem.W.Fast.tw3833436434996905013:Unit:=()
def PySem.W.Fast.tw16186050541826978617:Unit:=()
def PySem.W.Fast.tw8260946421099193965:Unit:=()
def PySem.W.Fast.tw11865378578070345471:Unit:=()
def PySem.W.Fast.tw3970073297228807118:Unit:=()
def PySem.W.Fast.tw10789674392276214446:Unit:=()
def PySem.W.Fast.tw3608008614040384014:Unit:=()
def PySem.W.Fast.tw4049062356054314617:Unit:=()
def PySem.W.Fast.tw10735462752512591487:Unit:=()
def PySem.W.Fast.tw3996584817033358338:Unit:=()
def PySem.W.Fast.tw16071808867005721564:Unit:=()
def PySem.W.Fast.tw3122959348669551363:Unit:=()
def PySem.W.Fast.tw8717485560451680630:Unit:=()
def PySem.W.Fast.tw5628982832133211680:Unit:=()
def PySem.W.Fast.tw18284357240658582629:Unit:=()
def PySem.W.Fast.tw13970881569624392203:Unit:=()
def PySem.W.Fast.tw1540335390463627933:Unit:=()
def PySem.W.Fast.tw14102300336274403341:Unit:=()
def PySem.W.Fast.tw13205073650254765719:Unit:=()
def PySem.W.Fast.tw17322560838449055727:Unit:=()
def PySem.W.Fast.tw15078971385568392272:Unit:=()
def PySem.W.Fast.tw5239344837930689404:Unit:=()
def PySem.W.Fast.tw3844050307896144596:Unit:=()
def PySem.W.Fast.tw14445423740216793612:Unit:=()
def PySem.W.Fast.tw3094330652150330532:Unit:=()
def PySem.W.Fast.tw8133024368643952901:Unit:=()
def PySem.W.Fast.tw17731659892025579929:Unit:=()
def PySem.W.Fast.tw17745449319308462675:Unit:=()
def PySem.W.Fast.tw13425252434224875025:Unit:=()
def PySem.W.Fast.tw6910322251819192165:Unit:=()
def PySem.W.Fast.tw16853106053144363331:Unit:=()
def PySem.W.Fast.tw6400178350493266107:Unit:=()
open PySem PySem.W PyProof.Rows
set_option maxRecDepth 100000 in
set_option maxHeartbeats 0 in
theorem PySem.Challenge.cw_brooktally_k28_streams_by_sets_holds : PySem.Challenge.rw_brooktally_k28_streams_by_sets.Holds := by
  w_on; o_law; k_head; (case hw => w_witness2)
  k_fill
  refine L2.NV (l := PySem.Challenge.rw_brooktally_k28_streams_by_sets) (n := 63) (k := K28.depth) (x := "_law_script") (CX := L2.CX0) (sp := K28.Iv) rfl (by decide) rfl ⟨rfl,by decide,by decide⟩ (fun w h Y => PySem.W.kIn_of Y) ?F K28.Qs (fun _ _ _ _ z => z)
  case F =>
    intro w mg fa h KX G hmg
    refine' K28.all_mk hmg (K28.Q9 KX G ?Be ?Bg ?CV ?BZ ?CW ?Cc ?Bv ?By ?EN ?Dg ?EM ?ES ?DO ?DR ?DP ?DS ?Bd ?Bf ?CY ?Cd ?CZ ?Ce ?Bw ?Bz ?BR ?BV ?BQ ?BU ?Bx ?Bh ?Hg ?Cw ?CU ?Aw ?CS ?A1 ?EJ ?De ?DN ?Cr ?EL ?Cj ?BP ?BS ?A5 ?A6 ?BJ ?BK ?CT ?Cb ?DM ?Br ?DL ?Cq ?EK ?Df ?Hh ?Hj ?Ek ?l_PAIRED ?Gi ?B0 ?IA ?A2 ?ET ?DD ?GP ?E6 ?Cz ?Jl ?Ck ?Jk ?Eo)
    (case Be | CV | CW | Bv | EN | EM | DO | DP | Bd | CY | CZ | Bw | BR | BQ | Bx | Hg | CU | CS | EJ | DN | EL | BP | A5 | BJ | CT | DM | DL | EK | Hh | Ek | l_PAIRED | Gi | B0 | IA | A2 | ET | DD | GP | E6 | Cz | Jl | Ck | Jk | Eo => k_is)
    (case Bg | BZ | Cc | By | Dg | ES | DR | DS | Bf | Cd | Ce | Bz | BV | BU | Bh | Cw | Aw | A1 | De | Cr | Cj | BS | A6 | BK | Cb | Br | Cq | Df | Hj => refine' L2.Qz ?l ?c ?k; (case l => k_is); (case c => k_is); (case k => k_is))
